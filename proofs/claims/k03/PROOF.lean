import PyProof.Rows.All
import Wide.All
import OpenK.AllK
import Wide.FinOn
import Lean
import PyProof.EqAt
import PyProof.EqKinds
import PyProof.TupleCall
import PySem.Challenge.RW_asktally_k03_texts_of_trees
set_option Elab.async false
set_option linter.all false
set_option maxRecDepth 100000
namespace L2
open PySem PySem.Spec PyProof.Rows
abbrev Key:=Sum Int Str
def keyIs:Key→Value→Bool
  | .inl k,v=>Value.isInt k v
  | .inr x,v=>Value.isStrOf x v
def keyH (w:World):Key→Int
  | .inl k=>hashInt k
  | .inr x=>hashStr w x
theorem keyIs_shape:∀ {k:Key} {v:Value},keyIs k v=true→(∃ i t,k=Sum.inl i∧v=Value.int i t)∨(∃ x t,k=Sum.inr x∧v=Value.str x t)
  | .inl i,v,h=>by
    obtain ⟨t,e⟩:=Value.isInt_shape (k:=i) (v:=v) h
    exact .inl ⟨i,t,rfl,e⟩
  | .inr x,v,h=>by
    obtain ⟨t,e⟩:=Value.isStrOf_shape (x:=x) (v:=v) h
    exact .inr ⟨x,t,rfl,e⟩
theorem key_ll (a b:Int):decide ((Sum.inl a:Key)=Sum.inl b)=(a == b):=by
  by_cases e:a=b
  · subst e; simp
  · have h:¬ (Sum.inl a:Key)=Sum.inl b:=fun q=>e (Sum.inl.inj q)
    rw [decide_eq_false h]
    exact (beq_eq_false_iff_ne.mpr e).symm
theorem key_rr (a b:Str):decide ((Sum.inr a:Key)=Sum.inr b)=decide (a=b):=by
  by_cases e:a=b
  · subst e; simp
  · have h:¬ (Sum.inr a:Key)=Sum.inr b:=fun q=>e (Sum.inr.inj q)
    rw [decide_eq_false h,decide_eq_false e]
theorem key_lr (a:Int) (b:Str):decide ((Sum.inl a:Key)=Sum.inr b)=false:=decide_eq_false (fun q=>nomatch q)
theorem key_rl (a:Str) (b:Int):decide ((Sum.inr a:Key)=Sum.inl b)=false:=decide_eq_false (fun q=>nomatch q)
def mixKind (prog:Program) (w:World):PySem.KeyKind prog w Key where
  is:=keyIs
  hash:=keyH w
  inj:=fun v a b ha hb=>by
    rcases keyIs_shape ha with ⟨i,t,rfl,rfl⟩ | ⟨x,t,rfl,rfl⟩
    · rcases keyIs_shape hb with ⟨j,u,rfl,e⟩ | ⟨y,u,rfl,e⟩
      · injection e with e1 _; rw [e1]
      · exact nomatch e
    · rcases keyIs_shape hb with ⟨j,u,rfl,e⟩ | ⟨y,u,rfl,e⟩
      · exact nomatch e
      · injection e with e1 _; rw [e1]
  byValue:=fun k v h=>by
    rcases keyIs_shape h with ⟨i,t,rfl,rfl⟩ | ⟨x,t,rfl,rfl⟩ <;> rfl
  pyHash:=fun hv h=>by
    rcases keyIs_shape hv with ⟨i,t,rfl,rfl⟩ | ⟨x,t,rfl,rfl⟩
    · exact wpAny_pyHash_int h
    · exact wpAny_pyHash_str h
  eqBool:=fun hu hv h=>by
    rcases keyIs_shape hu with ⟨i,t,rfl,rfl⟩ | ⟨x,t,rfl,rfl⟩
    · rcases keyIs_shape hv with ⟨j,u,rfl,rfl⟩ | ⟨y,u,rfl,rfl⟩
      · rw [key_ll] at h; exact wpAny_eqBool_int h
      · rw [key_lr] at h; exact SeqAt.EqAt.int_str i t y u _ _ _ _ h
    · rcases keyIs_shape hv with ⟨j,u,rfl,rfl⟩ | ⟨y,u,rfl,rfl⟩
      · rw [key_rl] at h; exact SeqAt.EqAt.str_int x t j u _ _ _ _ h
      · rw [key_rr] at h; exact wpAny_eqBool_str h
  «strs»:=fun k x t v h=>by
    rcases keyIs_shape h with ⟨i,u,rfl,e⟩ | ⟨y,u,rfl,e⟩
    · exact nomatch e
    · injection e with e1 _
      subst e1
      cases v <;> rfl
end L2
namespace L2
open PySem PySem.Spec PyProof.Rows
inductive V where
  | non | bl (b:Bool) | int (i:Int) | str (x:Str) | byt (b:Array UInt8) | flt (b:UInt64) | ref (a:Addr) | ty (n:String)
  deriving DecidableEq
def RelV:V→Value→Prop
  | .non,u=>u=Value.none
  | .bl b,u=>u=Value.bool b
  | .int i,u=>∃ t,u=Value.int i t
  | .str x,u=>∃ t,u=Value.str x t
  | .byt b,u=>∃ t,u=Value.bytes b t
  | .flt b,u=>∃ t,u=Value.float b t
  | .ref a,u=>u=Value.ref a
  | .ty n,u=>u=Value.type n
abbrev Vals:List V→List Value→Prop:=Paired RelV
theorem Vals.length {xs:List V} {us:List Value} (r:Vals xs us):xs.length=us.length:=Paired.length r
theorem Vals.get:∀ {xs:List V} {us:List Value} {i:Nat} {x:V},Vals xs us→xs[i]?=some x→∃ u,us[i]?=some u∧RelV x u
  | _,_,_,_,.nil,e=>by simp at e
  | _,_,0,_,.cons r _,e=>by simp at e; subst e; exact ⟨_,rfl,r⟩
  | _,_,i+1,x,.cons _ t,e=>by
    obtain ⟨u,h1,h2⟩:=Vals.get (i:=i) (x:=x) t (by simpa using e)
    exact ⟨u,by simpa using h1,h2⟩
theorem Vals.set {x:V} {u:Value} (r:RelV x u):∀ {xs:List V} {us:List Value} (i:Nat),Vals xs us→Vals (xs.set i x) (us.set i u)
  | _,_,_,.nil=>.nil
  | _,_,0,.cons _ t=>.cons r t
  | _,_,i+1,.cons q t=>.cons q (Vals.set r i t)
theorem Vals.append:∀ {xs ys:List V} {us ws:List Value},Vals xs us→Vals ys ws→Vals (xs++ys) (us++ws)
  | _,_,_,_,.nil,s=>s
  | _,_,_,_,.cons r t,s=>.cons r (Vals.append t s)
theorem Vals.take:∀ {xs:List V} {us:List Value} (n:Nat),Vals xs us→Vals (xs.take n) (us.take n)
  | _,_,0,_=>.nil
  | _,_,_+1,.nil=>.nil
  | _,_,n+1,.cons r t=>.cons r (Vals.take n t)
theorem Vals.drop:∀ {xs:List V} {us:List Value} (n:Nat),Vals xs us→Vals (xs.drop n) (us.drop n)
  | _,_,0,r=>r
  | _,_,_+1,.nil=>.nil
  | _,_,n+1,.cons _ t=>Vals.drop n t
def RelO:Option V→Option Value→Prop
  | some v,some u=>RelV v u
  | none,none=>True
  | _,_=>False
def KV {κ:Type}:List (κ × V)→List (κ × Value)→Prop:=Paired fun (p:κ × V) (q:κ × Value)=>p.1=q.1∧RelV p.2 q.2
def kV:Key→V
  | .inl i=>.int i
  | .inr x=>.str x
inductive HO where
    | lst (xs:List V)
    | tup (xs:List V)
    | dK (kvs:List (Key × V)) | dT (kvs:List (List Key × V))
    | set (S:Int→Bool) (n:Nat)
    | ins (C dx:Addr) (fs:List (Str × V))
    | own (x:Addr)
    | xd (fs:List (Str × V))
    | met (f x:Addr)
    | rng (lo hi:Int)
    | frz (o:Obj) (u:HO)
    | tbl (ps:Array Value)
    | ext (φ:Heap→Prop)
abbrev Hp:=Addr→Option HO
def upd (H:Hp) (a:Addr) (o:HO):Hp:=fun b=>if b=a then some o else H b
theorem upd_same {H:Hp} {a:Addr} {o:HO}:upd H a o a=some o:=by unfold upd; rw [if_pos rfl]
theorem upd_ne {H:Hp} {a b:Addr} {o:HO} (h:b ≠ a):upd H a o b=H b:=by unfold upd; rw [if_neg h]
theorem ne_of_none {H:Hp} {a b:Addr} {o:HO} (h:H a=some o) (h':H b=none):a ≠ b:=by
  intro e; subst e; rw [h] at h'; cases h'
section
variable (P:Program) (w:World)
def ObjOk (H:Hp) (h:Heap) (a:Addr):HO→Prop
  | .lst xs=>xs.length≤sizeLine∧∃ (its:List Value) (n:Nat),Vals xs its∧h.get? a=some { cls:=.type "list", data:=.seq its.toArray n }
  | .tup xs=>xs.length≤sizeLine∧∃ its:List Value,Vals xs its∧IsTup h a its.toArray∧∃ o,h.get? a=some o∧o.dict=none
  | .dK kvs=>kvs.length≤sizeLine∧(a == sysModules)=false∧∃ vs,KV kvs vs∧h.DictOf (mixKind P w) a vs
  | .dT kvs=>kvs.length≤sizeLine∧(a == sysModules)=false∧∃ xs:List (List Key × Addr × Value),
      Paired (fun (p:List Key × V) (q:List Key × Addr × Value)=>p.1=q.1∧H q.2.1=some (.tup (p.1.map kV))∧RelV p.2 q.2.2) kvs xs ∧
      ∃ o es ep,h.get? a=some o∧o.ExactDict∧o.data=.dict es ep∧es.toList=xs.map (entryOfKey (tupleKind (mixKind P w)))∧(xs.map (·.1)).Nodup
  | .set S n=>h.SetOf (intKind P w) a S n
  | .ins C dx fs=>H dx=some (.own a)∧fs.length≤1000∧dx ≠ a∧h.get? a=some (PySem.W.instObj C dx) ∧
      ∃ mA,h.Ns1 dx mA∧(∀ f,RelO (fs.lookup f) (mA f))∧PySem.Within mA (fs.map (·.1))
  | .own _=>∃ o,h.get? a=some o
  | .xd fs=>∃ mA,h.Ns1 a mA∧∀ f,RelO (fs.lookup f) (mA f)
  | .rng lo hi=>∃ t u v,h.get? a=some { cls:=.type "range", data:=.fields #[.int lo t,.int hi u,.int 1 v] }
  | .frz o u=>h.get? a=some o∧ObjOk H h a u
  | .tbl ps=>h.get? a=some { cls:=.none,data:=.fields ps }
  | .met f x=>h.get? a=some (PySem.W.methodObj (.ref f) (.ref x))
  | .ext φ=>φ h∧(∃ o,h.get? a=some o)∧∀ h1 h2:Heap,φ h1→(∀ o,h1.get? a=some o→h2.get? a=some o)→φ h2
def HOk (H:Hp) (h:Heap):Prop:=∀ a o,H a=some o→ObjOk P w H h a o
end
section
variable {P:Program} {w:World} {H H':Hp} {h h':Heap} {a:Addr} {o:HO}
theorem ObjOk.lt (x:ObjOk P w H h a o):a < h.objs.size:=by
  cases o with
  | lst xs=>obtain ⟨_,_,_,_,e⟩:=x; exact Heap.lt_size e
  | tup xs=>obtain ⟨_,_,_,p,_⟩:=x; exact p.lt
  | dK kvs=>obtain ⟨_,_,_,_,o,_,_,e,_⟩:=x; exact Heap.lt_size e
  | dT kvs=>obtain ⟨_,_,_,_,o,_,_,e,_⟩:=x; exact Heap.lt_size e
  | set S n=>obtain ⟨o,_,_,_,e,_⟩:=x; exact Heap.lt_size e
  | ins C dx fs=>obtain ⟨_,_,_,e,_⟩:=x; exact Heap.lt_size e
  | own y=>obtain ⟨_,e⟩:=x; exact Heap.lt_size e
  | xd fs=>obtain ⟨_,⟨_,_,_,e,_⟩,_⟩:=x; exact Heap.lt_size e
  | rng lo hi=>obtain ⟨_,_,_,e⟩:=x; exact Heap.lt_size e
  | frz ob u=>obtain ⟨e,_⟩:=x; exact Heap.lt_size e
  | tbl ps=>exact Heap.lt_size (show h.get? a=some _ from x)
  | met f y=>exact Heap.lt_size (show h.get? a=some _ from x)
  | ext φ=>obtain ⟨_,⟨_,e⟩,_⟩:=x; exact Heap.lt_size e
theorem Paired.mapP {α β:Type} {F G:α→β→Prop}:∀ {l₁:List α} {l₂:List β},Paired F l₁ l₂→(∀ a b,F a b→G a b)→Paired G l₁ l₂
  | _,_,.nil,_=>.nil
  | _,_,.cons r t,f=>.cons (f _ _ r) (Paired.mapP t f)
theorem ObjOk.stay (x:ObjOk P w H h a o) (k:∀ b u,(b=a∨H b=some (.own a))→h.get? b=some u→h'.get? b=some u)
    (ho:∀ b,H b=some (.own a)→H' b=some (.own a)) (ht:∀ b xs,H b=some (.tup xs)→H' b=some (.tup xs)):ObjOk P w H' h' a o:=by
  induction o with
  | lst xs=>obtain ⟨z,its,n,r,e⟩:=x; exact ⟨z,its,n,r,k _ _ (.inl rfl) e⟩
  | tup xs=>obtain ⟨z,its,r,⟨ob,e,c⟩,od,e2,d⟩:=x; exact ⟨z,its,r,⟨ob,k _ _ (.inl rfl) e,c⟩,od,k _ _ (.inl rfl) e2,d⟩
  | dK kvs=>obtain ⟨z,y,vs,r,ob,es,ep,e,c⟩:=x; exact ⟨z,y,vs,r,ob,es,ep,k _ _ (.inl rfl) e,c⟩
  | dT kvs =>
    obtain ⟨z,y,xs,r,ob,es,ep,e,c⟩:=x
    exact ⟨z,y,xs,Paired.mapP r fun p q z=>⟨z.1,ht _ _ z.2.1,z.2.2⟩,ob,es,ep,k _ _ (.inl rfl) e,c⟩
  | set S n=>obtain ⟨ob,es,ep,t,e,c⟩:=x; exact ⟨ob,es,ep,t,k _ _ (.inl rfl) e,c⟩
  | ins C dx fs =>
    obtain ⟨d,z,ne,e,mA,⟨od,es,ep,e2,c⟩,r⟩:=x
    exact ⟨ho _ d,z,ne,k _ _ (.inl rfl) e,mA,⟨od,es,ep,k _ _ (.inr d) e2,c⟩,r⟩
  | own y=>obtain ⟨ob,e⟩:=x; exact ⟨ob,k _ _ (.inl rfl) e⟩
  | xd fs=>obtain ⟨mA,⟨od,es,ep,e,c⟩,r⟩:=x; exact ⟨mA,⟨od,es,ep,k _ _ (.inl rfl) e,c⟩,r⟩
  | rng lo hi=>obtain ⟨t,u,v,e⟩:=x; exact ⟨t,u,v,k _ _ (.inl rfl) e⟩
  | frz ob u ih=>obtain ⟨e,q⟩:=x; exact ⟨k _ _ (.inl rfl) e,ih q⟩
  | tbl ps =>
    have e:h.get? a=some { cls:=.none,data:=.fields ps }:=x
    show h'.get? a=some { cls:=.none,data:=.fields ps }
    exact k a _ (.inl rfl) e
  | met f y =>
    have e:h.get? a=some (PySem.W.methodObj (.ref f) (.ref y)):=x
    show h'.get? a=some (PySem.W.methodObj (.ref f) (.ref y))
    exact k a _ (.inl rfl) e
  | ext φ=>obtain ⟨p,⟨o,e⟩,st⟩:=x; exact ⟨st _ _ p fun o q=>k _ _ (.inl rfl) q,⟨o,k _ _ (.inl rfl) e⟩,st⟩
theorem HOk.lt (x:HOk P w H h) (e:H a=some o):a < h.objs.size:=(x a o e).lt
theorem HOk.fresh (x:HOk P w H h) (e:h.objs.size≤a):H a=none:=by
  cases q:H a with
  | none=>rfl
  | some u=>exact absurd (Nat.lt_of_lt_of_le (x.lt q) e) (Nat.lt_irrefl _)
theorem HOk.kept (x:HOk P w H h) (k:∀ b u,h.get? b=some u→h'.get? b=some u):HOk P w H h':=fun a o e =>
  (x a o e).stay (fun b u _ q=>k b u q) (fun _ q=>q) fun _ _ q=>q
theorem HOk.laid (x:HOk P w H h) (k:∀ b u,h.get? b=some u→h'.get? b=some u) (hp:h.objs.size≤a) (new:ObjOk P w (upd H a o) h' a o):HOk P w (upd H a o) h':=fun b u e=>by
  have hn:=x.fresh hp
  by_cases hb:b=a
  · subst hb; rw [upd_same] at e; cases e; exact new
  · rw [upd_ne hb] at e
    exact (x b u e).stay (fun c v _ q=>k c v q) (fun c q=>by rw [upd_ne (ne_of_none q hn)]; exact q) fun c xs q=>by rw [upd_ne (ne_of_none q hn)]; exact q
end
def Rd (H:Hp) (a:Addr) (u:HO):Prop:=H a=some u∨∃ o,H a=some (.frz o u)
theorem Rd.ok {P:Program} {w:World} {H:Hp} {h:Heap} {a:Addr} {u:HO} (r:Rd H a u) (x:HOk P w H h):ObjOk P w H h a u:=by
  rcases r with r | ⟨o,r⟩
  · exact x a u r
  · obtain ⟨_,q⟩:=x a _ r
    exact q
def Mut:Option HO→Prop
  | some (.lst _)=>True
  | some (.dK _)=>True
  | some (.dT _)=>True
  | some (.set _ _)=>True
  | some (.ins _ _ _)=>True
  | some (.ext _)=>True
  | _=>False
section
variable {P:Program} {w:World} {H:Hp} {h h':Heap} {x e:Addr} {o':HO}
theorem HOk.write (ok:HOk P w H h) (mu:Mut (H x)) (he:e=x∨H e=some (.own x)) (k:∀ b u,b ≠ e→h.get? b=some u→h'.get? b=some u) (heo:∃ u,h'.get? e=some u)
    (new:ObjOk P w (upd H x o') h' x o'):HOk P w (upd H x o') h':=fun b u q=>by
  have nown:∀ c y,H c=some (.own y)→c ≠ x:=fun c y r z=>by subst z; rw [r] at mu; exact mu
  have ntup:∀ c xs,H c=some (.tup xs)→c ≠ x:=fun c xs r z=>by subst z; rw [r] at mu; exact mu
  by_cases hb:b=x
  · subst hb; rw [upd_same] at q; cases q; exact new
  · rw [upd_ne hb] at q
    by_cases hbe:b=e
    · have q':H b=some (.own x):=by
        rcases he with z | z
        · exact absurd (hbe.trans z) hb
        · rw [hbe]; exact z
      rw [q] at q'; cases q'
      obtain ⟨v,hv⟩:=heo
      exact ⟨v,by rw [hbe]; exact hv⟩
    · refine (ok b u q).stay (fun c v hc r=>k c v ?_ r) (fun c r=>by rw [upd_ne (nown c b r)]; exact r) fun c xs r=>by rw [upd_ne (ntup c xs r)]; exact r
      rcases hc with rfl | hc
      · exact hbe
      · rintro rfl
        rcases he with z | z
        · exact nown c b hc z
        · rw [hc] at z; cases z; exact hb rfl
end
structure Un (fs ex:List Addr) (H H':Hp) (h h':Heap):Prop where
  keep:∀ b o,h.get? b=some o→H b=none→b ∉ fs→b ∉ ex→h'.get? b=some o
  slot:∀ b o,h.get? b=some o→H b=none→b ∈ fs→b ∉ ex→∃ sl,h'.get? b=some { o with slots:=sl }
  free:∀ b o,h.get? b=some o→H b=none→b ∉ ex→H' b=none
  there:∀ b o,h.get? b=some o→b ∉ ex→∃ o',h'.get? b=some o'
  tups:∀ b xs,H b=some (.tup xs)→H' b=some (.tup xs)
  frzs:∀ b o u,H b=some (.frz o u)→H' b=some (.frz o u)
  tbls:∀ b ps,H b=some (.tbl ps)→∃ more,H' b=some (.tbl (ps++more))
section
variable {fs fs' ex ex':List Addr} {H H1 H2:Hp} {h h1 h2 h':Heap} {a x e:Addr} {o:HO}
theorem Un.any (u:Un fs ex H H1 h h1) {b:Addr} {ob:Obj} (q:h.get? b=some ob) (n:H b=none) (hx:b ∉ ex):∃ sl,h1.get? b=some { ob with slots:=sl }:=by
  by_cases hb:b ∈ fs
  · exact u.slot b ob q n hb hx
  · exact ⟨ob.slots,u.keep b ob q n hb hx⟩
theorem Un.trans (a:Un fs ex H H1 h h1) (b:Un fs ex H1 H2 h1 h2):Un fs ex H H2 h h2 where
  keep:=fun c ob q n hc hx=>b.keep c ob (a.keep c ob q n hc hx) (a.free c ob q n hx) hc hx
  slot:=fun c ob q n hc hx=>by
    obtain ⟨sl,e1⟩:=a.slot c ob q n hc hx
    obtain ⟨sl',e2⟩:=b.slot c _ e1 (a.free c ob q n hx) hc hx
    exact ⟨sl',e2⟩
  free:=fun c ob q n hx=>by
    obtain ⟨o',e1⟩:=a.there c ob q hx
    exact b.free c o' e1 (a.free c ob q n hx) hx
  there:=fun c ob q hx=>by
    obtain ⟨o',e1⟩:=a.there c ob q hx
    exact b.there c o' e1 hx
  tups:=fun c xs q=>b.tups c xs (a.tups c xs q)
  frzs:=fun c ob xs q=>b.frzs c ob xs (a.frzs c ob xs q)
  tbls:=fun c ps q=>by
    obtain ⟨m1,e1⟩:=a.tbls c ps q
    obtain ⟨m2,e2⟩:=b.tbls c _ e1
    exact ⟨m1++m2,by rw [e2,Array.append_assoc]⟩
theorem Un.kept (k:∀ b u,h.get? b=some u→h'.get? b=some u):Un fs ex H H h h' :=
  ⟨fun b ob q _ _ _=>k b ob q,fun b ob q _ _ _=>⟨ob.slots,k b ob q⟩,fun _ _ _ n _=>n,fun b ob q _=>⟨ob,k b ob q⟩,fun _ _ q=>q,fun _ _ _ q=>q,fun _ ps q=>⟨#[],by rw [q]; simp⟩⟩
theorem Un.refl:Un fs ex H H h h:=Un.kept fun _ _ q=>q
theorem Un.laid (k:∀ b u,h.get? b=some u→h'.get? b=some u) (hp:h.objs.size≤a) (hn:H a=none):Un fs ex H (upd H a o) h h' where
  keep:=fun b u q _ _ _=>k b u q
  slot:=fun b u q _ _ _=>⟨u.slots,k b u q⟩
  free:=fun b u q n _=>by rw [upd_ne (Nat.ne_of_lt (Nat.lt_of_lt_of_le (Heap.lt_size q) hp))]; exact n
  there:=fun b u q _=>⟨u,k b u q⟩
  tups:=fun b xs q=>by rw [upd_ne (ne_of_none q hn)]; exact q
  frzs:=fun b u xs q=>by rw [upd_ne (ne_of_none q hn)]; exact q
  tbls:=fun b ps q=>⟨#[],by rw [upd_ne (ne_of_none q hn),q]; simp⟩
theorem Un.write (mu:Mut (H x)) (he:e=x∨H e=some (.own x)) (k:∀ b u,b ≠ e→h.get? b=some u→h'.get? b=some u) (heo:∃ u,h'.get? e=some u):Un fs ex H (upd H x o) h h':=by
  have hx:∀ b,H b=none→b ≠ x:=fun b n z=>by subst z; rw [n] at mu; exact mu
  have hb:∀ b,H b=none→b ≠ e:=fun b n z=>by
    subst z
    rcases he with r | r
    · exact hx b n r
    · rw [n] at r; cases r
  have hm:∀ b u,H b=some u→¬ Mut (some u)→b ≠ x:=fun b u q nm z=>by subst z; rw [q] at mu; exact nm mu
  refine ⟨fun b u q n _ _=>k b u (hb b n) q,fun b u q n _ _=>⟨u.slots,k b u (hb b n) q⟩,fun b u q n _=>by rw [upd_ne (hx b n)]; exact n,fun b u q _=>?_,
    fun b xs q=>by rw [upd_ne (hm b _ q fun z=>z)]; exact q,fun b u xs q=>by rw [upd_ne (hm b _ q fun z=>z)]; exact q,fun b ps q=>⟨#[],by rw [upd_ne (hm b _ q fun z=>z),q]; simp⟩⟩
  by_cases hbe:b=e
  · subst hbe; exact heo
  · exact ⟨u,k b u hbe q⟩
theorem Un.mono (u:Un fs ex H H1 h h1) (hs:∀ b ∈ fs,b ∈ fs') (hx:∀ b ∈ ex,b ∈ ex'):Un fs' ex' H H1 h h1 :=
  ⟨fun b ob q n hb he=>u.keep b ob q n (fun z=>hb (hs b z)) fun z=>he (hx b z),fun _ _ q n _ he=>u.any q n fun z=>he (hx _ z),fun b ob q n he=>u.free b ob q n fun z=>he (hx b z),fun b ob q he=>u.there b ob q fun z=>he (hx b z),u.tups,u.frzs,u.tbls⟩
end
def trk (h:Heap) (H:Hp):List Addr:=(List.range h.objs.size).filter fun a=>(H a).isSome
def hidT (h:Heap) (H:Hp):Heap:=PySem.W.hideAll h (trk h H)
theorem hidT_size (h:Heap) (H:Hp):(hidT h H).objs.size=h.objs.size:=PySem.W.hideAll_size _ _
theorem hidT_get {h:Heap} {H:Hp} {b:Addr} {o:Obj} (e:h.get? b=some o) (n:H b=none):(hidT h H).get? b=some o :=
  PySem.W.hideAll_get _ e fun hm=>by
    have q:(H b).isSome=true:=(List.mem_filter.mp hm).2
    rw [n] at q; simp at q
theorem of_hidT {h:Heap} {H:Hp} {b:Addr} {o:Obj} (e:(hidT h H).get? b=some o):h.get? b=some o∧H b=none:=by
  have e':h.get? b=some o:=PySem.W.of_hideAll (trk h H) e
  refine ⟨e',?_⟩
  cases q:H b with
  | none=>rfl
  | some x =>
    have hm:b ∈ trk h H:=List.mem_filter.mpr ⟨List.mem_range.mpr (Heap.lt_size e'),by simp [q]⟩
    have z:(hidT h H).get? b=none:=PySem.W.hideAll_none (trk h H) hm
    rw [z] at e; cases e
def allNews (g h:Heap) (L:Addr):List (Addr × Obj):=(List.range h.objs.size).filterMap fun a=>if a=L∨(g.get? a).isSome=true then none else (h.get? a).map fun o=>(a,o)
def rest (g h:Heap) (L d:Addr):List (Addr × Obj):=(allNews g h L).filter fun p=>decide (p.1 ≠ d)
end L2
namespace L2
open PySem PySem.Spec PyProof.Rows
structure Mod (K:PySem.W.Frag) (mg:Str→Option Value) (base:Heap):Prop where
  kin:K.In base
  glob:base.Ns mainGlobals mg
  blt:∃ mb,base.Ns builtinsNs mb∧∀ x:Str,x ≠ "__name__" → mb x=bootBuiltins x
  nolimit:base.NoLimit
structure Cx where
  prog:Program
  w:World
  K:PySem.W.Frag
  mg:Str→Option Value
  base:Heap
  A:Around
  N:List Str
  s₀:Shared
  H₀:Hp
  env:Env
  outer:List Env
  stack:List Env
  ex:List Addr
  fn:Str→Bool
  calm:Bool
  pn:List (Addr × Obj)
  xe:Value→Shared→Prop
def frs (l:List Env):List Addr:=l.filterMap (·.frame)
abbrev Cx.fs (X:Cx):List Addr:=frs X.outer
def Vis (sc:Scope) (x:Str):Prop:=sc.names.lookup x=some .local∨sc.names.lookup x=some .cell∨sc.names.lookup x=some .free
def Loc (sc:Scope) (x:Str):Prop:=sc.names.lookup x=some .local∨sc.names.lookup x=some .cell
def Look (env:Env) (h:Heap) (m:Str→Option Value) (x:Str) (u:Value):Prop :=
  (env.kindOf x=some .local∧m x=some u)∨((env.kindOf x=some .cell∨env.kindOf x=some .free)∧∃ c,env.cells.lookup x=some c∧h.IsCell c (some u))
structure Cx.Ok (X:Cx):Prop where
  mod:Mod X.K X.mg X.base
  kind:X.env.scope.kind=.function
  glob:X.env.globals=mainGlobals
  blt:X.env.builtins=builtinsNs
  above:X.s₀.heap.objs.size≤X.env.locals
  inj:∀ x y c,X.env.cells.lookup x=some c→X.env.cells.lookup y=some c→x=y
  has:∀ x,(X.env.kindOf x=some .cell∨X.env.kindOf x=some .free)→∃ c,X.env.cells.lookup x=some c
  cab:∀ x c,X.fn x=true→X.env.cells.lookup x=some c→X.s₀.heap.objs.size≤c
  hd:X.calm=true→X.A.handled=none
  frames:X.A.frames=some X.stack
  stk:X.stack=X.outer∨(X.stack=X.env::X.outer∧X.env.frame=some X.env.locals)
  exf:∀ b ∈ X.ex,b ≠ X.env.locals∧∀ x c,X.env.cells.lookup x=some c→c ≠ b
  bs:∀ b o,X.base.get? b=some o→X.s₀.heap.get? b=some o∧X.H₀ b=none
  bsz:X.base.objs.size≤X.s₀.heap.objs.size
  noex:∀ b o,X.base.get? b=some o→b ∉ X.ex
  exfs:∀ b ∈ X.ex,b ∉ X.fs
  funs:X.s₀.heap.FunFrames X.base X.outer
  frf:∀ b ∈ X.fs,X.H₀ b=none
structure Inv (X:Cx) (pins:List (Addr × Obj)) (σ:List (Option V)) (H:Hp) (s:Shared):Prop where
  ok:X.Ok
  os:s.os=X.s₀.os
  bare:AllBare s.gens
  base:Un X.fs X.ex X.H₀ H X.s₀.heap s.heap
  loc:∃ m,s.heap.Ns X.env.locals m∧∀ (i:Nat) (x:Str) (v:V),X.N[i]?=some x→σ[i]?=some (some v)→Vis X.env.scope x→∃ u,RelV v u∧Look X.env s.heap m x u
  cell:∀ x c,X.env.cells.lookup x=some c→∃ v,s.heap.IsCell c v
  free:H X.env.locals=none
  freeC:∀ x c,X.env.cells.lookup x=some c→H c=none
  pin:∀ p ∈ X.pn++pins,s.heap.get? p.1=some p.2∧H p.1=none∧p.1 ≠ X.env.locals∧p.1 ∉ X.fs∧∀ v,p.2.data ≠ .cell v
  hok:HOk X.prog X.w H s.heap
  len:σ.length=X.N.length
section
variable {X:Cx} {pins:List (Addr × Obj)} {σ:List (Option V)} {H H':Hp} {s:Shared} {h':Heap}
theorem Cx.Ok.nofr (ok:X.Ok) {b:Addr} {o:Obj} (e:X.base.get? b=some o):b ∉ X.fs:=fun hb=>by
  have:=(ok.funs.mem hb).1
  rw [e] at this; cases this
theorem Inv.bs (I:Inv X pins σ H s):∀ b o,X.base.get? b=some o→s.heap.get? b=some o∧H b=none:=fun b o e =>
  ⟨I.base.keep b o (I.ok.bs b o e).1 (I.ok.bs b o e).2 (I.ok.nofr e) (I.ok.noex b o e),I.base.free b o (I.ok.bs b o e).1 (I.ok.bs b o e).2 (I.ok.noex b o e)⟩
theorem Inv.bk (I:Inv X pins σ H s):∀ b o,X.base.get? b=some o→s.heap.get? b=some o:=fun b o e=>(I.bs b o e).1
theorem Inv.mod (I:Inv X pins σ H s):Mod X.K X.mg X.base:=I.ok.mod
theorem Inv.kIn (I:Inv X pins σ H s):X.K.In s.heap:=I.ok.mod.kin.keeps I.bk
theorem Inv.lt (I:Inv X pins σ H s):X.env.locals < s.heap.objs.size:=let ⟨_,hn,_⟩:=I.loc; hn.lt
theorem Inv.sz (I:Inv X pins σ H s):X.s₀.heap.objs.size≤s.heap.objs.size:=Nat.le_trans I.ok.above (Nat.le_of_lt I.lt)
theorem Inv.nofs (I:Inv X pins σ H s) {a:Addr} (h:s.heap.objs.size≤a):a ∉ X.fs:=fun hb=>by
  obtain ⟨_,o,ho,_⟩:=I.ok.funs.mem hb
  exact absurd (Nat.lt_of_lt_of_le (Heap.lt_size ho) (Nat.le_trans I.sz h)) (Nat.lt_irrefl _)
theorem Inv.cne (I:Inv X pins σ H s):∀ x c,X.env.cells.lookup x=some c→c ≠ X.env.locals:=fun x c e z=>by
  obtain ⟨v,o,ho,hd⟩:=I.cell x c e
  obtain ⟨m,⟨o',es,ep,ho',hd',_⟩,_⟩:=I.loc
  rw [z,ho'] at ho; cases ho; rw [hd'] at hd; cases hd
theorem Inv.funs (I:Inv X pins σ H s):s.heap.FunFrames X.base X.outer:=by
  have all:∀ (l:List Env),(∀ b ∈ frs l,b ∈ X.fs)→X.s₀.heap.FunFrames X.base l→s.heap.FunFrames X.base l:=by
    intro l
    induction l with
    | nil=>intro _ _; trivial
    | cons env r ih =>
      intro hs hl
      obtain ⟨hk,⟨L,o,hf,hn,ho,hd⟩,hr⟩:=hl
      have hL:L ∈ X.fs:=hs L (by unfold frs; rw [List.filterMap_cons,hf]; exact List.mem_cons_self)
      obtain ⟨sl,e⟩:=I.base.slot L o ho (I.ok.frf L hL) hL fun z=>I.ok.exfs L z hL
      exact ⟨hk,⟨L,_,hf,hn,e,hd⟩,ih (fun b hb=>hs b (by unfold frs; rw [List.filterMap_cons,hf]; exact List.mem_cons_of_mem _ hb)) hr⟩
  exact all X.outer (fun _ hb=>hb) I.ok.funs
theorem Inv.stack (I:Inv X pins σ H s):s.heap.FunFrames X.base X.stack:=by
  rcases I.ok.stk with e | ⟨e,hf⟩
  · rw [e]; exact I.funs
  · rw [e]
    obtain ⟨m,hn,_⟩:=I.loc
    refine .cons (by rw [I.ok.kind]; decide) hf hn ?_ I.funs
    exact Heap.get?_none_of_le (Nat.le_trans I.ok.bsz I.ok.above)
theorem Inv.stkSub (I:Inv X pins σ H s):∀ b ∈ frs X.stack,b ∈ X.env.locals::X.fs:=fun b hb=>by
  rcases I.ok.stk with e | ⟨e,hf⟩
  · rw [e] at hb; exact List.mem_cons_of_mem _ hb
  · rw [e] at hb
    unfold frs at hb
    rw [List.filterMap_cons,hf] at hb
    exact hb
theorem Inv.stkFree (I:Inv X pins σ H s):∀ b ∈ frs X.stack,H b=none:=fun b hb=>by
  rcases List.mem_cons.mp (I.stkSub b hb) with e | hb
  · rw [e]; exact I.free
  · obtain ⟨_,o,ho,_⟩:=I.ok.funs.mem hb
    exact I.base.free b o ho (I.ok.frf b hb) fun z=>I.ok.exfs b z hb
theorem Inv.step {g':Array GenState} {t':Nat} {d':Drawn} {ch:List Addr} (I:Inv X pins σ H s)
    (hch:∀ b ∈ ch,(b ∈ X.ex∨X.s₀.heap.objs.size≤b)∧b ≠ X.env.locals∧(∀ x c,X.env.cells.lookup x=some c→c ≠ b)∧∀ p ∈ X.pn++pins,p.1 ≠ b)
    (keep:∀ b o,b ≠ X.env.locals→b ∉ X.fs→b ∉ ch→s.heap.get? b=some o→H b=none→h'.get? b=some o)
    (slot:∀ b o,b ≠ X.env.locals→b ∈ X.fs→b ∉ ch→s.heap.get? b=some o→H b=none→∃ sl,h'.get? b=some { o with slots:=sl }) (free:∀ b o,b ∉ ch→s.heap.get? b=some o→H b=none→H' b=none)
    (there:∀ b o,b ∉ ch→s.heap.get? b=some o→∃ o',h'.get? b=some o')
    (tups:∀ b xs,H b=some (.tup xs)→H' b=some (.tup xs)) (frzs:∀ b o u,H b=some (.frz o u)→H' b=some (.frz o u)) (tbls:∀ b ps,H b=some (.tbl ps)→∃ more,H' b=some (.tbl (ps++more)))
    (ns:∀ m,s.heap.Ns X.env.locals m→h'.Ns X.env.locals m) (hok:HOk X.prog X.w H' h') (hg:AllBare g') :
    Inv X pins σ H' { s with heap:=h',gens:=g',drawn:=d',toks:=t' }:=by
  have neL:∀ b o,X.s₀.heap.get? b=some o→b ≠ X.env.locals:=fun b o e=>Nat.ne_of_lt (Nat.lt_of_lt_of_le (Heap.lt_size e) I.ok.above)
  have neC:∀ b o,X.s₀.heap.get? b=some o→b ∉ X.ex→b ∉ ch:=fun b o e hx hb=>by
    rcases (hch b hb).1 with z | z
    · exact hx z
    · exact absurd (Nat.lt_of_lt_of_le (Heap.lt_size e) z) (Nat.lt_irrefl _)
  have cellK:∀ x c,X.env.cells.lookup x=some c→∀ v,s.heap.IsCell c v→h'.IsCell c v:=fun x c e v ⟨o,ho,hd⟩=>by
    have nch:c ∉ ch:=fun z=>(hch c z).2.2.1 x c e rfl
    by_cases hc:c ∈ X.fs
    · obtain ⟨sl,q⟩:=slot c o (I.cne x c e) hc nch ho (I.freeC x c e)
      exact ⟨_,q,hd⟩
    · exact ⟨o,keep c o (I.cne x c e) hc nch ho (I.freeC x c e),hd⟩
  refine ⟨I.ok,I.os,hg,⟨fun b o e n hb hx=>?_,fun b o e n hb hx=>?_,fun b o e n hx=>?_,fun b o e hx=>?_,fun b xs e=>tups b xs (I.base.tups b xs e),fun b o xs e=>frzs b o xs (I.base.frzs b o xs e),fun b ps e=>?_⟩,?_,fun x c e=>?_,?_,fun x c e=>?_,fun p hp=>?_,hok,I.len⟩
  · exact keep b o (neL b o e) hb (neC b o e hx) (I.base.keep b o e n hb hx) (I.base.free b o e n hx)
  · obtain ⟨sl,e1⟩:=I.base.slot b o e n hb hx
    obtain ⟨sl',e2⟩:=slot b _ (neL b o e) hb (neC b o e hx) e1 (I.base.free b o e n hx)
    exact ⟨sl',e2⟩
  · obtain ⟨o',e1⟩:=I.base.there b o e hx
    exact free b o' (neC b o e hx) e1 (I.base.free b o e n hx)
  · obtain ⟨o',e1⟩:=I.base.there b o e hx
    exact there b o' (neC b o e hx) e1
  · obtain ⟨m1,e1⟩:=I.base.tbls b ps e
    obtain ⟨m2,e2⟩:=tbls b _ e1
    exact ⟨m1++m2,by rw [e2,Array.append_assoc]⟩
  · obtain ⟨m,hn,hl⟩:=I.loc
    refine ⟨m,ns m hn,fun i x v e1 e2 e3=>?_⟩
    obtain ⟨u,r,l⟩:=hl i x v e1 e2 e3
    refine ⟨u,r,?_⟩
    rcases l with l | ⟨k,c,e,z⟩
    · exact .inl l
    · exact .inr ⟨k,c,e,cellK x c e _ z⟩
  · obtain ⟨v,z⟩:=I.cell x c e
    exact ⟨v,cellK x c e v z⟩
  · obtain ⟨m,⟨o,_,_,ho,_⟩,_⟩:=I.loc
    exact free _ o (fun z=>(hch _ z).2.1 rfl) ho I.free
  · obtain ⟨v,o,ho,hd⟩:=I.cell x c e
    exact free c o (fun z=>(hch c z).2.2.1 x c e rfl) ho (I.freeC x c e)
  · obtain ⟨e,n,ne,nf,d⟩:=I.pin p hp
    have nch:p.1 ∉ ch:=fun z=>(hch p.1 z).2.2.2 p hp rfl
    exact ⟨keep p.1 p.2 ne nf nch e n,free p.1 p.2 nch e n,ne,nf,d⟩
theorem Inv.un {t':Nat} (I:Inv X pins σ H s) (u:Un X.fs [] H H' s.heap h') (hok:HOk X.prog X.w H' h'):Inv X pins σ H' { s with heap:=h',toks:=t' }:=by
  obtain ⟨m,⟨o,es,ep,ho,r⟩,_⟩:=id I.loc
  obtain ⟨sl,hL⟩:=u.any ho I.free (by simp)
  exact I.step (g':=s.gens) (d':=s.drawn) (ch:=[]) (fun _ z=>nomatch z) (fun b o _ hb _ e n=>u.keep b o e n hb (by simp)) (fun b o _ hb _ e n=>u.slot b o e n hb (by simp)) (fun b o _ e n=>u.free b o e n (by simp)) (fun b o _ e=>u.there b o e (by simp)) u.tups u.frzs u.tbls (fun m' hm=>by
    obtain ⟨o',es',ep',ho',r'⟩:=hm
    rw [ho] at ho'; cases ho'
    exact ⟨_,es',ep',hL,r'⟩) hok I.bare
theorem Inv.call {g':Array GenState} {t':Nat} {d':Drawn} {ch:List Addr} (I:Inv X pins σ H s) (u:Un (frs X.stack) ch H H' s.heap h') (hok:HOk X.prog X.w H' h') (hg:AllBare g')
    (hch:∀ b ∈ ch,(b ∈ X.ex∨X.s₀.heap.objs.size≤b)∧b ≠ X.env.locals∧(∀ x c,X.env.cells.lookup x=some c→c ≠ b)∧∀ p ∈ X.pn++pins,p.1 ≠ b) :
    Inv X pins σ H' { s with heap:=h',gens:=g',drawn:=d',toks:=t' }:=by
  obtain ⟨m,⟨o,es,ep,ho,r⟩,_⟩:=id I.loc
  obtain ⟨sl,hL⟩:=u.any ho I.free fun z=>(hch _ z).2.1 rfl
  exact I.step (ch:=ch) hch (fun b o hL hb hc e n=>u.keep b o e n (fun z=>(List.mem_cons.mp (I.stkSub b z)).elim hL hb) hc) (fun b o _ _ hc e n=>u.any e n hc) (fun b o hc e n=>u.free b o e n hc) (fun b o hc e=>u.there b o e hc) u.tups u.frzs u.tbls (fun m' hm=>by
    obtain ⟨o',es',ep',ho',r'⟩:=hm
    rw [ho] at ho'; cases ho'
    exact ⟨_,es',ep',hL,r'⟩) hok hg
theorem Inv.turned {t':Nat} {it:Addr} (I:Inv X pins σ H s) (k:∀ b o,b ≠ it→s.heap.get? b=some o→h'.get? b=some o) (hn:H it=none) (hL:it ≠ X.env.locals)
    (h1:it ∈ X.ex∨X.s₀.heap.objs.size≤it) (h2:∀ x c,X.env.cells.lookup x=some c→c ≠ it) (h3:∀ p ∈ X.pn++pins,p.1 ≠ it):Inv X pins σ H { s with heap:=h',toks:=t' }:=by
  have nit:∀ b u,H b=some u→b ≠ it:=fun b u e z=>by rw [z,hn] at e; cases e
  refine I.step (g':=s.gens) (d':=s.drawn) (ch:=[it]) (fun b hb=>?_) (fun b o _ _ hc e _=>k b o (fun z=>hc (by simp [z])) e) (fun b o _ _ hc e _=>⟨o.slots,k b o (fun z=>hc (by simp [z])) e⟩) (fun _ _ _ _ n=>n)
    (fun b o hc e=>⟨o,k b o (fun z=>hc (by simp [z])) e⟩) (fun _ _ e=>e) (fun _ _ _ e=>e) (fun b ps e=>⟨#[],by rw [e]; simp⟩) (fun m hm=>?_) (fun b u e=>?_) I.bare
  · have e:b=it:=by simpa using hb
    subst e
    exact ⟨h1,hL,h2,h3⟩
  · obtain ⟨o,es,ep,ho,r⟩:=hm
    exact ⟨o,es,ep,k _ o (Ne.symm hL) ho,r⟩
  · refine (I.hok b u e).stay (fun c v hc q=>k c v ?_ q) (fun _ q=>q) fun _ _ q=>q
    rcases hc with z | z
    · rw [z]; exact nit b u e
    · exact nit c _ z
theorem Inv.tok (I:Inv X pins σ H s) (t:Nat):Inv X pins σ H { s with toks:=t }:=I.un (h':=s.heap) (t':=t) Un.refl I.hok
theorem Inv.kept {t':Nat} (I:Inv X pins σ H s) (k:∀ b u,s.heap.get? b=some u→h'.get? b=some u):Inv X pins σ H { s with heap:=h',toks:=t' }:=I.un (Un.kept k) (I.hok.kept k)
theorem Inv.laid {a:Addr} {o:HO} {t':Nat} (I:Inv X pins σ H s) (k:∀ b u,s.heap.get? b=some u→h'.get? b=some u) (hp:s.heap.objs.size≤a) (new:ObjOk X.prog X.w (upd H a o) h' a o) :
    Inv X pins σ (upd H a o) { s with heap:=h',toks:=t' }:=I.un (Un.laid k hp (I.hok.fresh hp)) (I.hok.laid k hp new)
theorem Inv.write {x e:Addr} {o:HO} {t':Nat} (I:Inv X pins σ H s) (mu:Mut (H x)) (he:e=x∨H e=some (.own x)) (k:∀ b u,b ≠ e→s.heap.get? b=some u→h'.get? b=some u) (heo:∃ u,h'.get? e=some u)
    (new:ObjOk X.prog X.w (upd H x o) h' x o):Inv X pins σ (upd H x o) { s with heap:=h',toks:=t' }:=I.un (Un.write mu he k heo) (I.hok.write mu he k heo new)
theorem Inv.pins_of {pins':List (Addr × Obj)} (I:Inv X pins σ H s) (h:∀ p ∈ pins',s.heap.get? p.1=some p.2∧H p.1=none∧p.1 ≠ X.env.locals∧p.1 ∉ X.fs∧∀ v,p.2.data ≠ .cell v):Inv X pins' σ H s :=
  ⟨I.ok,I.os,I.bare,I.base,I.loc,I.cell,I.free,I.freeC,fun p hp=>(List.mem_append.mp hp).elim (fun z=>I.pin p (List.mem_append_left _ z)) (h p),I.hok,I.len⟩
theorem nodup_ix {N:List Str} (hN:N.Nodup) {i j:Nat} {x:Str} (a:N[i]?=some x) (b:N[j]?=some x):i=j:=by
  obtain ⟨h1,e1⟩:=List.getElem?_eq_some_iff.mp a
  obtain ⟨h2,e2⟩:=List.getElem?_eq_some_iff.mp b
  exact (List.getElem_inj hN).mp (e1.trans e2.symm)
theorem store_ok2 {M:Model} {A:Around} {E:Value→Shared→Prop} {i:Nat} {x:Str} {v:V} {u:Value} {Q:Unit→Shared→Prop} (I:Inv X pins σ H s) (hN:X.N.Nodup) (hi:X.N[i]?=some x) (hx:Loc X.env.scope x) (r:RelV v u)
    (h:∀ s',Inv X pins (σ.set i (some v)) H s'→(∃ a,Heap.SameBut a s.heap s'.heap∧(a=X.env.locals∨X.env.cells.lookup x=some a))→Q () s') (hf:X.fn x=true∨X.env.scope.names.lookup x=some .local:=by first | exact .inl rfl | exact .inr rfl | assumption):wpAny M A (storeName X.env x u) Q E s:=by
  obtain ⟨m,hn,hl⟩:=id I.loc
  have hcls:(X.env.scope.kind == .class || (X.env.scope.kind == .module && X.env.locals != X.env.globals))=false:=by rw [I.ok.kind]; rfl
  have hiσ:i < σ.length:=by rw [I.len]; exact (List.getElem?_eq_some_iff.mp hi).1
  have cne:=I.cne
  have tracked:∀ {a:Addr} {h':Heap},(∃ o,s.heap.get? a=some o∧H a=none)→Heap.SameBut a s.heap h'→HOk X.prog X.w H h':=fun {a h'} ha hs b ob e=>by
    obtain ⟨_,_,hfree⟩:=ha
    refine (I.hok b ob e).stay (fun c w' hc q=>(hs.2 c ?_).trans q) (fun _ q=>q) fun _ _ q=>q
    rintro rfl
    rcases hc with rfl | hc
    · rw [hfree] at e; cases e
    · rw [hfree] at hc; cases hc
  rcases hx with hk | hk
  · refine wpAny_storeName_local hk hn (fun h' hn' hs=>?_) hcls
    obtain ⟨oL,_,_,hoL,_⟩:=id hn
    refine h _ ⟨I.ok,I.os,I.bare,⟨fun b o e n hb hx=>?_,fun b o e n hb hx=>?_,I.base.free,fun b o e hx=>?_,I.base.tups,I.base.frzs,I.base.tbls⟩,⟨_,hn',fun j y v' e1 e2 e3=>?_⟩,fun y c e=>?_,I.free,I.freeC,fun p hp=>?_,tracked ⟨oL,hoL,I.free⟩ hs,by simpa using I.len⟩ ⟨_,hs,.inl rfl⟩
    · exact (hs.2 b (Nat.ne_of_lt (Nat.lt_of_lt_of_le (Heap.lt_size e) I.ok.above))).trans (I.base.keep b o e n hb hx)
    · obtain ⟨sl,e1⟩:=I.base.slot b o e n hb hx
      exact ⟨sl,(hs.2 b (Nat.ne_of_lt (Nat.lt_of_lt_of_le (Heap.lt_size e) I.ok.above))).trans e1⟩
    · obtain ⟨o',e1⟩:=I.base.there b o e hx
      exact ⟨o',(hs.2 b (Nat.ne_of_lt (Nat.lt_of_lt_of_le (Heap.lt_size e) I.ok.above))).trans e1⟩
    · by_cases hj:j=i
      · subst hj
        rw [hi] at e1; cases e1
        rw [List.getElem?_set_self hiσ] at e2
        cases e2
        exact ⟨u,r,.inl ⟨hk,by simp⟩⟩
      · rw [List.getElem?_set_ne (Ne.symm hj)] at e2
        obtain ⟨u',r',q⟩:=hl j y v' e1 e2 e3
        refine ⟨u',r',?_⟩
        rcases q with ⟨k,e⟩ | ⟨k,c,e,z⟩
        · refine .inl ⟨k,?_⟩
          have:y ≠ x:=fun e=>hj (nodup_ix hN e1 (e ▸ hi))
          simp [this,e]
        · exact .inr ⟨k,c,e,z.sameBut hs (cne y c e)⟩
    · obtain ⟨w',z⟩:=I.cell y c e
      exact ⟨w',z.sameBut hs (cne y c e)⟩
    · obtain ⟨e,n,ne,nf,d⟩:=I.pin p hp
      exact ⟨(hs.2 p.1 ne).trans e,n,ne,nf,d⟩
  · have hfn:X.fn x=true:=by
      rcases hf with z | z
      · exact z
      · rw [z] at hk; cases hk
    obtain ⟨c,hc⟩:=I.ok.has x (.inl hk)
    obtain ⟨w',z⟩:=I.cell x c hc
    refine wpAny_storeName_cell I.ok.kind hk hc z (fun h' hc' hs=>?_)
    obtain ⟨oc,hoc,hocd⟩:=id z
    refine h { s with heap:=h' } ⟨I.ok,I.os,I.bare,⟨fun b o e n hb hx=>?_,fun b o e n hb hx=>?_,I.base.free,fun b o e hx=>?_,I.base.tups,I.base.frzs,I.base.tbls⟩,⟨m,hn.sameBut hs (Ne.symm (cne x c hc)),fun j y v' e1 e2 e3=>?_⟩,fun y c' e=>?_,I.free,I.freeC,fun p hp=>?_,tracked ⟨oc,hoc,I.freeC x c hc⟩ hs,by simpa using I.len⟩ ⟨c,hs,.inr hc⟩
    · exact (hs.2 b (Nat.ne_of_lt (Nat.lt_of_lt_of_le (Heap.lt_size e) (I.ok.cab x c hfn hc)))).trans (I.base.keep b o e n hb hx)
    · obtain ⟨sl,e1⟩:=I.base.slot b o e n hb hx
      exact ⟨sl,(hs.2 b (Nat.ne_of_lt (Nat.lt_of_lt_of_le (Heap.lt_size e) (I.ok.cab x c hfn hc)))).trans e1⟩
    · obtain ⟨o',e1⟩:=I.base.there b o e hx
      exact ⟨o',(hs.2 b (Nat.ne_of_lt (Nat.lt_of_lt_of_le (Heap.lt_size e) (I.ok.cab x c hfn hc)))).trans e1⟩
    · by_cases hj:j=i
      · subst hj
        rw [hi] at e1; cases e1
        rw [List.getElem?_set_self hiσ] at e2
        cases e2
        exact ⟨u,r,.inr ⟨.inl hk,c,hc,hc'⟩⟩
      · rw [List.getElem?_set_ne (Ne.symm hj)] at e2
        obtain ⟨u',r',q⟩:=hl j y v' e1 e2 e3
        refine ⟨u',r',?_⟩
        rcases q with q | ⟨k,c',e,z'⟩
        · exact .inl q
        · refine .inr ⟨k,c',e,z'.sameBut hs ?_⟩
          rintro rfl
          exact hj (nodup_ix hN e1 (I.ok.inj _ _ _ e hc ▸ hi))
    · by_cases hcc:c'=c
      · subst hcc; exact ⟨_,hc'⟩
      · obtain ⟨w2,z2⟩:=I.cell y c' e
        exact ⟨w2,z2.sameBut hs hcc⟩
    · obtain ⟨e,n,ne,nf,d⟩:=I.pin p hp
      refine ⟨(hs.2 p.1 ?_).trans e,n,ne,nf,d⟩
      intro q
      rw [q,hoc] at e
      have q':oc=p.2:=Option.some.inj e
      exact d w' (by rw [← q']; exact hocd)
theorem store_ok {M:Model} {A:Around} {E:Value→Shared→Prop} {i:Nat} {x:Str} {v:V} {u:Value} {Q:Unit→Shared→Prop} (I:Inv X pins σ H s) (hN:X.N.Nodup) (hi:X.N[i]?=some x) (hx:Loc X.env.scope x) (r:RelV v u)
    (h:∀ s',Inv X pins (σ.set i (some v)) H s'→Q () s') (hf:X.fn x=true∨X.env.scope.names.lookup x=some .local:=by first | exact .inl rfl | exact .inr rfl | assumption):wpAny M A (storeName X.env x u) Q E s :=
  store_ok2 I hN hi hx r (fun s' I' _=>h s' I') hf
theorem Inv.call' {s':Shared} {ch:List Addr} (I:Inv X pins σ H s) (ho:s'.os=s.os) (u:Un (frs X.stack) ch H H' s.heap s'.heap) (hok:HOk X.prog X.w H' s'.heap) (hg:AllBare s'.gens)
    (hch:∀ b ∈ ch,(b ∈ X.ex∨X.s₀.heap.objs.size≤b)∧b ≠ X.env.locals∧(∀ x c,X.env.cells.lookup x=some c→c ≠ b)∧∀ p ∈ X.pn++pins,p.1 ≠ b):Inv X pins σ H' s':=by
  obtain ⟨h',g',d',t',o'⟩:=s'
  have e:o'=s.os:=ho
  subst e
  exact I.call (g':=g') (t':=t') (d':=d') u hok hg hch
end
abbrev XK:=Value→Option Addr→Hp→Prop
abbrev St:=List (Option V)
abbrev VK:=V→Hp→Prop
abbrev TE:=St→Hp→VK→Prop
abbrev TT:=St→Hp→(Bool→Hp→Prop)→Prop
abbrev TA:=St→Hp→(List V→Hp→Prop)→Prop
structure Ends where
  nx:St→Hp→Prop
  rt:VK
  bk:St→Hp→Prop:=fun _ _=>False
  ct:St→Hp→Prop:=fun _ _=>False
abbrev TS:=Ends→St→Hp→Prop
def EP (X:Cx) (pins:List (Addr × Obj)) (σ:St) (Q:VK) (u:Value) (s':Shared):Prop:=∃ v H',Inv X pins σ H' s'∧RelV v u∧Q v H'
def TP (X:Cx) (pins:List (Addr × Obj)) (σ:St) (Q:Bool→Hp→Prop) (b:Bool) (s':Shared):Prop:=∃ H',Inv X pins σ H' s'∧Q b H'
def AP (X:Cx) (pins:List (Addr × Obj)) (σ:St) (Q:List V→Hp→Prop) (us:List Value) (s':Shared):Prop:=∃ vs H',Inv X pins σ H' s'∧Vals vs us∧Q vs H'
def SP (X:Cx) (pins:List (Addr × Obj)) (D:Ends) (f:Flow) (s':Shared):Prop :=
  match f with
  | .next=>∃ σ' H',Inv X pins σ' H' s'∧D.nx σ' H'
  | .brk=>∃ σ' H',Inv X pins σ' H' s'∧D.bk σ' H'
  | .cont=>∃ σ' H',Inv X pins σ' H' s'∧D.ct σ' H'
  | .ret u=>∃ v σ' H',Inv X pins σ' H' s'∧RelV v u∧D.rt v H'
def PE (X:Cx) (e:Expr) (t:TE):Prop :=
  ∀ (pins:List (Addr × Obj)) (s:Shared) (σ:St) (H:Hp) (Q:VK),Inv X pins σ H s→t σ H Q→wpAny (model X.prog X.w) X.A (eval e X.env) (EP X pins σ Q) X.xe s
def PT (X:Cx) (e:Expr) (t:TT):Prop :=
  ∀ (pins:List (Addr × Obj)) (s:Shared) (σ:St) (H:Hp) (Q:Bool→Hp→Prop),Inv X pins σ H s→t σ H Q→wpAny (model X.prog X.w) X.A (isTrue e X.env (eval e X.env)) (TP X pins σ Q) X.xe s
def PW (X:Cx) (e:Expr) (t:TT):Prop :=
  ∀ (whole:Sem Value) (pins:List (Addr × Obj)) (s:Shared) (σ:St) (H:Hp) (Q:Bool→Hp→Prop),Inv X pins σ H s→t σ H Q→wpAny (model X.prog X.w) X.A (isTrue e X.env whole) (TP X pins σ Q) X.xe s
theorem PW.pt {X:Cx} {e:Expr} {t:TT} (h:PW X e t):PT X e t:=h _
def PA (X:Cx) (es:List Expr) (t:TA):Prop :=
  ∀ (pos:Pos) (pins:List (Addr × Obj)) (s:Shared) (σ:St) (H:Hp) (Q:List V→Hp→Prop),Inv X pins σ H s→t σ H Q→wpAny (model X.prog X.w) X.A (spliced (backTo pos (starEach es X.env))) (AP X pins σ Q) X.xe s
def PS (X:Cx) (st:Stmt) (t:TS):Prop :=
  ∀ (pins:List (Addr × Obj)) (s:Shared) (σ:St) (H:Hp) (D:Ends),Inv X pins σ H s→t D σ H→wpAny (model X.prog X.w) X.A (exec st X.env) (SP X pins D) X.xe s
def PSs (X:Cx) (st:List Stmt) (t:TS):Prop :=
  ∀ (pins:List (Addr × Obj)) (s:Shared) (σ:St) (H:Hp) (D:Ends),Inv X pins σ H s→t D σ H→wpAny (model X.prog X.w) X.A (execs st X.env) (SP X pins D) X.xe s
theorem thn {α:Type} {t:Sem α} {Q Q':α→Shared→Prop} {M:Model} {A:Around} {E:Value→Shared→Prop} {s:Shared} (h:wpAny M A t Q E s) (hQ:∀ a s,Q a s→Q' a s):wpAny M A t Q' E s:=wpAny_mono h hQ fun _ _ x=>x
end L2
namespace L2
open PySem PySem.Spec PyProof.Rows
section
variable {X:Cx}
def tVar (i:Nat):TE:=fun σ H Q=>∃ v,σ[i]?=some (some v)∧Q v H
def tC (v:V):TE:=fun _ H Q=>Q v H
theorem pe_var {i:Nat} {x:Str} {pos:Pos} (hN:X.N[i]?=some x) (hv:Vis X.env.scope x) (hd:(x == ("__debug__" : Str))=false:=by decide) (hcd:(x == ("__classdict__" : Str))=false:=by decide):PE X (.Name x pos) (tVar i):=by
  intro pins s σ H Q I h
  obtain ⟨v,e,h⟩:=h
  obtain ⟨m,hn,hl⟩:=I.loc
  obtain ⟨u,r,l⟩:=hl i x v hN e hv
  have fin:EP X pins σ Q u s:=⟨v,H,I,r,h⟩
  rcases l with ⟨hk,hm⟩ | ⟨hk,c,hc,hcell⟩
  · exact wpAny_Name (wpAny_loadName_local I.ok.kind hk hn hm fin) hd
  · rcases hk with hk | hk
    · exact wpAny_Name (wpAny_loadName_cell I.ok.kind hk hc hcell fin) hd
    · exact wpAny_Name (wpAny_loadName_free I.ok.kind hk hc hcell fin hcd) hd
theorem pe_int {i j pos}:PE X (.Constant (.int i) j pos) (tC (.int i)):=fun _ _ _ H _ I h=>wpAny_Constant_int ⟨.int i,H,I.tok _,⟨_,rfl⟩,h⟩
theorem pe_bl {b j pos}:PE X (.Constant (.bool b) j pos) (tC (.bl b)):=fun _ _ _ H _ I h=>Constant_bool ⟨.bl b,H,I,rfl,h⟩
theorem pe_non {j pos}:PE X (.Constant .none j pos) (tC .non):=fun _ _ _ H _ I h=>Constant_none ⟨.non,H,I,rfl,h⟩
theorem pe_str {x j pos}:PE X (.Constant (.str x) j pos) (tC (.str x)):=fun _ _ _ H _ I h=>Calls.Constant_str ⟨.str x,H,I.tok _,⟨_,rfl⟩,h⟩
def Gl (X:Cx) (x:Str):Prop:=X.env.kindOf x=some .globalImplicit
theorem ld_glob {E:Value→Shared→Prop} {pins:List (Addr × Obj)} {s:Shared} {σ:St} {H:Hp} {x:Str} {u:Value} {pos:Pos} {Q:Value→Shared→Prop} (I:Inv X pins σ H s) (hg:Gl X x) (hm:X.mg x=some u) (h:Q u s)
    (hd:(x == ("__debug__" : Str))=false:=by decide):wpAny (model X.prog X.w) X.A (eval (.Name x pos) X.env) Q E s :=
  Calls.Name_function_global I.ok.kind hg (Calls.loadGlobal_global (by rw [I.ok.glob]; exact I.mod.glob.keeps I.bk) hm h) hd
theorem ld_blt {E:Value→Shared→Prop} {pins:List (Addr × Obj)} {s:Shared} {σ:St} {H:Hp} {x:Str} {u:Value} {pos:Pos} {Q:Value→Shared→Prop} (I:Inv X pins σ H s) (hg:Gl X x) (hm:X.mg x=none) (hv:bootBuiltins x=some u) (h:Q u s)
    (hn:x ≠ "__name__" := by decide) (hd:(x == ("__debug__" : Str))=false:=by decide):wpAny (model X.prog X.w) X.A (eval (.Name x pos) X.env) Q E s:=by
  obtain ⟨mb,h1,h2⟩:=I.mod.blt
  exact Calls.Name_function_global I.ok.kind hg (Calls.loadGlobal_builtin (by rw [I.ok.glob]; exact I.mod.glob.keeps I.bk) hm (by rw [I.ok.blt]; exact h1.keeps I.bk) ((h2 x hn).trans hv) h) hd
theorem pe_glob {x:Str} {v:V} {u:Value} {pos:Pos} (hg:Gl X x) (hm:X.mg x=some u) (r:RelV v u) (hd:(x == ("__debug__" : Str))=false:=by decide):PE X (.Name x pos) (tC v) :=
  fun _ _ _ H _ I h=>ld_glob I hg hm ⟨v,H,I,r,h⟩ hd
theorem pe_bltn {x:Str} {v:V} {u:Value} {pos:Pos} (hg:Gl X x) (hm:X.mg x=none) (hv:bootBuiltins x=some u) (r:RelV v u) (hn:x ≠ "__name__" := by decide) (hd:(x == ("__debug__" : Str))=false:=by decide):PE X (.Name x pos) (tC v) :=
  fun _ _ _ H _ I h=>ld_blt I hg hm hv ⟨v,H,I,r,h⟩ hn hd
def t2I (ta tb:TE) (k:Int→Int→Hp→Prop):St→Hp→Prop:=fun σ H=>ta σ H fun x H1=>tb σ H1 fun y H2=>∃ i j,x=.int i∧y=.int j∧k i j H2
def tAdd (ta tb:TE):TE:=fun σ H Q=>t2I ta tb (fun i j H2=>Q (.int (i+j)) H2) σ H
def tSub (ta tb:TE):TE:=fun σ H Q=>t2I ta tb (fun i j H2=>Q (.int (i - j)) H2) σ H
def tMul (ta tb:TE):TE:=fun σ H Q=>t2I ta tb (fun i j H2=>(-(2 ^ 64) < i∧i < 2 ^ 64)∧Q (.int (i*j)) H2) σ H
variable {a b:Expr} {ta tb:TE} {pos:Pos}
def PC (X:Cx) (op:CmpOp) (a b:Expr) (t:TE):Prop :=
  ∀ (pins:List (Addr × Obj)) (s:Shared) (σ:St) (H:Hp) (Q:VK),Inv X pins σ H s→t σ H Q →
    wpAny (model X.prog X.w) X.A (eval a X.env) (fun v s₁=>wpAny (model X.prog X.w) X.A (eval b X.env) (fun u s₂=>wpAny (model X.prog X.w) X.A (compareOp op v u) (EP X pins σ Q) X.xe s₂) X.xe s₁) X.xe s
def tCmp (p:Int→Int→Bool) (ta tb:TE):TE:=fun σ H Q=>t2I ta tb (fun i j H2=>Q (.bl (p i j)) H2) σ H
abbrev tLt:TE→TE→TE:=tCmp fun i j=>decide (i < j)
abbrev tLe:TE→TE→TE:=tCmp fun i j=>decide (i≤j)
abbrev tGt:TE→TE→TE:=tCmp fun i j=>decide (j < i)
abbrev tGe:TE→TE→TE:=tCmp fun i j=>decide (j≤i)
abbrev tEqI:TE→TE→TE:=tCmp fun i j=>decide (i=j)
abbrev tNeI:TE→TE→TE:=tCmp fun i j=>!decide (i=j)
def tIsN (ta:TE):TE:=fun σ H Q=>ta σ H fun x H1=>Q (.bl (decide (x=.non))) H1
def tNotN (ta:TE):TE:=fun σ H Q=>ta σ H fun x H1=>Q (.bl (!decide (x=.non))) H1
def tB (t:TE):TT:=fun σ H Q=>t σ H fun x H1=>∃ c,x=.bl c∧Q c H1
theorem pt_val {e:Expr} {t:TE} (h:PE X e t) (he:∀ whole,isTrue e X.env whole=(do let v ← whole; standAt e.pos; holding [v] (truthy v)):=by intro _; rfl):PT X e (tB t):=by
  intro pins s σ H Q I hw
  refine isTrue_plain (thn (h pins s σ H _ I hw) fun v s1 ⟨x,H1,I1,r1,q1⟩=>?_) (he _)
  obtain ⟨d,rfl,q⟩:=q1
  cases r1
  exact wpAny_truthy_bool ⟨H1,I1,q⟩
variable {tA tB':TT} {rest:List Expr}
def tAnd (t u:TT):TT:=fun σ H Q=>t σ H fun c H1=>if c=true then u σ H1 Q else Q false H1
def tOr (t u:TT):TT:=fun σ H Q=>t σ H fun c H1=>if c=true then Q true H1 else u σ H1 Q
def tNot (t:TT):TT:=fun σ H Q=>t σ H fun c H1=>Q (!c) H1
theorem pw_and1 (ha:PT X a tA):PW X (.BoolOp .And [a] pos) tA:=by
  intro wh pins s σ H Q I h
  refine isTrue_and (thn (ha pins s σ H Q I h) fun c s1 e=>?_)
  cases c with
  | true=>exact isTrue_and_nil e
  | false=>exact e
theorem pw_or1 (ha:PT X a tA):PW X (.BoolOp .Or [a] pos) tA:=by
  intro wh pins s σ H Q I h
  refine isTrue_or (thn (ha pins s σ H Q I h) fun c s1 e=>?_)
  cases c with
  | false=>exact isTrue_or_nil e
  | true=>exact e
theorem pw_and (ha:PT X a tA) (hb:PW X (.BoolOp .And (b::rest) pos) tB'):PW X (.BoolOp .And (a::b::rest) pos) (tAnd tA tB'):=by
  intro wh pins s σ H Q I h
  refine isTrue_and (thn (ha pins s σ H _ I h) fun c s1 ⟨H1,I1,q1⟩=>?_)
  cases c with
  | true=>exact hb wh pins s1 σ H1 Q I1 q1
  | false=>exact ⟨H1,I1,q1⟩
theorem pw_or (ha:PT X a tA) (hb:PW X (.BoolOp .Or (b::rest) pos) tB'):PW X (.BoolOp .Or (a::b::rest) pos) (tOr tA tB'):=by
  intro wh pins s σ H Q I h
  refine isTrue_or (thn (ha pins s σ H _ I h) fun c s1 ⟨H1,I1,q1⟩=>?_)
  cases c with
  | true=>exact ⟨H1,I1,q1⟩
  | false=>exact hb wh pins s1 σ H1 Q I1 q1
theorem pt_not (ha:PT X a tA):PT X (.UnaryOp .Not a pos) (tNot tA):=by
  intro pins s σ H Q I h
  exact isTrue_not (ha pins s σ H (fun c H1=>Q (!c) H1) I h)
def tAndV (ta tb:TE):TE:=fun σ H Q=>ta σ H fun x H1=>∃ c,x=.bl c∧if c=true then tb σ H1 Q else Q (.bl false) H1
def tOrV (ta tb:TE):TE:=fun σ H Q=>ta σ H fun x H1=>∃ c,x=.bl c∧if c=true then Q (.bl true) H1 else tb σ H1 Q
def tNotV (ta:TE):TE:=fun σ H Q=>ta σ H fun x H1=>∃ c,x=.bl c∧Q (.bl (!c)) H1
theorem pe_one {op} {t:TE} (h:PE X a t):PE X (.BoolOp op [a] pos) t:=fun pins s σ H Q I hw=>BoolOp_one (h pins s σ H Q I hw)
theorem pe_and (ha:PE X a ta) (hb:PE X (.BoolOp .And (b::rest) pos) tb):PE X (.BoolOp .And (a::b::rest) pos) (tAndV ta tb):=by
  intro pins s σ H Q I h
  refine BoolOp_and (thn (ha pins s σ H _ I h) fun v s1 ⟨x,H1,I1,r1,q1⟩=>?_)
  obtain ⟨c,rfl,q1⟩:=q1
  cases r1
  refine wpAny_truthy_bool ?_
  cases c with
  | true=>exact hb pins s1 σ H1 Q I1 q1
  | false=>exact ⟨.bl false,H1,I1,rfl,q1⟩
theorem pe_not (ha:PE X a ta):PE X (.UnaryOp .Not a pos) (tNotV ta):=by
  intro pins s σ H Q I h
  refine UnaryOp_ (thn (ha pins s σ H _ I h) fun v s1 ⟨x,H1,I1,r1,q1⟩=>?_)
  obtain ⟨c,rfl,q1⟩:=q1
  cases r1
  exact not_of (wpAny_truthy_bool ⟨.bl (!c),H1,I1,rfl,q1⟩)
def tIf (t:TT) (ta tb:TE):TE:=fun σ H Q=>t σ H fun c H1=>if c=true then ta σ H1 Q else tb σ H1 Q
end
end L2
namespace L2
open PySem PySem.Spec PyProof.Rows
def SqL (K:PySem.W.Frag) (H:Hp) (a:Addr) (xs:List V):Prop :=
  Rd H a (.lst xs) ∨
    ∃ (o:Obj) (its:Array Value) (n:Nat),K.lookup a=some o∧o.cls=.type "list" ∧ o.dict=none∧o.data=.seq its n∧its.size≤sizeLine∧Vals xs its.toList
def SqT (K:PySem.W.Frag) (H:Hp) (a:Addr) (xs:List V):Prop :=
  Rd H a (.tup xs) ∨
    ∃ (o:Obj) (its:Array Value) (n:Nat),K.lookup a=some o∧o.cls=.type "tuple" ∧ o.data=.seq its n∧its.size≤sizeLine∧Vals xs its.toList
def absV:Value→Option V
  | .none=>some .non
  | .bool b=>some (.bl b)
  | .int i _=>some (.int i)
  | .str x _=>some (.str x)
  | .bytes b _=>some (.byt b)
  | .float b _=>some (.flt b)
  | .ref a=>some (.ref a)
  | .type n=>some (.ty n)
  | _=>none
theorem RelV.abs {x:V} {u:Value} (r:RelV x u):absV u=some x:=by
  cases x with
  | non=>cases r; rfl
  | bl _=>cases r; rfl
  | int _=>obtain ⟨t,rfl⟩:=r; rfl
  | str _=>obtain ⟨t,rfl⟩:=r; rfl
  | byt _=>obtain ⟨t,rfl⟩:=r; rfl
  | flt _=>obtain ⟨t,rfl⟩:=r; rfl
  | ref _=>cases r; rfl
  | ty _=>cases r; rfl
theorem RelV.inj {x y:V} {u:Value} (r:RelV x u) (q:RelV y u):x=y:=Option.some.inj (r.abs.symm.trans q.abs)
theorem Vals.inj:∀ {xs ys:List V} {us:List Value},Vals xs us→Vals ys us→xs=ys
  | _,_,_,.nil,.nil=>rfl
  | _,_,_,.cons r t,.cons r' t'=>by rw [r.inj r',Vals.inj t t']
section
variable {X:Cx} {pins:List (Addr × Obj)} {σ:St} {H:Hp} {s:Shared} {a:Addr} {xs ys:List V}
theorem SqL.of {K:PySem.W.Frag} (h:H a=some (.lst xs)):SqL K H a xs:=.inl (.inl h)
theorem SqT.of {K:PySem.W.Frag} (h:H a=some (.tup xs)):SqT K H a xs:=.inl (.inl h)
theorem Inv.list (I:Inv X pins σ H s) (h:SqL X.K H a xs):∃ its:List Value,Vals xs its∧PlainL s.heap a its.toArray∧xs.length≤sizeLine:=by
  rcases h with h | ⟨o,its,n,hk,hc,hd,hs,hz,r⟩
  · obtain ⟨z,its,n,r,e⟩:=h.ok I.hok
    exact ⟨its,r,⟨_,n,e,rfl,rfl,rfl⟩,z⟩
  · refine ⟨its.toList,r,⟨o,n,I.kIn a o hk,hc,hd,by simpa using hs⟩,?_⟩
    have e:=r.length
    simp only [Array.length_toList] at e
    omega
theorem Inv.tuple (I:Inv X pins σ H s) (h:SqT X.K H a xs):∃ its:List Value,Vals xs its∧IsTup s.heap a its.toArray∧xs.length≤sizeLine:=by
  rcases h with h | ⟨o,its,n,hk,hc,hs,hz,r⟩
  · obtain ⟨z,its,r,p,_⟩:=h.ok I.hok
    exact ⟨its,r,p,z⟩
  · refine ⟨its.toList,r,⟨o,I.kIn a o hk,hc,n,by simpa using hs⟩,?_⟩
    have e:=r.length
    simp only [Array.length_toList] at e
    omega
theorem Inv.list_inj (I:Inv X pins σ H s) (h:SqL X.K H a xs) (h':SqL X.K H a ys):xs=ys:=by
  obtain ⟨its,r,⟨o,n,e,_,_,d⟩,_⟩:=I.list h
  obtain ⟨its',r',⟨o',n',e',_,_,d'⟩,_⟩:=I.list h'
  rw [e] at e'; cases e'
  rw [d] at d'
  injection d' with d1 _
  have:its=its':=by simpa using congrArg Array.toList d1
  subst this
  exact r.inj r'
theorem Inv.tuple_inj (I:Inv X pins σ H s) (h:SqT X.K H a xs) (h':SqT X.K H a ys):xs=ys:=by
  obtain ⟨its,r,⟨o,e,_,n,d⟩,_⟩:=I.tuple h
  obtain ⟨its',r',⟨o',e',_,n',d'⟩,_⟩:=I.tuple h'
  rw [e] at e'; cases e'
  rw [d] at d'
  injection d' with d1 _
  have:its=its':=by simpa using congrArg Array.toList d1
  subst this
  exact r.inj r'
end
abbrev Cx.wish (X:Cx) (E:Value→Shared→Prop):Cx:={ X with xe:=E }
abbrev Cx.nox (X:Cx):Cx:=X.wish fun _ _=>False
theorem Cx.Ok.wish {X:Cx} (ok:X.Ok) (E:Value→Shared→Prop):(X.wish E).Ok :=
  ⟨ok.mod,ok.kind,ok.glob,ok.blt,ok.above,ok.inj,ok.has,ok.cab,ok.hd,ok.frames,ok.stk,ok.exf,ok.bs,ok.bsz,ok.noex,ok.exfs,ok.funs,ok.frf⟩
theorem Cx.Ok.unwish {X:Cx} {E:Value→Shared→Prop} (ok:(X.wish E).Ok):X.Ok :=
  ⟨ok.mod,ok.kind,ok.glob,ok.blt,ok.above,ok.inj,ok.has,ok.cab,ok.hd,ok.frames,ok.stk,ok.exf,ok.bs,ok.bsz,ok.noex,ok.exfs,ok.funs,ok.frf⟩
section
variable {X:Cx} {pins:List (Addr × Obj)} {σ:St} {H:Hp} {s:Shared} {E:Value→Shared→Prop}
theorem Inv.wish (I:Inv X pins σ H s) (E:Value→Shared→Prop):Inv (X.wish E) pins σ H s:=⟨I.ok.wish E,I.os,I.bare,I.base,I.loc,I.cell,I.free,I.freeC,I.pin,I.hok,I.len⟩
theorem Inv.unwish (I:Inv (X.wish E) pins σ H s):Inv X pins σ H s:=⟨I.ok.unwish,I.os,I.bare,I.base,I.loc,I.cell,I.free,I.freeC,I.pin,I.hok,I.len⟩
theorem SP.unwish {D:Ends} {f:Flow} {s':Shared} (h:SP (X.wish E) pins D f s'):SP X pins D f s':=by
  cases f with
  | next=>obtain ⟨σ',H',I,q⟩:=h; exact ⟨σ',H',I.unwish,q⟩
  | brk=>obtain ⟨σ',H',I,q⟩:=h; exact ⟨σ',H',I.unwish,q⟩
  | cont=>obtain ⟨σ',H',I,q⟩:=h; exact ⟨σ',H',I.unwish,q⟩
  | ret u=>obtain ⟨v,σ',H',I,r,q⟩:=h; exact ⟨v,σ',H',I.unwish,r,q⟩
theorem PSs.nox {st:List Stmt} {t:TS} (h:PSs X.nox st t):PSs X st t:=fun pins s σ H D I hw =>
  wpAny_mono (h pins s σ H D (I.wish _) hw) (fun _ _ q=>q.unwish) fun _ _ z=>False.elim z
end
section
variable {X:Cx} {st:Stmt} {rest:List Stmt} {t u:TS} {e:Expr} {te:TE} {pos:Pos}
def tNext:TS:=fun D σ H=>D.nx σ H
def tSeq (t u:TS):TS:=fun D σ H=>t { D with nx:=u D } σ H
theorem pss_nil:PSs X [] tNext:=fun _ _ σ H _ I h=>wpAny_execs_nil ⟨σ,H,I,h⟩
theorem pss_cons (h1:PS X st t) (h2:PSs X rest u):PSs X (st::rest) (tSeq t u):=by
  intro pins s σ H D I h
  refine wpAny_execs_cons (thn (h1 pins s σ H { D with nx:=u D } I h) fun f s1 q=>?_)
  cases f with
  | next =>
    obtain ⟨σ',H',I',q⟩:=q
    exact h2 pins s1 σ' H' D I' q
  | ret v=>exact q
  | brk=>exact q
  | cont=>exact q
theorem pss_one (h1:PS X st t):PSs X [st] t:=by
  intro pins s σ H D I h
  refine wpAny_execs_cons (thn (h1 pins s σ H D I h) fun f s1 q=>?_)
  cases f with
  | next=>exact wpAny_execs_nil q
  | ret v=>exact q
  | brk=>exact q
  | cont=>exact q
def tBreak:TS:=fun D σ H=>D.bk σ H
def tCont:TS:=fun D σ H=>D.ct σ H
theorem Inv.quiet {pins:List (Addr × Obj)} {σ:St} {H:Hp} {s:Shared} (I:Inv X pins σ H s):interactive X.env=false:=by simp [interactive,I.ok.kind]
def tDrop (te:TE):TS:=fun D σ H=>te σ H fun _ H1=>D.nx σ H1
theorem ps_expr (he:PE X e te) (hs:swapsWith e none pos.line X.env=pure false:=by rfl):PS X (.Expr e pos) (tDrop te):=by
  intro pins s σ H D I h
  exact wpAny_Expr_any (thn (he pins s σ H _ I h) fun v s1 ⟨x,H1,I1,r1,q1⟩=>⟨σ,H1,I1,q1⟩) I.quiet hs
def tRet (te:TE):TS:=fun D σ H=>te σ H D.rt
theorem ps_ret (he:PE X e te):PS X (.Return (some e) pos) (tRet te):=by
  intro pins s σ H D I h
  exact wpAny_Return_some (thn (he pins s σ H _ I h) fun v s1 ⟨x,H1,I1,r1,q1⟩=>⟨x,σ,H1,I1,r1,q1⟩)
def tRetN:TS:=fun D _ H=>D.rt .non H
def tIfS (c:TT) (t u:TS):TS:=fun D σ H=>c σ H fun b H1=>if b=true then t D σ H1 else u D σ H1
theorem ps_if {c:Expr} {a b:List Stmt} {tc:TT} (hc:PT X c tc) (ha:PSs X a t) (hb:PSs X b u):PS X (.If c a b pos) (tIfS tc t u):=by
  intro pins s σ H D I h
  refine wpAny_If (thn (hc pins s σ H _ I h) fun d s1 ⟨H1,I1,q1⟩=>?_)
  cases d with
  | true=>exact ha pins s1 σ H1 D I1 q1
  | false=>exact hb pins s1 σ H1 D I1 q1
def tNever:TS:=fun _ _ _=>False
theorem pss_never {sts:List Stmt}:PSs X sts tNever:=fun _ _ _ _ _ _ h=>h.elim
end
abbrev TG:=V→St→Hp→(St→Hp→Prop)→Prop
abbrev TGs:=List V→St→Hp→(St→Hp→Prop)→Prop
def PG (X:Cx) (target:Expr) (t:TG):Prop :=
  ∀ (pins:List (Addr × Obj)) (s:Shared) (σ:St) (H:Hp) (v:V) (u:Value) (Q:St→Hp→Prop),Inv X pins σ H s→RelV v u→t v σ H Q →
    wpAny (model X.prog X.w) X.A (assign target X.env u) (fun _ s'=>∃ σ' H',Inv X pins σ' H' s'∧Q σ' H') X.xe s
def PGs (X:Cx) (ts:List Expr) (t:TGs):Prop :=
  ∀ (pins:List (Addr × Obj)) (s:Shared) (σ:St) (H:Hp) (vs:List V) (us:List Value) (Q:St→Hp→Prop),Inv X pins σ H s→Vals vs us→t vs σ H Q →
    wpAny (model X.prog X.w) X.A (assignInOrder ((assignEach ts X.env).map (·.2)) us) (fun _ s'=>∃ σ' H',Inv X pins σ' H' s'∧Q σ' H') X.xe s
abbrev TSet:=V→V→V→Hp→(Hp→Prop)→Prop
def PSet (X:Cx) (t:TSet):Prop :=
  ∀ (pins:List (Addr × Obj)) (s:Shared) (σ:St) (H:Hp) (o i v:V) (ov iv u:Value) (Q:Hp→Prop),Inv X pins σ H s→RelV o ov→RelV i iv→RelV v u→t o i v H Q →
    wpAny (model X.prog X.w) X.A (setItem ov iv u) (fun _ s'=>∃ H',Inv X pins σ H' s'∧Q H') X.xe s
abbrev TIp:=V→V→Hp→VK→Prop
def PIp (X:Cx) (op:Operator) (t:TIp):Prop :=
  ∀ (pins:List (Addr × Obj)) (s:Shared) (σ:St) (H:Hp) (x y:V) (v u:Value) (Q:VK),Inv X pins σ H s→RelV x v→RelV y u→t x y H Q →
    wpAny (model X.prog X.w) X.A (inplaceOp op v u) (EP X pins σ Q) X.xe s
section
variable {X:Cx} {pos:Pos}
def gName (i:Nat):TG:=fun v σ H Q=>Q (σ.set i (some v)) H
theorem pg_name {i:Nat} {x:Str} (hN:X.N.Nodup) (hi:X.N[i]?=some x) (hx:Loc X.env.scope x) (hf:X.fn x=true∨X.env.scope.names.lookup x=some .local:=by first | exact .inl rfl | exact .inr rfl | assumption):PG X (.Name x pos) (gName i):=by
  intro pins s σ H v u Q I r h
  exact wpAny_assign_Name (store_ok I hN hi hx r (fun s' I'=>⟨_,H,I',h⟩) hf)
def gNil:TGs:=fun vs σ H Q=>vs=[]∧Q σ H
def gCons (t:TG) (u:TGs):TGs:=fun vs σ H Q=>∃ v r,vs=v::r∧t v σ H fun σ' H'=>u r σ' H' Q
def gTup (K:PySem.W.Frag) (n:Nat) (t:TGs):TG:=fun v σ H Q=>∃ a xs,v=.ref a∧SqT K H a xs∧xs.length=n∧t xs σ H Q
def gSub (to ti:TE) (t:TSet):TG:=fun v σ H Q=>to σ H fun o H1=>ti σ H1 fun i H2=>t o i v H2 fun H3=>Q σ H3
theorem pg_sub {o i:Expr} {to ti:TE} {t:TSet} (ho:PE X o to) (hi:PE X i ti) (hs:PSet X t)
    (ha:∀ v,assign (.Subscript o i pos) X.env v=(do
      let ov ← holding [v] (eval o X.env)
      let iv ← holding [v,ov] (eval i X.env)
      standAt pos
      holding [v,ov,iv] (setItem ov iv v)
      release [v,ov,iv] []):=by intro _; rfl):PG X (.Subscript o i pos) (gSub to ti t):=by
  intro pins s σ H v u Q I r h
  rw [ha]
  refine wpAny_bind (wpAny_holding (thn (ho pins s σ H _ I h) fun ov s1 ⟨x,H1,I1,r1,q1⟩=>?_))
  refine wpAny_bind (wpAny_holding (thn (hi pins s1 σ H1 _ I1 q1) fun iv s2 ⟨y,H2,I2,r2,q2⟩=>?_))
  refine wpAny_bind (wpAny_standAt (wpAny_bind (wpAny_holding (thn (hs pins s2 σ H2 x y v ov iv u _ I2 r1 r2 r q2) fun _ s3 ⟨H3,I3,q3⟩=>?_))))
  exact wpAny_release ⟨σ,H3,I3,q3⟩
def tAsg (te:TE) (g:TG):TS:=fun D σ H=>te σ H fun x H1=>g x σ H1 D.nx
theorem ps_asg {tg e:Expr} {te:TE} {g:TG} (he:PE X e te) (hg:PG X tg g) (hs:swapsWithSole [tg] e pos.line X.env=pure false:=by rfl) (hw:swappedStores [tg] e X.env=pure none:=by rfl)
    (h1:(assignEach [tg] X.env).map (·.2)=[assign tg X.env]:=by rfl):PS X (.Assign [tg] e pos) (tAsg te g):=by
  intro pins s σ H D I h
  refine wpAny_Assign_stores (thn (he pins s σ H _ I h) fun v s1 ⟨x,H1,I1,r1,q1⟩=>?_) hs hw
  rw [h1]
  exact thn (hg pins s1 σ H1 x v _ I1 r1 q1) fun _ s2 q=>q
theorem ps_set {i:Nat} {x:Str} {e:Expr} {te:TE} {pos':Pos} (hN:X.N.Nodup) (hi:X.N[i]?=some x) (hx:Loc X.env.scope x) (he:PE X e te) (hs:swapsWith e (some (.Name x pos')) pos.line X.env=pure false:=by rfl) (hf:X.fn x=true∨X.env.scope.names.lookup x=some .local:=by first | exact .inl rfl | exact .inr rfl | assumption) :
    PS X (.Assign [.Name x pos'] e pos) (tAsg te (gName i)):=by
  intro pins s σ H D I h
  refine wpAny_Assign_Name (thn (he pins s σ H _ I h) fun v s1 ⟨y,H1,I1,r1,q1⟩=>?_) hs
  exact store_ok I1 hN hi hx r1 (fun s2 I2=>⟨_,H1,I2,q1⟩) hf
def tPar (i j:Nat) (ta:TA):TS:=fun D σ H=>ta σ H fun vs H1=>∃ v w,vs=[v,w]∧D.nx ((σ.set i (some v)).set j (some w)) H1
def tAug (i:Nat) (te:TE) (ti:TIp):TS:=fun D σ H=>∃ x,σ[i]?=some (some x)∧te σ H fun y H1=>ti x y H1 fun z H2=>D.nx (σ.set i (some z)) H2
def tAugS (to ti te:TE) (tget:V→V→Hp→VK→Prop) (tip:TIp) (tset:TSet):TS:=fun D σ H=>to σ H fun o H1=>ti σ H1 fun i H2=>tget o i H2 fun x H3=>te σ H3 fun y H4=>tip x y H4 fun z H5=>tset o i z H5 fun H6=>D.nx σ H6
def PGet (X:Cx) (t:V→V→Hp→VK→Prop):Prop :=
  ∀ (pins:List (Addr × Obj)) (s:Shared) (σ:St) (H:Hp) (o i:V) (ov iv:Value) (Q:VK),Inv X pins σ H s→RelV o ov→RelV i iv→t o i H Q →
    wpAny (model X.prog X.w) X.A (getItem ov iv) (EP X pins σ Q) X.xe s
def ipI (f:Int→Int→Int):TIp:=fun x y H Q=>∃ i j,x=.int i∧y=.int j∧Q (.int (f i j)) H
end
section
variable {X:Cx} {pos:Pos}
def tWhile (c:TT) (tb:TS):TS:=fun D σ H=>∃ W:Nat→St→Hp→Prop,(∃ m,W m σ H)∧∀ m σ H,W m σ H →
  c σ H fun b H1=>if b=true then ∃ N:St→Hp→Prop,(∀ σ' H',N σ' H'→∃ m',m' < m∧W m' σ' H')∧tb { D with nx:=N,ct:=N,bk:=D.nx } σ H1 else D.nx σ H1
theorem ps_while {c:Expr} {body:List Stmt} {tc:TT} {tb:TS} (hp:PassesOwn (model X.prog X.w) X.A X.env X.xe) (hc:PT X c tc) (hb:PSs X body tb):PS X (.While c body [] pos) (tWhile tc tb):=by
  intro pins s σ H D I h
  obtain ⟨W,⟨m0,w0⟩,turn⟩:=h
  refine wpAny_While (codeAny_whileLoop (fun n s'=>∃ σ' H',Inv X pins σ' H' s'∧W n σ' H') ?_ m0 ⟨σ,H,I,w0⟩)
  rintro n s1 ⟨σ1,H1,I1,w1⟩
  refine wpAny_passesOwn hp (thn (hc pins s1 σ1 H1 _ I1 (turn n σ1 H1 w1)) fun b s2 ⟨H2,I2,q2⟩=>?_)
  cases b with
  | true =>
    obtain ⟨N,hN,q2⟩:=q2
    rw [if_pos rfl]
    refine wpAny_passesOwn hp (thn (hb pins s2 σ1 H2 _ I2 q2) fun f s3 q3=>?_)
    cases f with
    | next =>
      obtain ⟨σ3,H3,I3,n3⟩:=q3
      obtain ⟨m',hm,w3⟩:=hN σ3 H3 n3
      exact ⟨m',hm,σ3,H3,I3,w3⟩
    | cont =>
      obtain ⟨σ3,H3,I3,n3⟩:=q3
      obtain ⟨m',hm,w3⟩:=hN σ3 H3 n3
      exact ⟨m',hm,σ3,H3,I3,w3⟩
    | brk=>exact q3
    | ret v=>exact q3
  | false =>
    rw [if_neg Bool.false_ne_true]
    exact wpAny_execs_nil ⟨σ1,H2,I2,q2⟩
end
structure It where
  go:Nat→Hp→Prop
  yld:Nat→Hp→V→Hp→Prop
  stop:Nat→Hp→Prop
def FpOk (X:Cx) (pins:List (Addr × Obj)) (H:Hp) (b:Addr):Prop :=
  H b=none∧b ≠ X.env.locals∧b ∉ X.fs∧(b ∈ X.ex∨X.s₀.heap.objs.size≤b)∧(∀ x c,X.env.cells.lookup x=some c→c ≠ b)∧∀ p ∈ X.pn++pins,p.1 ≠ b
theorem Inv.fpOk {X:Cx} {pins:List (Addr × Obj)} {σ:St} {H H':Hp} {s:Shared} {b:Addr} (I:Inv X pins σ H s) (hb:s.heap.objs.size≤b) (hn:H' b=none):FpOk X pins H' b:=by
  refine ⟨hn,Nat.ne_of_gt (Nat.lt_of_lt_of_le I.lt hb),I.nofs hb,.inr (Nat.le_trans I.sz hb),fun x c e z=>?_,fun p hp z=>?_⟩
  · obtain ⟨v,q⟩:=I.cell x c e
    exact absurd (Nat.lt_of_lt_of_le q.lt (by rw [z]; exact hb)) (Nat.lt_irrefl _)
  · exact absurd (Nat.lt_of_lt_of_le (Heap.lt_size (I.pin p hp).1) (by rw [z]; exact hb)) (Nat.lt_irrefl _)
structure Turn (P:Program) (w:World) (K:PySem.W.Frag) (tg:Expr) (J:It) (fp:List Addr) (it:Addr) (tn:Nat→Heap→Prop):Prop where
  mem:it ∈ fp
  obj:∀ i h,tn i h→∀ b ∈ fp,∃ o,h.get? b=some o∧∀ v,o.data ≠ .cell v
  keep:∀ i h h',tn i h→(∀ b ∈ fp,∀ o,h.get? b=some o→h'.get? b=some o)→tn i h'
  item:∀ (X:Cx),X.prog=P→X.w=w→X.K=K→X.calm=true→∀ (i:Nat) (pins:List (Addr × Obj)) (s:Shared) (σ:St) (H:Hp) (E:Value→Shared→Prop),Inv X pins σ H s→(∀ b ∈ fp,FpOk X pins H b)→tn i s.heap→J.go i H →
    wpAny (model P w) X.A (pyNext (.ref it)) (fun r s1=>∃ u,r=some u ∧
      wpAny (model P w) X.A (letOwnedTupleGo tg (.ref it) u) (fun _ s2=>∃ x H',Inv X pins σ H' s2∧RelV x u∧J.yld i H x H'∧tn (i+1) s2.heap∧∀ b ∈ fp,H' b=none) E s1) E s
  done:∀ (X:Cx),X.prog=P→X.w=w→X.K=K→X.calm=true→∀ (i:Nat) (pins:List (Addr × Obj)) (s:Shared) (σ:St) (H:Hp) (E:Value→Shared→Prop),Inv X pins σ H s→(∀ b ∈ fp,FpOk X pins H b)→tn i s.heap→J.stop i H →
    wpAny (model P w) X.A (pyNext (.ref it)) (fun r s1=>r=none∧Inv X pins σ H s1) E s
  self:∀ (A:Around) (i:Nat) (s:Shared) (Q:Value→Shared→Prop) (E:Value→Shared→Prop),tn i s.heap→Q (.ref it) s→wpAny (model P w) A (pyIter (.ref it)) Q E s
abbrev TI:=St→Hp→(It→Hp→Prop)→Prop
def PIE (X:Cx) (pins:List (Addr × Obj)) (σ:St) (tg:Expr) (R:It→Hp→Prop) (itv:Value) (s2:Shared):Prop :=
  ∃ (it:Addr) (fp:List Addr) (tn:Nat→Heap→Prop) (J:It) (H':Hp),itv=.ref it∧Inv X pins σ H' s2∧Turn X.prog X.w X.K tg J fp it tn∧tn 0 s2.heap∧(∀ b ∈ fp,FpOk X pins H' b)∧R J H'
def PI (X:Cx) (tg iter:Expr) (wi:TI):Prop :=
  ∀ (pins:List (Addr × Obj)) (s:Shared) (σ:St) (H:Hp) (R:It→Hp→Prop),Inv X pins σ H s→wi σ H R →
    wpAny (model X.prog X.w) X.A (eval iter X.env) (fun v s1=>wpAny (model X.prog X.w) X.A (pyIter v) (PIE X pins σ tg R) X.xe s1) X.xe s
theorem go_of {M:Model} {A:Around} {E:Value→Shared→Prop} {s:Shared} {tg:Expr} {it:Addr} {u:Value} {o:Obj} {n:String} {vs:Array Value} {Q:Unit→Shared→Prop} (ho:s.heap.get? it=some o) (hc:o.cls=.type n) (hd:o.data=.fields vs)
    (hn:["enumerate", "zip", "dict_itemiterator", "dict_reverseitemiterator", "odict_iterator", "itertools.zip_longest", "itertools.pairwise"].contains n=false) (hQ:Q () s):wpAny M A (letOwnedTupleGo tg (.ref it) u) Q E s:=by
  unfold letOwnedTupleGo
  cases tg <;> first
    | exact wpAny_pure hQ
    | (cases u <;> first
        | exact wpAny_pure hQ
        | (refine wpAny_bind (wpAny_load ho ?_)
           rw [hc,hd]
           show wpAny M A (if (["enumerate", "zip", "dict_itemiterator", "dict_reverseitemiterator", "odict_iterator", "itertools.zip_longest", "itertools.pairwise"].contains n && vs[0]? == some (rawInt _))=true then _ else _) Q E s
           rw [if_neg (by intro h; rw [hn,Bool.false_and] at h; cases h)]
           exact wpAny_pure hQ))
def Itl (K:PySem.W.Frag) (a:Addr):It :=
  ⟨fun i H=>∃ xs x,SqL K H a xs∧xs[i]?=some x,fun i H x H'=>H'=H∧∀ xs,SqL K H a xs→xs[i]?=some x,fun i H=>∃ xs,SqL K H a xs∧xs.length≤i⟩
def Itt (K:PySem.W.Frag) (a:Addr):It :=
  ⟨fun i H=>∃ xs x,SqT K H a xs∧xs[i]?=some x,fun i H x H'=>H'=H∧∀ xs,SqT K H a xs→xs[i]?=some x,fun i H=>∃ xs,SqT K H a xs∧xs.length≤i⟩
def Itr (lo:Int) (n:Nat):It:=⟨fun i _=>i < n,fun i H x H'=>H'=H∧x=.int (lo+i),fun i _=>n≤i⟩
theorem turn_list {P:Program} {w:World} {K:PySem.W.Frag} {tg:Expr} (a it:Addr):Turn P w K tg (Itl K a) [it] it (fun i h=>h.IsListIter it a i) where
  mem:=by simp
  obj:=fun i h st b hb=>by
    have e:b=it:=by simpa using hb
    subst e
    obtain ⟨o,e,c,d⟩:=st
    exact ⟨o,e,fun v z=>by rw [d] at z; cases z⟩
  keep:=fun i h h' st k=>st.at fun o e=>k it (by simp) o e
  item:=by
    intro X hP hw hK hc i pins s σ H E I hf st hg
    subst hP hw hK
    obtain ⟨xs,x,hq,hx⟩:=hg
    obtain ⟨its,rv,p,hz⟩:=I.list hq
    obtain ⟨u,hu,ru⟩:=rv.get hx
    obtain ⟨f0,f1,f2,f3,f4,f5⟩:=hf it (by simp)
    refine wpAny_pyNext_list_item st p.isList (x:=u) (by simpa using hu) fun h' st' sb=>?_
    have I1:Inv X pins σ H { s with heap:=h' }:=I.turned (t':=s.toks) (fun b o hb e=>(sb.2 b hb).trans e) f0 f1 f3 f4 f5
    obtain ⟨o,e,c,d⟩:=id st'
    exact ⟨u,rfl,go_of (s:={ s with heap:=h' }) e c d (by decide) ⟨x,H,I1,ru,⟨rfl,fun ys hy=>by rw [I.list_inj hy hq]; exact hx⟩,st',fun b hb=>(hf b hb).1⟩⟩
  done:=by
    intro X hP hw hK hc i pins s σ H E I hf st hg
    subst hP hw hK
    obtain ⟨xs,hq,hx⟩:=hg
    obtain ⟨its,rv,p,hz⟩:=I.list hq
    obtain ⟨f0,f1,f2,f3,f4,f5⟩:=hf it (by simp)
    have hl:=rv.length
    exact wpAny_pyNext_list_end (I.ok.hd hc) st p.isList (by simp; omega) fun h' eb=>⟨rfl,I.turned (t':=s.toks) (fun b o hb e=>eb b o hb e) f0 f1 f3 f4 f5⟩
  self:=fun _ _ _ _ _ st h=>wpAny_pyIter_listiter st h
theorem turn_tuple {P:Program} {w:World} {K:PySem.W.Frag} {tg:Expr} (a it:Addr):Turn P w K tg (Itt K a) [it] it (fun i h=>h.IsTupleIter it a i) where
  mem:=by simp
  obj:=fun i h st b hb=>by
    have e:b=it:=by simpa using hb
    subst e
    obtain ⟨o,e,c,d⟩:=st
    exact ⟨o,e,fun v z=>by rw [d] at z; cases z⟩
  keep:=fun i h h' st k=>st.at fun o e=>k it (by simp) o e
  item:=by
    intro X hP hw hK hc i pins s σ H E I hf st hg
    subst hP hw hK
    obtain ⟨xs,x,hq,hx⟩:=hg
    obtain ⟨its,rv,p,hz⟩:=I.tuple hq
    obtain ⟨u,hu,ru⟩:=rv.get hx
    obtain ⟨f0,f1,f2,f3,f4,f5⟩:=hf it (by simp)
    refine wpAny_pyNext_tuple_item st (show s.heap.IsTuple a its.toArray from p) (x:=u) (by simpa using hu) fun h' st' sb=>?_
    have I1:Inv X pins σ H { s with heap:=h' }:=I.turned (t':=s.toks) (fun b o hb e=>(sb.2 b hb).trans e) f0 f1 f3 f4 f5
    obtain ⟨o,e,c,d⟩:=id st'
    exact ⟨u,rfl,go_of (s:={ s with heap:=h' }) e c d (by decide) ⟨x,H,I1,ru,⟨rfl,fun ys hy=>by rw [I.tuple_inj hy hq]; exact hx⟩,st',fun b hb=>(hf b hb).1⟩⟩
  done:=by
    intro X hP hw hK hc i pins s σ H E I hf st hg
    subst hP hw hK
    obtain ⟨xs,hq,hx⟩:=hg
    obtain ⟨its,rv,p,hz⟩:=I.tuple hq
    obtain ⟨f0,f1,f2,f3,f4,f5⟩:=hf it (by simp)
    have hl:=rv.length
    exact wpAny_pyNext_tuple_end (I.ok.hd hc) st (show s.heap.IsTuple a its.toArray from p) (by simp; omega) fun h' eb=>⟨rfl,I.turned (t':=s.toks) (fun b o hb e=>eb b o hb e) f0 f1 f3 f4 f5⟩
  self:=fun _ _ _ _ _ st h=>wpAny_pyIter_tupleiter st h
theorem turn_range {P:Program} {w:World} {K:PySem.W.Frag} {tg:Expr} (it:Addr) (lo:Int) (n:Nat):Turn P w K tg (Itr lo n) [it] it (fun i h=>IsRangeIter h it (lo+(i:Nat)*1) ((n:Int) - (i:Nat)) 1) where
  mem:=by simp
  obj:=fun i h st b hb=>by
    have e:b=it:=by simpa using hb
    subst e
    exact ⟨_,st,fun v z=>by
      have z':Data.fields _=Data.cell v:=z
      cases z'⟩
  keep:=fun i h h' st k=>k it (by simp) _ st
  item:=by
    intro X hP hw hK hc i pins s σ H E I hf st hg
    subst hP hw hK
    obtain ⟨f0,f1,f2,f3,f4,f5⟩:=hf it (by simp)
    have W:=Walks.range (prog:=X.prog) (w:=X.w) (I.ok.hd hc) it lo 1 n
    refine W.item i s _ _ hg st fun v h' tk hv st' kk=>?_
    obtain ⟨t,rfl⟩:=hv
    have I1:Inv X pins σ H { s with heap:=h',toks:=tk }:=I.turned (fun b o hb e=>kk b o (by simpa using hb) e) f0 f1 f3 f4 f5
    refine ⟨_,rfl,go_of (s:={ s with heap:=h',toks:=tk }) (n := "range_iterator") st' rfl rfl (by decide) ⟨.int (lo+i),H,I1,⟨t,?_⟩,⟨rfl,rfl⟩,st',fun b hb=>(hf b hb).1⟩⟩
    rw [Int.mul_one]
  done:=by
    intro X hP hw hK hc i pins s σ H E I hf st hg
    subst hP hw hK
    obtain ⟨f0,f1,f2,f3,f4,f5⟩:=hf it (by simp)
    exact wpAny_pyNext_range_end (I.ok.hd hc) st (by have:n≤i:=hg; omega) fun h' eb=>⟨rfl,I.turned (t':=s.toks) (fun b o hb e=>eb b o hb e) f0 f1 f3 f4 f5⟩
  self:=fun _ _ _ _ _ st h=>wpAny_pyIter_rangeiter st h
end L2
namespace L2
open PySem PySem.Spec PyProof.Rows
section
variable {X:Cx} {tg:Expr}
def iList (K:PySem.W.Frag) (tl:TE):TI:=fun σ H R=>tl σ H fun x H1=>∃ a,x=.ref a∧(∃ xs,SqL K H1 a xs)∧R (Itl K a) H1
def iTup (K:PySem.W.Frag) (tl:TE):TI:=fun σ H R=>tl σ H fun x H1=>∃ a,x=.ref a∧(∃ xs,SqT K H1 a xs)∧R (Itt K a) H1
theorem pi_list {l:Expr} {tl:TE} (hl:PE X l tl):PI X tg l (iList X.K tl):=by
  intro pins s σ H R I h
  refine thn (hl pins s σ H _ I h) fun v s1 ⟨x,H1,I1,r1,q1⟩=>?_
  obtain ⟨a,e,⟨xs,hq⟩,q⟩:=q1
  subst e
  cases r1
  obtain ⟨its,rv,p,hz⟩:=I1.list hq
  refine wpAny_pyIter_list p.isList ?_
  refine ⟨s1.heap.objs.size,[s1.heap.objs.size],_,_,H1,rfl,I1.kept (t':=s1.toks) fun b o e=>Heap.get?_push_of_some _ e,turn_list a _,⟨_,Heap.get?_push_size _ rfl,rfl,rfl⟩,fun b hb=>?_,q⟩
  have e:b=s1.heap.objs.size:=by simpa using hb
  subst e
  exact I1.fpOk (Nat.le_refl _) (I1.hok.fresh (Nat.le_refl _))
theorem pi_tup {l:Expr} {tl:TE} (hl:PE X l tl):PI X tg l (iTup X.K tl):=by
  intro pins s σ H R I h
  refine thn (hl pins s σ H _ I h) fun v s1 ⟨x,H1,I1,r1,q1⟩=>?_
  obtain ⟨a,e,⟨xs,hq⟩,q⟩:=q1
  subst e
  cases r1
  obtain ⟨its,rv,p,hz⟩:=I1.tuple hq
  refine wpAny_pyIter_tuple (show s1.heap.IsTuple a its.toArray from p) ?_
  refine ⟨s1.heap.objs.size,[s1.heap.objs.size],_,_,H1,rfl,I1.kept (t':=s1.toks) fun b o e=>Heap.get?_push_of_some _ e,turn_tuple a _,⟨_,Heap.get?_push_size _ rfl,rfl,rfl⟩,fun b hb=>?_,q⟩
  have e:b=s1.heap.objs.size:=by simpa using hb
  subst e
  exact I1.fpOk (Nat.le_refl _) (I1.hok.fresh (Nat.le_refl _))
theorem range_it {pins:List (Addr × Obj)} {σ:St} {H:Hp} {s:Shared} {R:It→Hp→Prop} {E:Value→Shared→Prop} {lo hi:Int} {t u v:Tok} {tk:Nat} (I:Inv X pins σ H s) (h1:-(2 ^ 62)≤lo) (h2:lo < 2 ^ 62) (h3:-(2 ^ 62)≤hi) (h4:hi < 2 ^ 62)
    (q:R (Itr lo (hi - lo).toNat) H):wpAny (model X.prog X.w) X.A (pyIter (.ref s.heap.objs.size)) (PIE X pins σ tg R) E { s with heap:=s.heap.push { cls:=.type "range", data:=.fields #[.int lo t,.int hi u,.int 1 v] },toks:=tk }:=by
  refine wpAny_pyIter_range (IsRange.new ..) (small_one h1 h2 h3 h4) ?_
  have I1:Inv X pins σ H { s with heap:=s.heap.push { cls:=.type "range", data:=.fields #[.int lo t,.int hi u,.int 1 v] },toks:=tk }:=I.kept fun b o e=>Heap.get?_push_of_some _ e
  refine ⟨(s.heap.push { cls:=.type "range", data:=.fields #[.int lo t,.int hi u,.int 1 v] }).objs.size,[(s.heap.push { cls:=.type "range", data:=.fields #[.int lo t,.int hi u,.int 1 v] }).objs.size],_,_,H,rfl,
    I1.kept (t':=tk) fun b o e=>Heap.get?_push_of_some _ e,turn_range _ lo (hi - lo).toNat,?_,fun b hb=>?_,q⟩
  · have e1:lo+((0:Nat):Int)*1=lo:=by simp
    have e2:(((hi - lo).toNat:Nat):Int) - ((0:Nat):Int)=Builtin.Range.rangeSize lo hi 1:=by rw [rangeSize_one]; split <;> omega
    show IsRangeIter _ _ (lo+((0:Nat):Int)*1) ((((hi - lo).toNat:Nat):Int) - ((0:Nat):Int)) 1
    rw [e1,e2]
    exact Heap.get?_push_size _ rfl
  · have e:b=(s.heap.push { cls:=.type "range", data:=.fields #[.int lo t,.int hi u,.int 1 v] }).objs.size:=by simpa using hb
    subst e
    exact I1.fpOk (Nat.le_refl _) (I1.hok.fresh (Nat.le_refl _))
def iRng1 (ta:TA):TI:=fun σ H R=>ta σ H fun vs H1=>∃ j:Int,vs=[.int j]∧-(2 ^ 62)≤j∧j < 2 ^ 62∧R (Itr 0 j.toNat) H1
def iRng2 (ta:TA):TI:=fun σ H R=>ta σ H fun vs H1=>∃ i j:Int,vs=[.int i,.int j]∧(-(2 ^ 62)≤i∧i < 2 ^ 62∧-(2 ^ 62)≤j∧j < 2 ^ 62)∧R (Itr i (j - i).toNat) H1
theorem pi_range1 {a:Expr} {ta:TA} {p pos:Pos} (hg:Gl X "range") (hm:X.mg "range" = none) (ha:PA X [a] ta) (hs:starEach [a] X.env=[(false,eval a X.env)]:=by rfl):PI X tg (.Call (.Name "range" p) [a] [] pos) (iRng1 ta):=by
  intro pins s σ H R I h
  refine Call_ (ld_blt I hg hm boot_range (PyProof.Rows.callWith_type1 (thn (ha pos pins s σ H _ I h) fun us s1 ⟨vs,H1,I1,r1,q1⟩=>?_) hs rfl))
  obtain ⟨j,e,q1,q2,q⟩:=q1
  subst e
  cases r1 with
  | cons r rr =>
    cases rr
    obtain ⟨t,rfl⟩:=r
    exact call_range_1 (range_it I1 (by omega) (by omega) q1 q2 (by simpa using q))
theorem pi_range2 {a b:Expr} {ta:TA} {p pos:Pos} (hg:Gl X "range") (hm:X.mg "range" = none) (ha:PA X [a,b] ta) (hs:starEach [a,b] X.env=[(false,eval a X.env),(false,eval b X.env)]:=by rfl) (hs2:starEach [b] X.env=[(false,eval b X.env)]:=by rfl) :
    PI X tg (.Call (.Name "range" p) [a,b] [] pos) (iRng2 ta):=by
  intro pins s σ H R I h
  refine Call_ (ld_blt I hg hm boot_range (PyProof.Rows.callWith_type1 (thn (ha pos pins s σ H _ I h) fun us s1 ⟨vs,H1,I1,r1,q1⟩=>?_) (by rw [hs,hs2]) (by rw [hs2]; rfl)))
  obtain ⟨i,j,e,⟨q1,q2,q3,q4⟩,q⟩:=q1
  subst e
  cases r1 with
  | cons r rr =>
    cases rr with
    | cons r' rr =>
      cases rr
      obtain ⟨t,rfl⟩:=r
      obtain ⟨t',rfl⟩:=r'
      exact call_range_2 (range_it I1 q1 q2 q3 q4 q)
def tFor (wi:TI) (g:TG) (tb:TS):TS:=fun D σ H=>wi σ H fun J H1=>∃ W:Nat→Nat→St→Hp→Prop,(∃ m,W 0 m σ H1)∧∀ i m σ H,W i m σ H →
  (J.stop i H∧D.nx σ H)∨(J.go i H∧∃ N:St→Hp→Prop,(∀ σ' H',N σ' H'→∃ m',m' < m∧W (i+1) m' σ' H')∧∀ x H',J.yld i H x H'→g x σ H' fun σ2 H2=>tb { D with nx:=N,ct:=N,bk:=D.nx } σ2 H2)
def pinsAt (fp:List Addr) (h:Heap):List (Addr × Obj):=fp.filterMap fun b=>(h.get? b).map fun o=>(b,o)
theorem mem_pinsAt {fp:List Addr} {h:Heap} {b:Addr} {o:Obj} (hb:b ∈ fp) (e:h.get? b=some o):(b,o) ∈ pinsAt fp h:=List.mem_filterMap.mpr ⟨b,hb,by rw [e]; rfl⟩
theorem of_pinsAt {fp:List Addr} {h:Heap} {p:Addr × Obj} (hp:p ∈ pinsAt fp h):p.1 ∈ fp∧h.get? p.1=some p.2:=by
  obtain ⟨b,hb,e⟩:=List.mem_filterMap.mp hp
  cases q:h.get? b with
  | none=>rw [q] at e; cases e
  | some o =>
    rw [q] at e
    have e':(b,o)=p:=Option.some.inj e
    subst e'
    exact ⟨hb,q⟩
theorem Inv.pinned {pins:List (Addr × Obj)} {σ:St} {H:Hp} {s:Shared} {fp:List Addr} (I:Inv X pins σ H s) (hf:∀ b ∈ fp,FpOk X pins H b) (ho:∀ b ∈ fp,∃ o,s.heap.get? b=some o∧∀ v,o.data ≠ .cell v):Inv X (pins++pinsAt fp s.heap) σ H s :=
  I.pins_of fun p hp=>(List.mem_append.mp hp).elim (fun z=>I.pin p (List.mem_append_right _ z)) fun z=>by
    obtain ⟨hb,e⟩:=of_pinsAt z
    obtain ⟨f0,f1,f2,_⟩:=hf p.1 hb
    obtain ⟨o,e',d⟩:=ho p.1 hb
    rw [e] at e'; cases e'
    exact ⟨e,f0,f1,f2,d⟩
theorem Inv.unpinned {pins pl:List (Addr × Obj)} {σ:St} {H:Hp} {s:Shared} (I:Inv X (pins++pl) σ H s):Inv X pins σ H s:=I.pins_of fun p hp=>I.pin p (List.mem_append_right _ (List.mem_append_left _ hp))
theorem ps_for {iter:Expr} {body:List Stmt} {wi:TI} {g:TG} {tb:TS} {pos:Pos} (hp:PassesOwn (model X.prog X.w) X.A X.env X.xe) (hc:X.calm=true) (hi:PI X tg iter wi) (hg:PG X tg g) (hb:PSs X body tb)
    (hs:∀ x,foldedSetIterable iter X.env x=pure x:=by intro _; rfl):PS X (.For tg iter body [] pos) (tFor wi g tb):=by
  intro pins s σ H D I h
  refine wpAny_For (thn (hi pins s σ H _ I h) fun v s1 h1=>thn h1 fun itv s2 h2=>?_) hs
  obtain ⟨it,fp,tn,J,H2,e,I2,T,st2,f2,W,⟨m0,w0⟩,turn⟩:=h2
  subst e
  have stat:∀ {H':Hp},(∀ b ∈ fp,H' b=none)→∀ b ∈ fp,FpOk X pins H' b:=fun hn b hb=>⟨hn b hb,(f2 b hb).2⟩
  refine codeAny_forLoop_any (fun n s'=>∃ i σ' H',Inv X pins σ' H' s'∧tn i s'.heap∧(∀ b ∈ fp,H' b=none)∧W i n σ' H') ?_ m0 ⟨0,σ,H2,I2,st2,fun b hb=>(f2 b hb).1,w0⟩
  rintro n s3 ⟨i,σ3,H3,I3,st3,fr3,w3⟩
  rcases turn i n σ3 H3 w3 with ⟨stop,qn⟩ | ⟨go,N,hN,step⟩
  · refine wpAny_passesOwn hp (thn (T.done X rfl rfl rfl hc i pins s3 σ3 H3 X.xe I3 (stat fr3) st3 stop) fun r s4 ⟨hr,I4⟩=>?_)
    subst hr
    exact wpAny_execs_nil ⟨σ3,H3,I4,qn⟩
  · refine wpAny_passesOwn hp (thn (T.item X rfl rfl rfl hc i pins s3 σ3 H3 X.xe I3 (stat fr3) st3 go) fun r s4 ⟨u,hr,h4⟩=>?_)
    subst hr
    refine wpAny_passesOwn hp (thn h4 fun _ s5 ⟨x,H5,I5,r5,y5,st5,fr5⟩=>?_)
    have I5':=I5.pinned (stat fr5) (T.obj _ _ st5)
    refine wpAny_passesOwn hp (thn (hg _ s5 σ3 H5 x u _ I5' r5 (step x H5 y5)) fun _ s6 ⟨σ6,H6,I6,q6⟩=>?_)
    refine wpAny_passesOwn hp (thn (hb _ s6 σ6 H6 _ I6 q6) fun f s7 q7=>?_)
    have again:∀ {σ7:St} {H7:Hp},Inv X (pins++pinsAt fp s5.heap) σ7 H7 s7→N σ7 H7→∃ m,m < n∧∃ i σ' H',Inv X pins σ' H' s7∧tn i s7.heap∧(∀ b ∈ fp,H' b=none)∧W i m σ' H':=fun {σ7 H7} I7 n7=>by
      obtain ⟨m',hm,w7⟩:=hN σ7 H7 n7
      refine ⟨m',hm,i+1,σ7,H7,I7.unpinned,T.keep _ _ _ st5 fun b hb o e=>(I7.pin (b,o) (List.mem_append_right _ (List.mem_append_right _ (mem_pinsAt hb e)))).1,fun b hb=>?_,w7⟩
      obtain ⟨o,e,d⟩:=T.obj _ _ st5 b hb
      exact (I7.pin (b,o) (List.mem_append_right _ (List.mem_append_right _ (mem_pinsAt hb e)))).2.1
    cases f with
    | next=>obtain ⟨σ7,H7,I7,n7⟩:=q7; exact again I7 n7
    | cont=>obtain ⟨σ7,H7,I7,n7⟩:=q7; exact again I7 n7
    | brk=>obtain ⟨σ7,H7,I7,q7⟩:=q7; exact ⟨σ7,H7,I7.unpinned,q7⟩
    | ret v=>obtain ⟨x7,σ7,H7,I7,r7,q7⟩:=q7; exact ⟨x7,σ7,H7,I7.unpinned,r7,q7⟩
end
theorem for_tup {K:PySem.W.Frag} {a:Addr} {xs:List V} {g:TG} {tb:TS} {D:Ends} {σ:St} {H:Hp} (Pv:Nat→St→Hp→Prop) (h0:Pv 0 σ H) (hl:∀ i σ H,i≤xs.length→Pv i σ H→SqT K H a xs)
    (hs:∀ i x σ H,xs[i]?=some x→Pv i σ H→g x σ H fun σ2 H2=>tb { D with nx:=Pv (i+1),ct:=Pv (i+1),bk:=D.nx } σ2 H2) (hd:∀ σ H,Pv xs.length σ H→D.nx σ H) :
    ∃ W:Nat→Nat→St→Hp→Prop,(∃ m,W 0 m σ H)∧∀ i m σ H,W i m σ H →
      ((Itt K a).stop i H∧D.nx σ H)∨((Itt K a).go i H∧∃ N:St→Hp→Prop,(∀ σ' H',N σ' H'→∃ m',m' < m∧W (i+1) m' σ' H')∧∀ x H',(Itt K a).yld i H x H'→g x σ H' fun σ2 H2=>tb { D with nx:=N,ct:=N,bk:=D.nx } σ2 H2):=by
  refine ⟨fun i m σ H=>m=xs.length - i∧i≤xs.length∧Pv i σ H,⟨xs.length,by simp,Nat.zero_le _,h0⟩,?_⟩
  rintro i m σ H ⟨rfl,hi,p⟩
  have q:=hl i σ H hi p
  by_cases hlt:i < xs.length
  · refine .inr ⟨⟨xs,xs[i],q,by simp [hlt]⟩,Pv (i+1),fun σ' H' p'=>⟨xs.length - (i+1),by omega,rfl,hlt,p'⟩,fun x H' y=>?_⟩
    obtain ⟨e,y⟩:=y
    subst e
    exact hs i x σ _ (y xs q) p
  · have e:i=xs.length:=by omega
    subst e
    exact .inl ⟨⟨xs,q,Nat.le_refl _⟩,hd σ H p⟩
theorem for_range {lo:Int} {n:Nat} {g:TG} {tb:TS} {D:Ends} {σ:St} {H:Hp} (Pv:Nat→St→Hp→Prop) (h0:Pv 0 σ H)
    (hs:∀ i σ H,i < n→Pv i σ H→g (.int (lo+i)) σ H fun σ2 H2=>tb { D with nx:=Pv (i+1),ct:=Pv (i+1),bk:=D.nx } σ2 H2) (hd:∀ σ H,Pv n σ H→D.nx σ H) :
    ∃ W:Nat→Nat→St→Hp→Prop,(∃ m,W 0 m σ H)∧∀ i m σ H,W i m σ H →
      ((Itr lo n).stop i H∧D.nx σ H)∨((Itr lo n).go i H∧∃ N:St→Hp→Prop,(∀ σ' H',N σ' H'→∃ m',m' < m∧W (i+1) m' σ' H')∧∀ x H',(Itr lo n).yld i H x H'→g x σ H' fun σ2 H2=>tb { D with nx:=N,ct:=N,bk:=D.nx } σ2 H2):=by
  refine ⟨fun i m σ H=>m=n - i∧i≤n∧Pv i σ H,⟨n,by simp,Nat.zero_le _,h0⟩,?_⟩
  rintro i m σ H ⟨rfl,hi,p⟩
  by_cases hlt:i < n
  · refine .inr ⟨hlt,Pv (i+1),fun σ' H' p'=>⟨n - (i+1),by omega,rfl,hlt,p'⟩,fun x H' y=>?_⟩
    obtain ⟨e,y⟩:=y
    subst e y
    exact hs i σ _ hlt p
  · have e:i=n:=by omega
    subst e
    exact .inl ⟨Nat.le_refl _,hd σ H p⟩
end L2
namespace L2
open PySem PySem.Spec PyProof.Rows
abbrev R2:=V→V→Hp→VK→Prop
def OpR (X:Cx) (f:Value→Value→Sem Value) (r:R2):Prop :=
  ∀ (pins:List (Addr × Obj)) (s:Shared) (σ:St) (H:Hp) (x y:V) (v u:Value) (Q:VK),Inv X pins σ H s→RelV x v→RelV y u→r x y H Q →
    wpAny (model X.prog X.w) X.A (f v u) (EP X pins σ Q) X.xe s
def UnR (X:Cx) (f:Value→Sem Value) (r:V→Hp→VK→Prop):Prop :=
  ∀ (pins:List (Addr × Obj)) (s:Shared) (σ:St) (H:Hp) (x:V) (v:Value) (Q:VK),Inv X pins σ H s→RelV x v→r x H Q →
    wpAny (model X.prog X.w) X.A (f v) (EP X pins σ Q) X.xe s
def CallR (X:Cx) (f:Value) (r:List V→Hp→VK→Prop):Prop :=
  ∀ (pins:List (Addr × Obj)) (s:Shared) (σ:St) (H:Hp) (xs:List V) (us:List Value) (Q:VK),Inv X pins σ H s→Vals xs us→r xs H Q →
    wpAny (model X.prog X.w) X.A (call f us) (EP X pins σ Q) X.xe s
def TruR (X:Cx) (r:V→Hp→(Bool→Hp→Prop)→Prop):Prop :=
  ∀ (pins:List (Addr × Obj)) (s:Shared) (σ:St) (H:Hp) (x:V) (v:Value) (Q:Bool→Hp→Prop),Inv X pins σ H s→RelV x v→r x H Q →
    wpAny (model X.prog X.w) X.A (truthy v) (TP X pins σ Q) X.xe s
def tOp (r:R2) (ta tb:TE):TE:=fun σ H Q=>ta σ H fun x H1=>tb σ H1 fun y H2=>r x y H2 Q
def tUn (r:V→Hp→VK→Prop) (ta:TE):TE:=fun σ H Q=>ta σ H fun x H1=>r x H1 Q
def rI (C:Int→Int→Prop) (g:Int→Int→V):R2:=fun x y H Q=>∃ i j,x=.int i∧y=.int j∧C i j∧Q (g i j) H
def rI0 (g:Int→Int→V):R2:=fun x y H Q=>∃ i j,x=.int i∧y=.int j∧Q (g i j) H
def rU (g:Int→V):V→Hp→VK→Prop:=fun x H Q=>∃ i,x=.int i∧Q (g i) H
section
variable {X:Cx} {a b c:Expr} {ta tb tc:TE} {pos:Pos}
theorem binT (ha:PE X a ta) (hb:PE X b tb) {pins:List (Addr × Obj)} {s:Shared} {σ:St} {H:Hp} {R:V→V→Hp→Prop} (I:Inv X pins σ H s)
    (h:ta σ H fun x H1=>tb σ H1 fun y H2=>R x y H2) {Q:Value→Shared→Prop} {f:Value→Value→Sem Value}
    (hf:∀ v u s2 x y H2,Inv X pins σ H2 s2→RelV x v→RelV y u→R x y H2→wpAny (model X.prog X.w) X.A (f v u) Q X.xe s2) :
    wpAny (model X.prog X.w) X.A (eval a X.env) (fun v s₁=>wpAny (model X.prog X.w) X.A (eval b X.env) (fun u s₂=>wpAny (model X.prog X.w) X.A (f v u) Q X.xe s₂) X.xe s₁) X.xe s:=by
  refine thn (ha pins s σ H _ I h) fun v s1 ⟨x,H1,I1,r1,q1⟩=>?_
  refine thn (hb pins s1 σ H1 _ I1 q1) fun u s2 ⟨y,H2,I2,r2,q2⟩=>?_
  exact hf v u s2 x y H2 I2 r1 r2 q2
theorem pe_op {op:Operator} {r:R2} (ho:OpR X (binaryOp op) r) (ha:PE X a ta) (hb:PE X b tb):PE X (.BinOp a op b pos) (tOp r ta tb):=by
  intro pins s σ H Q I h
  exact wpAny_BinOp (binT ha hb I h fun v u s2 x y H2 I2 rx ry q=>ho pins s2 σ H2 x y v u Q I2 rx ry q)
theorem opI {f:Value→Value→Sem Value} {C:Int→Int→Prop} {g:Int→Int→Int}
    (rule:∀ (i j:Int) (t u:Tok) (s:Shared) (Q:Value→Shared→Prop) (E:Value→Shared→Prop),C i j→Q (.int (g i j) s.toks) { s with toks:=s.toks+1 }→wpAny (model X.prog X.w) X.A (f (.int i t) (.int j u)) Q E s) :
    OpR X f (rI C fun i j=>.int (g i j)):=by
  intro pins s σ H x y v u Q I rx ry h
  obtain ⟨i,j,rfl,rfl,hc,q⟩:=h
  obtain ⟨t,rfl⟩:=rx
  obtain ⟨t',rfl⟩:=ry
  exact rule i j t t' s _ _ hc ⟨.int (g i j),H,I.tok _,⟨_,rfl⟩,q⟩
theorem opI0 {f:Value→Value→Sem Value} {g:Int→Int→Int}
    (rule:∀ (i j:Int) (t u:Tok) (s:Shared) (Q:Value→Shared→Prop) (E:Value→Shared→Prop),Q (.int (g i j) s.toks) { s with toks:=s.toks+1 }→wpAny (model X.prog X.w) X.A (f (.int i t) (.int j u)) Q E s) :
    OpR X f (rI0 fun i j=>.int (g i j)):=by
  intro pins s σ H x y v u Q I rx ry h
  obtain ⟨i,j,rfl,rfl,q⟩:=h
  obtain ⟨t,rfl⟩:=rx
  obtain ⟨t',rfl⟩:=ry
  exact rule i j t t' s _ _ ⟨.int (g i j),H,I.tok _,⟨_,rfl⟩,q⟩
theorem opB0 {f:Value→Value→Sem Value} {g:Int→Int→Bool}
    (rule:∀ (i j:Int) (t u:Tok) (s:Shared) (Q:Value→Shared→Prop) (E:Value→Shared→Prop),Q (.bool (g i j)) s→wpAny (model X.prog X.w) X.A (f (.int i t) (.int j u)) Q E s) :
    OpR X f (rI0 fun i j=>.bl (g i j)):=by
  intro pins s σ H x y v u Q I rx ry h
  obtain ⟨i,j,rfl,rfl,q⟩:=h
  obtain ⟨t,rfl⟩:=rx
  obtain ⟨t',rfl⟩:=ry
  exact rule i j t t' s _ _ ⟨.bl (g i j),H,I,rfl,q⟩
def CDiv (i j:Int):Prop:=0 < j∧j < 1073741824
def CDivN (i j:Int):Prop:=j ≠ 0∧j.natAbs < 1073741824
def CPow (i j:Int):Prop:=0≤j∧j≤1000000∧i.natAbs < 2 ^ 64
def CMul (i j:Int):Prop:=(-(2 ^ 64) < i∧i < 2 ^ 64)∨(-(2 ^ 64) < j∧j < 2 ^ 64)
theorem CMul.ok {i j:Int} (h:CMul i j):IntMulOk i j:=by
  rcases h with ⟨h1,h2⟩ | ⟨h1,h2⟩
  · exact .of_left (intBits_le_64 h1 h2)
  · exact .of_right (intBits_le_64 h1 h2)
theorem op_add:OpR X (binaryOp .Add) (rI0 fun i j=>.int (i+j)):=opI0 fun _ _ _ _ _ _ _ q=>add_int q
theorem op_sub:OpR X (binaryOp .Sub) (rI0 fun i j=>.int (i - j)):=opI0 fun _ _ _ _ _ _ _ q=>sub_int q
theorem op_mul:OpR X (binaryOp .Mult) (rI CMul fun i j=>.int (i*j)):=opI fun _ _ _ _ _ _ _ hc q=>mul_int q hc.ok
theorem op_fdiv:OpR X (binaryOp .FloorDiv) (rI CDiv fun i j=>.int (i / j)):=opI fun i j _ _ _ _ _ hc q=>by
  have h1:(0:Int) < j:=hc.1
  have h2:j < 1073741824:=hc.2
  exact floordiv_int (by omega) (by rw [Int.fdiv_eq_ediv_of_nonneg i (by omega)]; exact q) (.inl (PyProof.noPylong_small (by omega)))
theorem op_mod:OpR X (binaryOp .Mod) (rI (fun _ j=>0 < j) fun i j=>.int (i % j)):=opI fun i j _ _ _ _ _ hc q=>by
  have h1:(0:Int) < j:=hc
  exact mod_int' (by omega) (by rw [Int.fmod_eq_emod_of_nonneg i (by omega)]; exact q)
theorem op_pow:OpR X (binaryOp .Pow) (rI CPow fun i j=>.int (i ^ j.toNat)):=opI fun _ _ _ _ _ _ _ hc q=>pow_int_small hc.1 hc.2.1 hc.2.2 q
end
def scal:V→V→Bool
  | .non,.non=>true | .non,.int _=>true | .int _,.non=>true | .non,.bl _=>true | .bl _,.non=>true | .non,.str _=>true | .str _,.non=>true
  | .int _,.int _=>true | .bl _,.bl _=>true | .str _,.str _=>true | .byt _,.byt _=>true
  | .int _,.str _=>true | .str _,.int _=>true | .bl _,.str _=>true | .str _,.bl _=>true
  | _,_=>false
def rEq:R2:=fun x y H Q=>scal x y=true∧Q (.bl (decide (x=y))) H
def rNe:R2:=fun x y H Q=>scal x y=true∧Q (.bl (!decide (x=y))) H
theorem dec_int {i j:Int}:decide (V.int i=V.int j)=(i == j):=by
  rw [Bool.eq_iff_iff]
  simp
theorem dec_bl {i j:Bool}:decide (V.bl i=V.bl j)=(i == j):=by
  rw [Bool.eq_iff_iff]
  simp
theorem dec_str {i j:Str}:decide (V.str i=V.str j)=(i == j):=by
  rw [Bool.eq_iff_iff]
  simp
theorem dec_byt {i j:Array UInt8}:decide (V.byt i=V.byt j)=(i.toList == j.toList):=by
  rw [Bool.eq_iff_iff]
  cases i
  cases j
  simp
section
variable {X:Cx} {a b c:Expr} {ta tb tc:TE} {pos:Pos}
theorem fin_bl {pins:List (Addr × Obj)} {σ:St} {H:Hp} {s:Shared} {Q:VK} {k k':Bool} (I:Inv X pins σ H s) (q:Q (.bl k) H) (e:k=k'):EP X pins σ Q (.bool k') s:=by
  subst e
  exact ⟨.bl k,H,I,rfl,q⟩
theorem op_eq:OpR X (compareOp .Eq) rEq:=by
  intro pins s σ H x y v u Q I rx ry h
  obtain ⟨hs,q⟩:=h
  cases x with
  | non =>
    cases rx
    cases y with
    | non=>cases ry; exact PySem.EqNone.eq_none_none (fin_bl I q (by simp))
    | bl j=>cases ry; exact PySem.EqNone.eq_none_bool (fin_bl I q (by simp))
    | int j=>obtain ⟨t',rfl⟩:=ry; exact PySem.EqNone.eq_none_int (fin_bl I q (by simp))
    | str j=>obtain ⟨t',rfl⟩:=ry; exact PySem.EqNone.eq_none_str (fin_bl I q (by simp))
    | _=>exact absurd (show false=true from hs) Bool.false_ne_true
  | bl i =>
    cases rx
    cases y with
    | non=>cases ry; exact PySem.EqNone.eq_bool_none (fin_bl I q (by simp))
    | bl j=>cases ry; exact eq_bool (fin_bl I q dec_bl)
    | str j=>obtain ⟨t',rfl⟩:=ry; exact PySem.EqMixed.eq_bool_str (fin_bl I q (by simp))
    | _=>exact absurd (show false=true from hs) Bool.false_ne_true
  | int i =>
    obtain ⟨t,rfl⟩:=rx
    cases y with
    | non=>cases ry; exact PySem.EqNone.eq_int_none (fin_bl I q (by simp))
    | int j=>obtain ⟨t',rfl⟩:=ry; exact eq_int (fin_bl I q dec_int)
    | str j=>obtain ⟨t',rfl⟩:=ry; exact PySem.EqMixed.eq_int_str (fin_bl I q (by simp))
    | _=>exact absurd (show false=true from hs) Bool.false_ne_true
  | str i =>
    obtain ⟨t,rfl⟩:=rx
    cases y with
    | non=>cases ry; exact PySem.EqNone.eq_str_none (fin_bl I q (by simp))
    | bl j=>cases ry; exact PySem.EqMixed.eq_str_bool (fin_bl I q (by simp))
    | int j=>obtain ⟨t',rfl⟩:=ry; exact PySem.EqMixed.eq_str_int (fin_bl I q (by simp))
    | str j=>obtain ⟨t',rfl⟩:=ry; exact eq_str (fin_bl I q dec_str)
    | _=>exact absurd (show false=true from hs) Bool.false_ne_true
  | byt i =>
    obtain ⟨t,rfl⟩:=rx
    cases y with
    | byt j=>obtain ⟨t',rfl⟩:=ry; exact PySem.W.eq_bytes (fin_bl I q dec_byt)
    | _=>exact absurd (show false=true from hs) Bool.false_ne_true
  | _=>cases y <;> exact absurd (show false=true from hs) Bool.false_ne_true
theorem op_ne:OpR X (compareOp .NotEq) rNe:=by
  intro pins s σ H x y v u Q I rx ry h
  obtain ⟨hs,q⟩:=h
  cases x with
  | non =>
    cases rx
    cases y with
    | non=>cases ry; exact PySem.EqNone.ne_none_none (fin_bl I q (by simp))
    | bl j=>cases ry; exact PySem.EqNone.ne_none_bool (fin_bl I q (by simp))
    | int j=>obtain ⟨t',rfl⟩:=ry; exact PySem.EqNone.ne_none_int (fin_bl I q (by simp))
    | str j=>obtain ⟨t',rfl⟩:=ry; exact PySem.EqNone.ne_none_str (fin_bl I q (by simp))
    | _=>exact absurd (show false=true from hs) Bool.false_ne_true
  | bl i =>
    cases rx
    cases y with
    | non=>cases ry; exact PySem.EqNone.ne_bool_none (fin_bl I q (by simp))
    | bl j=>cases ry; exact ne_bool (fin_bl I q (congrArg not dec_bl))
    | str j=>obtain ⟨t',rfl⟩:=ry; exact PySem.EqMixed.ne_bool_str (fin_bl I q (by simp))
    | _=>exact absurd (show false=true from hs) Bool.false_ne_true
  | int i =>
    obtain ⟨t,rfl⟩:=rx
    cases y with
    | non=>cases ry; exact PySem.EqNone.ne_int_none (fin_bl I q (by simp))
    | int j=>obtain ⟨t',rfl⟩:=ry; exact ne_int (fin_bl I q (congrArg not dec_int))
    | str j=>obtain ⟨t',rfl⟩:=ry; exact PySem.EqMixed.ne_int_str (fin_bl I q (by simp))
    | _=>exact absurd (show false=true from hs) Bool.false_ne_true
  | str i =>
    obtain ⟨t,rfl⟩:=rx
    cases y with
    | non=>cases ry; exact PySem.EqNone.ne_str_none (fin_bl I q (by simp))
    | bl j=>cases ry; exact PySem.EqMixed.ne_str_bool (fin_bl I q (by simp))
    | int j=>obtain ⟨t',rfl⟩:=ry; exact PySem.EqMixed.ne_str_int (fin_bl I q (by simp))
    | str j=>obtain ⟨t',rfl⟩:=ry; exact ne_str (fin_bl I q (congrArg not dec_str))
    | _=>exact absurd (show false=true from hs) Bool.false_ne_true
  | byt i =>
    obtain ⟨t,rfl⟩:=rx
    cases y with
    | byt j=>obtain ⟨t',rfl⟩:=ry; exact PySem.W.ne_bytes (fin_bl I q (congrArg not dec_byt))
    | _=>exact absurd (show false=true from hs) Bool.false_ne_true
  | _=>cases y <;> exact absurd (show false=true from hs) Bool.false_ne_true
theorem op_lt:OpR X (compareOp .Lt) (rI0 fun i j=>.bl (decide (i < j))):=opB0 fun _ _ _ _ _ _ _ q=>lt_int q
theorem op_le:OpR X (compareOp .LtE) (rI0 fun i j=>.bl (decide (i≤j))):=opB0 fun _ _ _ _ _ _ _ q=>le_int q
theorem op_gt:OpR X (compareOp .Gt) (rI0 fun i j=>.bl (decide (j < i))):=opB0 fun _ _ _ _ _ _ _ q=>gt_int q
theorem op_ge:OpR X (compareOp .GtE) (rI0 fun i j=>.bl (decide (j≤i))):=opB0 fun _ _ _ _ _ _ _ q=>ge_int q
theorem op_in_str:OpR X (compareOp .In) (fun x y H Q=>∃ i j,x=.str i∧y=.str j∧Q (.bl (!(Builtin.Str.occurrences j i 0 j.length 1).isEmpty)) H):=by
  intro pins s σ H x y v u Q I rx ry h
  obtain ⟨i,j,rfl,rfl,q⟩:=h
  obtain ⟨t,rfl⟩:=rx
  obtain ⟨t',rfl⟩:=ry
  exact in_str (fin_bl I q rfl)
theorem op_isN:OpR X (compareOp .Is) (fun x y H Q=>y=.non∧Q (.bl (decide (x=.non))) H):=by
  intro pins s σ H x y v u Q I rx ry h
  obtain ⟨rfl,q⟩:=h
  cases ry
  refine is_none_gen (fin_bl I q ?_)
  cases x <;> first
    | (cases rx; rfl)
    | (obtain ⟨t,rfl⟩:=rx; rfl)
theorem op_notN:OpR X (compareOp .IsNot) (fun x y H Q=>y=.non∧Q (.bl (!decide (x=.non))) H):=by
  intro pins s σ H x y v u Q I rx ry h
  obtain ⟨rfl,q⟩:=h
  cases ry
  refine isnot_none_gen (fin_bl I q ?_)
  cases x <;> first
    | (cases rx; rfl)
    | (obtain ⟨t,rfl⟩:=rx; rfl)
theorem op_notin_str:OpR X (compareOp .NotIn) (fun x y H Q=>∃ i j,x=.str i∧y=.str j∧Q (.bl (!(!(Builtin.Str.occurrences j i 0 j.length 1).isEmpty))) H):=by
  intro pins s σ H x y v u Q I rx ry h
  obtain ⟨i,j,rfl,rfl,q⟩:=h
  obtain ⟨t,rfl⟩:=rx
  obtain ⟨t',rfl⟩:=ry
  exact notIn_str (fin_bl I q rfl)
def isObj:HO→Bool
  | .lst _=>true
  | .ins _ _ _=>true
  | _=>false
theorem nomark (b:Expr) {op:CmpOp} (h:op ≠ .In:=by decide) (h2:op ≠ .NotIn:=by decide):behindInMarks op b=false:=by
  have e1:(op == CmpOp.In)=false:=by cases op <;> first | rfl | exact absurd rfl h
  have e2:(op == CmpOp.NotIn)=false:=by cases op <;> first | rfl | exact absurd rfl h2
  cases b <;> simp [behindInMarks,e1,e2]
theorem pe_cmpR {op:CmpOp} {r:R2} (ho:OpR X (compareOp op) r) (ha:PE X a ta) (hb:PE X b tb) (hm:behindInMarks op b=false):PE X (.Compare a [op] [b] pos) (tOp r ta tb):=by
  intro pins s σ H Q I h
  exact wpAny_Compare1 (binT ha hb I h fun v u s2 x y H2 I2 rx ry q=>ho pins s2 σ H2 x y v u Q I2 rx ry q) hm
def tTest (t:TE):TT:=fun σ H Q=>t σ H fun x H'=>∃ k,x=.bl k∧Q k H'
theorem pt_cmpR {op:CmpOp} {r:R2} (ho:OpR X (compareOp op) r) (ha:PE X a ta) (hb:PE X b tb) (hm:behindInMarks op b=false):PT X (.Compare a [op] [b] pos) (tTest (tOp r ta tb)):=by
  intro pins s σ H Q I h
  refine wpAny_isTrue_Compare1 (thn (ha pins s σ H _ I h) fun v s1 ⟨x,H1,I1,r1,q1⟩=>thn (hb pins s1 σ H1 _ I1 q1) fun u s2 ⟨y,H2,I2,r2,q2⟩ =>
    thn (ho pins s2 σ H2 x y v u _ I2 r1 r2 q2) fun c s3 ⟨z,H3,I3,r3,k,e,q3⟩=>?_) hm
  subst e
  cases r3
  exact wpAny_truthy_bool ⟨H3,I3,q3⟩
def tChain (r r':R2) (ta tb tc:TE):TE:=fun σ H Q=>ta σ H fun x H1=>tb σ H1 fun y H2=>r x y H2 fun z H3=>∃ k,z=.bl k ∧
  (if k=true then tc σ H3 fun w' H4=>r' y w' H4 Q else Q (.bl false) H3)
theorem pt_chain {op op':CmpOp} {r r':R2} (ho:OpR X (compareOp op) r) (ho':OpR X (compareOp op') r') (ha:PE X a ta) (hb:PE X b tb) (hc:PE X c tc)
    (hm:lastMarks [op,op'] [b,c]=false:=by with_unfolding_all rfl):PT X (.Compare a [op,op'] [b,c] pos) (tTest (tChain r r' ta tb tc)):=by
  intro pins s σ H Q I h
  refine isTrue_chain (thn (ha pins s σ H _ I h) fun v s1 ⟨x,H1,I1,r1,q1⟩=>test_link (thn (hb pins s1 σ H1 _ I1 q1) fun u s2 ⟨y,H2,I2,r2,q2⟩ =>
    thn (ho pins s2 σ H2 x y v u _ I2 r1 r2 q2) fun d s3 ⟨z,H3,I3,r3,k,e,q3⟩=>?_)) hm
  subst e
  cases r3
  refine wpAny_truthy_bool ?_
  cases k with
  | false =>
    obtain ⟨k',e',q'⟩:=q3
    cases e'
    exact ite_ff ⟨H3,I3,q'⟩
  | true =>
    refine ite_tt (test_last (thn (hc pins s3 σ H3 _ I3 q3) fun w' s4 ⟨z',H4,I4,r4,q4⟩=>thn (ho' pins s4 σ H4 y z' u w' _ I4 r2 r4 q4) fun d' s5 ⟨z2,H5,I5,r5,k2,e2,q5⟩=>?_))
    subst e2
    cases r5
    exact wpAny_truthy_bool ⟨H5,I5,q5⟩
def TruV (K:PySem.W.Frag) (x:V) (H:Hp) (k:Bool):Prop :=
  match x with
  | .non=>k=false
  | .bl b=>k=b
  | .int i=>k=(i != 0)
  | .str y=>y.length≤sizeLine∧k=((y.length:Int) != 0)
  | .byt y=>y.size≤sizeLine∧k=((y.size:Int) != 0)
  | .ref p=>(∃ xs,SqL K H p xs∧k=!xs.isEmpty)∨(∃ xs,SqT K H p xs∧k=!xs.isEmpty)∨∃ kvs,H p=some (.dK kvs)∧k=!kvs.isEmpty
  | _=>False
theorem line63:(sizeLine:Nat) < 2 ^ 63:=by rw [sizeLine_eq]; decide
theorem op_add_str:OpR X (binaryOp .Add) (fun x y H Q=>∃ i j,x=.str i∧y=.str j∧i.length+j.length≤sizeLine∧Q (.str (i++j)) H):=by
  intro pins s σ H x y v u Q I rx ry h
  obtain ⟨i,j,rfl,rfl,hz,q⟩:=h
  obtain ⟨t,rfl⟩:=rx
  obtain ⟨t',rfl⟩:=ry
  exact add_str (fun t' tk=>⟨.str (i++j),H,I.tok _,⟨_,rfl⟩,q⟩) hz
def PlainIxT (b:Expr):Prop:=∀ o i,subscripted b false o i=operate [o,i] (getItem o i)
theorem vals1 {x:V} {us:List Value} (r:Vals [x] us):∃ u,us=[u]∧RelV x u:=by
  cases r with
  | cons r1 r2=>cases r2; exact ⟨_,rfl,r1⟩
theorem vals2 {x y:V} {us:List Value} (r:Vals [x,y] us):∃ u w',us=[u,w']∧RelV x u∧RelV y w':=by
  cases r with
  | cons r1 r2 =>
    cases r2 with
    | cons r3 r4=>cases r4; exact ⟨_,_,rfl,r1,r3⟩
theorem call_max2 (hc:X.calm=true):CallR X (.builtin "max") (fun xs H Q=>∃ i j,xs=[.int i,.int j]∧Q (.int (if j > i then j else i)) H):=by
  intro pins s σ H xs us Q I r h
  obtain ⟨i,j,rfl,q⟩:=h
  obtain ⟨u,w',rfl,⟨t,rfl⟩,⟨t',rfl⟩⟩:=vals2 r
  refine max_two_ints (I.ok.hd hc) fun h' tk k=>⟨_,H,I.kept k,?_,q⟩
  by_cases hj:j > i
  · rw [if_pos hj,if_pos hj]; exact ⟨_,rfl⟩
  · rw [if_neg hj,if_neg hj]; exact ⟨_,rfl⟩
theorem call_min2 (hc:X.calm=true):CallR X (.builtin "min") (fun xs H Q=>∃ i j,xs=[.int i,.int j]∧Q (.int (if j < i then j else i)) H):=by
  intro pins s σ H xs us Q I r h
  obtain ⟨i,j,rfl,q⟩:=h
  obtain ⟨u,w',rfl,⟨t,rfl⟩,⟨t',rfl⟩⟩:=vals2 r
  refine min_two_ints (I.ok.hd hc) fun h' tk k=>⟨_,H,I.kept k,?_,q⟩
  by_cases hj:j < i
  · rw [if_pos hj,if_pos hj]; exact ⟨_,rfl⟩
  · rw [if_neg hj,if_neg hj]; exact ⟨_,rfl⟩
def LenV (K:PySem.W.Frag) (x:V) (H:Hp) (n:Nat):Prop :=
  match x with
  | .str y=>y.length≤sizeLine∧n=y.length
  | .byt y=>y.size≤sizeLine∧n=y.size
  | .ref p=>(∃ xs,SqL K H p xs∧n=xs.length)∨∃ xs,SqT K H p xs∧n=xs.length
  | _=>False
end
end L2
namespace L2
open PySem PySem.Spec PyProof.Rows
structure ObjM (h:Heap) (x dx C:Addr) (mA:Str→Option Value):Prop where
  obj:h.get? x=some (PySem.W.instObj C dx)
  ns:h.Ns1 dx mA
  ne:dx ≠ x
theorem lookIn_ns {h:Heap} {dx:Addr} {mA:Str→Option Value} (n:h.Ns1 dx mA):∃ od,h.get? dx=some od∧∀ name,PySem.W.lookIn name od=some (mA name):=by
  obtain ⟨o,es,ep,ho,hd,hk,_,hm⟩:=n
  refine ⟨o,ho,fun name=>?_⟩
  have e:=hm name
  unfold nsFind findBy at e
  rw [← Array.find?_toList] at e
  unfold PySem.W.lookIn
  rw [hd]
  dsimp only
  split
  · rename_i y q
    rw [q] at e
    exact congrArg some e
  · rename_i q
    rw [q] at e
    have a:es.toList.any (·.refKey)=false:=by
      rw [List.any_eq_false]
      intro y hy
      obtain ⟨z,t,hkey⟩:=hk y (Array.mem_toList_iff.mp hy)
      simp [DictEntry.refKey,hkey]
    have a':¬ es.toList.any (·.refKey)=true:=by rw [a]; exact Bool.false_ne_true
    rw [if_neg a']
    exact congrArg some e
theorem ObjM.look {h:Heap} {x dx C:Addr} {mA:Str→Option Value} (I:ObjM h x dx C mA):∃ od,PySem.W.InstAt h x (PySem.W.instObj C dx) C (some od)∧∀ name,PySem.W.lookIn name od=some (mA name) :=
  let ⟨od,ho,hl⟩:=lookIn_ns I.ns
  ⟨od,⟨I.obj,rfl,rfl,ho⟩,hl⟩
section
variable {prog:Program} {w:World} {A:Around} {E:Value→Shared→Prop} {s:Shared} {K:PySem.W.Frag} {x dx C f:Addr} {mA:Str→Option Value} {name:Str} {v:Value}
theorem get_map {expr:Bool} {Q:Value→Shared→Prop} (X:K.In s.heap) (I:ObjM s.heap x dx C mA) (hg:PySem.W.plainGet K C name=true) (hh:PySem.W.hasDictIn K C=true)
    (ha:PySem.W.findIn K (.ref C) name=some none) (hv:mA name=some v) (hv':PySem.W.handedIn v=true) (h:Q v { s with toks:=s.toks+1 }) :
    wpAny (model prog w) A (getAttr (.ref x) name expr) Q E s:=by
  obtain ⟨od,J,hl⟩:=I.look
  exact PySem.W.get_value X J (PySem.W.plainGet_of hg).1 (PySem.W.findObj_own hh ha rfl (by rw [hl,hv])) hv' h
theorem get_meth {pl:Sem Bool} {Q:Value × List Value→Shared→Prop} (X:K.In s.heap) (I:ObjM s.heap x dx C mA) (hg:PySem.W.plainGet K C name=true)
    (hf:PySem.W.findIn K (.ref C) name=some (some (.ref f))) (ht:PySem.W.isFn K (.ref f)=true) (hv:mA name=none) (h:Q (.ref f,[.ref x]) s) :
    wpAny (model prog w) A (getMethod (.ref x) name pl) Q E s:=by
  obtain ⟨od,J,hl⟩:=I.look
  exact PySem.W.method_fn X J (PySem.W.plainGet_of hg).1 (PySem.W.plainGet_of hg).2 hf (beq_iff_eq.mp ht) (by show (PySem.W.lookIn name od).map (·.isSome)=some false; rw [hl,hv]; rfl) h
theorem set_map {ns:List Str} {Q:Unit→Shared→Prop} (X:K.In s.heap) (I:ObjM s.heap x dx C mA)
    (hs:PySem.W.findIn K (.ref C) "__setattr__" = some (some (.builtin "object.__setattr__"))) (hp:PySem.W.plainOver K C=true) (ht:PySem.W.takerIn K C name=some none) (hh:PySem.W.hasDictIn K C=true)
    (hw:PySem.Within mA ns) (hsz:ns.length≤sizeLine)
    (h:∀ h',ObjM h' x dx C (fun y=>if y=name then some v else mA y)→Heap.SameBut dx s.heap h'→Q () { s with heap:=h',toks:=s.toks+2 }) :
    wpAny (model prog w) A (setAttr (.ref x) name v) Q E s:=by
  obtain ⟨od,J,hl⟩:=I.look
  refine PySem.W.set_plain X J hs (PySem.W.osa_open (s:={ s with toks:=s.toks+1 }) (r:=none) X J hp ht fun b=>?_)
  obtain ⟨cd,hc,hd'⟩:=PySem.W.any_some hh
  have hx:s.heap.get? x=some ⟨.ref C,some dx,.plain,#[]⟩:=I.obj
  refine wpAny_bind (wpAny_pure (wpAny_bind (wpAny_bind (wpAny_loadPart hx (wpAny_bind (PySem.W.Looks.here (s:={ s with toks:=s.toks+1 }) (PySem.W.looks_clsIn X hc) ?_))))))
  rw [hd']
  refine wpAny_pure (a:=some dx) (wpAny_bind (wpAny_pure (wpAny_bind ?_)))
  refine wpAny_nsSet1 (s:={ s with toks:=s.toks+1 }) I.ns fun h' hn2 hs2=>?_
  obtain ⟨oD,esD,epD,hoD,hdD,hcD⟩:=hn2.count (PySem.Within.cons name v hw)
  refine wpAny_bind (wpAny_lookBehind hoD (by rw [hdD]; exact pastItsLine_dict (Nat.le_trans hcD (by rw [List.length_cons]; omega))) ?_)
  exact wpAny_pure (h _ ⟨(hs2.2 _ (Ne.symm I.ne)).trans I.obj,hn2,I.ne⟩ hs2)
theorem make_map {R:Result→Shared→Prop} {vs:List Value} {kw:List (Str × Value)} (X:K.In s.heap) (hm:PySem.W.makesIn K C=true)
    (hi:PySem.W.findIn K (.ref C) "__init__" = some (some (.ref f))) (hf:PySem.W.typeIn K (.ref f)=some (.type "function"))
    (h:codeAny (model prog w) (A.under (.builtin "type.__call__" ⟨.ref C::vs,kw⟩)) (.call (.ref f) ⟨.ref (s.heap.objs.size+1)::vs,kw⟩) (PySem.W.InitBack (s.heap.objs.size+1) R)
      { s with heap:=(s.heap.push PySem.W.emptyDict).push (PySem.W.instObj C s.heap.objs.size) }) :
    codeAny (model prog w) A (.call (.ref C) ⟨vs,kw⟩) R s:=by
  obtain ⟨hh,g,d,t,os⟩:=s
  exact PySem.W.make_core (PySem.W.makes_of X hm) (PySem.W.looks_findIn X hi) (fun self=>PySem.W.bind_fn X self hf) (.inl rfl) h
end
def putF (f:Str) (v:V):List (Str × V)→List (Str × V)
  | []=>[(f,v)]
  | (g,x)::r=>if g=f then (g,v)::r else (g,x)::putF f v r
theorem lookup_putF (f g:Str) (v:V):∀ fs:List (Str × V),(putF f v fs).lookup g=if g=f then some v else fs.lookup g
  | []=>by
    show List.lookup g [(f,v)]=_
    by_cases h:g=f
    · have hb:(g == f)=true:=beq_iff_eq.mpr h
      simp only [List.lookup,hb,if_pos h]
    · have hb:(g == f)=false:=beq_eq_false_iff_ne.mpr h
      simp only [List.lookup,hb,if_neg h]
  | (k,x)::r=>by
    have ih:=lookup_putF f g v r
    rw [show putF f v ((k,x)::r)=(if k=f then (k,v)::r else (k,x)::putF f v r) from rfl]
    by_cases hk:k=f
    · rw [if_pos hk]
      by_cases h:g=k
      · have hb:(g == k)=true:=beq_iff_eq.mpr h
        simp only [List.lookup,hb,if_pos (h.trans hk)]
      · have hb:(g == k)=false:=beq_eq_false_iff_ne.mpr h
        simp only [List.lookup,hb,if_neg (fun e:g=f=>h (e.trans hk.symm))]
    · rw [if_neg hk]
      by_cases h:g=k
      · have hb:(g == k)=true:=beq_iff_eq.mpr h
        simp only [List.lookup,hb,if_neg (fun e:g=f=>hk (h.symm.trans e))]
      · have hb:(g == k)=false:=beq_eq_false_iff_ne.mpr h
        simp only [List.lookup,hb]
        exact ih
theorem keys_putF (f:Str) (v:V):∀ fs:List (Str × V),f ∈ (putF f v fs).map (·.1)∧∀ g,g ∈ fs.map (·.1)→g ∈ (putF f v fs).map (·.1)
  | []=>⟨by simp [putF],fun g h=>by simp at h⟩
  | (k,x)::r=>by
    obtain ⟨i1,i2⟩:=keys_putF f v r
    rw [show putF f v ((k,x)::r)=(if k=f then (k,v)::r else (k,x)::putF f v r) from rfl]
    by_cases hk:k=f
    · rw [if_pos hk]
      subst hk
      exact ⟨by simp,fun g h=>by simpa using h⟩
    · rw [if_neg hk]
      refine ⟨?_,fun g h=>?_⟩
      · rw [List.map_cons]
        exact List.mem_cons_of_mem _ i1
      · rw [List.map_cons] at h ⊢
        rcases List.mem_cons.mp h with e | e
        · exact List.mem_cons.mpr (.inl e)
        · exact List.mem_cons_of_mem _ (i2 g e)
theorem length_putF (f:Str) (v:V):∀ fs:List (Str × V),(putF f v fs).length≤fs.length+1
  | []=>by simp [putF]
  | (k,x)::r=>by
    have ih:=length_putF f v r
    rw [show putF f v ((k,x)::r)=(if k=f then (k,v)::r else (k,x)::putF f v r) from rfl]
    by_cases hk:k=f
    · rw [if_pos hk,List.length_cons,List.length_cons]; omega
    · rw [if_neg hk,List.length_cons,List.length_cons]; omega
theorem RelO.some_of {v:V} {o:Option Value} (r:RelO (some v) o):∃ u,o=some u∧RelV v u:=by
  cases o with
  | none=>exact (show False from r).elim
  | some u=>exact ⟨u,rfl,r⟩
theorem RelO.none_of {o:Option Value} (r:RelO none o):o=none:=by
  cases o with
  | none=>rfl
  | some u=>exact (show False from r).elim
theorem handed_of {v:V} {u:Value} (r:RelV v u):PySem.W.handedIn u=true:=by
  cases v with
  | non=>cases (show u=Value.none from r); rfl
  | bl b=>cases (show u=Value.bool b from r); rfl
  | int i=>obtain ⟨t,e⟩:=(show ∃ t,u=Value.int i t from r); cases e; rfl
  | str x=>obtain ⟨t,e⟩:=(show ∃ t,u=Value.str x t from r); cases e; rfl
  | byt b=>obtain ⟨t,e⟩:=(show ∃ t,u=Value.bytes b t from r); cases e; rfl
  | flt b=>obtain ⟨t,e⟩:=(show ∃ t,u=Value.float b t from r); cases e; rfl
  | ref a=>cases (show u=Value.ref a from r); rfl
  | ty n=>cases (show u=Value.type n from r); rfl
section
variable {P:Program} {w:World} {H H':Hp} {h h':Heap} {a C dx:Addr} {fs fs':List (Str × V)}
theorem ins_get (hok:HOk P w H h) (e:H a=some (.ins C dx fs)):∃ mA,ObjM h a dx C mA∧(∀ f,RelO (fs.lookup f) (mA f))∧PySem.Within mA (fs.map (·.1))∧fs.length≤1000∧H dx=some (.own a):=by
  obtain ⟨d,z,ne,ob,mA,n,r,q⟩:=(show ObjOk P w H h a (.ins C dx fs) from hok a _ e)
  exact ⟨mA,⟨ob,n,ne⟩,r,q,z,d⟩
end
structure Cls (K:PySem.W.Frag) (C:Addr):Prop where
  pg:PySem.W.plainGet K C Str.empty=true
  hd:PySem.W.hasDictIn K C=true
  po:PySem.W.plainOver K C=true
  sa:PySem.W.findIn K (.ref C) "__setattr__" = some (some (.builtin "object.__setattr__"))
theorem Cls.get {K:PySem.W.Frag} {C:Addr} (c:Cls K C) (f:Str):PySem.W.plainGet K C f=true:=c.pg
def NoAttr (K:PySem.W.Frag) (C:Addr) (f:Str):Prop:=PySem.W.findIn K (.ref C) f=some none
theorem NoAttr.taker {K:PySem.W.Frag} {C:Addr} {f:Str} (n:NoAttr K C f):PySem.W.takerIn K C f=some none:=by
  unfold PySem.W.takerIn
  rw [show PySem.W.findIn K (.ref C) f=some none from n]
  rfl
structure Con (K:PySem.W.Frag) (C:Addr) (f:Str) (v:V) (u:Value):Prop where
  at_:PySem.W.findIn K (.ref C) f=some (some u)
  rel:RelV v u
  get:PySem.W.specialIn K u "__get__" = some none
  cp:PySem.W.copiedNames.contains f=false
structure Meth (K:PySem.W.Frag) (C:Addr) (m:Str) (f:Addr):Prop where
  at_:PySem.W.findIn K (.ref C) m=some (some (.ref f))
  fn:PySem.W.isFn K (.ref f)=true
  kp:PySem.W.keepIn K (.ref f)=true
section
variable {X:Cx} {pins:List (Addr × Obj)} {σ:St} {H:Hp} {s:Shared} {a C dx:Addr} {fs:List (Str × V)} {f:Str} {v:V} {A:Around} {E:Value→Shared→Prop}
theorem getattr_ok {b:Bool} {Q:Value→Shared→Prop} (I:Inv X pins σ H s) (e:H a=some (.ins C dx fs)) (c:Cls X.K C) (n:NoAttr X.K C f) (l:fs.lookup f=some v)
    (h:∀ u s',Inv X pins σ H s'→RelV v u→Q u s'):wpAny (model X.prog X.w) A (getAttr (.ref a) f b) Q E s:=by
  obtain ⟨mA,O,r,_,_,_⟩:=ins_get I.hok e
  obtain ⟨u,hu,ru⟩:=RelO.some_of (v:=v) (o:=mA f) (by rw [← l]; exact r f)
  exact get_map I.kIn O (c.get f) c.hd n hu (handed_of ru) (h u _ (I.tok _) ru)
theorem getmeth_ok {m:Str} {g:Addr} {pl:Sem Bool} {Q:Value × List Value→Shared→Prop} (I:Inv X pins σ H s) (e:H a=some (.ins C dx fs)) (c:Cls X.K C) (k:Meth X.K C m g) (l:fs.lookup m=none)
    (h:Q (.ref g,[.ref a]) s):wpAny (model X.prog X.w) A (getMethod (.ref a) m pl) Q E s:=by
  obtain ⟨mA,O,r,_,_,_⟩:=ins_get I.hok e
  have hn:mA m=none:=RelO.none_of (by rw [← l]; exact r m)
  exact get_meth I.kIn O (c.get m) k.at_ k.fn hn h
theorem setattr_ok {y:V} {u:Value} {Q:Unit→Shared→Prop} (I:Inv X pins σ H s) (e:H a=some (.ins C dx fs)) (c:Cls X.K C) (n:NoAttr X.K C f) (hl:fs.length < 1000) (ry:RelV y u)
    (h:∀ s',Inv X pins σ (upd H a (.ins C dx (putF f y fs))) s'→Q () s'):wpAny (model X.prog X.w) A (setAttr (.ref a) f u) Q E s:=by
  obtain ⟨mA,O,r,wi,_,ho⟩:=ins_get I.hok e
  have hz:(fs.map (·.1)).length≤sizeLine:=by rw [List.length_map,sizeLine_eq]; omega
  refine set_map I.kIn O c.sa c.po n.taker c.hd wi hz fun h' O' sb=>h _ ?_
  have hd:∃ o,h'.get? dx=some o:=let ⟨o,_,_,e',_⟩:=O'.ns; ⟨o,e'⟩
  refine I.write (x:=a) (e:=dx) (by rw [e]; exact True.intro) (.inr ho) (fun b q hb z=>(sb.2 b hb).trans z) hd ?_
  refine ⟨by rw [upd_ne O.ne]; exact ho,?_,O.ne,O'.obj,_,O'.ns,fun g=>?_,fun g hg=>?_⟩
  · have:=length_putF f y fs; omega
  · show RelO ((putF f y fs).lookup g) (if g=f then some u else mA g)
    rw [lookup_putF]
    by_cases q:g=f
    · rw [if_pos q,if_pos q]; exact ry
    · rw [if_neg q,if_neg q]; exact r g
  · by_cases q:g=f
    · rw [q]; exact (keys_putF f y fs).1
    · refine (keys_putF f y fs).2 g (wi g fun z=>hg ?_)
      show (if g=f then some u else mA g)=none
      rw [if_neg q]; exact z
theorem Inv.made (I:Inv X pins σ H s):Inv X pins σ (upd (upd H s.heap.objs.size (.own (s.heap.objs.size+1))) (s.heap.objs.size+1) (.ins C s.heap.objs.size []))
    { s with heap:=(s.heap.push PySem.W.emptyDict).push (PySem.W.instObj C s.heap.objs.size) }:=by
  have e1:(s.heap.push PySem.W.emptyDict).get? s.heap.objs.size=some PySem.W.emptyDict:=Heap.get?_push_size s.heap rfl
  have e2:((s.heap.push PySem.W.emptyDict).push (PySem.W.instObj C s.heap.objs.size)).get? (s.heap.objs.size+1)=some (PySem.W.instObj C s.heap.objs.size):=by
    have:=Heap.get?_push_size (s.heap.push PySem.W.emptyDict) (o:=PySem.W.instObj C s.heap.objs.size) rfl
    rwa [Heap.size_push] at this
  have e3:(s.heap.push PySem.W.emptyDict).Ns s.heap.objs.size (fun _=>none):=⟨PySem.W.emptyDict,#[],_,e1,rfl,(fun e he=>absurd he (by simp)),fun _=>rfl⟩
  have I1:=I.laid (a:=s.heap.objs.size) (o:=.own (s.heap.objs.size+1)) (h':=s.heap.push PySem.W.emptyDict) (t':=s.toks) (fun b u q=>Heap.get?_push_of_some _ q) (Nat.le_refl _) ⟨_,e1⟩
  refine I1.laid (a:=s.heap.objs.size+1) (o:=.ins C s.heap.objs.size []) (t':=s.toks) (fun b u q=>Heap.get?_push_of_some _ q) (Nat.le_of_eq (Heap.size_push _ _)) ?_
  have ne:s.heap.objs.size ≠ s.heap.objs.size+1:=Nat.ne_of_lt (Nat.lt_succ_self _)
  refine ⟨by rw [upd_ne ne,upd_same],Nat.zero_le _,ne,e2,fun _=>none,(Heap.Ns1.of_empty e3).at fun o q=>Heap.get?_push_of_some _ q,fun _=>True.intro,fun y hy=>absurd rfl hy⟩
theorem attr_of {prog:Program} {w:World} {env:Env} {e:Expr} {f:Str} {pos:Pos} {s:Shared} {Q:Value→Shared→Prop} (hb:attributeBase e f env (eval e env)=eval e env)
    (h:wpAny (model prog w) A (eval e env) (fun o s₁=>wpAny (model prog w) A (getAttr o f true) Q E s₁) E s):wpAny (model prog w) A (eval (.Attribute e f pos) env) Q E s :=
  Attribute_any_ h (by rw [arm_eval_Attribute,hb])
end
def tFld (K:PySem.W.Frag) (ta:TE) (f:Str):TE:=fun σ H Q=>ta σ H fun x H1=>∃ a C dx fs v,x=.ref a∧H1 a=some (.ins C dx fs)∧Cls K C∧NoAttr K C f∧fs.lookup f=some v∧Q v H1
def tCon (K:PySem.W.Frag) (ta:TE) (f:Str):TE:=fun σ H Q=>ta σ H fun x H1=>∃ a C dx fs v u,x=.ref a∧H1 a=some (.ins C dx fs)∧Cls K C∧Con K C f v u∧fs.lookup f=none∧Q v H1
def sFld (K:PySem.W.Frag) (ta tv:TE) (f:Str):TS:=fun D σ H=>tv σ H fun y H1=>ta σ H1 fun x H2=>∃ a C dx fs,x=.ref a∧H2 a=some (.ins C dx fs)∧Cls K C∧NoAttr K C f∧fs.length < 1000 ∧
  D.nx σ (upd H2 a (.ins C dx (putF f y fs)))
def InOp (X:Cx) (op:Operator) (rd:V→V→Hp→VK→Prop):Prop :=
  ∀ (pins:List (Addr × Obj)) (s:Shared) (σ:St) (H:Hp) (x y:V) (u v:Value) (Q:VK),Inv X pins σ H s→RelV x u→RelV y v→rd x y H Q→wpAny (model X.prog X.w) X.A (inplaceOp op u v) (EP X pins σ Q) X.xe s
def sFldAug (K:PySem.W.Frag) (ta tv:TE) (rd:V→V→Hp→VK→Prop) (f:Str):TS:=fun D σ H=>ta σ H fun x H1=>∃ a C dx fs v,x=.ref a∧H1 a=some (.ins C dx fs)∧Cls K C∧NoAttr K C f∧fs.lookup f=some v ∧
  tv σ H1 fun y H2=>rd v y H2 fun z H3=>∃ dx' fs',H3 a=some (.ins C dx' fs')∧fs'.length < 1000∧D.nx σ (upd H3 a (.ins C dx' (putF f z fs')))
section
variable {X:Cx} {o e value:Expr} {f:Str} {pos pos' tpos:Pos} {ta tv:TE}
theorem pe_fld (he:PE X e ta) (hb:attributeBase e f X.env (eval e X.env)=eval e X.env):PE X (.Attribute e f pos) (tFld X.K ta f):=by
  intro pins s σ H Q I h
  refine attr_of hb (thn (he pins s σ H _ I h) fun u s1 ⟨x,H1,I1,rx,a,C,dx,fs,v,ex,ea,c,n,l,q⟩=>?_)
  subst ex
  obtain rfl:u=Value.ref a:=rx
  exact getattr_ok I1 ea c n l fun u' s2 I2 ru=>⟨v,H1,I2,ru,q⟩
theorem ps_fld (ha:PE X o ta) (hv:PE X value tv) (hs:swapsWith value (some (.Attribute o f pos')) pos.line X.env=pure false):PS X (.Assign [.Attribute o f pos'] value pos) (sFld X.K ta tv f):=by
  intro pins s σ H D I h
  refine plainObj_wpAny_Assign_Attribute (thn (hv pins s σ H _ I h) fun u s1 ⟨y,H1,I1,ry,q⟩=>thn (ha pins s1 σ H1 _ I1 q) fun ov s2 ⟨x,H2,I2,rx,a,C,dx,fs,ex,ea,c,n,l,q2⟩=>?_) hs
  subst ex
  obtain rfl:ov=Value.ref a:=rx
  exact setattr_ok I2 ea c n l ry fun s3 I3=>⟨σ,_,I3,q2⟩
def rAdd:V→V→Hp→VK→Prop:=fun x y H Q=>∃ i j,x=.int i∧y=.int j∧Q (.int (i+j)) H
def rSub:V→V→Hp→VK→Prop:=fun x y H Q=>∃ i j,x=.int i∧y=.int j∧Q (.int (i - j)) H
end
section
variable {X:Cx} {pins:List (Addr × Obj)} {σ:St} {H:Hp} {s:Shared} {A:Around} {E:Value→Shared→Prop} {Q:Value→Shared→Prop} {c:Value} {b:Bool}
inductive TyOf (K:PySem.W.Frag) (H:Hp):V→Value→Prop where
  | non:TyOf K H .non (.type "NoneType")
  | bl (x:Bool):TyOf K H (.bl x) (.type "bool")
  | int (i:Int):TyOf K H (.int i) (.type "int")
  | str (x:Str):TyOf K H (.str x) (.type "str")
  | flt (x:UInt64):TyOf K H (.flt x) (.type "float")
  | lst {a:Addr} {xs:List V} (e:H a=some (.lst xs)):TyOf K H (.ref a) (.type "list")
  | frz {a:Addr} {o:Obj} {xs:List V} (e:H a=some (.frz o (.lst xs))):TyOf K H (.ref a) (.type "list")
  | tup {a:Addr} {xs:List V} (e:H a=some (.tup xs)):TyOf K H (.ref a) (.type "tuple")
  | dK {a:Addr} {kvs:List (Key × V)} (e:H a=some (.dK kvs)):TyOf K H (.ref a) (.type "dict")
  | dT {a:Addr} {kvs:List (List Key × V)} (e:H a=some (.dT kvs)):TyOf K H (.ref a) (.type "dict")
  | ins {a C dx:Addr} {fs:List (Str × V)} (e:H a=some (.ins C dx fs)) (cl:Cls K C) (ha:PySem.W.findIn K (.ref C) "__class__" = some (some (.builtin "object.__class__")))
      (hn:PySem.W.specialIn K (.builtin "object.__class__") "__get__" = some (some (.builtin "getset_descriptor.__get__"))) (htk:PySem.W.takesIn K (.builtin "object.__class__")=some true)
      (hm:PySem.W.mroIn K C (.type "object")=some true):TyOf K H (.ref a) (.ref C)
theorem isinst_ok {x:V} {u t:Value} (I:Inv X pins σ H s) (rx:RelV x u) (ty:TyOf X.K H x t) (e:PySem.W.kitOne X.K t c=some b) (h:∀ tk,Q (.bool b) { s with toks:=tk }) :
    wpAny (model X.prog X.w) A (call (.builtin "isinstance") [u,c]) Q E s:=by
  cases ty with
  | non=>cases (show u=Value.none from rx); exact PySem.W.kia_one PySem.W.kitx_none I.kIn True.intro e (fun z=>nomatch z) h
  | bl y=>cases (show u=Value.bool y from rx); exact PySem.W.kia_one PySem.W.kitx_bool I.kIn True.intro e (fun z=>nomatch z) h
  | int i=>obtain ⟨t,q⟩:=(show ∃ t,u=Value.int i t from rx); cases q; exact PySem.W.kia_one PySem.W.kitx_int I.kIn True.intro e (fun z=>nomatch z) h
  | str y=>obtain ⟨t,q⟩:=(show ∃ t,u=Value.str y t from rx); cases q; exact PySem.W.kia_one PySem.W.kitx_str I.kIn True.intro e (fun z=>nomatch z) h
  | flt y=>obtain ⟨t,q⟩:=(show ∃ t,u=Value.float y t from rx); cases q; exact PySem.W.kia_one PySem.W.kitx_float I.kIn True.intro e (fun z=>nomatch z) h
  | @lst a xs ea =>
    cases (show u=Value.ref a from rx)
    obtain ⟨_,_,n,_,h1⟩:=(show ObjOk X.prog X.w H s.heap a (.lst xs) from I.hok a _ ea)
    exact PySem.W.kia_one PySem.W.kitx_list I.kIn ⟨_,h1,rfl⟩ e (fun z=>nomatch z) h
  | @frz a ob xs ea =>
    cases (show u=Value.ref a from rx)
    obtain ⟨_,_,_,n,_,h1⟩:=(show ObjOk X.prog X.w H s.heap a (.frz ob (.lst xs)) from I.hok a _ ea)
    exact PySem.W.kia_one PySem.W.kitx_list I.kIn ⟨_,h1,rfl⟩ e (fun z=>nomatch z) h
  | @tup a xs ea =>
    cases (show u=Value.ref a from rx)
    obtain ⟨_,_,_,p,_⟩:=(show ObjOk X.prog X.w H s.heap a (.tup xs) from I.hok a _ ea)
    obtain ⟨o,h1,h2,_⟩:=p
    exact PySem.W.kia_one PySem.W.kitx_tuple I.kIn ⟨o,h1,h2⟩ e (fun z=>nomatch z) h
  | @dK a kvs ea =>
    cases (show u=Value.ref a from rx)
    obtain ⟨_,_,vs,_,p⟩:=(show ObjOk X.prog X.w H s.heap a (.dK kvs) from I.hok a _ ea)
    obtain ⟨o,es,ep,h1,h2,_⟩:=p
    exact PySem.W.kia_one PySem.W.kitx_dict I.kIn ⟨o,h1,h2.1⟩ e (fun z=>nomatch z) h
  | @dT a kvs ea =>
    cases (show u=Value.ref a from rx)
    obtain ⟨_,_,xs,_,o,es,ep,h1,h2,_⟩:=(show ObjOk X.prog X.w H s.heap a (.dT kvs) from I.hok a _ ea)
    exact PySem.W.kia_one PySem.W.kitx_dict I.kIn ⟨o,h1,h2.1⟩ e (fun z=>nomatch z) h
  | @ins a C dx fs ea cl ha hn htk hm =>
    cases (show u=Value.ref a from rx)
    obtain ⟨mA,O,_⟩:=ins_get I.hok ea
    obtain ⟨od,J,_⟩:=O.look
    exact PySem.W.kia_one (PySem.W.kitx_own (cl.get _) cl.hd ha hn htk hm) I.kIn J e (fun z=>nomatch z) h
end
end L2
namespace L2
open PySem PySem.Spec PyProof.Rows
structure Room (k:Nat) (A:Around):Prop where
  hd:A.handled=none
  dp:A.depth+3*k+5 < recursionLimit
  un:A.units+16*k+200 < cLine
theorem Room.mono {j k:Nat} {A:Around} (r:Room k A) (h:j≤k):Room j A:=⟨r.hd,by have:=r.dp; omega,by have:=r.un; omega⟩
theorem Room.deeper {k:Nat} {A:Around} (r:Room (k+1) A) (env:Env):Room k (A.deeper env) :=
  ⟨r.hd,by have:=r.dp; show A.depth+1+3*k+5 < _; omega,by have:=r.un; show A.units+3+16*k+200 < _; omega⟩
theorem make_depth {A:Around} {C:Addr} {us:List Value} {kw:List (Str × Value)}:(A.under (.builtin "type.__call__" ⟨.ref C::us,kw⟩)).depth=A.depth+1:=by
  first | rfl | simp [Around.under,Code.weight,Code.isCreation,Code.isGuard,Code.isCaller,Code.frames,Code.isFrame,guardIds]
theorem make_units {A:Around} {C:Addr} {us:List Value} {kw:List (Str × Value)}:(A.under (.builtin "type.__call__" ⟨.ref C::us,kw⟩)).units=A.units+1:=by
  first | rfl | simp [Around.under,Code.cUnits,Code.frames,Code.isFrame]
theorem Room.make {k:Nat} {A:Around} (r:Room (k+1) A) (C:Addr) (us:List Value) (kw:List (Str × Value)):Room k (A.under (.builtin "type.__call__" ⟨.ref C::us,kw⟩)) :=
  ⟨r.hd,by have:=r.dp; rw [make_depth]; omega,by have:=r.un; rw [make_units]; omega⟩
theorem Room.depth {k:Nat} {A:Around} (r:Room k A):A.depth < recursionLimit:=by have:=r.dp; omega
theorem Room.units {k:Nat} {A:Around} (r:Room k A):A.units+64 < cLine:=by have:=r.un; omega
def tNil:TA:=fun _ H Q=>Q [] H
def tCons (ta:TE) (tr:TA):TA:=fun σ H Q=>ta σ H fun x H1=>tr σ H1 fun xs H2=>Q (x::xs) H2
section
variable {X:Cx} {e:Expr} {es:List Expr} {te:TE} {t:TA} {pos:Pos}
theorem pa_nil:PA X [] tNil:=fun _ _ _ _ H Q I h=>Calls.spliced_nil ⟨[],H,I,.nil,h⟩
theorem pa_cons (ha:PE X e te) (hr:PA X es t) (hs:starEach (e::es) X.env=(false,eval e X.env)::starEach es X.env:=by rfl):PA X (e::es) (tCons te t):=by
  intro pos pins s σ H Q I h
  rw [hs]
  show wpAny _ _ (spliced ((false,eval e X.env)::backTo pos (starEach es X.env))) _ _ s
  refine Calls.spliced_cons (thn (ha pins s σ H _ I h) fun u s1 ⟨x,H1,I1,r1,q1⟩=>?_)
  exact thn (hr pos pins s1 σ H1 _ I1 q1) fun us s2 ⟨xs,H2,I2,r2,q2⟩=>⟨x::xs,H2,I2,.cons r1 r2,q2⟩
def tTup (t:TA):TE:=fun σ H Q=>t σ H fun xs H1=>xs.length≤sizeLine∧∀ p,H1 p=none→Q (.ref p) (upd H1 p (.tup xs))
def tLst (t:TA):TE:=fun σ H Q=>t σ H fun xs H1=>xs.length≤sizeLine∧∀ p,H1 p=none→Q (.ref p) (upd H1 p (.lst xs))
theorem pe_tup {x1} (h:PA X es t):PE X (.Tuple es x1 pos) (tTup t):=by
  intro pins s σ H Q I hq
  refine wpAny_Tuple_spliced (thn (h pos pins s σ H _ I hq) fun us s1 ⟨xs,H1,I1,r,z,q⟩=>⟨by rw [← r.length]; exact z,?_⟩)
  have hf:H1 s1.heap.objs.size=none:=I1.hok.fresh (Nat.le_refl _)
  refine ⟨.ref s1.heap.objs.size,upd H1 s1.heap.objs.size (.tup xs),I1.laid (t':=s1.toks) (fun b u e=>Heap.get?_push_of_some _ e) (Nat.le_refl _) ?_,rfl,q _ hf⟩
  exact ⟨z,us,r,⟨_,Heap.get?_push_size _ rfl,rfl,_,rfl⟩,_,Heap.get?_push_size _ rfl,rfl⟩
theorem pe_lst (h:PA X es t):PE X (.List es pos) (tLst t):=by
  intro pins s σ H Q I hq
  refine wpAny_List_spliced (thn (h pos pins s σ H _ I hq) fun us s1 ⟨xs,H1,I1,r,z,q⟩=>⟨by rw [← r.length]; exact z,?_⟩)
  have hf:H1 s1.heap.objs.size=none:=I1.hok.fresh (Nat.le_refl _)
  refine ⟨.ref s1.heap.objs.size,upd H1 s1.heap.objs.size (.lst xs),I1.laid (t':=s1.toks) (fun b u e=>Heap.get?_push_of_some _ e) (Nat.le_refl _) ?_,rfl,q _ hf⟩
  exact ⟨z,us,0,r,Heap.get?_push_size _ rfl⟩
end
abbrev Sp:=List V→Hp→VK→XK→Prop
abbrev CXT:=List Env→Hp→Shared→XK→Value→Shared→Prop
structure Env0 (P:Program) (w:World) (K:PySem.W.Frag) (mg:Str→Option Value) (base:Heap) (A:Around) (outer:List Env) (s:Shared) (H:Hp):Prop where
  frames:A.frames=some outer
  mod:Mod K mg base
  bs:∀ b o,base.get? b=some o→s.heap.get? b=some o∧H b=none
  bsz:base.objs.size≤s.heap.objs.size
  funs:s.heap.FunFrames base outer
  frf:∀ b ∈ frs outer,H b=none
  hok:HOk P w H s.heap
  bare:AllBare s.gens
def CE (outer:List Env) (P:Program) (w:World) (H:Hp) (s:Shared) (Q:VK) (u:Value) (s':Shared):Prop :=
  ∃ v H',s'.os=s.os∧AllBare s'.gens∧Un (frs outer) [] H H' s.heap s'.heap∧HOk P w H' s'.heap∧RelV v u∧Q v H'
def CR (CX:CXT) (outer:List Env) (P:Program) (w:World) (H:Hp) (s:Shared) (Q:VK) (E:XK) (r:Result) (s':Shared):Prop :=
  match r with
  | .ok (.ret u)=>CE outer P w H s Q u s'
  | .ok _=>False
  | .error e=>CX outer H s E e s'
structure FnOk (P:Program) (w:World) (K:PySem.W.Frag) (mg:Str→Option Value) (base:Heap) (CX:CXT) (k:Nat) (f:Addr) (fd:FuncData) (ps:List Str) (sp:Sp):Prop where
  len:∀ vs H Q E,sp vs H Q E→vs.length=ps.length
  run:∀ (A:Around) (outer:List Env) (s:Shared) (H:Hp) (args:Args) (us:List Value) (vs:List V) (Q:VK) (E:XK),Room k A→Env0 P w K mg base A outer s H→BindsTo s fd args (ps.zip us)→Vals vs us→sp vs H Q E →
    codeAny (model P w) A (.call (.ref f) args) (CR CX outer P w H s Q E) s
theorem Env0.make {P:Program} {w:World} {K:PySem.W.Frag} {mg:Str→Option Value} {base:Heap} {A:Around} {outer:List Env} {s:Shared} {H:Hp} (e:Env0 P w K mg base A outer s H) (C:Addr) (us:List Value) (kw:List (Str × Value)) :
    Env0 P w K mg base (A.under (.builtin "type.__call__" ⟨.ref C::us,kw⟩)) outer s H:=⟨by first | exact e.frames | (simpa [Around.under,Code.envs,Code.isFrame,pushEnvs] using e.frames),e.mod,e.bs,e.bsz,e.funs,e.frf,e.hok,e.bare⟩
section
variable {X:Cx} {pins:List (Addr × Obj)} {σ:St} {H:Hp} {s s':Shared}
theorem Inv.env0 (I:Inv X pins σ H s):Env0 X.prog X.w X.K X.mg X.base X.A X.stack s H :=
  ⟨I.ok.frames,I.ok.mod,I.bs,Nat.le_trans I.ok.bsz I.sz,I.stack,I.stkFree,I.hok,I.bare⟩
theorem Inv.after {Q:VK} {u:Value} (I:Inv X pins σ H s) (h:CE X.stack X.prog X.w H s Q u s'):EP X pins σ Q u s':=by
  obtain ⟨v,H',os,bare,un,hok,r,q⟩:=h
  obtain ⟨hh,g,d,t,os'⟩:=s'
  obtain rfl:os'=s.os:=os
  exact ⟨v,H',I.call (h':=hh) (g':=g) (d':=d) (t':=t) (ch:=[]) un hok bare (fun b z=>absurd z (by simp)),r,q⟩
end
def tCall (sp:Sp) (dvs:List V) (E:XK) (t:TA):TE:=fun σ H Q=>t σ H fun vs H1=>sp (vs++dvs) H1 Q E
def tMeth (C:Addr) (m:Str) (sp:Sp) (dvs:List V) (E:XK) (ta:TE) (t:TA):TE:=fun σ H Q=>ta σ H fun x H1=>∃ a dx fs,x=.ref a∧H1 a=some (.ins C dx fs)∧fs.lookup m=none ∧
  t σ H1 fun vs H2=>sp (x::(vs++dvs)) H2 Q E
def tMake (C:Addr) (sp:Sp) (dvs:List V) (E:XK) (t:TA):TE:=fun σ H Q=>t σ H fun vs H1=>∀ x dx,H1 x=none→H1 dx=none→dx ≠ x →
  sp (.ref x::(vs++dvs)) (upd (upd H1 dx (.own x)) x (.ins C dx [])) (fun v H2=>v=.non∧Q (.ref x) H2) E
def Binds (K:PySem.W.Frag) (fd:FuncData) (ps:List Str) (ds:List Value):Prop :=
  ∀ (s:Shared) (us:List Value),K.In s.heap→(us++ds).length=ps.length→BindsTo s fd ⟨us,[]⟩ (ps.zip (us++ds))
theorem Binds.all {K:PySem.W.Frag} {fd:FuncData} {ps:List Str} (h:∀ us:List Value,us.length=ps.length→bindArgs fd ⟨us,[]⟩=pure (ps.zip us)):Binds K fd ps []:=fun s us _ hl=>by
  rw [List.append_nil] at hl ⊢
  exact .of_eq (h us hl)
def Passes (CX:CXT) (X:Cx) (E:XK):Prop:=∀ (pins:List (Addr × Obj)) (σ:St) (H:Hp) (s:Shared) (e:Value) (s':Shared),Inv X pins σ H s→CX X.stack H s E e s'→X.xe e s'
section
variable {X:Cx} {CX:CXT} {k:Nat} {f C:Addr} {fd:FuncData} {ps:List Str} {sp:Sp} {dvs:List V} {ds:List Value} {E:XK} {x m:Str} {p pos apos:Pos} {e o:Expr} {es:List Expr} {ta:TE} {t:TA}
theorem run_fn {pins:List (Addr × Obj)} {σ:St} {H:Hp} {s:Shared} {Q:VK} {us:List Value} {vs:List V} (F:FnOk X.prog X.w X.K X.mg X.base CX k f fd ps sp) (hr:Room k X.A) (hb:Binds X.K fd ps ds) (hd:Vals dvs ds) (hx:Passes CX X E)
    (I:Inv X pins σ H s) (r:Vals vs us) (h:sp (vs++dvs) H Q E):wpAny (model X.prog X.w) X.A (call (.ref f) us) (EP X pins σ Q) X.xe s:=by
  have r2:Vals (vs++dvs) (us++ds):=r.append hd
  have hl:(us++ds).length=ps.length:=by rw [← r2.length]; exact F.len _ _ _ _ h
  refine wpAny_call (codeAny_mono (F.run X.A X.stack s H ⟨us,[]⟩ (us++ds) (vs++dvs) Q E hr I.env0 (hb s us I.kIn hl) r2 h) fun r s' hq=>?_)
  cases r with
  | error e=>exact hx pins σ H s e s' I hq
  | ok fl =>
    cases fl with
    | ret u=>exact I.after hq
    | next=>exact False.elim hq
    | brk=>exact False.elim hq
    | cont=>exact False.elim hq
theorem pe_call (F:FnOk X.prog X.w X.K X.mg X.base CX k f fd ps sp) (hr:Room k X.A) (hg:Gl X x) (hm:X.mg x=some (.ref f)) (hk:PySem.W.keepIn X.K (.ref f)=true) (hb:Binds X.K fd ps ds) (hd:Vals dvs ds) (hx:Passes CX X E)
    (ha:PA X (e::es) t) (hdb:(x == ("__debug__" : Str))=false:=by decide) (he:starEach (e::es) X.env=(false,eval e X.env)::starEach es X.env:=by rfl) (hpl:(backTo pos (starEach es X.env)).any (·.1)=false:=by rfl) :
    PE X (.Call (.Name x p) (e::es) [] pos) (tCall sp dvs E t):=by
  intro pins s σ H Q I h
  refine wpAny_Call_Name_kw (ld_glob I hg hm ?_ hdb)
  refine PySem.W.callWith_K (h₀:=X.base) I.ok.mod.kin hk (thn (ha pos pins s σ H _ I h) fun us s1 ⟨vs,H1,I1,r,q⟩=>⟨I1.kIn,?_⟩) he hpl
  exact run_fn F hr hb hd hx I1 r q
theorem pe_call0 (F:FnOk X.prog X.w X.K X.mg X.base CX k f fd ps sp) (hr:Room k X.A) (hg:Gl X x) (hm:X.mg x=some (.ref f)) (hk:PySem.W.keepIn X.K (.ref f)=true) (hb:Binds X.K fd ps ds) (hd:Vals dvs ds) (hx:Passes CX X E)
    (hdb:(x == ("__debug__" : Str))=false:=by decide):PE X (.Call (.Name x p) [] [] pos) (tCall sp dvs E tNil):=by
  intro pins s σ H Q I h
  refine wpAny_Call_Name_kw (ld_glob I hg hm ?_ hdb)
  exact PySem.W.callWith_K0 I.kIn hk (run_fn (us:=[]) F hr hb hd hx I .nil h)
theorem pe_meth {pl:Sem Bool} (he:PE X o ta) (c:Cls X.K C) (hm:Meth X.K C m f) (F:FnOk X.prog X.w X.K X.mg X.base CX k f fd ps sp) (hr:Room k X.A) (hb:Binds X.K fd ps ds) (hd:Vals dvs ds) (hx:Passes CX X E) (ha:PA X (e::es) t)
    (hst:starEach (e::es) X.env=(false,eval e X.env)::starEach es X.env:=by rfl) (hpl:(backTo pos (starEach es X.env)).any (·.1)=false:=by rfl)
    (ht:eval (.Call (.Attribute o m apos) (e::es) [] pos) X.env=(do
      let ov ← eval o X.env
      standAt apos.atName
      let (f,first) ← holding [ov] (getMethod ov m pl)
      callWith pos f first (backTo pos (starEach (e::es) X.env)) (backToKw pos (keywordEach [] X.env))):=by rfl) :
    PE X (.Call (.Attribute o m apos) (e::es) [] pos) (tMeth C m sp dvs E ta t):=by
  intro pins s σ H Q I h
  refine PySem.W.methodCall_KW (pl:=pl) (thn (he pins s σ H _ I h) fun u s1 ⟨x,H1,I1,rx,a,dx,fs,ex,ea,l,q⟩=>?_) ht
  subst ex
  obtain rfl:u=Value.ref a:=rx
  refine getmeth_ok I1 ea c hm l ?_
  refine PySem.W.callWith_K (first:=[.ref a]) (h₀:=X.base) I.ok.mod.kin hm.kp (thn (ha pos pins s1 σ H1 _ I1 q) fun us s2 ⟨vs,H2,I2,r,q2⟩=>⟨I2.kIn,?_⟩) hst hpl
  exact run_fn (us:=.ref a::us) (vs:=.ref a::vs) F hr hb hd hx I2 (.cons rfl r) q2
theorem pe_meth0 {pl:Sem Bool} (he:PE X o ta) (c:Cls X.K C) (hm:Meth X.K C m f) (F:FnOk X.prog X.w X.K X.mg X.base CX k f fd ps sp) (hr:Room k X.A) (hb:Binds X.K fd ps ds) (hd:Vals dvs ds) (hx:Passes CX X E)
    (ht:eval (.Call (.Attribute o m apos) [] [] pos) X.env=(do
      let ov ← eval o X.env
      standAt apos.atName
      let (f,first) ← holding [ov] (getMethod ov m pl)
      callWith pos f first (backTo pos (starEach [] X.env)) (backToKw pos (keywordEach [] X.env))):=by rfl) :
    PE X (.Call (.Attribute o m apos) [] [] pos) (tMeth C m sp dvs E ta tNil):=by
  intro pins s σ H Q I h
  refine PySem.W.methodCall_KW (pl:=pl) (thn (he pins s σ H _ I h) fun u s1 ⟨x,H1,I1,rx,a,dx,fs,ex,ea,l,q⟩=>?_) ht
  subst ex
  obtain rfl:u=Value.ref a:=rx
  refine getmeth_ok I1 ea c hm l ?_
  exact PySem.W.callWith_K0 (first:=[.ref a]) I1.kIn hm.kp (run_fn (us:=[.ref a]) (vs:=[.ref a]) F hr hb hd hx I1 (.cons rfl .nil) q)
structure Mk (K:PySem.W.Frag) (C f:Addr):Prop where
  makes:PySem.W.makesIn K C=true
  init:PySem.W.findIn K (.ref C) "__init__" = some (some (.ref f))
  fn:PySem.W.isFn K (.ref f)=true
  kp:PySem.W.keepIn K (.ref C)=true
theorem run_make {pins:List (Addr × Obj)} {σ:St} {H:Hp} {s:Shared} {Q:VK} {us:List Value} {vs:List V} (M:Mk X.K C f) (F:FnOk X.prog X.w X.K X.mg X.base CX k f fd ps sp) (hr:Room (k+1) X.A) (hb:Binds X.K fd ps ds) (hd:Vals dvs ds)
    (hx:Passes CX X E) (I:Inv X pins σ H s) (r:Vals vs us)
    (h:∀ x dx,H x=none→H dx=none→dx ≠ x→sp (.ref x::(vs++dvs)) (upd (upd H dx (.own x)) x (.ins C dx [])) (fun v H2=>v=.non∧Q (.ref x) H2) E) :
    wpAny (model X.prog X.w) X.A (call (.ref C) us) (EP X pins σ Q) X.xe s:=by
  have hq:=h (s.heap.objs.size+1) s.heap.objs.size (I.hok.fresh (Nat.le_succ _)) (I.hok.fresh (Nat.le_refl _)) (Nat.ne_of_lt (Nat.lt_succ_self _))
  have I2:=Inv.made (C:=C) I
  have r2:Vals (V.ref (s.heap.objs.size+1)::(vs++dvs)) (Value.ref (s.heap.objs.size+1)::(us++ds)):=.cons rfl (r.append hd)
  have hl:(Value.ref (s.heap.objs.size+1)::us++ds).length=ps.length:=by
    have e:=r2.length
    rw [F.len _ _ _ _ hq] at e
    exact e.symm
  refine wpAny_call (make_map (f:=f) I.kIn M.makes M.init (beq_iff_eq.mp M.fn) (codeAny_mono (F.run _ X.stack _ _ ⟨Value.ref (s.heap.objs.size+1)::us,[]⟩ (Value.ref (s.heap.objs.size+1)::(us++ds)) _ _ E (hr.make C us [])
    (I2.env0.make C us []) (hb _ (Value.ref (s.heap.objs.size+1)::us) I2.kIn hl) r2 hq) fun r s' hq'=>?_))
  cases r with
  | error e=>exact hx pins σ _ _ e s' I2 hq'
  | ok fl =>
    cases fl with
    | ret u =>
      obtain ⟨v,H',I3,rv,ev,q3⟩:=I2.after hq'
      subst ev
      exact ⟨rv,⟨V.ref (s.heap.objs.size+1),H',I3,rfl,q3⟩⟩
    | next=>exact False.elim hq'
    | brk=>exact False.elim hq'
    | cont=>exact False.elim hq'
theorem pe_make (M:Mk X.K C f) (F:FnOk X.prog X.w X.K X.mg X.base CX k f fd ps sp) (hr:Room (k+1) X.A) (hg:Gl X x) (hm:X.mg x=some (.ref C)) (hb:Binds X.K fd ps ds) (hd:Vals dvs ds) (hx:Passes CX X E)
    (ha:PA X (e::es) t) (hdb:(x == ("__debug__" : Str))=false:=by decide) (he:starEach (e::es) X.env=(false,eval e X.env)::starEach es X.env:=by rfl) (hpl:(backTo pos (starEach es X.env)).any (·.1)=false:=by rfl) :
    PE X (.Call (.Name x p) (e::es) [] pos) (tMake C sp dvs E t):=by
  intro pins s σ H Q I h
  refine wpAny_Call_Name_kw (ld_glob I hg hm ?_ hdb)
  refine PySem.W.callWith_K (h₀:=X.base) I.ok.mod.kin M.kp (thn (ha pos pins s σ H _ I h) fun us s1 ⟨vs,H1,I1,r,q⟩=>⟨I1.kIn,?_⟩) he hpl
  exact run_make M F hr hb hd hx I1 r q
end
def PK (X:Cx) (kws:List Keyword) (t:TA):Prop :=
  ∀ (pos:Pos) (pins:List (Addr × Obj)) (s:Shared) (σ:St) (H:Hp) (Q:List V→Hp→Prop),Inv X pins σ H s→t σ H Q→wpAny (model X.prog X.w) X.A (evalAll ((backToKw pos (keywordEach kws X.env)).map (·.2))) (AP X pins σ Q) X.xe s
section
variable {X:Cx} {CX:CXT} {k:Nat} {f C:Addr} {fd:FuncData} {ps ks:List Str} {sp:Sp} {E:XK} {x m:Str} {p pos apos kpos:Pos} {e o:Expr} {es:List Expr} {kws:List Keyword} {te ta:TE} {t tk:TA} {nm:Option Str}
structure KBinds (K:PySem.W.Frag) (fd:FuncData) (ps ks:List Str) (g:List Value→List Value→List Value) (gV:List V→List V→List V):Prop where
  to:∀ (s:Shared) (us ws:List Value),K.In s.heap→(g us ws).length=ps.length→BindsTo s fd ⟨us,ks.zip ws⟩ (ps.zip (g us ws))
  rel:∀ {vs:List V} {us:List Value} {zs:List V} {ws:List Value},Vals vs us→Vals zs ws→Vals (gV vs zs) (g us ws)
def tCallK (sp:Sp) (gV:List V→List V→List V) (E:XK) (t tk:TA):TE:=fun σ H Q=>t σ H fun vs H1=>tk σ H1 fun zs H2=>sp (gV vs zs) H2 Q E
variable {g:List Value→List Value→List Value} {gV:List V→List V→List V}
end
structure FnScope (N P:List Str) (sc:Scope):Prop where
  kind:sc.kind=.function
  co:sc.isCoroutine=false
  gen:sc.isGenerator=false
  nd:N.Nodup
  pre:N.take P.length=P
  par:∀ x ∈ P,sc.names.lookup x=some .local∨sc.names.lookup x=some .cell
  nofree:∀ y ∈ sc.names,y.2 ≠ .free
theorem bindL_out {kindOf:Str→Option NameKind} {x:Str}:∀ {binds:List (Str × Value)} {m:Str→Option Value},(∀ v,(x,v) ∉ binds)→bindL kindOf binds m x=m x
  | [],_,_=>rfl
  | (n,v)::r,m,h=>by
    unfold bindL
    rw [bindL_out fun w hw=>h w (List.mem_cons_of_mem _ hw)]
    split
    · have:x ≠ n:=by rintro rfl; exact h v List.mem_cons_self
      simp [this]
    · rfl
theorem bindC_out {kindOf:Str→Option NameKind} {x:Str}:∀ {binds:List (Str × Value)} {m:Str→Option Value},(∀ v,(x,v) ∉ binds)→bindC kindOf binds m x=m x
  | [],_,_=>rfl
  | (n,v)::r,m,h=>by
    unfold bindC
    rw [bindC_out fun w hw=>h w (List.mem_cons_of_mem _ hw)]
    split
    · rfl
    · have:x ≠ n:=by rintro rfl; exact h v List.mem_cons_self
      simp [this]
theorem bindL_get {kindOf:Str→Option NameKind} {x:Str} {v:Value}:∀ {P:List Str} {vs:List Value} {i:Nat} {m:Str→Option Value},P.Nodup→P[i]?=some x→vs[i]?=some v→kindOf x=some .local →
    bindL kindOf (P.zip vs) m x=some v
  | [],_,_,_,_,h,_,_=>by simp at h
  | _::_,[],_,_,_,_,h,_=>by simp at h
  | p::P,w::vs,0,m,nd,h1,h2,hk=>by
    simp at h1 h2; subst h1; subst h2
    show bindL kindOf ((p,w)::P.zip vs) m p=_
    unfold bindL
    rw [bindL_out fun v hv=>(List.nodup_cons.mp nd).1 (List.of_mem_zip hv).1,if_pos hk]
    simp
  | p::P,w::vs,i+1,m,nd,h1,h2,hk=>by
    show bindL kindOf ((p,w)::P.zip vs) m x=_
    unfold bindL
    exact bindL_get (i:=i) (List.nodup_cons.mp nd).2 (by simpa using h1) (by simpa using h2) hk
theorem bindC_get {kindOf:Str→Option NameKind} {x:Str} {v:Value}:∀ {P:List Str} {vs:List Value} {i:Nat} {m:Str→Option Value},P.Nodup→P[i]?=some x→vs[i]?=some v→kindOf x ≠ some .local →
    bindC kindOf (P.zip vs) m x=some v
  | [],_,_,_,_,h,_,_=>by simp at h
  | _::_,[],_,_,_,_,h,_=>by simp at h
  | p::P,w::vs,0,m,nd,h1,h2,hk=>by
    simp at h1 h2; subst h1; subst h2
    show bindC kindOf ((p,w)::P.zip vs) m p=_
    unfold bindC
    rw [bindC_out fun v hv=>(List.nodup_cons.mp nd).1 (List.of_mem_zip hv).1,if_neg hk]
    simp
  | p::P,w::vs,i+1,m,nd,h1,h2,hk=>by
    show bindC kindOf ((p,w)::P.zip vs) m x=_
    unfold bindC
    exact bindC_get (i:=i) (List.nodup_cons.mp nd).2 (by simpa using h1) (by simpa using h2) hk
def start (N:List Str) (vs:List V):St:=vs.map some++List.replicate (N.length - vs.length) none
def cxOf (CX:CXT) (P:Program) (w:World) (K:PySem.W.Frag) (mg:Str→Option Value) (base:Heap) (N:List Str) (qual:Str) (scope:Scope) (f:Addr) (cd:Value) (A:Around) (outer:List Env) (s:Shared) (H:Hp) (E:XK):Cx where
  prog:=P
  w:=w
  K:=K
  mg:=mg
  base:=base
  A:=A.deeper (envOfC qual scope s.heap.objs.size f cd)
  N:=N
  s₀:=s
  H₀:=H
  env:=envOfC qual scope s.heap.objs.size f cd
  outer:=outer
  stack:=envOfC qual scope s.heap.objs.size f cd::outer
  ex:=[]
  calm:=true
  fn:=fun _=>true
  pn:=[]
  xe:=fun e s'=>wpAny (model P w) (A.deeper (envOfC qual scope s.heap.objs.size f cd)) (leaving (envOfC qual scope s.heap.objs.size f cd) e) (fun _ s''=>CX outer H s E e s'') (fun e' s''=>CX outer H s E e' s'') s'
theorem cell_has {sc:Scope} {n:Nat} {x:Str} (h:sc.names.lookup x=some .cell):∃ c,(cellsFrom n sc.names []).lookup x=some c:=by
  have q:=PySem.W.cellsFrom_some sc.names n [] (.inl h)
  exact Option.isSome_iff_exists.mp q
theorem inv_start {CX:CXT} {P:Program} {w:World} {K:PySem.W.Frag} {mg:Str→Option Value} {base:Heap} {N ps:List Str} {qual:Str} {scope:Scope} {f:Addr} {cd:Value} {A:Around} {outer:List Env} {s s1:Shared} {H:Hp} {E:XK} {us:List Value} {vs:List V}
    (S:FnScope N ps scope) (hd:A.handled=none) (e0:Env0 P w K mg base A outer s H) (hl:vs.length=ps.length) (r:Vals vs us)
    (x:InCallC s s.heap.objs.size (bindL (envOfC qual scope s.heap.objs.size f cd).kindOf (ps.zip us) fun _=>none) (cellsFrom (s.heap.objs.size+1) scope.names []) (bindC (envOfC qual scope s.heap.objs.size f cd).kindOf (ps.zip us) fun _=>none) s1) :
    Inv (cxOf CX P w K mg base N qual scope f cd A outer s H E) [] (start N vs) H s1:=by
  have hpl:ps.length≤N.length:=by have:=congrArg List.length S.pre; rw [List.length_take] at this; omega
  obtain ⟨h1,tk,rfl,hk⟩:=x.done
  have noA:∀ b:Addr,b ∉ (cxOf CX P w K mg base N qual scope f cd A outer s H E).ex:=fun b z=>absurd (show b ∈ ([]:List Addr) from z) (by simp)
  refine ⟨⟨e0.mod,S.kind,rfl,rfl,Nat.le_refl _,fun y z c h1 h2=>?_,fun y hy=>?_,fun y c _ h=>?_,fun _=>hd,Around.frames_deeper e0.frames,.inr ⟨rfl,rfl⟩,fun b z=>absurd z (noA b),e0.bs,e0.bsz,fun b _ _=>noA b,fun b z=>absurd z (noA b),e0.funs,e0.frf⟩,
    rfl,e0.bare,Un.kept hk,⟨_,x.toInCall.ns,fun i y v h1 h2 h3=>?_⟩,fun y c h=>⟨_,x.cell y c h⟩,e0.hok.fresh (Nat.le_refl _),fun y c h=>?_,fun p hp=>absurd (show p ∈ ([]:List (Addr × Obj)) from hp) (by simp),e0.hok.kept hk,?_⟩
  · exact name_of_addr x.apart (PySem.mem_of_lookup h1) (PySem.mem_of_lookup h2)
  · have hy:scope.names.lookup y=some .cell∨scope.names.lookup y=some .free:=hy
    rcases hy with hy | hy
    · exact cell_has hy
    · exact absurd rfl (S.nofree _ (PySem.mem_of_lookup hy))
  · exact Nat.le_of_lt (x.above y c (PySem.mem_of_lookup h))
  · have hi:i < vs.length:=by
      unfold start at h2
      by_cases hi:i < vs.length
      · exact hi
      · rw [List.getElem?_append_right (by simpa using hi)] at h2
        rw [List.getElem?_replicate] at h2
        split at h2 <;> cases h2
    have ha:vs[i]?=some v:=by
      unfold start at h2
      rw [List.getElem?_append_left (by simpa using hi),List.getElem?_map] at h2
      cases e:vs[i]? with
      | none=>rw [e] at h2; cases h2
      | some a=>rw [e] at h2; cases h2; rfl
    obtain ⟨u,hu,rv⟩:=r.get ha
    have hp:ps[i]?=some y:=by
      rw [← S.pre,List.getElem?_take_of_lt (by omega)]; exact h1
    have ndP:ps.Nodup:=by rw [← S.pre]; exact S.nd.sublist (List.take_sublist _ _)
    refine ⟨u,rv,?_⟩
    rcases S.par y (List.mem_of_getElem? hp) with k | k
    · exact .inl ⟨k,bindL_get ndP hp hu k⟩
    · obtain ⟨c,e⟩:=cell_has (n:=s.heap.objs.size+1) k
      refine .inr ⟨.inl k,c,e,?_⟩
      have q:=x.cell y c e
      rw [bindC_get ndP hp hu (by show scope.names.lookup y ≠ _; rw [k]; decide)] at q
      exact q
  · exact e0.hok.fresh (Nat.le_of_lt (x.above y c (PySem.mem_of_lookup h)))
  · unfold start
    show _=N.length
    rw [List.length_append,List.length_map,List.length_replicate]
    omega
theorem fn_of {CX:CXT} {P:Program} {w:World} {K:PySem.W.Frag} {mg:Str→Option Value} {base:Heap} {k:Nat} {f:Addr} {name qual:Str} {params:Arguments} {body:List Stmt} {scope:Scope} {dV kV doc pm cdv ct oc:Value} {an od:Option Addr}
    {osl:Array (Option Value)} {N ps:List Str} {sp:Sp} (lk:K.lookup f=some ⟨oc,od,.func (PySem.W.fnOf name qual params body scope dV kV doc pm an cdv ct),osl⟩) (hcd:PySem.W.codeIn K cdv qual=true) (S:FnScope N ps scope)
    (len:∀ vs H Q E,sp vs H Q E→vs.length=ps.length)
    (hbody:∀ (A:Around) (outer:List Env) (s:Shared) (H:Hp) (vs:List V) (Q:VK) (E:XK),Room k (A.deeper (envOfC qual scope s.heap.objs.size f cdv))→sp vs H Q E →
      ∃ t,PSs (cxOf CX P w K mg base N qual scope f cdv A outer s H E) body t∧t { nx:=fun _ H'=>Q .non H',rt:=Q } (start N vs) H) :
    FnOk P w K mg base CX (k+1) f (PySem.W.fnOf name qual params body scope dV kV doc pm an cdv ct) ps sp:=by
  refine ⟨len,fun A outer s H args us vs Q E hr e0 hb r hsp=>?_⟩
  have hl:=len _ _ _ _ hsp
  have KX:K.In s.heap:=e0.mod.kin.keeps fun b o e=>(e0.bs b o e).1
  have lim:s.heap.NoLimit:=e0.mod.nolimit.keeps fun b o e=>(e0.bs b o e).1
  have hkind:∀ y ∈ ps.zip us,scope.names.lookup y.1=some .local∨(scope.names.lookup y.1=some .cell∧((cellsFrom (s.heap.objs.size+1) scope.names []).lookup y.1).isSome=true):=fun ⟨n,v⟩ hy=>by
    rcases S.par n (List.of_mem_zip hy).1 with q | q
    · exact .inl q
    · exact .inr ⟨q,PySem.W.cellsFrom_some _ _ _ (.inl q)⟩
  refine codeAny_call_function hr.depth (KX _ _ lk) rfl S.co S.gen rfl (PySem.W.codeRec_of KX hcd) (hb _ _ _ _ ?_)
  refine wpAny_newFunctionEnv_cells S.kind hkind fun env he s1 x=>?_
  subst he
  refine ⟨lim.keeps x.toInCall.keep,codeAny_func ?_⟩
  obtain ⟨t,ht,hq⟩:=hbody A outer s H vs Q E (hr.deeper _) hsp
  have I:Inv (cxOf CX P w K mg base N qual scope f cdv A outer s H E) [] (start N vs) H s1:=inv_start S hr.hd e0 hl r x
  refine wpAny_mono (ht [] s1 (start N vs) H _ I hq) (fun fl s' hs=>?_) fun e s' hs=>hs
  have fin:∀ {σ':St} {H':Hp} {v:V} {u:Value},Inv (cxOf CX P w K mg base N qual scope f cdv A outer s H E) [] σ' H' s'→RelV v u→Q v H'→CE outer P w H s Q u s' :=
    fun {σ' H' v u} J rv q=>⟨v,H',J.os,J.bare,J.base,J.hok,rv,q⟩
  cases fl with
  | ret u =>
    obtain ⟨v,σ',H',J,rv,q⟩:=hs
    exact fin J rv q
  | next =>
    obtain ⟨σ',H',J,q⟩:=hs
    exact fin (v:=V.non) (u:=Value.none) J rfl q
  | brk =>
    obtain ⟨_,_,_,q⟩:=hs
    exact False.elim q
  | cont =>
    obtain ⟨_,_,_,q⟩:=hs
    exact False.elim q
end L2
namespace L2
open PySem PySem.Spec PyProof.Rows
section
variable {X:Cx} {x:Str} {p pos:Pos} {e:Expr} {es:List Expr} {t:TA} {id T:String} {r:List V→Hp→VK→Prop}
def tCB (r:List V→Hp→VK→Prop) (t:TA):TE:=fun σ H Q=>t σ H fun vs H1=>r vs H1 Q
theorem pe_callB (hc:CallR X (.builtin id) r) (hg:Gl X x) (hm:X.mg x=none) (hv:bootBuiltins x=some (.builtin id)) (ha:PA X (e::es) t) (hn:x ≠ "__name__" := by decide) (hdb:(x == ("__debug__" : Str))=false:=by decide)
    (he:starEach (e::es) X.env=(false,eval e X.env)::starEach es X.env:=by rfl) (hpl:(backTo pos (starEach es X.env)).any (·.1)=false:=by rfl):PE X (.Call (.Name x p) (e::es) [] pos) (tCB r t):=by
  intro pins s σ H Q I h
  refine wpAny_Call_Name_kw (ld_blt I hg hm hv ?_ hn hdb)
  exact PyProof.Rows.callWith_builtin1 (thn (ha pos pins s σ H _ I h) fun us s1 ⟨vs,H1,I1,r1,q1⟩=>hc pins s1 σ H1 vs us Q I1 r1 q1) he hpl
end
end L2
namespace HT
open PySem PyProof.Rows
def lexLt:List Int→List Int→Bool
  | [],[]=>false
  | [],_::_=>true
  | _::_,[]=>false
  | x::xs,y::ys=>if x=y then lexLt xs ys else decide (x < y)
section
open PySem.SeqAt
open PySem.AutoSeq1 (wpAny_loadPart')
open PySem.MeetsSeq PySem.MeetsSeq2 PySem.MeetsSeq3
end
section
variable {prog:Program} {w:World} {A:Around} {E:Value→Shared→Prop} {s:Shared}
def sIx (n d:Nat):Option Int→Nat
  | none=>d
  | some v=>if v < 0 then (v+(n:Int)).toNat else min v.toNat n
theorem sIx_none (n d:Nat):sIx n d none=d:=rfl
theorem sIx_nat (n d k:Nat):sIx n d (some (k:Int))=min k n:=by
  show (if (k:Int) < 0 then ((k:Int)+(n:Int)).toNat else min (k:Int).toNat n)=min k n
  rw [if_neg (by omega),Int.toNat_natCast]
theorem sIx_le (n d:Nat) (hd:d≤n) (o:Option Int):sIx n d o≤n:=by
  cases o with
  | none=>exact hd
  | some v =>
    show (if v < 0 then (v+(n:Int)).toNat else min v.toNat n)≤n
    by_cases hv:v < 0
    · rw [if_pos hv]; omega
    · rw [if_neg hv]; exact Nat.min_le_right _ _
theorem clip_eq (v:Int) (n d:Nat):(if v < 0 then max (v+(n:Int)) 0 else min v (n:Int))=((sIx n d (some v):Nat):Int):=by
  show (if v < 0 then max (v+(n:Int)) 0 else min v (n:Int))=(((if v < 0 then (v+(n:Int)).toNat else min v.toNat n):Nat):Int)
  by_cases hv:v < 0
  · simp only [if_pos hv]; omega
  · simp only [if_neg hv]; omega
theorem adjust_gen (lo hi:Option Int) (n:Nat):Builtin.Slice.sliceAdjust lo hi 1 (n:Int)=(((sIx n 0 lo:Nat):Int),((sIx n n hi:Nat):Int)):=by
  have h1:¬ ((1:Int) < 0):=by omega
  unfold Builtin.Slice.sliceAdjust
  simp only [h1,if_false]
  refine Prod.ext ?_ ?_
  · cases lo with
    | none=>rfl
    | some v=>exact clip_eq v n 0
  · cases hi with
    | none=>rfl
    | some v=>exact clip_eq v n n
theorem places_gen (i j:Nat):Builtin.Slice.slicePlaces (i:Int) (j:Int) 1=j - i:=by
  unfold Builtin.Slice.slicePlaces
  have h1:(1:Int) > 0:=by omega
  simp only [h1,if_true,Int.ediv_one]
  split <;> omega
theorem slicePart_ {v:Value} {o:Option Int} {Q:Option Int→Shared→Prop} (p:IsPart v o) (h:Q o s):wpAny (model prog w) A (Builtin.Slice.slicePartIndex v) Q E s:=by
  cases p with
  | none=>exact slicePart_none h
  | int i t=>exact slicePart_int h
theorem sliceApplied_gen {sl:Addr} {vl vu:Value} {lo hi:Option Int} {n:Nat} {Q:Int × Int × Nat→Shared→Prop} (hs:s.heap.IsSliceOf sl vl vu .none) (pl:IsPart vl lo) (pu:IsPart vu hi)
    (h:Q (((sIx n 0 lo:Nat):Int),1,sIx n n hi - sIx n 0 lo) s):wpAny (model prog w) A (Builtin.Slice.sliceApplied (.ref sl) (pure (n:Int))) Q E s:=by
  obtain ⟨os,hos,hcs,hds⟩:=id hs
  unfold Builtin.Slice.sliceApplied Builtin.Slice.sliceFields
  refine wpAny_bind (wpAny_bind (wpAny_field hos hds (x:=vl) rfl (wpAny_bind (wpAny_field hos hds (x:=vu) rfl (wpAny_bind (wpAny_field hos hds (x:=.none) rfl (wpAny_pure ?_)))))))
  refine wpAny_bind (slicePart_none ?_)
  show wpAny _ _ (if ((1:Int) == 0)=true then _ else _) _ _ s
  rw [if_neg (by decide)]
  refine wpAny_bind (slicePart_ pl (wpAny_bind (slicePart_ pu (wpAny_bind (wpAny_pure ?_)))))
  show wpAny _ _ (match Builtin.Slice.sliceAdjust lo hi 1 (n:Int) with | (lo,hi)=>pure (lo,(1:Int),Builtin.Slice.slicePlaces lo hi 1)) _ _ s
  rw [adjust_gen lo hi n]
  show wpAny _ _ (pure (((sIx n 0 lo:Nat):Int),(1:Int),Builtin.Slice.slicePlaces ((sIx n 0 lo:Nat):Int) ((sIx n n hi:Nat):Int) 1)) _ _ s
  rw [places_gen]
  exact wpAny_pure h
theorem pick_gen (xs:Array Value) (i k:Nat):((List.range k).filterMap fun (m:Nat)=>xs[((i:Int)+(m:Int)*1).toNat]?).toArray=((xs.toList.drop i).take k).toArray:=by
  have e:(fun (m:Nat)=>xs[((i:Int)+(m:Int)*1).toNat]?)=fun m=>xs[i+m]?:=by
    funext m
    have:((i:Int)+(m:Int)*1).toNat=i+m:=by omega
    rw [this]
  rw [e]
  have:=pick_run xs i k
  rw [List.filterMap_map] at this
  have e2:((fun x=>xs[x]?) ∘ fun x=>i+x)=fun m=>xs[i+m]?:=rfl
  rw [e2] at this
  rw [this]
theorem getItem_tuple_cut {t sl:Addr} {items:Array Value} {vl vu:Value} {lo hi:Option Int} {Q:Value→Shared→Prop} (ht:IsTup s.heap t items) (hs:s.heap.IsSliceOf sl vl vu .none) (pl:IsPart vl lo) (pu:IsPart vu hi)
    (hw:¬ (sIx items.size 0 lo=0∧sIx items.size items.size hi=items.size))
    (h:Q (.ref s.heap.objs.size) { s with heap:=s.heap.push { cls:=.type "tuple", data:=.seq ((items.toList.drop (sIx items.size 0 lo)).take (sIx items.size items.size hi - sIx items.size 0 lo)).toArray } })
    (hsz:items.size≤sizeLine):wpAny (model prog w) A (getItem (.ref t) (.ref sl)) Q E s:=by
  have htake:sizeOk (.seq ((items.toList.drop (sIx items.size 0 lo)).take (sIx items.size items.size hi - sIx items.size 0 lo)).toArray):=by
    show ((items.toList.drop (sIx items.size 0 lo)).take (sIx items.size items.size hi - sIx items.size 0 lo)).toArray.size≤sizeLine
    rw [List.size_toArray,List.length_take,List.length_drop,Array.length_toList]
    omega
  have hj:sIx items.size items.size hi≤items.size:=sIx_le _ _ (Nat.le_refl _) hi
  obtain ⟨os,hos,hcs,hds⟩:=id hs
  have hTs:s.TypeIs (.ref sl) "slice" := ⟨os,hos,hcs⟩
  unfold getItem
  try with_reducible refine wpAny_holding ?_
  first | refine wpAny_bind (wpAny_pure ?_) | skip
  refine wpAny_bind (wpAny_sequenceKey ht.typeIs (by decide) ?_)
  refine wpAny_bind (wpAny_callSpecial?_slot (name:=Str.ofString "__getitem__") ht.typeIs PyProof.Rows.slot_tuple_getitem
    (wpAny_call_entry PyProof.Rows.slot_tuple_getitem ht.typeIs entry_tuple_getitem ?_ (args_tuple_getitem _ _)))
  show wpAny _ _ (Builtin.Tuple.tupleItemsOf (.ref t) >>= _) _ _ s
  refine wpAny_bind (tupleItemsOf_ ht ?_)
  refine wpAny_bind (wpAny_typeOf hTs ?_)
  rw [if_pos (by decide)]
  refine wpAny_bind (sliceApplied_gen hs pl pu ?_)
  have hno:¬ ((((sIx items.size 0 lo:Nat):Int) == 0 && (1:Int) == 1 && (sIx items.size items.size hi - sIx items.size 0 lo) == items.size)=true):=by
    intro q
    rw [Bool.and_eq_true,Bool.and_eq_true] at q
    have q1:((sIx items.size 0 lo:Nat):Int)=0:=eq_of_beq q.1.1
    have q2:sIx items.size items.size hi - sIx items.size 0 lo=items.size:=eq_of_beq q.2
    exact hw ⟨by omega,by omega⟩
  show wpAny _ _ (if (((sIx items.size 0 lo:Nat):Int) == 0 && (1:Int) == 1 && (sIx items.size items.size hi - sIx items.size 0 lo) == items.size)=true then _ else _) _ _ s
  rw [if_neg hno,pick_gen]
  first
    | exact wpAny_bind (m:=Builtin.Tuple.tupleExact _) (wpAny_newObj_type (wpAny_pure ⟨_,rfl,wpAny_pure h⟩) htake)
    | exact wpAny_bind (m:=Builtin.Tuple.tupleExact _) (wpAny_newObj_type (wpAny_bind (wpAny_pure (wpAny_pure ⟨_,rfl,wpAny_pure h⟩))) htake)
    | exact wpAny_bind (wpAny_bind (m:=Builtin.Tuple.tupleExact _) (wpAny_newObj_type (wpAny_pure (wpAny_pure ⟨_,rfl,wpAny_pure h⟩)) htake))
    | exact wpAny_bind (wpAny_bind (m:=Builtin.Tuple.tupleExact _) (wpAny_newObj_type (wpAny_pure ⟨_,rfl,wpAny_pure h⟩) htake))
end
end HT
namespace L2
open PySem PySem.Spec PyProof.Rows
abbrev TO:=St→Hp→(Option Int→Hp→Prop)→Prop
def PO (X:Cx) (e:Option Expr) (t:TO):Prop :=
  ∀ (pins:List (Addr × Obj)) (s:Shared) (σ:St) (H:Hp) (Q:Option Int→Hp→Prop),Inv X pins σ H s→t σ H Q →
    wpAny (model X.prog X.w) X.A (evalPart e X.env) (fun u s'=>∃ o H',Inv X pins σ H' s'∧IsPart u o∧Q o H') X.xe s
def tNoPart:TO:=fun _ H Q=>Q none H
def tPart (t:TE):TO:=fun σ H Q=>t σ H fun x H1=>∃ i,x=.int i∧Q (some i) H1
section
variable {X:Cx} {e:Expr} {te:TE} {lo hi:Option Expr} {tl th:TO} {pos p2:Pos}
theorem po_none:PO X none tNoPart:=by
  intro pins s σ H Q I h
  rw [evalPart_none]
  exact wpAny_pure ⟨none,H,I,.none,h⟩
theorem po_some (h:PE X e te):PO X (some e) (tPart te):=by
  intro pins s σ H Q I hw
  rw [evalPart_some]
  refine thn (h pins s σ H _ I hw) fun u s1 ⟨x,H1,I1,r1,q1⟩=>?_
  obtain ⟨i,rfl,q⟩:=q1
  obtain ⟨t,rfl⟩:=r1
  exact ⟨some i,H1,I1,.int i t,q⟩
def SlR (X:Cx) (r:V→Option Int→Option Int→Hp→VK→Prop):Prop :=
  ∀ (pins:List (Addr × Obj)) (s:Shared) (σ:St) (H:Hp) (x:V) (v vl vu:Value) (lo hi:Option Int) (sl:Addr) (Q:VK),Inv X pins σ H s→RelV x v→s.heap.IsSliceOf sl vl vu .none→IsPart vl lo→IsPart vu hi→r x lo hi H Q →
    ∃ T id,typeLookup (.type T) "__getitem__" = pure (some (.builtin id))∧s.TypeIs v T∧wpAny (model X.prog X.w) X.A (getItem v (.ref sl)) (EP X pins σ Q) X.xe s
def tSl (r:V→Option Int→Option Int→Hp→VK→Prop) (te:TE) (tl th:TO):TE:=fun σ H Q=>te σ H fun x H1=>tl σ H1 fun l H2=>th σ H2 fun u H3=>r x l u H3 Q
theorem pe_slice {r:V→Option Int→Option Int→Hp→VK→Prop} (hr:SlR X r) (he:PE X e te) (hl:PO X lo tl) (hu:PO X hi th):PE X (.Subscript e (.Slice lo hi none p2) pos) (tSl r te tl th):=by
  intro pins s σ H Q I h
  refine Subscript_ (thn (he pins s σ H _ I h) fun v s1 ⟨x,H1,I1,r1,q1⟩=>?_)
  refine wpAny_Slice (thn (hl pins s1 σ H1 _ I1 q1) fun vl s2 ⟨l,H2,I2,pl,q2⟩=>thn (hu pins s2 σ H2 _ I2 q2) fun vu s3 ⟨u,H3,I3,pu,q3⟩=>?_)
  rw [evalPart_none]
  refine wpAny_pure ?_
  have I4:Inv X pins σ H3 { s3 with heap:=s3.heap.push { cls:=.type "slice", data:=.fields #[vl,vu,.none] } }:=I3.kept (t':=s3.toks) fun b ob q=>Heap.get?_push_of_some _ q
  obtain ⟨T,id,hT,ht,hg⟩:=hr pins { s3 with heap:=s3.heap.push { cls:=.type "slice", data:=.fields #[vl,vu,.none] } } σ H3 x v vl vu l u s3.heap.objs.size Q I4 r1 (Heap.IsSliceOf.new ..) pl pu q3
  show wpAny (model X.prog X.w) X.A (subscriptTail e (.Slice lo hi none p2) v (.ref s3.heap.objs.size)) (EP X pins σ Q) X.xe { s3 with heap:=s3.heap.push { cls:=.type "slice", data:=.fields #[vl,vu,.none] } }
  exact tail_any (ops:=[.ref s3.heap.objs.size,v]) ht hT hg (by with_unfolding_all rfl)
def cutV (xs:List V) (lo hi:Option Int):List V:=(xs.drop (HT.sIx xs.length 0 lo)).take (HT.sIx xs.length xs.length hi - HT.sIx xs.length 0 lo)
theorem cutV_length (xs:List V) (lo hi:Option Int):(cutV xs lo hi).length≤xs.length:=by
  unfold cutV
  rw [List.length_take,List.length_drop]
  omega
def rSlT (K:PySem.W.Frag):V→Option Int→Option Int→Hp→VK→Prop:=fun x lo hi H Q=>∃ a xs,x=.ref a∧SqT K H a xs ∧
  ¬ (HT.sIx xs.length 0 lo=0∧HT.sIx xs.length xs.length hi=xs.length)∧∀ p,H p=none→Q (.ref p) (upd H p (.tup (cutV xs lo hi)))
theorem sl_tup:SlR X (rSlT X.K):=by
  intro pins s σ H x v vl vu lo hi sl Q I rx hs pl pu h
  obtain ⟨a,xs,rfl,hx,hw,q⟩:=h
  cases rx
  obtain ⟨its,r,ht,hz⟩:=I.tuple hx
  have hlen:its.toArray.size=xs.length:=by rw [List.size_toArray]; exact r.length.symm
  refine ⟨"tuple", _,PyProof.Rows.slot_tuple_getitem.lookup,ht.typeIs,?_⟩
  refine HT.getItem_tuple_cut ht hs pl pu (by rw [hlen]; exact hw) ?_ (by rw [hlen]; exact hz)
  rw [hlen]
  refine ⟨.ref s.heap.objs.size,_,I.laid (t':=s.toks) (o:=.tup (cutV xs lo hi)) (fun b ob q=>Heap.get?_push_of_some _ q) (Nat.le_refl _) ?_,rfl,q _ (I.hok.fresh (Nat.le_refl _))⟩
  exact ⟨Nat.le_trans (cutV_length xs lo hi) hz,_,(r.drop (HT.sIx xs.length 0 lo)).take (HT.sIx xs.length xs.length hi - HT.sIx xs.length 0 lo),IsTup.new _ _,_,Heap.get?_push_size _ rfl,rfl⟩
def rLtT (K:PySem.W.Frag):R2:=fun x y H Q=>∃ a b ns ms,x=.ref a∧y=.ref b∧SqT K H a (ns.map V.int)∧SqT K H b (ms.map V.int)∧Q (.bl (HT.lexLt ns ms)) H
def rCatT (K:PySem.W.Frag):R2:=fun x y H Q=>∃ a b xs ys,x=.ref a∧y=.ref b∧SqT K H a xs∧SqT K H b ys∧xs ≠ []∧xs.length+ys.length≤sizeLine ∧
  (ys=[]→Q (.ref a) H)∧(ys ≠ []→∀ p,H p=none→Q (.ref p) (upd H p (.tup (xs++ys))))
end
end L2
namespace L2
open PySem PySem.Spec PyProof.Rows
def ixN (n:Nat) (i:Int):Option Nat:=if 0≤i then (if i < n then some i.toNat else none) else if -(n:Int)≤i then some (i+n).toNat else none
def atI {α:Type} (xs:List α) (i:Int):Option α:=(ixN xs.length i).bind fun j=>xs[j]?
theorem ixN_seq {n:Nat} {i:Int} {j:Nat} (h:ixN n i=some j):seqIndex? i n=some j∧j < n∧-(n:Int)≤i∧i < n:=by
  unfold ixN at h
  by_cases h0:0≤i
  · rw [if_pos h0] at h
    by_cases h1:i < n
    · rw [if_pos h1] at h
      have e:i.toNat=j:=Option.some.inj h
      exact ⟨by rw [seqIndex_of h0 h1,e],by omega,by omega,h1⟩
    · rw [if_neg h1] at h; cases h
  · rw [if_neg h0] at h
    by_cases h1:-(n:Int)≤i
    · rw [if_pos h1] at h
      have e:(i+n).toNat=j:=Option.some.inj h
      exact ⟨by rw [seqIndex_neg (by omega) h1,e],by omega,h1,by omega⟩
    · rw [if_neg h1] at h; cases h
theorem atI_get {α:Type} {xs:List α} {i:Int} {v:α} (h:atI xs i=some v):∃ j,seqIndex? i xs.length=some j∧xs[j]?=some v∧j < xs.length∧-(xs.length:Int)≤i∧i < xs.length:=by
  unfold atI at h
  cases e:ixN xs.length i with
  | none=>rw [e] at h; cases h
  | some j =>
    rw [e] at h
    obtain ⟨h1,h2,h3,h4⟩:=ixN_seq e
    exact ⟨j,h1,h,h2,h3,h4⟩
theorem atI_nat {α:Type} {xs:List α} {j:Nat} {v:α} (h:xs[j]?=some v):atI xs (j:Int)=some v:=by
  have hj:j < xs.length:=(List.getElem?_eq_some_iff.mp h).1
  have e:ixN xs.length (j:Int)=some j:=by
    unfold ixN
    rw [if_pos (by omega),if_pos (by omega)]; simp
  unfold atI; rw [e]; exact h
def PlainIx (b:Expr):Prop:=∀ o i,subscripted b false o i=operate [o,i] (getItem o i)
def IxR (X:Cx) (r:R2):Prop :=
  ∀ (value slice:Expr) (pins:List (Addr × Obj)) (s:Shared) (σ:St) (H:Hp) (x y:V) (v u:Value) (Q:VK),Inv X pins σ H s→RelV x v→RelV y u→r x y H Q →
    subscripted slice false v u=operate [v,u] (getItem v u)→wpAny (model X.prog X.w) X.A (subscriptTail value slice v u) (EP X pins σ Q) X.xe s
def MtR (X:Cx) (id:String) (r:V→List V→Hp→VK→Prop):Prop :=
  ∀ (pins:List (Addr × Obj)) (s:Shared) (σ:St) (H:Hp) (x:V) (xs:List V) (v:Value) (us:List Value) (Q:VK),Inv X pins σ H s→RelV x v→Vals xs us→r x xs H Q →
    wpAny (model X.prog X.w) X.A (call (.builtin id) (v::us)) (EP X pins σ Q) X.xe s
section
variable {X:Cx} {a b:Expr} {ta tb:TE} {pos:Pos}
theorem IxR.or {r r':R2} (h:IxR X r) (h':IxR X r'):IxR X (fun x y H Q=>r x y H Q∨r' x y H Q):=by
  intro value slice pins s σ H x y v u Q I rx ry q hs
  rcases q with q | q
  · exact h value slice pins s σ H x y v u Q I rx ry q hs
  · exact h' value slice pins s σ H x y v u Q I rx ry q hs
theorem pe_ix {r:R2} (hr:IxR X r) (ha:PE X a ta) (hb:PE X b tb) (hs:PlainIx b):PE X (.Subscript a b pos) (tOp r ta tb):=by
  intro pins s σ H Q I h
  exact Subscript_ (binT ha hb I h fun v u s2 x y H2 I2 rx ry q=>hr a b pins s2 σ H2 x y v u Q I2 rx ry q (hs _ _))
def rIxL (K:PySem.W.Frag):R2:=fun x y H Q=>∃ p xs i v,x=.ref p∧y=.int i∧SqL K H p xs∧atI xs i=some v∧Q v H
def rIxT (K:PySem.W.Frag):R2:=fun x y H Q=>∃ p xs i v,x=.ref p∧y=.int i∧SqT K H p xs∧atI xs i=some v∧Q v H
def rIxS:R2:=fun x y H Q=>∃ z i c,x=.str z∧y=.int i∧z.length≤sizeLine∧atI z.cps.toList i=some c∧Q (.str ⟨#[c]⟩) H
theorem ix_list:IxR X (rIxL X.K):=by
  intro value slice pins s σ H x y v u Q I rx ry h hs
  obtain ⟨p,xs,i,z,rfl,rfl,hq,he,q⟩:=h
  cases rx
  obtain ⟨t,rfl⟩:=ry
  obtain ⟨its,r,pl,hz⟩:=I.list hq
  obtain ⟨j,h1,h2,h3,h4,h5⟩:=atI_get he
  obtain ⟨w,ew,rw'⟩:=r.get h2
  have hl:=r.length
  have hn:=line63
  have fin:EP X pins σ Q w s:=⟨z,H,I,rw',q⟩
  by_cases h0:0≤i
  · have hj:i.toNat=j:=by
      rw [seqIndex_of h0 h5] at h1
      exact Option.some.inj h1
    exact item_listR pl.isList h0 (by omega) (by rw [hj]; simpa using ew) fin hs
  · have hj:(i+(its.toArray.size:Int)).toNat=j:=by
      rw [seqIndex_neg (by omega) h4] at h1
      rw [List.size_toArray,← hl]
      exact Option.some.inj h1
    exact subscriptTail_builtinR (x:=w) pl.isList.typeIs slot_list_getitem.lookup
      (wpAny_getItem_list_neg (Q:=fun r s'=>r=w∧EP X pins σ Q r s') pl.isList (by omega) (by rw [List.size_toArray] <;> omega) (by omega) (by rw [hj]; simpa using ew) ⟨rfl,fin⟩) hs
theorem ix_tup:IxR X (rIxT X.K):=by
  intro value slice pins s σ H x y v u Q I rx ry h hs
  obtain ⟨p,xs,i,z,rfl,rfl,hq,he,q⟩:=h
  cases rx
  obtain ⟨t,rfl⟩:=ry
  obtain ⟨its,r,pl,hz⟩:=I.tuple hq
  obtain ⟨j,h1,h2,h3,h4,h5⟩:=atI_get he
  obtain ⟨w,ew,rw'⟩:=r.get h2
  have hl:=r.length
  have hn:=line63
  have fin:EP X pins σ Q w s:=⟨z,H,I,rw',q⟩
  exact subscriptTail_builtinR (x:=w) pl.typeIs slot_tuple_getitem.lookup
    (getItem_tuple (j:=j) (Q:=fun r s'=>r=w∧EP X pins σ Q r s') pl (by omega) (by omega) (by rw [List.size_toArray,← hl]; exact h1) (by simpa using ew) ⟨rfl,fin⟩) hs
theorem ix_str:IxR X rIxS:=by
  intro value slice pins s σ H x y v u Q I rx ry h hs
  obtain ⟨z,i,c,rfl,rfl,hz,he,q⟩:=h
  obtain ⟨t,rfl⟩:=rx
  obtain ⟨t',rfl⟩:=ry
  obtain ⟨j,h1,h2,h3,h4,h5⟩:=atI_get he
  have hl:z.cps.toList.length=z.length:=by simp [Str.length]
  rw [hl] at h1 h4 h5
  have hn:=line63
  exact tail_any (typeIs_str s z t) slot_str_getitem.lookup (getItem_str (c:=c) (by
    have e1:decide (i < -(2 ^ 63:Int))=false:=decide_eq_false (by omega)
    have e2:decide (i ≥ 2 ^ 63)=false:=decide_eq_false (by omega)
    rw [e1,e2,Bool.or_false]) (by rw [h1]; simpa using h2) ⟨.str ⟨#[c]⟩,H,I.tok _,⟨_,rfl⟩,q⟩) hs
def rIx (K:PySem.W.Frag):R2:=fun x y H Q=>rIxL K x y H Q∨rIxT K x y H Q∨rIxS x y H Q
theorem mapSeq_set (its:List Value) (n j:Nat) (u:Value):Obj.mapSeq (·.setIfInBounds j u) { cls:=.type "list", data:=.seq its.toArray n }={ cls:=.type "list", data:=.seq (its.set j u).toArray n }:=by
  simp [Obj.mapSeq]
theorem Inv.lst {pins:List (Addr × Obj)} {σ:St} {H:Hp} {s:Shared} {p:Addr} {xs:List V} (I:Inv X pins σ H s) (h:H p=some (.lst xs)) :
    ∃ (its:List Value) (n:Nat),Vals xs its∧s.heap.get? p=some { cls:=.type "list", data:=.seq its.toArray n }∧xs.length≤sizeLine:=by
  obtain ⟨z,its,n,r,e⟩:=I.hok p _ h
  exact ⟨its,n,r,e,z⟩
theorem Inv.lstUpd {pins:List (Addr × Obj)} {σ:St} {H:Hp} {s:Shared} {p:Addr} {xs ys:List V} {its its':List Value} {n n':Nat} {f:Obj→Obj} (I:Inv X pins σ H s) (h:H p=some (.lst xs))
    (ho:s.heap.get? p=some { cls:=.type "list", data:=.seq its.toArray n }) (hf:f { cls:=.type "list", data:=.seq its.toArray n }={ cls:=.type "list", data:=.seq its'.toArray n' }) (r:Vals ys its') (hz:ys.length≤sizeLine) (t:Nat) :
    Inv X pins σ (upd H p (.lst ys)) { s with heap:=s.heap.update p f,toks:=t }:=by
  have e:(s.heap.update p f).get? p=some { cls:=.type "list", data:=.seq its'.toArray n' }:=by
    rw [Heap.get?_update_self f ho (by rw [hf] <;> rfl),hf]
  refine I.write (x:=p) (e:=p) (by rw [h]; trivial) (.inl rfl) (fun b u hb q=>(Heap.get?_update_other _ _ (Ne.symm hb)).trans q) ⟨_,e⟩ ?_
  exact ⟨hz,its',n',r,e⟩
def rSetL:V→V→V→Hp→(Hp→Prop)→Prop:=fun o i v H Q=>∃ p xs k j,o=.ref p∧i=.int k∧H p=some (.lst xs)∧ixN xs.length k=some j∧Q (upd H p (.lst (xs.set j v)))
theorem set_list:PSet X rSetL:=by
  intro pins s σ H o i v ov iv u Q I ro ri rv h
  obtain ⟨p,xs,k,j,rfl,rfl,hp,hj,q⟩:=h
  cases ro
  obtain ⟨t,rfl⟩:=ri
  obtain ⟨its,n,r,ho,hz⟩:=I.lst hp
  obtain ⟨h1,h2,h3,h4⟩:=ixN_seq hj
  have hl:=r.length
  have hn:=line63
  have I':Inv X pins σ (upd H p (.lst (xs.set j v))) { s with heap:=s.heap.update p (Obj.mapSeq (·.setIfInBounds j u)) } :=
    I.lstUpd hp ho (mapSeq_set its n j u) (r.set rv j) (by rw [List.length_set]; exact hz) s.toks
  by_cases h0:0≤k
  · have hk:k.toNat=j:=by
      rw [seqIndex_of h0 h4] at h1
      exact Option.some.inj h1
    exact PySem.W.ki_setAt ho h0 (by omega) (by rw [List.size_toArray,← hl]; exact h4) (by rw [hk]; exact ⟨_,I',q⟩)
  · have hk:(k+(its.toArray.size:Int)).toNat=j:=by
      rw [seqIndex_neg (by omega) h3] at h1
      rw [List.size_toArray,← hl]
      exact Option.some.inj h1
    exact PySem.W.ki_setBack ho (by omega) (by rw [List.size_toArray,← hl]; exact h3) (by omega) (by rw [hk]; exact ⟨_,I',q⟩)
theorem slice_bounds (lo hi:Option Int) (n:Nat):(sliceBounds lo hi none n).1=((HT.sIx n 0 lo:Nat):Int)∧(sliceBounds lo hi none n).2.1=((HT.sIx n n hi:Nat):Int)∧(sliceBounds lo hi none n).2.2=1:=by
  refine ⟨?_,?_,rfl⟩
  · cases lo with
    | none=>simp [sliceBounds,HT.sIx]
    | some i =>
      simp only [sliceBounds,HT.sIx,Option.getD_none,show (1:Int) > 0 by decide,if_true]
      by_cases h:i < 0
      · simp only [h,if_true] <;> omega
      · simp only [h,if_false] <;> omega
  · cases hi with
    | none=>simp [sliceBounds,HT.sIx]
    | some i =>
      simp only [sliceBounds,HT.sIx,Option.getD_none,show (1:Int) > 0 by decide,if_true]
      by_cases h:i < 0
      · simp only [h,if_true] <;> omega
      · simp only [h,if_false] <;> omega
theorem slicePick_cut (its:List Value) (lo hi:Option Int):slicePick its.toArray lo hi none=((its.drop (HT.sIx its.length 0 lo)).take (HT.sIx its.length its.length hi - HT.sIx its.length 0 lo)).toArray:=by
  obtain ⟨h1,h2,h3⟩:=slice_bounds lo hi its.toArray.size
  unfold slicePick
  rw [h1,h2,h3]
  simp only [sliceRange_one,pick_run,List.size_toArray] <;> rfl
def rSlL (K:PySem.W.Frag):V→Option Int→Option Int→Hp→VK→Prop:=fun x lo hi H Q=>∃ a xs,x=.ref a∧SqL K H a xs∧∀ p,H p=none→Q (.ref p) (upd H p (.lst (cutV xs lo hi)))
theorem sl_list:SlR X (rSlL X.K):=by
  intro pins s σ H x v vl vu lo hi sl Q I rx hs pl pu h
  obtain ⟨a,xs,rfl,hx,q⟩:=h
  cases rx
  obtain ⟨its,r,ht,hz⟩:=I.list hx
  have hlen:=r.length
  refine ⟨"list", _,slot_list_getitem.lookup,ht.isList.typeIs,?_⟩
  refine wpAny_getItem_list_slice ht.isList hs pl pu .none (by simp) ?_ (by rw [List.size_toArray] <;> omega)
  rw [slicePick_cut,← hlen]
  refine ⟨.ref s.heap.objs.size,_,I.laid (t':=s.toks) (o:=.lst (cutV xs lo hi)) (fun b ob q=>Heap.get?_push_of_some _ q) (Nat.le_refl _) ?_,rfl,q _ (I.hok.fresh (Nat.le_refl _))⟩
  exact ⟨Nat.le_trans (cutV_length xs lo hi) hz,_,0,(r.drop (HT.sIx xs.length 0 lo)).take (HT.sIx xs.length xs.length hi - HT.sIx xs.length 0 lo),Heap.get?_push_size _ rfl⟩
def flatV:V→Bool
  | .non=>true
  | .bl _=>true
  | .int _=>true
  | .str _=>true
  | _=>false
def eqV:V→V→Bool
  | .non,.non=>true
  | .bl a,.bl b=>a == b
  | .bl a,.int b=>(if a then 1 else 0) == b
  | .int a,.bl b=>a == (if b then 1 else 0)
  | .int a,.int b=>a == b
  | .str a,.str b=>a == b
  | _,_=>false
theorem eqAt_V {A:Around} {s:Shared} {y x:V} {u v:Value} (ry:RelV y u) (rx:RelV x v) (fy:flatV y=true) (fx:flatV x=true):SeqAt.EqAt A s u v (eqV y x):=by
  cases y with
  | non =>
    cases ry
    cases x with
    | non=>cases rx; exact SeqAt.EqAt.same _
    | bl b=>cases rx; exact SeqAt.EqAt.none_bool b
    | int b=>obtain ⟨t,rfl⟩:=rx; exact SeqAt.EqAt.none_int b t
    | str b=>obtain ⟨t,rfl⟩:=rx; exact SeqAt.EqAt.none_str b t
    | _=>exact absurd (show false=true from fx) Bool.false_ne_true
  | bl a =>
    cases ry
    cases x with
    | non=>cases rx; exact SeqAt.EqAt.bool_none a
    | bl b=>cases rx; exact SeqAt.EqAt.bool_bool a b
    | int b=>obtain ⟨t,rfl⟩:=rx; exact SeqAt.EqAt.bool_int a b t
    | str b=>obtain ⟨t,rfl⟩:=rx; exact SeqAt.EqAt.bool_str a b t
    | _=>exact absurd (show false=true from fx) Bool.false_ne_true
  | int a =>
    obtain ⟨t',rfl⟩:=ry
    cases x with
    | non=>cases rx; exact SeqAt.EqAt.int_none a t'
    | bl b=>cases rx; exact SeqAt.EqAt.int_bool a t' b
    | int b=>obtain ⟨t,rfl⟩:=rx; exact SeqAt.EqAt.int_int a t' b t
    | str b=>obtain ⟨t,rfl⟩:=rx; exact SeqAt.EqAt.int_str a t' b t
    | _=>exact absurd (show false=true from fx) Bool.false_ne_true
  | str a =>
    obtain ⟨t',rfl⟩:=ry
    cases x with
    | non=>cases rx; exact SeqAt.EqAt.str_none a t'
    | bl b=>cases rx; exact SeqAt.EqAt.str_bool a t' b
    | int b=>obtain ⟨t,rfl⟩:=rx; exact SeqAt.EqAt.str_int a t' b t
    | str b=>obtain ⟨t,rfl⟩:=rx; exact SeqAt.EqAt.str_str a t' b t
    | _=>exact absurd (show false=true from fx) Bool.false_ne_true
  | _=>exact absurd (show false=true from fy) Bool.false_ne_true
def eqU (x:V) (u:Value):Bool:=match u with
  | .none=>eqV .non x
  | .bool b=>eqV (.bl b) x
  | .int i _=>eqV (.int i) x
  | .str z _=>eqV (.str z) x
  | _=>false
theorem eqU_of {x y:V} {u:Value} (r:RelV y u) (f:flatV y=true):eqU x u=eqV y x:=by
  cases y with
  | non=>cases r; rfl
  | bl b=>cases r; rfl
  | int i=>obtain ⟨t,rfl⟩:=r; rfl
  | str z=>obtain ⟨t,rfl⟩:=r; rfl
  | _=>exact absurd (show false=true from f) Bool.false_ne_true
theorem any_eqU {x:V}:∀ {xs:List V} {us:List Value},Vals xs us→xs.all flatV=true→us.any (eqU x)=xs.any fun y=>eqV y x
  | _,_,.nil,_=>rfl
  | y::xs,u::us,.cons r t,f=>by
    rw [List.all_cons,Bool.and_eq_true] at f
    rw [List.any_cons,List.any_cons,eqU_of r f.1,any_eqU t f.2]
theorem mem_eqAt {A:Around} {s:Shared} {x:V} {v:Value} (rx:RelV x v) (fx:flatV x=true):∀ {xs:List V} {us:List Value},Vals xs us→xs.all flatV=true→∀ u ∈ us,SeqAt.EqAt A s u v (eqU x u)
  | _,_,.nil,_=>fun u hu=>by cases hu
  | y::xs,u::us,.cons r t,f=>fun u' hu=>by
    rw [List.all_cons,Bool.and_eq_true] at f
    rcases List.mem_cons.mp hu with rfl | hu
    · rw [eqU_of r f.1]; exact eqAt_V r rx f.1 fx
    · exact mem_eqAt rx fx t f.2 u' hu
def inV (x:V) (xs:List V):Bool:=xs.any fun y=>eqV y x
def rIn (K:PySem.W.Frag) (neg:Bool):R2:=fun x y H Q=>∃ p xs,y=.ref p∧(SqL K H p xs∨SqT K H p xs)∧flatV x=true∧xs.all flatV=true∧Q (.bl (if neg then !inV x xs else inV x xs)) H
theorem op_in_seq:OpR X (compareOp .In) (rIn X.K false):=by
  intro pins s σ H x y v u Q I rx ry h
  obtain ⟨p,xs,rfl,hq,fx,fs,q⟩:=h
  cases ry
  rcases hq with hq | hq
  · obtain ⟨its,r,pl,hz⟩:=I.list hq
    refine SeqAt.in_listAt (eqU x) pl.isList (fun w hw=>mem_eqAt rx fx r fs w (by simpa using hw)) ⟨.bl _,H,I,rfl,?_⟩
    rw [show its.toArray.any (eqU x)=its.any (eqU x) by simp,any_eqU r fs]
    exact q
  · obtain ⟨its,r,pl,hz⟩:=I.tuple hq
    refine SeqAt.in_tupleAt (eqU x) pl (fun w hw=>mem_eqAt rx fx r fs w (by simpa using hw)) ⟨.bl _,H,I,rfl,?_⟩
    rw [show its.toArray.any (eqU x)=its.any (eqU x) by simp,any_eqU r fs]
    exact q
theorem op_notIn_seq:OpR X (compareOp .NotIn) (rIn X.K true):=by
  intro pins s σ H x y v u Q I rx ry h
  obtain ⟨p,xs,rfl,hq,fx,fs,q⟩:=h
  cases ry
  rcases hq with hq | hq
  · obtain ⟨its,r,pl,hz⟩:=I.list hq
    refine SeqAt.notIn_listAt (eqU x) pl.isList (fun w hw=>mem_eqAt rx fx r fs w (by simpa using hw)) ⟨.bl _,H,I,rfl,?_⟩
    rw [show its.toArray.any (eqU x)=its.any (eqU x) by simp,any_eqU r fs]
    exact q
  · obtain ⟨its,r,pl,hz⟩:=I.tuple hq
    refine SeqAt.notIn_tupleAt (eqU x) pl (fun w hw=>mem_eqAt rx fx r fs w (by simpa using hw)) ⟨.bl _,H,I,rfl,?_⟩
    rw [show its.toArray.any (eqU x)=its.any (eqU x) by simp,any_eqU r fs]
    exact q
theorem op_notIn_str:OpR X (compareOp .NotIn) (fun x y H Q=>∃ i j,x=.str i∧y=.str j∧Q (.bl (!(!(Builtin.Str.occurrences j i 0 j.length 1).isEmpty))) H):=by
  intro pins s σ H x y v u Q I rx ry h
  obtain ⟨i,j,rfl,rfl,q⟩:=h
  obtain ⟨t,rfl⟩:=rx
  obtain ⟨t',rfl⟩:=ry
  exact notIn_str ⟨.bl _,H,I,rfl,q⟩
theorem call_len_seq:CallR X (.builtin "len") (fun xs H Q=>∃ p ys,xs=[.ref p]∧(SqL X.K H p ys∨SqT X.K H p ys)∧Q (.int ys.length) H):=by
  intro pins s σ H xs us Q I r h
  obtain ⟨p,ys,rfl,hq,q⟩:=h
  obtain ⟨u,rfl,rx⟩:=vals1 r
  cases rx
  have hn:=line63
  rcases hq with hq | hq
  · obtain ⟨its,r',pl,hz⟩:=I.list hq
    have hlen:=r'.length
    exact Calls.call_len_list pl.isList (by simp only [List.size_toArray] <;> omega) ⟨.int ys.length,H,I.tok _,⟨s.toks+1,by rw [List.size_toArray,hlen]⟩,q⟩
  · obtain ⟨its,r',pl,hz⟩:=I.tuple hq
    have hlen:=r'.length
    exact len_tuple pl (by simp only [List.size_toArray] <;> omega) ⟨.int ys.length,H,I.tok _,⟨s.toks+1,by rw [List.size_toArray,hlen]⟩,q⟩
theorem call_len_str:CallR X (.builtin "len") (fun xs H Q=>∃ z,xs=[.str z]∧z.length≤sizeLine∧Q (.int z.length) H):=by
  intro pins s σ H xs us Q I r h
  obtain ⟨z,rfl,hz,q⟩:=h
  obtain ⟨u,rfl,t,rfl⟩:=vals1 r
  have hn:=line63
  exact len_str (by omega) ⟨.int z.length,H,I.tok _,⟨_,rfl⟩,q⟩
def tyV (K:PySem.W.Frag) (T:String) (x:V) (H:Hp):Prop:=match x with
  | .str _=>T = "str"
  | .int _=>T = "int"
  | .ref p=>(T = "list" ∧ ∃ xs,SqL K H p xs)∨(T = "tuple" ∧ ∃ o,K.lookup p=some o∧o.cls=.type "tuple" ∧ o.dict=none) ∨
      (T = "dict" ∧ ((∃ kvs,H p=some (.dK kvs))∨∃ kvs,H p=some (.dT kvs)))∨(T = "set" ∧ ∃ S n,H p=some (.set S n))
  | _=>False
theorem tyV_is {pins:List (Addr × Obj)} {σ:St} {H:Hp} {s:Shared} {T:String} {x:V} {v:Value} (I:Inv X pins σ H s) (r:RelV x v) (ty:tyV X.K T x H) :
    s.TypeIs v T∧∀ a,v=.ref a→∃ ob,s.heap.get? a=some ob∧ob.dict=none:=by
  cases x with
  | str z =>
    obtain ⟨t,rfl⟩:=r
    cases (show T = "str" from ty)
    exact ⟨typeIs_str s z t,fun _ e=>nomatch e⟩
  | int i =>
    obtain ⟨t,rfl⟩:=r
    cases (show T = "int" from ty)
    exact ⟨typeIs_int s i t,fun _ e=>nomatch e⟩
  | ref p =>
    cases r
    rcases ty with ⟨rfl,xs,hq⟩ | ⟨rfl,o,hk,hc,hd⟩ | ⟨rfl,hk⟩ | ⟨rfl,S,n,hk⟩
    · obtain ⟨its,_,pl,_⟩:=I.list hq
      refine ⟨pl.isList.typeIs,fun a e=>?_⟩
      cases e
      obtain ⟨o,n,e,c,hd,_⟩:=pl
      exact ⟨o,e,hd⟩
    · refine ⟨⟨o,I.kIn p o hk,hc⟩,fun a e=>?_⟩
      cases e
      exact ⟨o,I.kIn _ o hk,hd⟩
    · have z:∃ o,s.heap.get? p=some o∧o.ExactDict:=by
        rcases hk with ⟨kvs,hk⟩ | ⟨kvs,hk⟩
        · obtain ⟨_,_,_,_,o,_,_,e,ex,_⟩:=I.hok p _ hk
          exact ⟨o,e,ex⟩
        · obtain ⟨_,_,_,_,o,_,_,e,ex,_⟩:=I.hok p _ hk
          exact ⟨o,e,ex⟩
      obtain ⟨o,e,ex⟩:=z
      refine ⟨⟨o,e,ex.1⟩,fun a e2=>?_⟩
      cases e2
      exact ⟨o,e,ex.2.1⟩
    · obtain ⟨o,_,_,_,e,ex,_⟩:=I.hok p _ hk
      refine ⟨⟨o,e,ex.1⟩,fun a e2=>?_⟩
      cases e2
      exact ⟨o,e,ex.2.1⟩
  | _=>exact False.elim ty
def tBM0 (K:PySem.W.Frag) (T:String) (r:V→List V→Hp→VK→Prop) (to:TE):TE:=fun σ H Q=>to σ H fun x H1=>tyV K T x H1∧r x [] H1 Q
def tBM (K:PySem.W.Frag) (T:String) (r:V→List V→Hp→VK→Prop) (to:TE) (t:TA):TE:=fun σ H Q=>to σ H fun x H1=>tyV K T x H1∧t σ H1 fun xs H2=>r x xs H2 Q
variable {o e:Expr} {es:List Expr} {to:TE} {t:TA} {name:Str} {apos cpos:Pos} {T id:String} {r:V→List V→Hp→VK→Prop}
theorem pe_bm (pa:PlainAttrs T) (slot:Slot T name id) (hty:typeOf (.builtin id)=pure (.type "method_descriptor")) (hm:MtR X id r) (ho:PE X o to) (ha:PA X (e::es) t)
    (hbase:attributeBase o name X.env (eval o X.env)=eval o X.env:=by rfl)
    (hfew:((backTo cpos (starEach (e::es) X.env)).all (fun x=>!x.1) && (backToKw cpos (keywordEach [] X.env)).all (fun x=>x.1.isSome)
      && decide ((e::es).length+([]:List Keyword).length+(if ([]:List Keyword).isEmpty then 0 else 1) < 30))=true:=by rfl)
    (hline:(apos.endLine == cpos.line)=true:=by rfl) (hs:starEach (e::es) X.env=(false,eval e X.env)::starEach es X.env:=by rfl) (hplain:(backTo cpos (starEach es X.env)).any (·.1)=false:=by rfl) :
    PE X (.Call (.Attribute o name apos) (e::es) [] cpos) (tBM X.K T r to t):=by
  intro pins s σ H Q I h
  refine wpAny_Call_method_late hbase hfew hline rfl (thn (ho pins s σ H _ I h) fun v s1 ⟨x,H1,I1,r1,ty,q1⟩=>?_)
  obtain ⟨h1,h2⟩:=tyV_is I1 r1 ty
  refine ⟨T,id,pa,slot,hty,h1,h2,?_⟩
  have hA:=ha cpos pins s1 σ H1 _ I1 q1
  rw [hs] at hA ⊢
  refine Calls.callWith_builtin (by show (false || (backTo cpos (starEach es X.env)).any (·.1))=false; rw [hplain] <;> rfl) (Calls.evalArgs_plain ?_)
  exact thn hA fun us s2 ⟨vs,H2,I2,r2,q2⟩=>hm pins s2 σ H2 x vs v us Q I2 r1 r2 q2
/- xs.append(e),list.index on a module's tuple .. are MtR facts of 06m -/
end
end L2
namespace L2
open PySem PySem.Spec PyProof.Rows
def MtM (X:Cx) (id:String) (r:V→List V→Hp→VK→Prop):Prop :=
  ∀ (pins:List (Addr × Obj)) (s:Shared) (σ:St) (H:Hp) (x:V) (xs:List V) (v:Value) (us:List Value) (Q:VK),Inv X pins σ H s→RelV x v→Vals xs us→r x xs H Q →
    wpAny (model X.prog X.w) X.A (call (.builtin id) (v::us)) (EP X pins σ Q) X.xe s
theorem Vals.one:∀ {x:V} {us:List Value},Vals [x] us→∃ u,us=[u]∧RelV x u
  | _,_,.cons r .nil=>⟨_,rfl,r⟩
theorem Vals.rep {xs:List V} {us:List Value} (h:Vals xs us):∀ k:Nat,Vals (List.replicate k xs).flatten (List.replicate k us).flatten
  | 0=>.nil
  | k+1=>by
    rw [List.replicate_succ,List.replicate_succ,List.flatten_cons,List.flatten_cons]
    exact Vals.append h (Vals.rep h k)
theorem foldl_rep (its:List Value):∀ (k:Nat) (acc:List Value),
    List.foldl (fun x1 x2=>x1++x2) acc.toArray (List.replicate k its.toArray)=(acc++(List.replicate k its).flatten).toArray
  | 0,acc=>by simp
  | k+1,acc=>by
    have e:acc.toArray++its.toArray=(acc++its).toArray:=by simp
    have e2:(acc++its)++(List.replicate k its).flatten=acc++(List.replicate (k+1) its).flatten:=by
      rw [List.replicate_succ,List.flatten_cons,List.append_assoc]
    rw [← e2,← foldl_rep its k (acc++its),← e,List.replicate_succ,List.foldl_cons]
section
variable {X:Cx} {pins:List (Addr × Obj)} {σ:St} {H:Hp} {s:Shared} {l b:Addr} {xs ys zs:List V}
theorem Inv.lset {its its':List Value} {n:Nat} {f:Array Value→Array Value} {t':Nat} (I:Inv X pins σ H s) (hH:H l=some (.lst xs))
    (e:s.heap.get? l=some { cls:=.type "list", data:=.seq its.toArray n }) (hf:f its.toArray=its'.toArray) (hv:Vals ys its') (hz:ys.length≤sizeLine) :
    Inv X pins σ (upd H l (.lst ys)) { s with heap:=s.heap.update l (Obj.mapSeq f),toks:=t' }:=by
  have q:=PySem.IsL.update e f
  rw [hf] at q
  refine I.write (x:=l) (e:=l) (by rw [hH]; exact trivial) (.inl rfl) (fun b' u hb hu=>(Heap.get?_update_other s.heap (Obj.mapSeq f) (Ne.symm hb)).trans hu) ⟨_,q⟩ ?_
  exact ⟨hz,its',_,hv,q⟩
theorem Inv.lnew {its:List Value} {t':Nat} (I:Inv X pins σ H s) (hv:Vals ys its) (hz:ys.length≤sizeLine) :
    Inv X pins σ (upd H s.heap.objs.size (.lst ys)) { s with heap:=s.heap.push { cls:=.type "list", data:=.seq its.toArray },toks:=t' } :=
  I.laid (fun _ _ q=>Heap.get?_push_of_some _ q) (Nat.le_refl _) ⟨hz,its,0,hv,Heap.get?_push_size _ rfl⟩
theorem Inv.fresh (I:Inv X pins σ H s):H s.heap.objs.size=none:=I.hok.fresh (Nat.le_refl _)
theorem Inv.lstM (I:Inv X pins σ H s) (hH:H l=some (.lst xs)):xs.length≤sizeLine∧∃ (its:List Value) (n:Nat),Vals xs its∧xs.length=its.length∧s.heap.get? l=some { cls:=.type "list", data:=.seq its.toArray n }:=by
  obtain ⟨z,its,n,r,e⟩:=I.hok l _ hH
  exact ⟨z,its,n,r,r.length,e⟩
theorem notLongL {n:Nat} (h:n≤sizeLine):Builtin.List.listTooLong n=false:=by
  unfold Builtin.List.listTooLong
  exact decide_eq_false (by omega)
end
section
variable {X:Cx}
def rAppend:V→List V→Hp→VK→Prop:=fun x vs H Q=>∃ l xs y,x=.ref l∧vs=[y]∧H l=some (.lst xs)∧xs.length < sizeLine∧Q .non (upd H l (.lst (xs++[y])))
theorem mt_append:MtM X "list.append" rAppend:=by
  intro pins s σ H x vs v us Q I rx rv h
  obtain ⟨l,xs,y,rfl,rfl,hH,hz,q⟩:=h
  cases rx
  obtain ⟨u,rfl,ru⟩:=rv.one
  obtain ⟨z,its,n,r,hl,e⟩:=I.lstM hH
  refine call_meets F.slot_list_append ⟨_,e,rfl⟩ F.entry_list_append (F.args_list_append_2 _ _) (PySem.list_append l its.toArray n u (by rw [List.size_toArray]; omega)) ⟨e,?_⟩
  refine ⟨.non,_,I.lset (its':=its++[u]) hH e (by simp) (r.append (.cons ru .nil)) ?_,rfl,q⟩
  rw [List.length_append,List.length_singleton]
  omega
def rExtend:V→List V→Hp→VK→Prop:=fun x vs H Q=>∃ l b xs zs,x=.ref l∧vs=[.ref b]∧H l=some (.lst xs)∧H b=some (.lst zs)∧xs.length+zs.length≤sizeLine∧Q .non (upd H l (.lst (xs++zs)))
def rPop:V→List V→Hp→VK→Prop:=fun x vs H Q=>∃ l xs y,x=.ref l∧vs=[]∧H l=some (.lst xs)∧xs[xs.length - 1]?=some y∧Q y (upd H l (.lst xs.dropLast))
def rPopAt:V→List V→Hp→VK→Prop:=fun x vs H Q=>∃ l xs i k y,x=.ref l∧vs=[.int i]∧H l=some (.lst xs)∧-(2 ^ 63)≤i∧i < 2 ^ 63∧seqIndex? i xs.length=some k∧xs[k]?=some y∧Q y (upd H l (.lst (xs.eraseIdx k)))
def rReverse:V→List V→Hp→VK→Prop:=fun x vs H Q=>∃ l xs,x=.ref l∧vs=[]∧H l=some (.lst xs)∧Q .non (upd H l (.lst xs.reverse))
def rClear:V→List V→Hp→VK→Prop:=fun x vs H Q=>∃ l xs,x=.ref l∧vs=[]∧H l=some (.lst xs)∧Q .non (upd H l (.lst []))
def rCat:R2:=fun x y H Q=>∃ l b xs zs,x=.ref l∧y=.ref b∧H l=some (.lst xs)∧H b=some (.lst zs)∧xs.length+zs.length≤sizeLine∧∀ p,H p=none→Q (.ref p) (upd H p (.lst (xs++zs)))
theorem op_cat:OpR X (binaryOp .Add) rCat:=by
  intro pins s σ H x y v u Q I rx ry h
  obtain ⟨l,b,xs,zs,rfl,rfl,hH,hB,hz,q⟩:=h
  cases rx
  cases ry
  obtain ⟨z,its,n,r,hl,e⟩:=I.lstM hH
  obtain ⟨z2,its2,n2,r2,hl2,e2⟩:=I.lstM hB
  refine PySem.P.add_list e e2 ?_ (by rw [List.size_toArray,List.size_toArray]; omega)
  have ea:its.toArray++its2.toArray=(its++its2).toArray:=by simp
  rw [ea]
  exact ⟨.ref _,_,I.lnew (t':=s.toks) (r.append r2) (by rw [List.length_append]; omega),rfl,q _ I.fresh⟩
def rRep:R2:=fun x y H Q=>∃ l k xs,x=.ref l∧y=.int k∧H l=some (.lst xs)∧-(2 ^ 63)≤k∧k < 2 ^ 63∧xs.length*k.toNat≤sizeLine ∧
  ∀ p,H p=none→Q (.ref p) (upd H p (.lst (List.replicate k.toNat xs).flatten))
theorem len_rep {α:Type} (xs:List α) (k:Nat):(List.replicate k xs).flatten.length=k*xs.length:=by
  induction k with
  | zero=>simp
  | succ k ih=>rw [List.replicate_succ,List.flatten_cons,List.length_append,ih,Nat.succ_mul,Nat.add_comm]
theorem op_rep:OpR X (binaryOp .Mult) rRep:=by
  intro pins s σ H x y v u Q I rx ry h
  obtain ⟨l,k,xs,rfl,rfl,hH,h1,h2,hz,q⟩:=h
  cases rx
  obtain ⟨t,rfl⟩:=ry
  obtain ⟨z,its,n,r,hl,e⟩:=I.lstM hH
  have hlen:its.toArray.size*k.toNat≤sizeLine:=by rw [List.size_toArray,← hl]; exact hz
  have hcap:¬ its.toArray.size*k.toNat > (2 ^ 63 - 1) / 8:=by
    have:(sizeLine:Nat)≤(2 ^ 63 - 1) / 8:=by decide
    omega
  have hfit:¬ (!Builtin.List.listFitsIndex k)=true:=by
    rw [fitsIndex_both h1 h2]
    exact Bool.false_ne_true
  have hlong:¬ Builtin.List.listTooLong (its.toArray.size*k.toNat)=true:=by
    rw [notLongL hlen]
    exact Bool.false_ne_true
  have hnew:List.foldl (fun x1 x2=>x1++x2) #[] (List.replicate (if its.toArray.isEmpty=true then 0 else k.toNat) its.toArray)=(List.replicate k.toNat its).flatten.toArray:=by
    have f0:∀ m:Nat,List.foldl (fun x1 x2=>x1++x2) #[] (List.replicate m its.toArray)=(List.replicate m its).flatten.toArray:=fun m=>by
      have:=foldl_rep its m []
      rw [List.nil_append] at this
      exact this
    rw [f0]
    cases its with
    | nil=>simp
    | cons a r'=>rw [if_neg (by simp)]
  refine wpAny_binaryOp_repeat_ref (T := "list") (U := "int") (by decide) ⟨_,e,rfl⟩ (fun s'=>typeIs_int s' k t) noFill_list_mul F.fills_int_mul F.slot_int_rmul repeat_list F.slot_int_index.lookup
    (call_meets F.slot_int_rmul (typeIs_int s k t) F.entry_int_rmul (F.args_int_rmul_2 _ _) (int___rmul___int_list k t l its.toArray n)
      ⟨e,rfl,⟨_,e,rfl⟩,call_meets F.slot_list_mul ⟨_,e,rfl⟩ F.entry_list_mul (F.args_list_mul_2 _ _) (AutoListH.list___mul___list_int_3 l its.toArray n k t hfit hcap hlong) ⟨e,?_⟩⟩)
  rw [hnew]
  exact ⟨.ref _,_,I.lnew (t':=s.toks) (r.rep k.toNat) (by rw [len_rep,Nat.mul_comm]; exact hz),rfl,q _ I.fresh⟩
end
section
variable {prog:Program} {w:World} {A:Around} {E:Value→Shared→Prop} {s:Shared}
end
section
variable {X:Cx}
end
end L2
namespace Att
open PySem PySem.W PySem.Calls PyProof.Rows
theorem ints_of_wellAll {P:Params} {h:Heap}:∀ (ns:List Int) (vs:List Value),WellAll P h vs (ns.map WData.int)→IntsAre vs ns:=by
  intro ns
  induction ns with
  | nil =>
    intro vs w
    rw [List.map_nil] at w
    cases w
    exact .nil
  | cons n ns ih =>
    intro vs w
    rw [List.map_cons] at w
    cases w with
    | cons a b =>
      cases a
      exact .cons _ _ (ih _ b)
theorem script_of {l:OpenLaw} {n:Nat} (hn:l.most=some n) {P:Params} {h:Heap} {args:List WData} {vals:List Value}
    (hpre:l.row.toRowW.claim.pre args=true) (hwl:WellAll P h vals args) :
    ∃ a vs ns,vals=[Value.ref a]∧args=[WData.list (ns.map WData.int)]∧h.get? a=some { cls:=.type "list", data:=.seq vs.toArray }∧IntsAre vs ns∧ns.length≤n:=by
  have hsh:WShape.hasAll [] args [.list .int]=true:=(pre_splitW hpre).1
  have hc:l.pre.holds [] { args:=args }=true:=(pre_splitW hpre).2
  obtain ⟨d,r,rfl,h1,h2⟩:=hasAllW_cons hsh
  obtain rfl:=hasAllW_nil h2
  obtain ⟨xs,rfl,h3⟩:=hasW_list h1
  obtain ⟨ns,rfl⟩:=items_int h3
  have hlen:ns.length≤n:=by
    unfold OpenLaw.pre at hc
    have h4:(WTm.not (.lt (.lit (.int (n:Int))) (.len (.arg 0)))).holds [] { args:=[.list (ns.map .int)] }=true:=by
      have h4:=(holds_andW hc).1
      rw [hn] at h4
      exact h4
    have h5:=condW_of h4 (w_not (w_lt w_lit (w_len_list (w_arg rfl))))
    rw [List.length_map] at h5
    refine Nat.le_of_not_lt fun q=>?_
    have q':(n:Int) < ((ns.length:Nat):Int):=by omega
    first
      | (rw [decide_eq_true q'] at h5; exact absurd h5 (by decide))
      | (simp at h5; omega)
  cases hwl with
  | cons w1 w2 =>
    cases w2
    cases w1 with
    | list ho hall=>exact ⟨_,_,ns,rfl,rfl,ho,ints_of_wellAll ns _ hall,hlen⟩
theorem post_true (l:OpenLaw) (args:List WData):l.row.toRowW.claim.post args (.bool true) args=true :=
  postW_of (r:=l.row.toRowW) (X:=(true == true))
    (show WShape.has [] (.bool true) .bool=true by first | rfl | decide | simp [WShape.has,WShape.arms,WShape.armsAll])
    (show (WTm.eq .res (.lit (.bool true))).value [] { args:=args,res:=some (.bool true),after:=args }=some (.bool (true == true)) from w_eq_bool (w_res rfl) w_lit) rfl
theorem attach_call {l:OpenLaw} {n:Nat} {q:Program} {loose:List Str} {XP:(Str→Option Value)→Heap→Prop} {YP:World→Heap→Prop} {d:DefRec}
    (hn:l.most=some n) (hdf:d.params.defaults=[])
    (call:∀ (w:World) (s₀ s₁:Shared) (mg mb:Str→Option Value) (fa:Addr) (o:Obj) (pm cd doc:Value) (a:Addr) (vs:List Value) (ns:List Int),
      Ground q loose [] XP w s₀ mg mb s₁.heap→YP w s₁.heap →
      s₁.heap.get? fa=some o→o.data=.func (docDef d.name d.params d.body d.scope pm cd doc)→s₁.heap.CodeRec cd d.name→mg d.name=some (.ref fa) →
      s₁.heap.get? a=some { cls:=.type "list", data:=.seq vs.toArray }→IntsAre vs ns→ns.length≤n→s₁.gens=#[] →
      codeAny (model l.prog w) callerA (.call (.ref fa) ⟨[.ref a],[]⟩) (fun r s'=>r=.ok (.ret (.bool true))∧OldK s₁.heap s'.heap∧s'.os=s₁.os∧AllBare s'.gens) s₁) :
    WalkO q loose XP YP l.row.toRowW d [] (fun f vs=>PySem.call f vs):=by
  intro w s₀ s₁ mg mb G Y fa o pm cd doc dV kV ho hd hcd hD hmg hg args vals as hpre hlay hrd hwl hlo
  obtain rfl:dV=.none:=Dflts.none hD hdf
  obtain rfl:kV=.none:=Dflts.noKw hD
  obtain ⟨a,vs,ns,rfl,rfl,hobj,hints,hlen⟩:=script_of hn hpre hwl
  refine enter_call (codeAny_mono (call w s₀ s₁ mg mb fa o pm cd doc a vs ns G Y ho (fd_plain hd) hcd hmg hobj hints hlen hg) fun r s' hq=>?_)
  obtain ⟨rfl,h2,h3,h4⟩:=hq
  exact ⟨.inl ⟨.bool true,.bool true,[],rfl,fun _=>rfl,.bool true,post_true l _,fun _=>⟨List.Pairwise.nil,fun _ hm=>(nomatch hm)⟩⟩,h2,h3,h4⟩
section
variable {prog:Program} {w:World} {A:Around} {E:Value→Shared→Prop} {s:Shared} {K:Frag}
def noObjs (h:Heap):Heap:={ h with objs:=#[] }
def ledger (h:Heap) (L d:Addr):List (Addr × Obj):=(List.range h.objs.size).filterMap fun a=>if a=L∨a=d then none else (h.get? a).map fun o=>(a,o)
end
end Att
namespace L2
open PySem PySem.Spec PyProof.Rows
theorem vals_ints:∀ {vs:List Value} {ns:List Int},IntsAre vs ns→Vals (ns.map V.int) vs
  | _,_,.nil=>.nil
  | _,_,.cons n t h=>.cons ⟨t,rfl⟩ (vals_ints h)
def Only (H:Hp):Prop:=∀ b,H b=none∨∃ o xs,H b=some (.frz o (.lst xs))
theorem law_call {P:Program} {w:World} {K:PySem.W.Frag} {mg mb:Str→Option Value} {CX:CXT} {k:Nat} {fa a:Addr} {fd:FuncData} {x:Str} {sp:Sp} {s₁:Shared} {vs:List Value} {ns:List Int}
    (KX:K.In s₁.heap) (hns:s₁.heap.Ns mainGlobals mg) (hb:s₁.heap.Ns builtinsNs mb) (hbb:∀ x:Str,x ≠ "__name__" → mb x=bootBuiltins x) (hlim:s₁.heap.NoLimit) (hg:s₁.gens=#[])
    (ha:s₁.heap.get? a=some { cls:=.type "list", data:=.seq vs.toArray }) (hi:IntsAre vs ns) (hl:ns.length≤sizeLine) (hr:Room k callerA)
    (F:∀ base:Heap,K.In base→base.Ns mainGlobals mg→FnOk P w K mg base CX k fa fd [x] sp) (hbind:∀ (s:Shared) (u:Value),BindsTo s fd ⟨[u],[]⟩ [(x,u)])
    (hsp:∀ H:Hp,Only H→SqL K H a (ns.map V.int)→sp [.ref a] H (fun v _=>v=.bl true) fun _ _ _=>False)
    (hCX:∀ H e s',CX [] H s₁ (fun _ _ _=>False) e s'→False) :
    codeAny (model P w) callerA (.call (.ref fa) ⟨[.ref a],[]⟩) (fun r s'=>r=.ok (.ret (.bool true))∧OldK s₁.heap s'.heap∧s'.os=s₁.os∧AllBare s'.gens) s₁:=by
  have rv:=vals_ints hi
  have lenV:=hi.length
  have core:∀ H:Hp,Only H→SqL K H a (ns.map V.int)→HOk P w H s₁.heap→(∀ b,H b ≠ none→b=a)→(H a ≠ none→K.lookup a=none) →
      codeAny (model P w) callerA (.call (.ref fa) ⟨[.ref a],[]⟩) (fun r s'=>r=.ok (.ret (.bool true))∧OldK s₁.heap s'.heap∧s'.os=s₁.os∧AllBare s'.gens) s₁:=by
    intro H hO hS hok hA hK
    have base_of:∀ {b:Addr} {o:Obj},s₁.heap.get? b=some o→H b=none→(hidT s₁.heap H).get? b=some o:=fun e n=>hidT_get e n
    have noA:∀ {b:Addr} {o:Obj} {es:Array DictEntry} {ep:Nat},s₁.heap.get? b=some o→o.data=.dict es ep→H b=none:=fun {b o es ep} e d=>by
      cases q:H b with
      | none=>rfl
      | some u =>
        have e':b=a:=hA b (by rw [q]; simp)
        subst e'
        rw [ha] at e; cases e
        have d':Data.seq vs.toArray _=Data.dict es ep:=d
        cases d'
    have nsK:∀ {b:Addr} {m:Str→Option Value},s₁.heap.Ns b m→(hidT s₁.heap H).Ns b m:=fun {b m} ⟨o,es,ep,e,d,r⟩=>⟨o,es,ep,base_of e (noA e d),d,r⟩
    have hKb:K.In (hidT s₁.heap H):=fun b o e=>base_of (KX b o e) (by
      cases q:H b with
      | none=>rfl
      | some u =>
        have e':b=a:=hA b (by rw [q]; simp)
        subst e'
        rw [hK (by rw [q]; simp)] at e; cases e)
    have hM:Mod K mg (hidT s₁.heap H):=⟨hKb,nsK hns,⟨mb,nsK hb,hbb⟩,let ⟨mc,h1,h2⟩:=hlim; ⟨mc,nsK h1,h2⟩⟩
    have e0:Env0 P w K mg (hidT s₁.heap H) callerA [] s₁ H:=⟨rfl,hM,fun b o e=>of_hidT e,Nat.le_of_eq (hidT_size _ _),trivial,fun b hb=>absurd (show b ∈ ([]:List Addr) from hb) (by simp),hok,.of_eq hg⟩
    refine codeAny_mono ((F _ hKb (nsK hns)).run callerA [] s₁ H ⟨[.ref a],[]⟩ [.ref a] [.ref a] _ _ hr e0 (hbind s₁ (.ref a)) (.cons rfl .nil) (hsp H hO hS)) fun r s' h=>?_
    cases r with
    | error e=>exact (hCX H e s' h).elim
    | ok fl =>
      cases fl with
      | next=>exact False.elim h
      | brk=>exact False.elim h
      | cont=>exact False.elim h
      | ret u =>
        obtain ⟨v,H',os,bare,un,hok',r',q⟩:=h
        have q':v=.bl true:=q
        subst q'
        obtain rfl:u=Value.bool true:=r'
        refine ⟨rfl,OldK.of_keep fun b o e=>?_,os,bare⟩
        cases q:H b with
        | none=>exact un.keep b o e q (by intro z; exact absurd (show b ∈ ([]:List Addr) from z) (by simp)) (by simp)
        | some u =>
          rcases hO b with z | ⟨ob,xs,z⟩
          · rw [q] at z; cases z
          · have z2:=un.frzs b ob _ z
            obtain ⟨e1,_⟩:=hok b _ z
            obtain ⟨e2,_⟩:=hok' b _ z2
            rw [e] at e1; cases e1
            exact e2
  cases hk:K.lookup a with
  | some o =>
    have e:=KX a o hk
    rw [ha] at e
    cases e
    refine core (fun _=>none) (fun _=>.inl rfl) (.inr ⟨_,vs.toArray,_,hk,rfl,rfl,rfl,by rw [List.size_toArray,lenV]; exact hl,by simpa using rv⟩) (fun b u z=>by have z':(none:Option HO)=some u:=z; cases z') (fun b z=>absurd rfl z) fun z=>absurd rfl z
  | none =>
    refine core (fun b=>if b=a then some (.frz { cls:=.type "list", data:=.seq vs.toArray } (.lst (ns.map V.int))) else none) (fun b=>?_) (.inl (.inr ⟨{ cls:=.type "list", data:=.seq vs.toArray },if_pos rfl⟩)) (fun b u z=>?_) (fun b z=>?_) fun _=>hk
    · by_cases hb:b=a
      · exact .inr ⟨_,_,if_pos hb⟩
      · exact .inl (if_neg hb)
    · by_cases hb:b=a
      · have z':=(if_pos hb).symm.trans z
        cases z'
        subst hb
        exact ⟨ha,by rw [List.length_map]; exact hl,vs,_,rv,ha⟩
      · have z':=(if_neg hb).symm.trans z
        cases z'
    · by_cases hb:b=a
      · exact hb
      · exact absurd (if_neg hb) z
end L2
namespace L2
open PySem PySem.Spec PyProof.Rows
abbrev KOf {K:PySem.W.Frag} {h:Heap} (_:K.In h):PySem.W.Frag:=K
theorem walk_of {l:PySem.W.OpenLaw} {n k:Nat} {q:Program} {loose:List Str} {XP:(Str→Option Value)→Heap→Prop} {YP:World→Heap→Prop} {d:DefRec} {K:Params→PySem.W.Frag} {CX:World→CXT} {sp:World→Sp} {x:Str}
    (hn:l.most=some n) (hn2:n≤sizeLine) (hdf:d.params.defaults=[]) (hr:Room k callerA)
    (hY:∀ (w:World) (h:Heap),YP w h→(K w.params).In h)
    (F:∀ (w:World) (mg:Str→Option Value) (fa:Addr) (h:Heap),(K w.params).In h→h.Ns mainGlobals mg→mg d.name=some (.ref fa) →
      ∃ fd:FuncData,(∀ (s:Shared) (u:Value),BindsTo s fd ⟨[u],[]⟩ [(x,u)]) ∧
        ∀ base:Heap,(K w.params).In base→base.Ns mainGlobals mg→FnOk l.prog w (K w.params) mg base (CX w) k fa fd [x] (sp w))
    (hsp:∀ (w:World) (H:Hp) (a:Addr) (ns:List Int),ns.length≤n→Only H→SqL (K w.params) H a (ns.map V.int)→sp w [.ref a] H (fun v _=>v=.bl true) fun _ _ _=>False)
    (hCX:∀ (w:World) (H:Hp) (s:Shared) (e:Value) (s':Shared),CX w [] H s (fun _ _ _=>False) e s'→False) :
    PySem.W.WalkO q loose XP YP l.row.toRowW d [] (fun f vs=>PySem.call f vs):=by
  refine Att.attach_call hn hdf fun w s₀ s₁ mg mb fa o pm cd doc a vs ns G Y ho hd hcd hmg hobj hints hlen hg=>?_
  have KX:=hY w _ Y
  obtain ⟨fd,hb,hF⟩:=F w mg fa _ KX G.T.g hmg
  exact law_call KX G.T.g G.T.b G.T.builtins G.T.nolimit hg hobj hints (Nat.le_trans hlen hn2) hr hF hb (fun H hO hS=>hsp w H a ns hlen hO hS) fun H e s'=>hCX w H s₁ e s'
end L2
/- THE LAST THEOREM (shape; LID,My.* are yours):
   My.Adr: a structure of the addresses that your layer names (classes,functions); My.Txt K t: a structure (Prop) of the equations over K;
   My.txt_mk:{K} {implicit addresses ..} (e1:nsIn K mainGlobals "law" = some (some (.ref f))) (e2:K.lookup f=some ⟨oc,od,.func (fnOf "law" "law" params body scope dV kV doc pm an cdv ct),sl⟩) (e3:codeIn K cdv "law" = true) ..:∃ t,My.Txt K t
set_option maxRecDepth 100000 in
set_option maxHeartbeats 0 in
theorem PySem.Challenge.cw_LID_holds : PySem.Challenge.rw_LID.Holds := by
  w_on; o_law; k_head; (case hw=>w_witness2)
  k_fill
  refine L2.walk_of (l:=PySem.Challenge.rw_LID) (n:=63) (k:=40) (x := "script") (CX:=fun w=>..) (sp:=fun _=>My.sp_law) rfl (by decide) rfl ⟨rfl,by decide,by decide⟩ (fun w h Y=>PySem.W.kIn_of Y) ?F ?S ?C
  case F =>
    intro w mg fa h KX G hmg
    have T:∃ t,My.Txt (L2.KOf KX) t:=by
      dsimp only [L2.KOf]                          -- K must stand as «<heap const> w.params» for k_is
      refine' My.txt_mk ?e1 ?e2 ?e3 ..
      (case e1=>PySem.W.k_is)                    -- in the order: a name -> its address -> its object -> its parts
      (case e2=>PySem.W.k_is)
      ..
    obtain ⟨t,T⟩:=T
    have e0:=hmg.symm.trans (PySem.W.mg_of KX G T.law)
    cases e0                                       -- fa is the law's own address
    exact ⟨_,fun s u=>.of_eq rfl,fun base kb nb=>My.law_fn T kb nb⟩     -- if «.of_eq rfl» comes too early: refine' ⟨_,?b,fun base kb nb=>My.law_fn T kb nb⟩; exact fun s u=>.of_eq rfl
  case S=>exact fun w H a ns hl hO hS=>..
  case C=>exact ..
(the tactic k_is has no namespace: write k_is) -/
namespace L2
open PySem PySem.Spec PyProof.Rows
def inClass (s:Stmt) (j:Nat):Stmt:=match s with
  | .ClassDef _ _ _ body _ _ _ _ _ _ _=>body.getD j (.Pass ⟨0,0,0,0⟩)
  | _=>.Pass ⟨0,0,0,0⟩
def defArgs (s:Stmt):Arguments:=match s with
  | .FunctionDef _ a _ _ _ _ _ _ _ _=>a
  | _=>{ posonlyargs:=[],args:=[],vararg:=none,kwonlyargs:=[],kw_defaults:=[],kwarg:=none,defaults:=[] }
def defBody (s:Stmt):List Stmt:=match s with
  | .FunctionDef _ _ b _ _ _ _ _ _ _=>b
  | _=>[]
def defScope (s:Stmt):Scope:=match s with
  | .FunctionDef _ _ _ _ _ _ sc _ _ _=>sc
  | _=>{ kind:=.function,names:=[],isGenerator:=false,isCoroutine:=false }
abbrev CX0:CXT:=fun _ _ _ _ _ _=>False
abbrev E0:XK:=fun _ _ _=>False
theorem pass0 {X:Cx}:Passes CX0 X E0:=fun _ _ _ _ _ _ _ h=>h.elim
structure Fun (K:PySem.W.Frag) (x qual:Str) (st:Stmt) (f:Addr) (fd:FuncData):Prop where
  ex:∃ (oc:Value) (od:Option Addr) (kV doc pm:Value) (an:Option Addr) (cdv ct:Value) (osl:Array (Option Value)),
    fd=PySem.W.fnOf x qual (defArgs st) (defBody st) (defScope st) .none kV doc pm an cdv ct∧K.lookup f=some ⟨oc,od,.func fd,osl⟩∧PySem.W.codeIn K cdv qual=true
  kp:PySem.W.keepIn K (.ref f)=true
section
variable {P:Program} {w:World} {K:PySem.W.Frag} {mg:Str→Option Value} {base:Heap}
theorem Fun.ok {x qual:Str} {st:Stmt} {f:Addr} {fd:FuncData} {N ps:List Str} {k:Nat} {sp:Sp} (F:Fun K x qual st f fd) (S:FnScope N ps (defScope st)) (len:∀ vs H Q E,sp vs H Q E→vs.length=ps.length)
    (hbody:∀ (cdv:Value) (A:Around) (outer:List Env) (s:Shared) (H:Hp) (vs:List V) (Q:VK) (E:XK),Room k (A.deeper (envOfC qual (defScope st) s.heap.objs.size f cdv))→sp vs H Q E →
      ∃ t,PSs (cxOf CX0 P w K mg base N qual (defScope st) f cdv A outer s H E).nox (defBody st) t∧t { nx:=fun _ H'=>Q .non H',rt:=Q } (start N vs) H):FnOk P w K mg base CX0 (k+1) f fd ps sp:=by
  obtain ⟨oc,od,kV,doc,pm,an,cdv,ct,osl,rfl,lk,hcd⟩:=F.ex
  refine fn_of lk hcd S len fun A outer s H vs Q E hr hsp=>?_
  obtain ⟨t,h,q⟩:=hbody cdv A outer s H vs Q E hr hsp
  exact ⟨t,h.nox,q⟩
theorem Fun.binds {x qual:Str} {st:Stmt} {f:Addr} {fd:FuncData} {ps:List Str} (F:Fun K x qual st f fd)
    (h:∀ (kV doc pm:Value) (an:Option Addr) (cdv ct:Value) (us:List Value),us.length=ps.length→bindArgs (PySem.W.fnOf x qual (defArgs st) (defBody st) (defScope st) .none kV doc pm an cdv ct) ⟨us,[]⟩=pure (ps.zip us)):Binds K fd ps []:=by
  obtain ⟨oc,od,kV,doc,pm,an,cdv,ct,osl,rfl,lk,hcd⟩:=F.ex
  exact .all (h kV doc pm an cdv ct)
theorem fun_mk {x qual:Str} {st:Stmt} {f:Addr} {oc:Value} {od an:Option Addr} {osl:Array (Option Value)} {kV doc pm cdv ct:Value} (l:K.lookup f=some ⟨oc,od,.func (PySem.W.fnOf x qual (defArgs st) (defBody st) (defScope st) .none kV doc pm an cdv ct),osl⟩)
    (c:PySem.W.codeIn K cdv qual=true) (k:PySem.W.keepIn K (.ref f)=true):Fun K x qual st f (PySem.W.fnOf x qual (defArgs st) (defBody st) (defScope st) .none kV doc pm an cdv ct):=⟨⟨oc,od,kV,doc,pm,an,cdv,ct,osl,rfl,l,c⟩,k⟩
end
theorem small1000 {n:Nat} (h:n≤1000):n < sizeLine:=Nat.lt_of_le_of_lt h (by decide)
section
variable {X:Cx}
theorem pv (i:Nat) {x:Str} {pos:Pos} (hN:X.N[i]?=some x:=by rfl) (hv:Vis X.env.scope x:=by first | exact Or.inl rfl | exact Or.inr (Or.inl rfl) | exact Or.inr (Or.inr rfl)) (hd:(x == ("__debug__" : Str))=false:=by decide)
    (hcd:(x == ("__classdict__" : Str))=false:=by decide):PE X (.Name x pos) (tVar i):=pe_var hN hv hd hcd
end
theorem iteF {A B:Prop} (h:B):if false=true then A else B:=by
  rw [if_neg Bool.false_ne_true]
  exact h
theorem iteT {A B:Prop} (h:A):if true=true then A else B:=by
  rw [if_pos rfl]
  exact h
theorem ite2 {c A B:Prop} [Decidable c] (h1:c→A) (h2:¬ c→B):if c then A else B:=by
  by_cases h:c
  · rw [if_pos h]
    exact h1 h
  · rw [if_neg h]
    exact h2 h
theorem iteNS {c A B:Prop} [Decidable c] (hc:c) (h:B):if (!decide c)=true then A else B:=by
  rw [decide_eq_true hc]
  exact iteF h
def Same (H H':Hp):Prop:=∀ b o,H b=some o→H' b=some o
theorem Same.refl (H:Hp):Same H H:=fun _ _ h=>h
theorem Same.trans {H H1 H2:Hp} (a:Same H H1) (b:Same H1 H2):Same H H2:=fun c o h=>b c o (a c o h)
theorem Same.seq {K:PySem.W.Frag} {H H':Hp} {a:Addr} {xs:List V} (e:Same H H') (h:SqL K H a xs):SqL K H' a xs:=by
  rcases h with (h | ⟨o,h⟩) | h
  · exact .inl (.inl (e _ _ h))
  · exact .inl (.inr ⟨o,e _ _ h⟩)
  · exact .inr h
end L2
set_option maxHeartbeats 4000000
namespace L2
open PySem PySem.Spec PyProof.Rows
section
variable {X:Cx}
theorem call_isinst:CallR X (.builtin "isinstance") (fun xs H Q=>∃ x t n b,xs=[x,.ty n]∧TyOf X.K H x t∧PySem.W.kitOne X.K t (.type n)=some b∧Q (.bl b) H):=by
  intro pins s σ H xs us Q I r h
  obtain ⟨x,t,n,b,rfl,ty,e,q⟩:=h
  obtain ⟨u,w',rfl,r1,r2⟩:=vals2 r
  cases r2
  exact isinst_ok I r1 ty e (fun tk=>⟨.bl b,H,I.tok tk,rfl,q⟩)
theorem kit_int_bool (K:PySem.W.Frag):PySem.W.kitOne K (.type "int") (.type "bool")=some false:=by
  show (if ((Value.type "int" == Value.type "bool")=true) then some true else if PySem.W.kitMeta "bool" = true then ((fastBuiltinMro "int").map (·.contains (.type "bool"))) else none)=some false
  decide +kernel
def CDivL (_ j:Int):Prop:=0 < j∧j < 2 ^ 63
theorem op_fdivL:OpR X (binaryOp .FloorDiv) (rI CDivL fun i j=>.int (i / j)):=opI fun i j _ _ _ _ _ hc q=>by
  have e:Int.fdiv i j=i / j:=Int.fdiv_eq_ediv_of_nonneg i (Int.le_of_lt hc.1)
  rw [← e] at q
  refine floordiv_int (by have:=hc.1; omega) q (.inl (PyProof.noPylong_of_log2 ?_))
  have h1:=hc.1
  have h2:=hc.2
  have h3:j.natAbs < 2 ^ 63:=by omega
  have h4:=(Nat.log2_lt (n:=j.natAbs) (k:=63) (by omega)).mpr h3
  omega
end
theorem boot_bool':bootBuiltins "bool" = some (.type "bool"):=by decide +kernel
structure Cal (P:Program) (w:World) (K:PySem.W.Frag) (mg:Str→Option Value) (base:Heap) (n:Nat) (x:Str) (ps:List Str) (sp:Sp):Prop where
  ex:∃ (f:Addr) (fd:FuncData),FnOk P w K mg base CX0 n f fd ps sp∧Binds K fd ps []∧PySem.W.keepIn K (.ref f)=true∧mg x=some (.ref f)
theorem pe_cal {X:Cx} {n k:Nat} {x:Str} {ps:List Str} {sp:Sp} {e:Expr} {es:List Expr} {t:TA} {p pos:Pos} (C:Cal X.prog X.w X.K X.mg X.base n x ps sp) (hr:Room k X.A) (hk:n≤k) (hg:Gl X x)
    (ha:PA X (e::es) t) (hdb:(x == ("__debug__" : Str))=false:=by decide) (he:starEach (e::es) X.env=(false,eval e X.env)::starEach es X.env:=by rfl) (hpl:(backTo pos (starEach es X.env)).any (·.1)=false:=by rfl) :
    PE X (.Call (.Name x p) (e::es) [] pos) (tCall sp [] E0 t):=by
  obtain ⟨f,fd,F,b,kp,m⟩:=C.ex
  exact pe_call F (hr.mono hk) hg m kp b .nil pass0 ha hdb he hpl
theorem Cal.of {P:Program} {w:World} {K:PySem.W.Frag} {mg:Str→Option Value} {base:Heap} {n:Nat} {x qual:Str} {ps:List Str} {sp:Sp} {st:Stmt} {f:Addr} {fd:FuncData} (F:Fun K x qual st f fd) (O:FnOk P w K mg base CX0 n f fd ps sp) (m:mg x=some (.ref f))
    (h:∀ (kV doc pm:Value) (an:Option Addr) (cdv ct:Value) (us:List Value),us.length=ps.length→bindArgs (PySem.W.fnOf x qual (defArgs st) (defBody st) (defScope st) .none kV doc pm an cdv ct) ⟨us,[]⟩=pure (ps.zip us)):Cal P w K mg base n x ps sp :=
  ⟨f,fd,O,F.binds h,F.kp,m⟩
theorem iteN {c A B:Prop} [Decidable c] (hc:¬ c) (h:A):if (!decide c)=true then A else B:=by
  rw [decide_eq_false hc]
  exact iteT h
theorem iteD {c A B:Prop} [Decidable c] (hc:c) (h:A):if decide c=true then A else B:=by
  rw [decide_eq_true hc]
  exact iteT h
theorem iteDF {c A B:Prop} [Decidable c] (hc:¬ c) (h:B):if decide c=true then A else B:=by
  rw [decide_eq_false hc]
  exact iteF h
def SameBut (f:Addr) (H H':Hp):Prop:=∀ b o,b ≠ f→H b=some o→H' b=some o
theorem SameBut.trans {f:Addr} {H H1 H2:Hp} (a:SameBut f H H1) (b:SameBut f H1 H2):SameBut f H H2:=fun c o h e=>b c o h (a c o h e)
theorem SameBut.refl (f:Addr) (H:Hp):SameBut f H H:=fun _ _ _ h=>h
theorem SameBut.of {f:Addr} {H H':Hp} (h:Same H H'):SameBut f H H':=fun b o _ e=>h b o e
theorem SameBut.upd {f:Addr} {H:Hp} (o:HO):SameBut f H (upd H f o):=fun b u h e=>by rw [upd_ne h]; exact e
theorem Same.new {H:Hp} {p:Addr} (h:H p=none) (o:HO):Same H (upd H p o):=fun b u q=>by rw [upd_ne (ne_of_none q h)]; exact q
theorem Same.but {f:Addr} {H0 H H':Hp} (a:Same H0 H) (n:H0 f=none) (b:SameBut f H H'):Same H0 H':=fun c o e=>b c o (ne_of_none e n) (a c o e)
def FeedAt (H:Hp) (f:Addr):Prop:=∃ own st:Int,H f=some (.lst [.int own,.int st])∧0≤own∧0≤st∧st≤2147483646
theorem FeedAt.ne {H:Hp} {f b:Addr} (F:FeedAt H f) (h:H b=none):b ≠ f:=by
  obtain ⟨o,s,e,_⟩:=F
  intro z
  subst z
  rw [h] at e
  cases e
theorem FeedAt.same {H H':Hp} {f:Addr} (F:FeedAt H f) (s:Same H H'):FeedAt H' f:=by
  obtain ⟨o,t,e,h⟩:=F
  exact ⟨o,t,s _ _ e,h⟩
def spTake:Sp:=fun vs H Q _=>∃ (f:Addr) (m:Int),vs=[.ref f,.int m]∧FeedAt H f∧0 < m∧m < 2 ^ 63∧∀ (d:Int) (H':Hp),0≤d→d < m→FeedAt H' f→SameBut f H H'→Q (.int d) H'
def spFeed (K:PySem.W.Frag):Sp:=fun vs H Q _=>∃ (a:Addr) (ns:List Int) (k:Int),vs=[.ref a,.int k]∧SqL K H a (ns.map V.int)∧ns.length≤63∧0≤k∧k < 1000000∧∀ (p:Addr) (H':Hp),H p=none→Same H H'→FeedAt H' p→Q (.ref p) H'
def spLaw (K:PySem.W.Frag):Sp:=fun vs H Q _=>∃ (a:Addr) (ns:List Int),vs=[.ref a]∧SqL K H a (ns.map V.int)∧ns.length≤63∧∀ H',Q (.bl true) H'
theorem small {n:Nat} (h:n≤1000):n≤sizeLine:=Nat.le_of_lt (small1000 h)
theorem at_int {ns:List Int} {k:Int} (h0:0≤k) (h:k < (ns.length:Int)):∃ v:Int,atI (ns.map V.int) k=some (.int v):=by
  have hk:k.toNat < ns.length:=by omega
  have q:atI (ns.map V.int) ((k.toNat:Nat):Int)=some (.int ns[k.toNat]):=atI_nat (by rw [List.getElem?_map,List.getElem?_eq_getElem hk] <;> rfl)
  have ek:((k.toNat:Nat):Int)=k:=by omega
  rw [ek] at q
  exact ⟨_,q⟩
end L2
namespace L2
open PySem PySem.Spec PyProof.Rows
@[reducible] def cxComp (X:Cx) (N:List Str) (scope:Scope) (cl:List (Str × Addr)) (s:Shared) (H:Hp) (fp:List Addr):Cx where
  prog:=X.prog
  w:=X.w
  K:=X.K
  mg:=X.mg
  base:=X.base
  A:=X.A
  N:=N
  s₀:=s
  H₀:=H
  env:=compEnvC scope cl s.heap.objs.size X.env
  outer:=X.stack
  stack:=X.stack
  ex:=fp
  fn:=fun _=>false
  calm:=X.calm
  pn:=[]
  xe:=fun _ _=>False
structure CompScope (X:Cx) (x:Str) (N:List Str) (ix:List Nat) (scope:Scope) (cl:List (Str × Addr)):Prop where
  clos:closureFor scope X.env=pure cl
  nocell:∀ y ∈ scope.names,y.2 ≠ .cell
  kind:scope.kind=.function
  names:∀ y ∈ scope.names,y.2=.local→scope.names.lookup y.1=some .local
  own:scope.names.lookup x=some .local
  nd:(x::N).Nodup
  sub:∀ p ∈ cl,X.env.cells.lookup p.1=some p.2
  has:((relabel scope X.env).names.all fun p=>!(p.2 == .cell || p.2 == .free) || (cl.lookup p.1).isSome)=true
  outs:∀ (j:Nat) (y:Str),N[j]?=some y→(relabel scope X.env).names.lookup y=some .cell∧∃ k c,ix[j]?=some k∧X.N[k]?=some y∧cl.lookup y=some c∧X.env.scope.names.lookup y=some .cell
def outs (ix:List Nat) (σ:St):St:=ix.map fun k=>(σ[k]?).join
section
variable {X:Cx} {pins:List (Addr × Obj)} {σ:St} {x:Str} {N:List Str} {ix:List Nat} {scope:Scope} {cl:List (Str × Addr)} {fp:List Addr} {H3:Hp} {s3:Shared}
theorem CompScope.cells (S:CompScope X x N ix scope cl) {y:Str} {c:Addr} (h:cl.lookup y=some c):X.env.cells.lookup y=some c:=S.sub _ (PySem.mem_of_lookup h)
theorem comp_cx (S:CompScope X x N ix scope cl) (I3:Inv X pins σ H3 s3) (hf:∀ b ∈ fp,FpOk X pins H3 b) (hlt:∀ b ∈ fp,b < s3.heap.objs.size):(cxComp X (x::N) scope cl s3 H3 fp).Ok where
  mod:=I3.ok.mod
  kind:=S.kind
  glob:=I3.ok.glob
  blt:=I3.ok.blt
  above:=Nat.le_refl _
  inj:=fun y z c h1 h2=>I3.ok.inj y z c (S.cells h1) (S.cells h2)
  has:=fun y hy=>by
    have q:=List.all_eq_true.mp S.has
    have hy:(relabel scope X.env).names.lookup y=some .cell∨(relabel scope X.env).names.lookup y=some .free:=hy
    have z:∀ k:NameKind,(k == .cell || k == .free)=true→(relabel scope X.env).names.lookup y=some k→∃ c,cl.lookup y=some c:=fun k hk e=>by
      have r:=q _ (PySem.mem_of_lookup e)
      rw [hk] at r
      exact Option.isSome_iff_exists.mp (by simpa using r)
    rcases hy with e | e
    · exact z _ (by rfl) e
    · exact z _ (by rfl) e
  cab:=fun _ _ h _=>nomatch h
  hd:=I3.ok.hd
  frames:=I3.ok.frames
  stk:=.inl rfl
  exf:=fun b hb=>⟨Nat.ne_of_lt (hlt b hb),fun y c e=>(hf b hb).2.2.2.2.1 y c (S.cells e)⟩
  bs:=fun b o e=>I3.bs b o e
  bsz:=Nat.le_trans I3.ok.bsz I3.sz
  noex:=fun b o e hb=>by
    rcases (hf b hb).2.2.2.1 with z | z
    · exact I3.ok.noex b o e z
    · exact absurd (Nat.lt_of_lt_of_le (Heap.lt_size e) (Nat.le_trans I3.ok.bsz z)) (Nat.lt_irrefl _)
  exfs:=fun b hb z=>by
    rcases List.mem_cons.mp (I3.stkSub b z) with e | e
    · exact (hf b hb).2.1 e
    · exact (hf b hb).2.2.1 e
  funs:=I3.stack
  frf:=I3.stkFree
theorem comp_start (S:CompScope X x N ix scope cl) (I3:Inv X pins σ H3 s3) (hf:∀ b ∈ fp,FpOk X pins H3 b) (hlt:∀ b ∈ fp,b < s3.heap.objs.size) (hix:ix.length=N.length) {h1:Heap} {t':Nat} {m:Str→Option Value}
    (hn:h1.Ns s3.heap.objs.size m) (hk:∀ b o,s3.heap.get? b=some o→h1.get? b=some o):Inv (cxComp X (x::N) scope cl s3 H3 fp) [] (none::outs ix σ) H3 { s3 with heap:=h1,toks:=t' } where
  ok:=comp_cx S I3 hf hlt
  os:=rfl
  bare:=I3.bare
  base:=Un.kept hk
  loc:=by
    refine ⟨m,hn,fun i y v h1' h2 h3=>?_⟩
    cases i with
    | zero =>
      have h2':(some (none:Option V))=some (some v):=h2
      cases h2'
    | succ j =>
      have h1'':N[j]?=some y:=h1'
      have h2':(outs ix σ)[j]?=some (some v):=h2
      obtain ⟨hr,k,c,e1,e2,e3,e4⟩:=S.outs j y h1''
      unfold outs at h2'
      rw [List.getElem?_map,e1] at h2'
      have h2'':(σ[k]?).join=some v:=Option.some.inj h2'
      have e5:σ[k]?=some (some v):=by
        cases q:σ[k]? with
        | none=>rw [q] at h2''; cases h2''
        | some o=>rw [q] at h2''; exact congrArg some h2''
      obtain ⟨m0,_,hl⟩:=I3.loc
      obtain ⟨u,r,l⟩:=hl k y v e2 e5 (.inr (.inl e4))
      refine ⟨u,r,.inr ⟨.inl hr,c,e3,?_⟩⟩
      rcases l with ⟨kk,_⟩ | ⟨_,c',ec,z⟩
      · have kk':X.env.scope.names.lookup y=some .local:=kk
        rw [e4] at kk'; cases kk'
      · rw [S.cells e3] at ec
        cases ec
        obtain ⟨o,ho,hd⟩:=z
        exact ⟨o,hk _ _ ho,hd⟩
  cell:=fun y c e=>by
    obtain ⟨v,o,ho,hd⟩:=I3.cell y c (S.cells e)
    exact ⟨v,o,hk _ _ ho,hd⟩
  free:=I3.hok.fresh (Nat.le_refl _)
  freeC:=fun y c e=>I3.freeC y c (S.cells e)
  pin:=fun p hp=>absurd (show p ∈ ([]:List (Addr × Obj)) from hp) (by simp)
  hok:=I3.hok.kept hk
  len:=by
    show (none::outs ix σ).length=(x::N).length
    rw [List.length_cons,List.length_cons]
    unfold outs
    rw [List.length_map,hix]
theorem comp_back (I3:Inv X pins σ H3 s3) (hf:∀ b ∈ fp,FpOk X pins H3 b) {σ':St} {H':Hp} {s':Shared} {h'':Heap} {N':List Str} (J:Inv (cxComp X N' scope cl s3 H3 fp) [] σ' H' s') (hb:Heap.SameBut s3.heap.objs.size s'.heap h'') :
    Inv X pins σ H' { s' with heap:=h'' }:=by
  have ne:∀ b o,s3.heap.get? b=some o→b ≠ s3.heap.objs.size:=fun b o e=>Nat.ne_of_lt (Heap.lt_size e)
  have B:Un (frs X.stack) fp H3 H' s3.heap s'.heap:=J.base
  refine I3.call' (s':={ s' with heap:=h'' }) (ch:=fp) J.os ⟨fun b o e n h1 h2=>(hb.2 b (ne b o e)).trans (B.keep b o e n h1 h2),fun b o e n h1 h2=>?_,B.free,fun b o e h2=>?_,B.tups,B.frzs,B.tbls⟩ (fun b ob e=>?_) J.bare (fun b z=>?_)
  · obtain ⟨sl,q⟩:=B.slot b o e n h1 h2
    exact ⟨sl,(hb.2 b (ne b o e)).trans q⟩
  · obtain ⟨o',q⟩:=B.there b o e h2
    exact ⟨o',(hb.2 b (ne b o e)).trans q⟩
  · have fr:H' s3.heap.objs.size=none:=J.free
    refine (J.hok b ob e).stay (fun c w' hc q=>(hb.2 c ?_).trans q) (fun _ q=>q) fun _ _ q=>q
    rintro rfl
    rcases hc with rfl | hc
    · rw [fr] at e; cases e
    · rw [fr] at hc; cases hc
  · obtain ⟨_,h2,_,h4,h5,h6⟩:=hf b z
    exact ⟨h4,h2,h5,h6⟩
end
abbrev TBl:=St→Hp→(Hp→Prop)→VK→Prop
def PB (X:Cx) (ifs:List Expr) (elt:Expr) (tb:TBl):Prop :=
  ∀ (pins:List (Addr × Obj)) (s:Shared) (σ:St) (H:Hp) (skip:Hp→Prop) (keep:VK),Inv X pins σ H s→tb σ H skip keep →
    wpAny (model X.prog X.w) X.A (forIn ifs true fun c r=>if r=true then do let ok ← isTrue c X.env (eval c X.env); pure (ForInStep.yield ok) else pure (ForInStep.yield r))
      (fun ok s3=>if ok=true then wpAny (model X.prog X.w) X.A (eval elt X.env) (EP X pins σ keep) X.xe s3 else ∃ H',Inv X pins σ H' s3∧skip H') X.xe s
def tB0 (te:TE):TBl:=fun σ H _ keep=>te σ H keep
def tB1 (tc:TT) (te:TE):TBl:=fun σ H skip keep=>tc σ H fun b H1=>if b=true then te σ H1 keep else skip H1
theorem pb_all {X:Cx} {elt:Expr} {te:TE} (he:PE X elt te):PB X [] elt (tB0 te):=by
  intro pins s σ H skip keep I h
  refine wpAny_tests_nil ?_
  rw [if_pos rfl]
  exact he pins s σ H keep I h
def CompEx (J:It) (D:Addr) (ix:List Nat) (tb:TBl) (σ:St) (H:Hp) (Q:VK):Prop:=∃ W:Nat→Nat→Hp→Prop,(∃ m,W 0 m (upd H D (.lst [])))∧∀ i m H2,W i m H2 →
  (J.stop i H2∧Q (.ref D) H2)∨(J.go i H2∧∀ y H3,J.yld i H2 y H3→tb (some y::outs ix σ) H3 (fun H4=>∃ m',m' < m∧W (i+1) m' H4)
    fun z H4=>∃ ys,H4 D=some (.lst ys)∧ys.length < sizeLine∧∃ m',m' < m∧W (i+1) m' (upd H4 D (.lst (ys++[z]))))
def tCompR (wi:TI) (ix:List Nat) (tb:TBl):TE:=fun σ H Q=>wi σ H fun J H1=>∀ D,H1 D=none→CompEx J D ix tb σ H1 Q
section
variable {prog:Program} {w:World} {A:Around} {E:Value→Shared→Prop} {R:Result→Shared→Prop} {s:Shared}
theorem compLoop_go {elt target iter:Expr} {ifs:List Expr} {scope:Scope} {pos:Pos} {it acc:Value} {env:Env} (I:Nat→Shared→Prop)
    (turn:∀ n s,I n s→wpAny (model prog w) A (pyNext it) (fun r s1=>match r with
      | none=>R (.ok .next) s1
      | some v=>wpAny (model prog w) A (letOwnedTupleGo target it v) (fun _ s1'=>wpAny (model prog w) A (assign target env v) (fun _ s2 =>
          wpAny (model prog w) A (forIn ifs true fun c r=>if r=true then do let ok ← isTrue c env (eval c env); pure (ForInStep.yield ok) else pure (ForInStep.yield r)) (fun ok s3 =>
            if ok=true then wpAny (model prog w) A (eval elt env) (fun x s4 =>
              wpAny (model prog w) A (call (.builtin "list.append") [acc,x]) (fun _ s5=>∃ m,m < n∧I m s5) (fun _ _=>False) s4) (fun _ _=>False) s3
            else ∃ m,m < n∧I m s3) (fun _ _=>False) s2) (fun _ _=>False) s1') (fun _ _=>False) s1) (fun _ _=>False) s)
    (n:Nat) (h:I n s) :
    codeAny (model prog w) A (.compLoop (.ListComp elt [⟨target,iter,ifs,0⟩] scope pos) 0 it acc env) R s:=by
  have up:∀ {α:Type} {t:Sem α} {Q Q':α→Shared→Prop} {E':Value→Shared→Prop} {s:Shared},wpAny (model prog w) A t Q (fun _ _=>False) s→(∀ a s,Q a s→Q' a s)→wpAny (model prog w) A t Q' E' s :=
    fun h q=>wpAny_mono h q fun _ _ f=>f.elim
  refine codeAny_loop rfl I (fun n s hI=>?_) n h
  show wpAny _ A ((compTurn (.ListComp elt [⟨target,iter,ifs,0⟩] scope pos) 0 it acc env).onRaise (fun x=>do noteFrame x env; theTreesLotGoes x)) _ _ s
  refine wpAny_noted ?_
  rw [compTurn_list]
  refine wpAny_bind (wpAny_standAt (wpAny_bind (up (turn n s hI) fun r s1 h1=>?_)))
  cases r with
  | none=>exact wpAny_pure h1
  | some v =>
    refine wpAny_bind (up h1 fun _ s1' h1'=>?_)
    refine wpAny_bind (up h1' fun _ s2 h2=>wpAny_bind (up h2 fun ok s3 h3=>?_))
    cases ok with
    | false=>exact wpAny_pure ⟨rfl,h3⟩
    | true =>
      exact wpAny_bind (wpAny_bind (up h3 fun x s4 h4=>wpAny_bind (up h4 fun _ s5 h5=>wpAny_pure (wpAny_pure ⟨rfl,h5⟩))))
end
structure Apart (X:Cx) (pins:List (Addr × Obj)) (H:Hp) (C:Addr):Prop where
  fr:H C=none
  lo:C ≠ X.env.locals
  sz:X.s₀.heap.objs.size≤C
  ce:∀ y c,X.env.cells.lookup y=some c→c ≠ C
  pi:∀ p ∈ X.pn++pins,p.1 ≠ C
theorem Apart.turn {X:Cx} {pins:List (Addr × Obj)} {σ:St} {H:Hp} {C:Addr} {s:Shared} {h':Heap} (a:Apart X pins H C) (I:Inv X pins σ H s) (hs:Heap.SameBut C s.heap h'):Inv X pins σ H { s with heap:=h' } :=
  I.turned (t':=s.toks) (fun b o ne e=>(hs.2 b ne).trans e) a.fr a.lo (.inr a.sz) a.ce a.pi
section
variable {X:Cx} {x:Str} {N:List Str} {ix:List Nat} {scope:Scope} {cl:List (Str × Addr)} {elt iter:Expr} {ifs:List Expr} {px pos:Pos} {wi:TI} {tb:TBl}
theorem comp_run (hc:X.calm=true) (S:CompScope X x N ix scope cl) (hix:ix.length=N.length) (hb:∀ s3 H3 fp,PB (cxComp X (x::N) scope cl s3 H3 fp) ifs elt tb)
    {pins:List (Addr × Obj)} {s2:Shared} {σ:St} {H2:Hp} {Q:VK} {it:Addr} {fp:List Addr} {tn:Nat→Heap→Prop} {J:It} {RR:Value→Addr→Result→Shared→Prop} {E:Value→Shared→Prop}
    (I2:Inv X pins σ H2 s2) (T:Turn X.prog X.w X.K (.Name x px) J fp it tn) (st2:tn 0 s2.heap) (f2:∀ b ∈ fp,FpOk X pins H2 b)
    (h:∀ D,H2 D=none→∃ W:Nat→Nat→Hp→Prop,(∃ m,W 0 m (upd H2 D (.lst [])))∧∀ i m H3,W i m H3 →
      (J.stop i H3∧Q (.ref D) H3)∨(J.go i H3∧∀ y H4,J.yld i H3 y H4→tb (some y::outs ix σ) H4 (fun H5=>∃ m',m' < m∧W (i+1) m' H5)
        fun z H5=>∃ ys,H5 D=some (.lst ys)∧ys.length < sizeLine∧∃ m',m' < m∧W (i+1) m' (upd H5 D (.lst (ys++[z])))))
    (hRR:∀ (D C:Addr) (H':Hp) (s':Shared) (m:Str→Option Value),s'.heap.Ns C m→Apart X pins H' C→Inv X pins σ H' s'→Q (.ref D) H'→RR (.ref D) C (.ok .next) s') :
    wpAny (model X.prog X.w) X.A (newList []) (fun acc s3=>wpAny (model X.prog X.w) X.A (newFunctionEnv scope X.env.globals cl [] X.env.qual none .none (some X.env)) (fun cenv s4 =>
      codeAny (model X.prog X.w) X.A (.compStart (.ListComp elt [⟨.Name x px,iter,ifs,0⟩] scope pos) 0 (.ref it) acc { cenv with scope:=relabel scope X.env }) (RR acc cenv.locals) s4) E s3) E s2:=by
  refine wpAny_newObj_type (wpAny_newFunctionEnv S.nocell (by intro y hy; simp at hy) (fun h1 hns1 hsb1=>?_) S.kind)
  dsimp only at hns1 hsb1 ⊢
  have I3:Inv X pins σ (upd H2 s2.heap.objs.size (.lst [])) { s2 with heap:=s2.heap.push { cls:=.type "list", dict:=none,data:=.seq ([]:List Value).toArray } }:=I2.lnew (its:=[]) (ys:=[]) (t':=s2.toks) .nil (Nat.zero_le _)
  have hD:H2 s2.heap.objs.size=none:=I2.fresh
  obtain ⟨W,⟨m0,w0⟩,turn⟩:=h s2.heap.objs.size hD
  have hltF:∀ b ∈ fp,b < s2.heap.objs.size:=fun b hb=>by
    obtain ⟨o,e,_⟩:=T.obj 0 _ st2 b hb
    exact Heap.lt_size e
  generalize hs3:({ s2 with heap:=s2.heap.push { cls:=.type "list", dict:=none,data:=.seq ([]:List Value).toArray } }:Shared)=s3 at I3
  have eh:s2.heap.push { cls:=.type "list", dict:=none,data:=.seq ([]:List Value).toArray }=s3.heap:=by rw [← hs3]
  have et:s2.toks=s3.toks:=by rw [← hs3]
  rw [eh] at hns1 hsb1 ⊢
  have sz3:s3.heap.objs.size=s2.heap.objs.size+1:=by rw [← eh,Heap.size_push]
  have hlt3:∀ b ∈ fp,b < s3.heap.objs.size:=fun b hb=>Nat.lt_of_lt_of_le (hltF b hb) (by rw [sz3]; exact Nat.le_succ _)
  have f3:∀ b ∈ fp,FpOk X pins (upd H2 s2.heap.objs.size (.lst [])) b:=fun b hb=>by
    obtain ⟨q1,q2⟩:=f2 b hb
    exact ⟨by rw [upd_ne (Nat.ne_of_lt (hltF b hb))]; exact q1,q2⟩
  have up:∀ b o,s3.heap.get? b=some o→h1.get? b=some o:=fun b o e=>hsb1.extBut b o (Nat.ne_of_lt (Heap.lt_size e)) (Heap.get?_push_of_some _ e)
  have old:∀ b o,s2.heap.get? b=some o→h1.get? b=some o:=fun b o e=>up b o (by rw [← eh]; exact Heap.get?_push_of_some _ e)
  have es:({ s2 with heap:=h1,toks:=s2.toks+([]:List (Str × Value)).length }:Shared)={ s3 with heap:=h1,toks:=s2.toks+([]:List (Str × Value)).length }:=by rw [← hs3]
  rw [es]
  have I4:Inv (cxComp X (x::N) scope cl s3 (upd H2 s2.heap.objs.size (.lst [])) fp) [] (none::outs ix σ) (upd H2 s2.heap.objs.size (.lst [])) { s3 with heap:=h1,toks:=s2.toks+([]:List (Str × Value)).length } :=
    comp_start S I3 f3 hlt3 hix hns1 up
  have st4:tn 0 h1:=T.keep 0 _ _ st2 fun b _ o e=>old b o e
  have loop:codeAny (model X.prog X.w) X.A (.compLoop (.ListComp elt [⟨.Name x px,iter,ifs,0⟩] scope pos) 0 (.ref it) (.ref s2.heap.objs.size) (compEnvC scope cl s3.heap.objs.size X.env)) (RR (.ref s2.heap.objs.size) s3.heap.objs.size)
      { s3 with heap:=h1,toks:=s2.toks+([]:List (Str × Value)).length }:=by
    refine compLoop_go (fun n s'=>∃ i v0 H',Inv (cxComp X (x::N) scope cl s3 (upd H2 s2.heap.objs.size (.lst [])) fp) [] (v0::outs ix σ) H' s'∧tn i s'.heap∧(∀ b ∈ fp,H' b=none)∧W i n H') ?_ m0 ⟨0,none,_,I4,st4,fun b hb=>(f3 b hb).1,w0⟩
    rintro n s5 ⟨i,v0,H5,I5,st5,fr5,w5⟩
    have stat:∀ {H':Hp},(∀ b ∈ fp,H' b=none)→∀ b ∈ fp,FpOk (cxComp X (x::N) scope cl s3 (upd H2 s2.heap.objs.size (.lst [])) fp) [] H' b:=fun hn b hb =>
      ⟨hn b hb,((comp_cx S I3 f3 hlt3).exf b hb).1,(comp_cx S I3 f3 hlt3).exfs b hb,.inl hb,((comp_cx S I3 f3 hlt3).exf b hb).2,fun p hp=>absurd (show p ∈ ([]:List (Addr × Obj)) from hp) (by simp)⟩
    rcases turn i n H5 w5 with ⟨stop,qn⟩ | ⟨go,step⟩
    · refine thn (T.done (cxComp X (x::N) scope cl s3 (upd H2 s2.heap.objs.size (.lst [])) fp) rfl rfl rfl hc i [] s5 _ H5 _ I5 (stat fr5) st5 stop) fun r s6 ⟨hr,I6⟩=>?_
      subst hr
      obtain ⟨m6,hn6,_⟩:=I6.loc
      exact hRR _ _ H5 s6 m6 hn6 ⟨I6.free,Ne.symm (Nat.ne_of_lt I3.lt),I3.sz,fun y c e z=>by
        obtain ⟨v,q⟩:=I3.cell y c e
        exact absurd q.lt (by rw [z]; exact Nat.lt_irrefl _),fun p hp z=>absurd (Heap.lt_size (I3.pin p hp).1) (by rw [z]; exact Nat.lt_irrefl _)⟩ (comp_back I3 f3 I6 (Heap.SameBut.refl _ _)) qn
    · refine thn (T.item (cxComp X (x::N) scope cl s3 (upd H2 s2.heap.objs.size (.lst [])) fp) rfl rfl rfl hc i [] s5 _ H5 _ I5 (stat fr5) st5 go) fun r s6 ⟨u,hr,h6⟩=>?_
      subst hr
      refine thn h6 fun _ s7 ⟨y,H7,I7,r7,y7,st7,fr7⟩=>?_
      have I7':=I7.pinned (stat fr7) (T.obj _ _ st7)
      refine wpAny_assign_Name (store_ok (i:=0) I7' S.nd rfl (.inl (lookup_relabel_local S.own)) r7 (fun s8 I8=>?_) (.inr (lookup_relabel_local S.own)))
      have I8':Inv (cxComp X (x::N) scope cl s3 (upd H2 s2.heap.objs.size (.lst [])) fp) ([]++pinsAt fp s7.heap) (some y::outs ix σ) H7 s8:=I8
      have again:∀ {v9:Option V} {H9:Hp} {s9:Shared},Inv (cxComp X (x::N) scope cl s3 (upd H2 s2.heap.objs.size (.lst [])) fp) ([]++pinsAt fp s7.heap) (v9::outs ix σ) H9 s9→(∃ m',m' < n∧W (i+1) m' H9) →
          ∃ m,m < n∧∃ i v0 H',Inv (cxComp X (x::N) scope cl s3 (upd H2 s2.heap.objs.size (.lst [])) fp) [] (v0::outs ix σ) H' s9∧tn i s9.heap∧(∀ b ∈ fp,H' b=none)∧W i m H':=fun {v9 H9 s9} I9 ⟨m',hm,w9⟩=>by
        refine ⟨m',hm,i+1,v9,H9,I9.unpinned,T.keep _ _ _ st7 fun b hb o e=>(I9.pin (b,o) (List.mem_append_right _ (List.mem_append_right _ (mem_pinsAt hb e)))).1,fun b hb=>?_,w9⟩
        obtain ⟨o,e,d⟩:=T.obj _ _ st7 b hb
        exact (I9.pin (b,o) (List.mem_append_right _ (List.mem_append_right _ (mem_pinsAt hb e)))).2.1
      refine thn (hb s3 (upd H2 s2.heap.objs.size (.lst [])) fp _ s8 _ H7 _ _ I8' (step y H7 y7)) fun ok s9 q9=>?_
      cases ok with
      | false =>
        rw [if_neg (by decide)] at q9 ⊢
        obtain ⟨H9,I9,q9⟩:=q9
        exact again I9 q9
      | true =>
        rw [if_pos rfl] at q9 ⊢
        refine thn q9 fun u s10 ⟨z,H10,I10,r10,ys,hy,hz,q10⟩=>?_
        refine thn (mt_append _ s10 _ H10 (.ref s2.heap.objs.size) [z] (.ref s2.heap.objs.size) [u] (fun _ H'=>∃ m',m' < n∧W (i+1) m' H') I10 rfl (.cons r10 .nil) ⟨_,ys,z,rfl,rfl,hy,hz,q10⟩) fun _ s11 ⟨_,H11,I11,_,q11⟩=>?_
        exact again I11 q11
  exact codeAny_compStart_list loop (T.self _ 0 _ _ _ st4 loop)
theorem pe_comp (hc:X.calm=true) (S:CompScope X x N ix scope cl) (hix:ix.length=N.length) (hi:PI X (.Name x px) iter wi) (hb:∀ s3 H3 fp,PB (cxComp X (x::N) scope cl s3 H3 fp) ifs elt tb)
    (hs:∀ x,foldedSetIterable iter X.env x=pure x:=by intro _; rfl):PE X (.ListComp elt [⟨.Name x px,iter,ifs,0⟩] scope pos) (tCompR wi ix tb):=by
  intro pins s σ H Q I h
  rw [eval_ListComp]
  refine wpAny_comprehension_free (use:=none) rfl hs S.clos S.kind S.names (thn (hi pins s σ H _ I h) fun xv s1 h1=>thn h1 fun itv s2 h2=>?_)
  obtain ⟨it,fp,tn,J,H2,rfl,I2,T,st2,f2,R⟩:=h2
  refine comp_run hc S hix hb (RR:=fun acc C=>compPost (model X.prog X.w) X.A X.xe none (EP X pins σ Q) acc C) I2 T st2 f2 R ?_
  intro D C H' s' m hn ap I' q
  exact ⟨m,hn,fun h'' hb''=>⟨.ref D,H',ap.turn I' hb'',rfl,q⟩⟩
theorem ps_comp {i:Nat} {y:Str} {py spos:Pos} (hN:X.N.Nodup) (hi0:X.N[i]?=some y) (hx:Loc X.env.scope y) (hc:X.calm=true) (S:CompScope X x N ix scope cl) (hix:ix.length=N.length) (hi:PI X (.Name x px) iter wi) (hb:∀ s3 H3 fp,PB (cxComp X (x::N) scope cl s3 H3 fp) ifs elt tb)
    (hsw:swapsWith (.ListComp elt [⟨.Name x px,iter,ifs,0⟩] scope pos) (some (.Name y py)) spos.line X.env=pure true:=by with_unfolding_all rfl)
    (hs:∀ x,foldedSetIterable iter X.env x=pure x:=by intro _; rfl) (hf:X.fn y=true∨X.env.scope.names.lookup y=some .local:=by first | exact .inl rfl | exact .inr rfl | assumption) :
    PS X (.Assign [.Name y py] (.ListComp elt [⟨.Name x px,iter,ifs,0⟩] scope pos) spos) (fun D σ H=>tCompR wi ix tb σ H fun v H'=>D.nx (σ.set i (some v)) H'):=by
  intro pins s σ H Dn I h
  rw [exec_Assign_Name_used _ _ _ _ hsw]
  refine wpAny_bind (wpAny_standAt (wpAny_bind ?_))
  show wpAny _ X.A (do let _ ← comprehension (.ListComp elt [⟨.Name x px,iter,ifs,0⟩] scope pos) scope X.env _ (newList []) false (eval iter X.env) (some (assign (.Name y py) X.env))) _ _ s
  refine wpAny_bind (wpAny_mono (wpAny_comprehension_free (use:=some (assign (.Name y py) X.env)) (Q:=fun _ s'=>SP X pins Dn .next s') rfl hs S.clos S.kind S.names
    (thn (hi pins s σ H _ I h) fun xv s1 h1=>thn h1 fun itv s2 h2=>?_)) (fun _ s' hq=>wpAny_pure (wpAny_pure hq)) fun _ _ e=>e)
  obtain ⟨it,fp,tn,J,H2,rfl,I2,T,st2,f2,R⟩:=h2
  refine comp_run hc S hix hb (RR:=fun acc C=>compPost (model X.prog X.w) X.A X.xe (some (assign (.Name y py) X.env)) (fun _ s'=>SP X pins Dn .next s') acc C) (Q:=fun v H'=>Dn.nx (σ.set i (some v)) H') I2 T st2 f2 R ?_
  intro D C H' s' m hn ap I' q
  show wpAny _ X.A (assign (.Name y py) X.env (.ref D)) _ _ _
  refine wpAny_assign_Name (store_ok2 I' hN hi0 hx (v:=.ref D) rfl (fun s'' I'' hsb=>?_) hf)
  obtain ⟨a,hsb,ha⟩:=hsb
  have ne:C ≠ a:=by
    rcases ha with z | z
    · rw [z]; exact ap.lo
    · exact Ne.symm (ap.ce y a z)
  exact ⟨m,hn.sameBut hsb ne,fun h'' hb''=>⟨_,H',ap.turn I'' hb'',q⟩⟩
end
end L2
namespace L2
open PySem PySem.Spec PyProof.Rows
section
variable {X:Cx} {pins:List (Addr × Obj)} {σ:St} {H:Hp} {s:Shared} {h':Heap}
theorem Inv.turnedL {t':Nat} {ch:List Addr} (I:Inv X pins σ H s) (k:∀ b u,b ∉ ch→s.heap.get? b=some u→h'.get? b=some u) (hf:∀ b ∈ ch,FpOk X pins H b):Inv X pins σ H { s with heap:=h',toks:=t' }:=by
  have nit:∀ b u,H b=some u→b ∉ ch:=fun b u e z=>by rw [(hf b z).1] at e; cases e
  refine I.step (g':=s.gens) (d':=s.drawn) (ch:=ch) (fun b hb=>?_) (fun b u _ _ hc e _=>k b u hc e) (fun b u _ _ hc e _=>⟨u.slots,k b u hc e⟩) (fun _ _ _ _ n=>n) (fun b u hc e=>⟨u,k b u hc e⟩)
    (fun _ _ e=>e) (fun _ _ _ e=>e) (fun b ps e=>⟨#[],by rw [e]; simp⟩) (fun m hm=>?_) (fun b u e=>?_) I.bare
  · obtain ⟨_,h2,_,h4,h5,h6⟩:=hf b hb
    exact ⟨h4,h2,h5,h6⟩
  · obtain ⟨ob,es,ep,ho,r⟩:=hm
    exact ⟨ob,es,ep,k _ ob (fun z=>(hf _ z).2.1 rfl) ho,r⟩
  · refine (I.hok b u e).stay (fun c v hc q=>k c v ?_ q) (fun _ q=>q) fun _ _ q=>q
    rcases hc with z | z
    · rw [z]; exact nit b u e
    · exact nit c _ z
end
def Ite (K:PySem.W.Frag) (a:Addr):It :=
  ⟨fun i H=>∃ xs x,SqL K H a xs∧xs[i]?=some x,fun i H y H'=>∃ t,y=.ref t∧H t=none∧∀ xs x,SqL K H a xs→xs[i]?=some x→H'=upd H t (.tup [.int i,x]),fun i H=>∃ xs,SqL K H a xs∧xs.length≤i⟩
section
variable {X:Cx} {elts:List Expr} {k:Nat} {tpos:Pos}
def iEnum (K:PySem.W.Frag) (tl:TE):TI:=fun σ H R=>tl σ H fun x H1=>∃ a,x=.ref a∧(∃ xs,SqL K H1 a xs)∧R (Ite K a) H1
end
end L2
namespace L2
open PySem PySem.Spec PyProof.Rows
mutual
inductive Rep (K:PySem.W.Frag) (H:Hp):V→PyData→Prop
  | non:Rep K H .non .none
  | bl (b:Bool):Rep K H (.bl b) (.bool b)
  | int (i:Int):Rep K H (.int i) (.int i)
  | str (x:Str):Rep K H (.str x) (.str x)
  | tup {a:Addr} {xs:List V} {ds:List PyData}:SqT K H a xs→RepAll K H xs ds→Rep K H (.ref a) (.tuple ds)
  | lst {a:Addr} {xs:List V} {ds:List PyData}:SqL K H a xs→RepAll K H xs ds→Rep K H (.ref a) (.list ds)
inductive RepAll (K:PySem.W.Frag) (H:Hp):List V→List PyData→Prop
  | nil:RepAll K H [] []
  | cons {x:V} {d:PyData} {xs:List V} {ds:List PyData}:Rep K H x d→RepAll K H xs ds→RepAll K H (x::xs) (d::ds)
end
section
variable {X:Cx} {pins:List (Addr × Obj)} {σ:St} {H:Hp} {s:Shared}
mutual
theorem Rep.reads (I:Inv X pins σ H s):∀ {x:V} {d:PyData} {v:Value},Rep X.K H x d→RelV x v→∃ as,Reads s.heap v d as
  | _,_,v,.non,r=>by cases (show v=Value.none from r); exact ⟨_,Reads.none⟩
  | _,_,v,.bl b,r=>by cases (show v=Value.bool b from r); exact ⟨_,Reads.bool b⟩
  | _,_,v,.int i,r=>by obtain ⟨t,e⟩:=(show ∃ t,v=Value.int i t from r); cases e; exact ⟨_,Reads.int i t⟩
  | _,_,v,.str x,r=>by obtain ⟨t,e⟩:=(show ∃ t,v=Value.str x t from r); cases e; exact ⟨_,Reads.str x t⟩
  | _,_,v,.tup (a:=a) h q,r=>by
    cases (show v=Value.ref a from r)
    obtain ⟨its,rv,⟨o,ho,hc,n,hd⟩,_⟩:=I.tuple h
    obtain ⟨as,z⟩:=RepAll.reads I q rv
    exact ⟨_,reads_tuple_at ho hc hd (by simpa using z)⟩
  | _,_,v,.lst (a:=a) h q,r=>by
    cases (show v=Value.ref a from r)
    obtain ⟨its,rv,⟨o,n,ho,hc,_,hd⟩,_⟩:=I.list h
    obtain ⟨as,z⟩:=RepAll.reads I q rv
    exact ⟨_,reads_list_at ho hc hd (by simpa using z)⟩
theorem RepAll.reads (I:Inv X pins σ H s):∀ {xs:List V} {ds:List PyData} {vs:List Value},RepAll X.K H xs ds→Vals xs vs→∃ as,ReadsAll s.heap vs ds as
  | _,_,_,.nil,.nil=>⟨_,ReadsAll.nil⟩
  | _,_,_,.cons h q,.cons r rs=>by
    obtain ⟨as,z⟩:=Rep.reads I h r
    obtain ⟨bs,y⟩:=RepAll.reads I q rs
    exact ⟨_,ReadsAll.cons z y⟩
end
end
section
variable {X:Cx}
def rEqD (K:PySem.W.Frag):R2:=fun x y H Q=>∃ d e,Rep K H x d∧Rep K H y e∧SeqAt.shaped d=true∧SeqAt.shaped e=true∧Q (.bl (PyData.eqv d e)) H
def rNeD (K:PySem.W.Frag):R2:=fun x y H Q=>∃ d e,Rep K H x d∧Rep K H y e∧SeqAt.shaped d=true∧SeqAt.shaped e=true∧Q (.bl (!PyData.eqv d e)) H
theorem op_eqD (hu:X.A.units+64 < cLine):OpR X (compareOp .Eq) (rEqD X.K):=by
  intro pins s σ H x y v u Q I rx ry h
  obtain ⟨d,e,hd,he,sd,se,q⟩:=h
  obtain ⟨as,r1⟩:=Rep.reads I hd rx
  obtain ⟨bs,r2⟩:=Rep.reads I he ry
  exact eq_dataH r1 r2 sd se hu ⟨.bl _,H,I,rfl,q⟩
def rCatT0 (K:PySem.W.Frag):R2:=fun x y H Q=>∃ a b ys,x=.ref a∧y=.ref b∧SqT K H a []∧SqT K H b ys∧Q (.ref b) H
end
end L2
namespace L2
open PySem PySem.Spec PyProof.Rows
section
variable {prog:Program} {w:World} {A:Around} {E:Value→Shared→Prop} {s:Shared} {R:Result→Shared→Prop}
end
section
variable {X:Cx}
def tListRev (K:PySem.W.Frag) (te:TE):TE:=fun σ H Q=>te σ H fun x H1=>∃ l ys,x=.ref l∧SqL K H1 l ys∧∀ p,H1 p=none→Q (.ref p) (upd H1 p (.lst ys.reverse))
end
end L2
namespace L2
open PySem PySem.Spec PyProof.Rows
def Nx (n i:Nat) (Pv:Nat→Hp→Prop) (H:Hp):Prop:=∃ m',m' < n - i∧(m'=n - (i+1)∧i+1≤n∧Pv (i+1) H)
theorem Nx.of {n i:Nat} {Pv:Nat→Hp→Prop} {H:Hp} (h:i < n) (p:Pv (i+1) H):Nx n i Pv H:=⟨n - (i+1),by omega,rfl,h,p⟩
theorem comp_tup {K:PySem.W.Frag} {a D:Addr} {xs:List V} {ix:List Nat} {tb:TBl} {σ:St} {H:Hp} {Q:VK} (Pv:Nat→Hp→Prop) (h0:Pv 0 (upd H D (.lst []))) (hl:∀ i H,i≤xs.length→Pv i H→SqT K H a xs)
    (hs:∀ i x H,xs[i]?=some x→Pv i H→tb (some x::outs ix σ) H (Nx xs.length i Pv) fun z H'=>∃ ys,H' D=some (.lst ys)∧ys.length < sizeLine∧Nx xs.length i Pv (upd H' D (.lst (ys++[z])))) (hd:∀ H,Pv xs.length H→Q (.ref D) H) :
    CompEx (Itt K a) D ix tb σ H Q:=by
  refine ⟨fun i m H=>m=xs.length - i∧i≤xs.length∧Pv i H,⟨xs.length,by simp,Nat.zero_le _,h0⟩,?_⟩
  rintro i m H ⟨rfl,hi,p⟩
  have q:=hl i H hi p
  by_cases hlt:i < xs.length
  · refine .inr ⟨⟨xs,xs[i],q,by simp [hlt]⟩,fun x H' y=>?_⟩
    obtain ⟨e,y⟩:=y
    subst e
    exact hs i x _ (y xs q) p
  · have e:i=xs.length:=by omega
    subst e
    exact .inl ⟨⟨xs,q,Nat.le_refl _⟩,hd H p⟩
theorem comp_list {K:PySem.W.Frag} {a D:Addr} {xs:List V} {ix:List Nat} {tb:TBl} {σ:St} {H:Hp} {Q:VK} (Pv:Nat→Hp→Prop) (h0:Pv 0 (upd H D (.lst []))) (hl:∀ i H,i≤xs.length→Pv i H→SqL K H a xs)
    (hs:∀ i x H,xs[i]?=some x→Pv i H→tb (some x::outs ix σ) H (Nx xs.length i Pv) fun z H'=>∃ ys,H' D=some (.lst ys)∧ys.length < sizeLine∧Nx xs.length i Pv (upd H' D (.lst (ys++[z])))) (hd:∀ H,Pv xs.length H→Q (.ref D) H) :
    CompEx (Itl K a) D ix tb σ H Q:=by
  refine ⟨fun i m H=>m=xs.length - i∧i≤xs.length∧Pv i H,⟨xs.length,by simp,Nat.zero_le _,h0⟩,?_⟩
  rintro i m H ⟨rfl,hi,p⟩
  have q:=hl i H hi p
  by_cases hlt:i < xs.length
  · refine .inr ⟨⟨xs,xs[i],q,by simp [hlt]⟩,fun x H' y=>?_⟩
    obtain ⟨e,y⟩:=y
    subst e
    exact hs i x _ (y xs q) p
  · have e:i=xs.length:=by omega
    subst e
    exact .inl ⟨⟨xs,q,Nat.le_refl _⟩,hd H p⟩
theorem comp_range {lo:Int} {n:Nat} {D:Addr} {ix:List Nat} {tb:TBl} {σ:St} {H:Hp} {Q:VK} (Pv:Nat→Hp→Prop) (h0:Pv 0 (upd H D (.lst [])))
    (hs:∀ i H,i < n→Pv i H→tb (some (.int (lo+i))::outs ix σ) H (Nx n i Pv) fun z H'=>∃ ys,H' D=some (.lst ys)∧ys.length < sizeLine∧Nx n i Pv (upd H' D (.lst (ys++[z])))) (hd:∀ H,Pv n H→Q (.ref D) H) :
    CompEx (Itr lo n) D ix tb σ H Q:=by
  refine ⟨fun i m H=>m=n - i∧i≤n∧Pv i H,⟨n,by simp,Nat.zero_le _,h0⟩,?_⟩
  rintro i m H ⟨rfl,hi,p⟩
  by_cases hlt:i < n
  · refine .inr ⟨hlt,fun x H' y=>?_⟩
    obtain ⟨e,y⟩:=y
    subst e y
    exact hs i _ hlt p
  · have e:i=n:=by omega
    subst e
    exact .inl ⟨Nat.le_refl _,hd H p⟩
theorem CompScope.closed {X:Cx} {x:Str} {scope:Scope} (c1:closureFor scope X.env=pure []) (c2:∀ y ∈ scope.names,y.2 ≠ .cell) (c3:scope.kind=.function) (c4:∀ y ∈ scope.names,y.2=.local→scope.names.lookup y.1=some .local)
    (c5:scope.names.lookup x=some .local) (c6:((relabel scope X.env).names.all fun p=>!(p.2 == .cell || p.2 == .free) || ((([]:List (Str × Addr))).lookup p.1).isSome)=true):CompScope X x [] [] scope [] where
  clos:=c1
  nocell:=c2
  kind:=c3
  names:=c4
  own:=c5
  nd:=by simp
  sub:=fun p hp=>absurd hp (by simp)
  has:=c6
  outs:=fun j y h=>by simp at h
end L2
namespace L2
open PySem PySem.Spec PyProof.Rows
section
variable {X:Cx}
def rIsi (K:PySem.W.Frag):List V→Hp→VK→Prop:=fun xs H Q=>∃ x t n b,xs=[x,.ty n]∧TyOf K H x t∧PySem.W.kitOne K t (.type n)=some b∧Q (.bl b) H
def rLen (K:PySem.W.Frag):List V→Hp→VK→Prop:=fun xs H Q=>∃ p ys,xs=[.ref p]∧(SqL K H p ys∨SqT K H p ys)∧Q (.int ys.length) H
end
end L2
namespace L2
open PySem PySem.Spec PyProof.Rows
def Its (z:Str):It:=⟨fun i _=>i < z.cps.size,fun i H x H'=>H'=H∧∃ c,z.cps[i]?=some c∧x=.str ⟨#[c]⟩,fun i _=>z.cps.size≤i⟩
theorem walks_strU {prog:Program} {w:World} {A:Around} (hh:A.handled=none) (I:Addr) (x:Str) (t:Tok):Walks prog w A I [I] [I] x.cps.size (SignAt x) (fun i h=>h.IsStrIter I (strIterType x) x t i):=by
  unfold strIterType
  split
  · exact Walks.strAscii hh I x t
  · exact Walks.strWide hh I x t
theorem turn_str {P:Program} {w:World} {K:PySem.W.Frag} {y:Str} {py:Pos} (z:Str) (t:Tok) (it:Addr):Turn P w K (.Name y py) (Its z) [it] it (fun i h=>i≤z.cps.size∧h.IsStrIter it (strIterType z) z t i) where
  mem:=by simp
  obj:=fun i h st b hb=>by
    have e:b=it:=by simpa using hb
    subst e
    obtain ⟨_,o,e,c,d⟩:=st
    exact ⟨o,e,fun v z=>by rw [d] at z; cases z⟩
  keep:=fun i h h' st k=>by
    obtain ⟨hi,o,e,r⟩:=st
    exact ⟨hi,o,k it (by simp) o e,r⟩
  item:=by
    intro X hP hw hK hc i pins s σ H E I hf st hg
    subst hP hw hK
    obtain ⟨f0,f1,f2,f3,f4,f5⟩:=hf it (by simp)
    refine (walks_strU (I.ok.hd hc) it z t).item i s _ E hg st.2 fun v h' tk hP hst hk=>?_
    obtain ⟨c,u,hcx,rfl⟩:=hP
    have I1:Inv X pins σ H { s with heap:=h',toks:=tk }:=I.turned (fun b o hb e=>hk b o (by simpa using hb) e) f0 f1 f3 f4 f5
    exact ⟨_,rfl,wpAny_of_eq (a:=()) rfl ⟨.str ⟨#[c]⟩,H,I1,⟨_,rfl⟩,⟨rfl,c,hcx,rfl⟩,⟨hg,hst⟩,fun b hb=>(hf b hb).1⟩⟩
  done:=by
    intro X hP hw hK hc i pins s σ H E I hf st hg
    subst hP hw hK
    obtain ⟨f0,f1,f2,f3,f4,f5⟩:=hf it (by simp)
    have e:i=z.cps.size:=Nat.le_antisymm st.1 hg
    subst e
    refine (walks_strU (I.ok.hd hc) it z t).done s _ E st.2 fun h' tk hk=>?_
    exact ⟨rfl,I.turned (fun b o hb e=>hk b o (by simpa using hb) e) f0 f1 f3 f4 f5⟩
  self:=fun A i s Q E st h=>by
    obtain ⟨_,st⟩:=st
    unfold strIterType at st
    split at st
    · exact wpAny_pyIter_striter_ascii st h
    · exact wpAny_pyIter_striter_wide st h
section
variable {X:Cx} {y:Str} {py:Pos}
def iStr (tl:TE):TI:=fun σ H R=>tl σ H fun x H1=>∃ z,x=.str z∧R (Its z) H1
theorem pi_str {l:Expr} {tl:TE} (hl:PE X l tl):PI X (.Name y py) l (iStr tl):=by
  intro pins s σ H R I h
  refine thn (hl pins s σ H _ I h) fun v s1 ⟨x,H1,I1,r1,q1⟩=>?_
  obtain ⟨z,e,q⟩:=q1
  subst e
  obtain ⟨t,rfl⟩:=r1
  refine wpAny_pyIter_strU ?_
  refine ⟨s1.heap.objs.size,[s1.heap.objs.size],_,_,H1,rfl,I1.kept (t':=s1.toks) fun b o e=>Heap.get?_push_of_some _ e,turn_str z t _,⟨Nat.zero_le _,_,Heap.get?_push_size _ rfl,rfl,rfl⟩,fun b hb=>?_,q⟩
  have e:b=s1.heap.objs.size:=by simpa using hb
  subst e
  exact I1.fpOk (Nat.le_refl _) (I1.hok.fresh (Nat.le_refl _))
end
theorem for_str {z:Str} {g:TG} {tb:TS} {D:Ends} {σ:St} {H:Hp} (Pv:Nat→St→Hp→Prop) (h0:Pv 0 σ H)
    (hs:∀ i c σ H,z.cps[i]?=some c→Pv i σ H→g (.str ⟨#[c]⟩) σ H fun σ2 H2=>tb { D with nx:=Pv (i+1),ct:=Pv (i+1),bk:=D.nx } σ2 H2) (hd:∀ σ H,Pv z.cps.size σ H→D.nx σ H) :
    ∃ W:Nat→Nat→St→Hp→Prop,(∃ m,W 0 m σ H)∧∀ i m σ H,W i m σ H →
      ((Its z).stop i H∧D.nx σ H)∨((Its z).go i H∧∃ N:St→Hp→Prop,(∀ σ' H',N σ' H'→∃ m',m' < m∧W (i+1) m' σ' H')∧∀ x H',(Its z).yld i H x H'→g x σ H' fun σ2 H2=>tb { D with nx:=N,ct:=N,bk:=D.nx } σ2 H2):=by
  refine ⟨fun i m σ H=>m=z.cps.size - i∧i≤z.cps.size∧Pv i σ H,⟨z.cps.size,by simp,Nat.zero_le _,h0⟩,?_⟩
  rintro i m σ H ⟨rfl,hi,p⟩
  by_cases hlt:i < z.cps.size
  · refine .inr ⟨hlt,Pv (i+1),fun σ' H' p'=>⟨z.cps.size - (i+1),by omega,rfl,hlt,p'⟩,fun x H' y=>?_⟩
    obtain ⟨e,c,hc,rfl⟩:=y
    subst e
    exact hs i c σ _ hc p
  · have e:i=z.cps.size:=by omega
    subst e
    exact .inl ⟨Nat.le_refl _,hd σ H p⟩
theorem comp_str {z:Str} {D:Addr} {ix:List Nat} {tb:TBl} {σ:St} {H:Hp} {Q:VK} (Pv:Nat→Hp→Prop) (h0:Pv 0 (upd H D (.lst [])))
    (hs:∀ i c H,z.cps[i]?=some c→Pv i H→tb (some (.str ⟨#[c]⟩)::outs ix σ) H (Nx z.cps.size i Pv) fun u H'=>∃ ys,H' D=some (.lst ys)∧ys.length < sizeLine∧Nx z.cps.size i Pv (upd H' D (.lst (ys++[u])))) (hd:∀ H,Pv z.cps.size H→Q (.ref D) H) :
    CompEx (Its z) D ix tb σ H Q:=by
  refine ⟨fun i m H=>m=z.cps.size - i∧i≤z.cps.size∧Pv i H,⟨z.cps.size,by simp,Nat.zero_le _,h0⟩,?_⟩
  rintro i m H ⟨rfl,hi,p⟩
  by_cases hlt:i < z.cps.size
  · refine .inr ⟨hlt,fun x H' y=>?_⟩
    obtain ⟨e,c,hc,rfl⟩:=y
    subst e
    exact hs i c _ hc p
  · have e:i=z.cps.size:=by omega
    subst e
    exact .inl ⟨Nat.le_refl _,hd H p⟩
section
variable {X:Cx}
def rSlS:V→Option Int→Option Int→Hp→VK→Prop:=fun x lo hi H Q=>∃ z,x=.str z∧z.length≤sizeLine∧Q (.str (Txt.slice z lo hi)) H
theorem sl_str:SlR X rSlS:=by
  intro pins s σ H x v vl vu lo hi sl Q I rx hs pl pu h
  obtain ⟨z,rfl,hz,q⟩:=h
  obtain ⟨t,rfl⟩:=rx
  refine ⟨"str", _,F.slot_str_getitem.lookup,typeIs_str _ _ _,?_⟩
  have fin:∀ t' k,EP X pins σ Q (.str (Txt.slice z lo hi) t') { s with toks:=k }:=fun t' k=>⟨.str _,H,I.tok k,⟨_,rfl⟩,q⟩
  obtain ⟨o,ho,hc,hd⟩:=hs
  cases pl with
  | none =>
    cases pu with
    | none=>exact wpAny_getItem_str_slice (l:=none) (u:=none) (st:=none) ⟨o,ho,hc,hd⟩ rfl (post_val_or_str ⟨Nat.le_trans (Txt.slice_le z _ _) hz,fin⟩)
    | int j u=>exact wpAny_getItem_str_slice (l:=none) (u:=some (j,u)) (st:=none) ⟨o,ho,hc,hd⟩ rfl (post_val_or_str ⟨Nat.le_trans (Txt.slice_le z _ _) hz,fin⟩)
  | int i u' =>
    cases pu with
    | none=>exact wpAny_getItem_str_slice (l:=some (i,u')) (u:=none) (st:=none) ⟨o,ho,hc,hd⟩ rfl (post_val_or_str ⟨Nat.le_trans (Txt.slice_le z _ _) hz,fin⟩)
    | int j u=>exact wpAny_getItem_str_slice (l:=some (i,u')) (u:=some (j,u)) (st:=none) ⟨o,ho,hc,hd⟩ rfl (post_val_or_str ⟨Nat.le_trans (Txt.slice_le z _ _) hz,fin⟩)
def rStarts:V→List V→Hp→VK→Prop:=fun x vs H Q=>∃ z u,x=.str z∧vs=[.str u]∧Q (.bl (Txt.startswith z u)) H
theorem strsAre_of:∀ {zs:List Str} {us:List Value},Vals (zs.map V.str) us→StrsAre us zs
  | [],_,.nil=>.nil
  | _::_,_,.cons ⟨t,e⟩ r=>by subst e; exact .cons _ t (strsAre_of r)
def rJoin (K:PySem.W.Frag):V→List V→Hp→VK→Prop:=fun x vs H Q=>∃ z a ys,x=.str z∧vs=[.ref a]∧SqL K H a (ys.map V.str)∧z.length≤16∧(ys.map (·.length)).sum+ys.length≤1048576∧Q (.str (Txt.join z ys)) H
theorem mt_join:MtR X "str.join" (rJoin X.K):=by
  intro pins s σ H x vs v us Q I rx rv h
  obtain ⟨z,a,ys,rfl,rfl,hq,hz,hw,q⟩:=h
  obtain ⟨t,rfl⟩:=rx
  obtain ⟨w',rfl,ra⟩:=rv.one
  cases ra
  obtain ⟨its,r',p,_⟩:=I.list hq
  exact join_listW p.isList (by simpa using strsAre_of r') hz hw fun t' k=>⟨.str _,H,I.tok k,⟨_,rfl⟩,q⟩
def rMulS:R2:=fun x y H Q=>∃ z n,x=.str z∧y=.int n∧MulOk z n∧Q (.str (Txt.mul z n)) H
theorem op_mulS:OpR X (binaryOp .Mult) rMulS:=by
  intro pins s σ H x y v u Q I rx ry h
  obtain ⟨z,n,rfl,rfl,hok,q⟩:=h
  obtain ⟨t,rfl⟩:=rx
  obtain ⟨t',rfl⟩:=ry
  exact SB.mul hok fun t' k=>⟨.str _,H,I.tok k,⟨_,rfl⟩,q⟩
def rAll (K:PySem.W.Frag):List V→Hp→VK→Prop:=fun xs H Q=>∃ (a:Addr) (bs:List Bool),xs=[.ref a]∧SqL K H a (bs.map V.bl)∧Q (.bl (bs.all id)) H
theorem bools_get:∀ {bs:List Bool} {us:List Value} {i:Nat} {v:Value},Vals (bs.map V.bl) us→us[i]?=some v→∃ b,bs[i]?=some b∧v=.bool b
  | [],_,_,_,.nil,h=>by simp at h
  | b::_,_,0,_,.cons r _,h=>by
    simp at h
    subst h
    exact ⟨b,rfl,r⟩
  | _::_,_,i+1,_,.cons _ t,h=>by
    obtain ⟨b,h1,h2⟩:=bools_get (i:=i) t (by simpa using h)
    exact ⟨b,by simpa using h1,h2⟩
theorem call_all (hc:X.calm=true):CallR X (.builtin "all") (rAll X.K):=by
  intro pins s σ H xs us Q I r h
  obtain ⟨a,bs,rfl,hq,q⟩:=h
  obtain ⟨u,rfl,ru⟩:=vals1 r
  cases ru
  obtain ⟨its,r',p,hz⟩:=I.list hq
  have hl:=r'.length
  rw [List.length_map] at hl
  have hlt:a < s.heap.objs.size:=by obtain ⟨o,n,e,_⟩:=p; exact Heap.lt_size e
  refine call_all_walk (wpAny_pyIter_list p.isList ?_)
  refine ⟨s.heap.objs.size,_,_,_,_,_,fun i=>bs[i]?.getD true,rfl,Walks.list (A:=X.A.in1) (I.ok.hd hc) s.heap.objs.size a (Nat.ne_of_lt hlt) its.toArray,⟨⟨_,Heap.get?_push_size _ rfl,rfl,rfl⟩,p.isList.push _⟩,?_,?_⟩
  · intro i v s' Q' E' hP hQ
    obtain ⟨b,hb,rfl⟩:=bools_get r' (i:=i) (v:=v) (by simpa using hP)
    have hQ':Q' b s':=by simpa [hb] using hQ
    exact wpAny_truthy_bool hQ'
  · intro h' tk hk
    have e:(List.range its.toArray.size).all (fun i=>bs[i]?.getD true)=bs.all id:=by
      rw [List.size_toArray,← hl]
      rw [Bool.eq_iff_iff,List.all_eq_true,List.all_eq_true]
      constructor
      · intro h b hb
        obtain ⟨i,hi,e⟩:=List.getElem_of_mem hb
        have:=h i (List.mem_range.mpr hi)
        rw [List.getElem?_eq_getElem hi] at this
        simpa [e] using this
      · intro h i hi
        have hi':=List.mem_range.mp hi
        rw [List.getElem?_eq_getElem hi']
        exact h _ (List.getElem_mem hi')
    rw [e]
    refine ⟨.bl _,H,?_,rfl,q⟩
    have I1:Inv X pins σ H { s with heap:=s.heap.push { cls:=.type "list_iterator", data:=.fields #[.ref a,.int 0 0] } }:=I.kept (t':=s.toks) fun b o e=>Heap.get?_push_of_some _ e
    refine I1.turnedL (t':=tk) (ch:=[s.heap.objs.size]) (fun b o hb e=>hk b o (by simpa using hb) e) fun b hb=>?_
    rw [List.mem_singleton.mp hb]
    exact I.fpOk (Nat.le_refl _) (I.hok.fresh (Nat.le_refl _))
end
end L2
namespace L2
open PySem PySem.Spec PyProof.Rows
theorem pe_cal0 {X:Cx} {n k:Nat} {x:Str} {sp:Sp} {p pos:Pos} (C:Cal X.prog X.w X.K X.mg X.base n x [] sp) (hr:Room k X.A) (hk:n≤k) (hg:Gl X x) (hdb:(x == ("__debug__" : Str))=false:=by decide) :
    PE X (.Call (.Name x p) [] [] pos) (tCall sp [] E0 tNil):=by
  obtain ⟨f,fd,F,b,kp,m⟩:=C.ex
  exact pe_call0 F (hr.mono hk) hg m kp b .nil pass0 hdb
inductive Consts:List Expr→List Str→Prop
  | nil:Consts [] []
  | cons {x:Str} {j:Nat} {pos:Pos} {es:List Expr} {zs:List Str}:Consts es zs→Consts (.Constant (.str x) j pos::es) (x::zs)
theorem pa_consts {X:Cx}:∀ {es:List Expr} {zs:List Str},Consts es zs→PA X es (fun _ H Q=>Q (zs.map V.str) H)
  | _,_,.nil=>pa_nil
  | _,_,.cons h=>fun pos pins s σ H Q I q=>pa_cons pe_str (pa_consts h) (by rfl) pos pins s σ H Q I q
theorem CompScope.two {X:Cx} {x y z:Str} {scope:Scope} {k l:Nat} {c d:Addr} {cl:List (Str × Addr)} (c1:closureFor scope X.env=pure cl) (c2:∀ y ∈ scope.names,y.2 ≠ .cell) (c3:scope.kind=.function) (c4:∀ y ∈ scope.names,y.2=.local→scope.names.lookup y.1=some .local)
    (c5:scope.names.lookup x=some .local) (nd:[x,y,z].Nodup) (hcl:cl=[(z,d),(y,c)]∨cl=[(y,c),(z,d)]) (hc:X.env.cells.lookup y=some c) (hd:X.env.cells.lookup z=some d) (c6:((relabel scope X.env).names.all fun p=>!(p.2 == .cell || p.2 == .free) || (cl.lookup p.1).isSome)=true)
    (hr:(relabel scope X.env).names.lookup y=some .cell) (hk:X.N[k]?=some y) (hs:X.env.scope.names.lookup y=some .cell)
    (hr2:(relabel scope X.env).names.lookup z=some .cell) (hk2:X.N[l]?=some z) (hs2:X.env.scope.names.lookup z=some .cell):CompScope X x [y,z] [k,l] scope cl where
  clos:=c1
  nocell:=c2
  kind:=c3
  names:=c4
  own:=c5
  nd:=nd
  sub:=fun p hp=>by
    rcases hcl with rfl | rfl
    all_goals
      rcases List.mem_cons.mp hp with e | e
      · rw [e]; assumption
      · rw [List.mem_singleton.mp e]; assumption
  has:=c6
  outs:=fun j w h=>by
    have nyz:y ≠ z:=fun e=>by simp [e] at nd
    match j,h with
    | 0,h =>
      have e:y=w:=Option.some.inj h
      subst e
      refine ⟨hr,k,c,rfl,hk,?_,hs⟩
      rcases hcl with rfl | rfl
      · have:(y == z)=false:=by simpa using nyz
        simp [List.lookup,this]
      · simp [List.lookup]
    | 1,h =>
      have e:z=w:=Option.some.inj h
      subst e
      refine ⟨hr2,l,d,rfl,hk2,?_,hs2⟩
      rcases hcl with rfl | rfl
      · simp [List.lookup]
      · have:(z == y)=false:=by simpa using Ne.symm nyz
        simp [List.lookup,this]
    | j+2,h=>simp at h
end L2
namespace Mine
open PySem L2
def NmOk (x:Str):Prop:=x.length≤20∧(∀ c ∈ x.cps.toList,97≤c∧c≤122)∧x ≠ "aa"
theorem mem_slice {x:Str} {l u:Option Int} {c:Nat} (h:c ∈ (Txt.slice x l u).cps.toList):c ∈ x.cps.toList:=by
  have e:Txt.slice x l u=StrLaws.sliceText x l u:=rfl
  rw [e] at h
  unfold StrLaws.sliceText at h
  split at h
  · exact h
  · obtain ⟨i,_,hi⟩:=List.mem_filterMap.mp (show c ∈ (List.filterMap _ _) by simpa using h)
    have:=Array.mem_of_getElem? hi
    simpa using this
theorem mem_append {x y:Str} {c:Nat} (h:c ∈ (x++y).cps.toList):c ∈ x.cps.toList∨c ∈ y.cps.toList:=by
  have e:(x++y).cps.toList=x.cps.toList++y.cps.toList:=by simp [Str.cps_append]
  rw [e] at h
  exact List.mem_append.mp h
theorem mem_join0 {zs:List Str} {c:Nat} (h:c ∈ (Txt.join "" zs).cps.toList):∃ z ∈ zs,c ∈ z.cps.toList:=by
  have e:Txt.join "" zs=Str.join "" zs:=by
    cases zs with
    | nil=>rfl
    | cons a r=>exact StrLaws.glued_cons "" r a
  rw [e] at h
  rcases (PyProof.Rows.mem_join "" c zs).mp h with h | ⟨_,h⟩
  · exact h
  · have e0:(("" : Str)).cps.toList=[]:=by decide +kernel
    rw [e0] at h
    cases h
inductive Tr where
  | is (x:Str) | yes | no | not (a:Tr) | bin (w:Str) (a b:Tr)
def Tr.size:Tr→Nat
  | .is _=>1 | .yes=>1 | .no=>1 | .not a=>a.size+1 | .bin _ a b=>a.size+b.size+1
def Tr.depth:Tr→Nat
  | .is _=>1 | .yes=>1 | .no=>1 | .not a=>a.depth+1 | .bin _ a b=>max a.depth b.depth+1
def Tr.names:Tr→List Str
  | .is x=>[x] | .yes=>[] | .no=>[] | .not a=>a.names | .bin _ a b=>a.names++b.names
def joinW:List Str:=["and", "or", "odd", "same"]
def Tr.ok (ns:List Str):Tr→Prop
  | .is x=>x ∈ ns | .yes=>True | .no=>True | .not a=>a.ok ns | .bin w a b=>w ∈ joinW∧a.ok ns∧b.ok ns
inductive TreeAt (H:Hp):V→Tr→Prop
  | is {a:Addr} {x:Str}:H a=some (.tup [.str "is", .str x])→TreeAt H (.ref a) (.is x)
  | yes {a:Addr}:H a=some (.tup [.str "yes"])→TreeAt H (.ref a) .yes
  | no {a:Addr}:H a=some (.tup [.str "no"])→TreeAt H (.ref a) .no
  | not {a:Addr} {v:V} {t:Tr}:H a=some (.tup [.str "not", v])→TreeAt H v t→TreeAt H (.ref a) (.not t)
  | bin {a:Addr} {w:Str} {v u:V} {t r:Tr}:H a=some (.tup [.str w,v,u])→TreeAt H v t→TreeAt H u r→TreeAt H (.ref a) (.bin w t r)
abbrev KeepT (H H':Hp):Prop:=∀ a xs,H a=some (.tup xs)→H' a=some (.tup xs)
theorem TreeAt.mono {H H':Hp} (k:KeepT H H') {v:V} {t:Tr} (h:TreeAt H v t):TreeAt H' v t:=by
  induction h with
  | is e=>exact .is (k _ _ e)
  | yes e=>exact .yes (k _ _ e)
  | no e=>exact .no (k _ _ e)
  | not e _ ih=>exact .not (k _ _ e) ih
  | bin e _ _ i1 i2=>exact .bin (k _ _ e) i1 i2
theorem keepT_same {H H':Hp} (s:Same H H'):KeepT H H':=fun a _ h=>s a _ h
theorem keepT_feed {H H':Hp} {f:Addr} (F:FeedAt H f) (s:SameBut f H H'):KeepT H H':=fun a xs h=>s a _ (fun z=>by
  obtain ⟨o,t,e,_⟩:=F
  rw [z,e] at h
  cases h) h
def NamesAt (H:Hp) (a:Addr) (ns:List Str):Prop:=H a=some (.lst (ns.map V.str))∨H a=some (.tup (ns.map V.str))
theorem NamesAt.ne {H:Hp} {f a:Addr} {ns:List Str} (F:FeedAt H f) (h:NamesAt H a ns):a ≠ f:=fun z=>by
  obtain ⟨o,t,e,_⟩:=F
  subst z
  rcases h with h | h
  · rw [e] at h
    have h':=HO.lst.inj (Option.some.inj h)
    cases ns with
    | nil=>cases h'
    | cons x r=>simp at h'
  · rw [e] at h
    cases h
theorem NamesAt.feed {H H':Hp} {f a:Addr} {ns:List Str} (F:FeedAt H f) (s:SameBut f H H') (h:NamesAt H a ns):NamesAt H' a ns:=by
  have ne:=h.ne F
  rcases h with h | h
  · exact .inl (s _ _ ne h)
  · exact .inr (s _ _ ne h)
theorem NamesAt.same {H H':Hp} {a:Addr} {ns:List Str} (s:Same H H') (h:NamesAt H a ns):NamesAt H' a ns:=by
  rcases h with h | h
  · exact .inl (s _ _ h)
  · exact .inr (s _ _ h)
theorem NamesAt.seq {K:PySem.W.Frag} {H:Hp} {a:Addr} {ns:List Str} (h:NamesAt H a ns):SqL K H a (ns.map V.str)∨SqT K H a (ns.map V.str):=by
  rcases h with h | h
  · exact .inl (SqL.of h)
  · exact .inr (SqT.of h)
theorem NamesAt.ix {K:PySem.W.Frag} {H:Hp} {a:Addr} {ns:List Str} {i:Int} {x:V} {Q:VK} (h:NamesAt H a ns) (hx:atI (ns.map V.str) i=some x) (q:Q x H):rIxL K (.ref a) (.int i) H Q∨rIxT K (.ref a) (.int i) H Q:=by
  rcases h with h | h
  · exact .inl ⟨a,_,i,x,rfl,rfl,SqL.of h,hx,q⟩
  · exact .inr ⟨a,_,i,x,rfl,rfl,SqT.of h,hx,q⟩
def spNames:Sp:=fun vs H Q _=>∃ (f:Addr) (m:Int),vs=[.ref f,.int m]∧FeedAt H f∧0≤m∧m≤6∧∀ (l:Addr) (ns:List Str) (H':Hp),H l=none→l ≠ f→H' l=some (.lst (ns.map V.str))→ns.length=m.toNat→(∀ x ∈ ns,NmOk x)→FeedAt H' f→SameBut f H H'→Q (.ref l) H'
def spTree (n:Nat):Sp:=fun vs H Q _=>∃ (f a:Addr) (room deep:Int) (ns:List Str),vs=[.ref f,.ref a,.int room,.int deep]∧FeedAt H f∧NamesAt H a ns∧ns.length≤6∧1≤room∧room≤100∧1≤deep∧deep+1≤(n:Int)+1 ∧
  ∀ (v:V) (t:Tr) (H':Hp),FeedAt H' f→SameBut f H H'→TreeAt H' v t→t.ok ns→(t.size:Int)≤room→(t.depth:Int)≤deep→Q v H'
theorem at_in {α:Type} {l:List α} {i:Int} (h0:0≤i) (h:i < (l.length:Int)):∃ v,atI l i=some v∧v ∈ l:=by
  have hk:i.toNat < l.length:=by omega
  have q:atI l ((i.toNat:Nat):Int)=some l[i.toNat]:=atI_nat (List.getElem?_eq_getElem hk)
  have ek:((i.toNat:Nat):Int)=i:=by omega
  rw [ek] at q
  exact ⟨_,q,List.getElem_mem hk⟩
end Mine
namespace L2
open PySem PySem.Spec PyProof.Rows
section
variable {X:Cx}
def rngV (lo:Int) (n:Nat):List Int:=(List.range n).map fun i:Nat=>lo+(i:Int)
def tListRng (ta:TA):TE:=fun σ H Q=>ta σ H fun vs H1=>∃ i j:Int,vs=[.int i,.int j]∧(-(2 ^ 62)≤i∧i < 2 ^ 62∧-(2 ^ 62)≤j∧j < 2 ^ 62)∧j - i≤1000∧∀ p,H1 p=none→Q (.ref p) (upd H1 p (.lst ((rngV i (j - i).toNat).map V.int)))
def rSum (K:PySem.W.Frag):List V→Hp→VK→Prop:=fun xs H Q=>∃ (a:Addr) (ns:List Int),xs=[.ref a]∧SqL K H a (ns.map V.int)∧(∀ n ∈ ns,0≤n)∧ns.sum < 2 ^ 63∧Q (.int ns.sum) H
theorem ints_get:∀ {bs:List Int} {us:List Value} {i:Nat} {v:Value},Vals (bs.map V.int) us→us[i]?=some v→∃ b t,bs[i]?=some b∧v=.int b t
  | [],_,_,_,.nil,h=>by simp at h
  | b::_,_,0,_,.cons r _,h=>by
    simp at h
    subst h
    obtain ⟨t,e⟩:=r
    exact ⟨b,t,rfl,e⟩
  | _::_,_,i+1,_,.cons _ t,h=>by
    obtain ⟨b,t,h1,h2⟩:=ints_get (i:=i) t (by simpa using h)
    exact ⟨b,t,by simpa using h1,h2⟩
theorem sum_take_le {ns:List Int} (h:∀ n ∈ ns,0≤n) (j:Nat):0≤(ns.take j).sum∧(ns.take j).sum≤ns.sum:=by
  induction ns generalizing j with
  | nil=>simp
  | cons a r ih =>
    cases j with
    | zero =>
      have:=ih (fun n hn=>h n (List.mem_cons_of_mem _ hn)) r.length
      rw [List.take_length] at this
      have a0:=h a List.mem_cons_self
      simp only [List.take_zero,List.sum_nil,List.sum_cons]
      omega
    | succ j =>
      have:=ih (fun n hn=>h n (List.mem_cons_of_mem _ hn)) j
      have a0:=h a List.mem_cons_self
      simp only [List.take_succ_cons,List.sum_cons]
      omega
theorem preSum_take (ns:List Int) (j:Nat):preSum (fun i=>ns[i]?.getD 0) j=(ns.take j).sum:=by
  induction j with
  | zero=>simp; rfl
  | succ j ih =>
    show preSum (fun i=>ns[i]?.getD 0) j+(fun i=>ns[i]?.getD 0) j=_
    rw [ih,List.take_add_one,List.sum_append]
    cases e:ns[j]? with
    | none=>simp [e]
    | some x=>simp [e]
theorem call_sum (hc:X.calm=true):CallR X (.builtin "sum") (rSum X.K):=by
  intro pins s σ H xs us Q I r h
  obtain ⟨a,ns,rfl,hq,n0,nb,q⟩:=h
  obtain ⟨u,rfl,ru⟩:=vals1 r
  cases ru
  obtain ⟨its,r',p,hz⟩:=I.list hq
  have hl:=r'.length
  rw [List.length_map] at hl
  have hlt:a < s.heap.objs.size:=by obtain ⟨o,n,e,_⟩:=p; exact Heap.lt_size e
  refine call_sum_walk (wpAny_pyIter_list p.isList ?_)
  refine ⟨s.heap.objs.size,_,_,_,_,_,fun i=>ns[i]?.getD 0,rfl,Walks.list (A:=X.A.in1) (I.ok.hd hc) s.heap.objs.size a (Nat.ne_of_lt hlt) its.toArray,⟨⟨_,Heap.get?_push_size _ rfl,rfl,rfl⟩,p.isList.push _⟩,?_,?_,?_,?_⟩
  · intro b hb
    have hpz:∀ o:Obj,(s.heap.push o).objs.size=s.heap.objs.size+1:=fun o=>by simp [Heap.push]
    show b < (s.heap.push _).objs.size
    rw [hpz]
    rcases List.mem_cons.mp hb with e | e
    · rw [e]; exact Nat.lt_succ_self _
    · rw [List.mem_singleton.mp e]; exact Nat.lt_succ_of_lt hlt
  · intro i v hP
    obtain ⟨b,t,hb,rfl⟩:=ints_get r' (i:=i) (v:=v) (by simpa using hP)
    exact ⟨t,by simp [hb]⟩
  · intro j hj
    have hj':j < ns.length:=by rw [hl]; simpa using hj
    have s1:=sum_take_le n0 (j+1)
    rw [preSum_take]
    refine ⟨?_,by unfold InLong; omega⟩
    have s2:=sum_take_le n0 j
    have e:(ns.take (j+1)).sum=(ns.take j).sum+ns[j]:=by rw [List.take_add_one,List.sum_append,List.getElem?_eq_getElem hj']; simp
    have n1:=n0 _ (List.getElem_mem hj')
    show InLong (ns[j]?.getD 0)
    rw [List.getElem?_eq_getElem hj']
    show InLong ns[j]
    unfold InLong
    omega
  · intro h' tk t' hk
    rw [preSum_take,List.size_toArray,← hl,List.take_length]
    refine ⟨.int _,H,?_,⟨_,rfl⟩,q⟩
    have I1:Inv X pins σ H { s with heap:=s.heap.push { cls:=.type "list_iterator", data:=.fields #[.ref a,.int 0 0] } }:=I.kept (t':=s.toks) fun b o e=>Heap.get?_push_of_some _ e
    refine I1.turnedL (t':=tk) (ch:=[s.heap.objs.size]) (fun b o hb e=>hk b o (by simpa using hb) e) fun b hb=>?_
    rw [List.mem_singleton.mp hb]
    exact I.fpOk (Nat.le_refl _) (I.hok.fresh (Nat.le_refl _))
end
end L2
namespace L2
open PySem PySem.Spec PyProof.Rows
def RevT (h:Heap) (it t:Addr) (i:Int):Prop:=h.get? it=some { cls:=.type "reversed", data:=.fields #[.ref t,rawInt i] }
section
variable {prog:Program} {w:World} {A:Around} {E:Value→Shared→Prop} {s:Shared} {R:Result→Shared→Prop} {it t:Addr}
end
section
variable {X:Cx}
def tListRevT (K:PySem.W.Frag) (te:TE):TE:=fun σ H Q=>te σ H fun x H1=>∃ l ys,x=.ref l∧SqT K H1 l ys∧∀ p,H1 p=none→Q (.ref p) (upd H1 p (.lst ys.reverse))
end
end L2
namespace Mine
open PySem L2
def Tr.wf:Tr→Prop
  | .is x=>NmOk x | .yes=>True | .no=>True | .not a=>a.wf | .bin w a b=>w ∈ joinW∧a.wf∧b.wf
def Tr.parts:Tr→List Tr
  | .is _=>[] | .yes=>[] | .no=>[] | .not a=>[a] | .bin _ a b=>[a,b]
theorem Tr.size_pos:∀ t:Tr,1≤t.size
  | .is _=>Nat.le_refl _ | .yes=>Nat.le_refl _ | .no=>Nat.le_refl _ | .not a=>Nat.le_add_left .. | .bin _ a b=>Nat.le_add_left ..
theorem Tr.depth_pos:∀ t:Tr,1≤t.depth
  | .is _=>Nat.le_refl _ | .yes=>Nat.le_refl _ | .no=>Nat.le_refl _ | .not a=>Nat.le_add_left .. | .bin _ a b=>Nat.le_add_left ..
def sizes (ts:List Tr):Nat:=(ts.map Tr.size).sum
def namesL (ts:List Tr):List Str:=(ts.map Tr.names).flatten
inductive TreesAt (H:Hp):List V→List Tr→Prop
  | nil:TreesAt H [] []
  | cons {v:V} {t:Tr} {vs:List V} {ts:List Tr}:TreeAt H v t→TreesAt H vs ts→TreesAt H (v::vs) (t::ts)
theorem TreesAt.mono {H H':Hp} (k:KeepT H H') {vs:List V} {ts:List Tr} (h:TreesAt H vs ts):TreesAt H' vs ts:=by
  induction h with
  | nil=>exact .nil
  | cons a _ ih=>exact .cons (a.mono k) ih
theorem TreesAt.length {H:Hp} {vs:List V} {ts:List Tr} (h:TreesAt H vs ts):vs.length=ts.length:=by
  induction h with
  | nil=>rfl
  | cons _ _ ih=>rw [List.length_cons,List.length_cons,ih]
theorem TreesAt.get {H:Hp} {vs:List V} {ts:List Tr} (h:TreesAt H vs ts):∀ {i:Nat} {v:V},vs[i]?=some v→∃ t,ts[i]?=some t∧TreeAt H v t:=by
  induction h with
  | nil=>intro i v e; simp at e
  | cons a _ ih =>
    intro i v e
    cases i with
    | zero=>cases (Option.some.inj e); exact ⟨_,rfl,a⟩
    | succ i=>exact ih (i:=i) (by simpa using e)
def Tr.data:Tr→PyData
  | .is x=>.tuple [.str "is", .str x] | .yes=>.tuple [.str "yes"] | .no=>.tuple [.str "no"] | .not a=>.tuple [.str "not", a.data] | .bin w a b=>.tuple [.str w,a.data,b.data]
theorem rep_tree {K:PySem.W.Frag} {H:Hp} {v:V} {t:Tr} (h:TreeAt H v t):Rep K H v t.data:=by
  induction h with
  | is e=>exact .tup (SqT.of e) (.cons (.str _) (.cons (.str _) .nil))
  | yes e=>exact .tup (SqT.of e) (.cons (.str _) .nil)
  | no e=>exact .tup (SqT.of e) (.cons (.str _) .nil)
  | not e _ ih=>exact .tup (SqT.of e) (.cons (.str _) (.cons ih .nil))
  | bin e _ _ i1 i2=>exact .tup (SqT.of e) (.cons (.str _) (.cons i1 (.cons i2 .nil)))
end Mine
namespace L2
open PySem PySem.Spec PyProof.Rows
section
variable {prog:Program} {w:World} {A:Around} {E:Value→Shared→Prop} {s:Shared}
def idxF (xs:Array Value) (x:Value):Nat→Option PySem.Fin × Unit→Sem (ForInStep (Option PySem.Fin × Unit)):=fun i _=>match xs[i]? with
  | some y=>do
    let b ← eqBool y x
    if b=true then do
        let r ← retInt (i:Int)
        pure (ForInStep.done (some r,()))
      else pure (ForInStep.yield (none,()))
  | _=>pure (ForInStep.yield (none,()))
end
section
variable {X:Cx}
def posOf (z:Str):List Str→Option Nat
  | []=>none
  | a::r=>if a=z then some 0 else (posOf z r).map (·+1)
def rIndexT (K:PySem.W.Frag):V→List V→Hp→VK→Prop:=fun x vs H Q=>∃ (a:Addr) (ns:List Str) (z:Str) (j:Nat),x=.ref a∧vs=[.str z]∧SqT K H a (ns.map V.str)∧posOf z ns=some j∧Q (.int (j:Int)) H
def rIndexL (K:PySem.W.Frag):V→List V→Hp→VK→Prop:=fun x vs H Q=>∃ (a:Addr) (ns:List Str) (z:Str) (j:Nat),x=.ref a∧vs=[.str z]∧SqL K H a (ns.map V.str)∧posOf z ns=some j∧Q (.int (j:Int)) H
end
end L2
namespace L2
open PySem PySem.Spec PyProof.Rows
section
variable {κ:Type} [DecidableEq κ]
def valV (kvs:List (κ × V)) (k:κ):Option V:=(kvs.find? fun kv=>decide (kv.1=k)).map (·.2)
def putK (kvs:List (κ × V)) (k:κ) (v:V):List (κ × V) :=
  if (kvs.any fun kv=>decide (kv.1=k))=true then kvs.map (fun kv=>if kv.1=k then (kv.1,v) else kv) else kvs++[(k,v)]
def dropK (kvs:List (κ × V)) (k:κ):List (κ × V):=kvs.filter fun kv=>decide (kv.1 ≠ k)
end
abbrev KT (H:Hp):List (List Key × V)→List (List Key × Addr × Value)→Prop:=Paired fun p q=>p.1=q.1∧H q.2.1=some (.tup (p.1.map kV))∧RelV p.2 q.2.2
section
variable {P:Program} {w:World} {H:Hp} {h:Heap} {a:Addr}
end
def DGet (H:Hp) (a:Addr) (y:V) (r:Option V):Prop :=
  (∃ kvs k,Rd H a (.dK kvs)∧y=kV k∧r=valV kvs k)∨∃ kvs k b,Rd H a (.dT kvs)∧y=.ref b∧H b=some (.tup (k.map kV))∧r=valV kvs k
def DPut (H:Hp) (a:Addr) (y v:V) (H':Hp):Prop :=
  (∃ kvs k,H a=some (.dK kvs)∧y=kV k∧kvs.length < sizeLine∧H'=upd H a (.dK (putK kvs k v))) ∨
  ∃ kvs k b,H a=some (.dT kvs)∧y=.ref b∧H b=some (.tup (k.map kV))∧kvs.length < sizeLine∧H'=upd H a (.dT (putK kvs k v))
section
variable {X:Cx} {pins:List (Addr × Obj)} {σ:St} {H:Hp} {s:Shared} {a:Addr} {y v:V} {u r:Value} {o:Option V} {A:Around} {E:Value→Shared→Prop}
end
section
variable {X:Cx} {pins:List (Addr × Obj)} {σ:St} {H:Hp} {s:Shared} {a:Addr} {kvs:List (Key × V)} {k:Key} {u:Value} {A:Around} {E:Value→Shared→Prop}
end
def NoSl (i:Expr):Prop:=∀ ov iv,subscripted i false ov iv=operate [ov,iv] (getItem ov iv)
def tDGet (td ty:TE):TE:=fun σ H Q=>td σ H fun x H1=>ty σ H1 fun y H2=>∃ a v,x=.ref a∧DGet H2 a y (some v)∧Q v H2
def tDIn (ty td:TE):TE:=fun σ H Q=>ty σ H fun y H1=>td σ H1 fun x H2=>∃ a o,x=.ref a∧DGet H2 a y o∧Q (.bl o.isSome) H2
def tDNotIn (ty td:TE):TE:=fun σ H Q=>ty σ H fun y H1=>td σ H1 fun x H2=>∃ a o,x=.ref a∧DGet H2 a y o∧Q (.bl (!o.isSome)) H2
def sDPut (td ty tv:TE):TS:=fun D σ H=>tv σ H fun v H1=>td σ H1 fun x H2=>ty σ H2 fun y H3=>∃ a H4,x=.ref a∧DPut H3 a y v H4∧D.nx σ H4
def sDAug (td ty tv:TE) (rd:V→V→Hp→VK→Prop):TS:=fun D σ H=>td σ H fun x H1=>ty σ H1 fun y H2=>∃ a v,x=.ref a∧DGet H2 a y (some v) ∧
  tv σ H2 fun y2 H3=>rd v y2 H3 fun z H4=>∃ H5,DPut H4 a y z H5∧D.nx σ H5
def sDDel (td ty:TE):TS:=fun D σ H=>td σ H fun x H1=>ty σ H1 fun y H2=>∃ a kvs k,x=.ref a∧H2 a=some (.dK kvs)∧y=kV k∧(valV kvs k).isSome=true∧D.nx σ (upd H2 a (.dK (dropK kvs k)))
section
variable {X:Cx} {o i e value:Expr} {pos pos' tpos:Pos} {td ty tv:TE}
end
def tDNewK:TE:=fun _ H Q=>∀ p,H p=none→Q (.ref p) (upd H p (.dK []))
def tDNewT:TE:=fun _ H Q=>∀ p,H p=none→Q (.ref p) (upd H p (.dT []))
section
variable {X:Cx} {pos:Pos}
end
def tPairs:List (TE × TE)→St→Hp→(List (V × V)→Hp→Prop)→Prop
  | [],_,H,Q=>Q [] H
  | (tk,tv)::r,σ,H,Q=>tk σ H fun x H1=>tv σ H1 fun y H2=>tPairs r σ H2 fun ps H3=>Q ((x,y)::ps) H3
abbrev VV:List (V × V)→List (Value × Value)→Prop:=Paired fun p q=>RelV p.1 q.1∧RelV p.2 q.2
def PPs (X:Cx) (pos:Pos) (keys:List (Option Expr)) (values:List Expr) (trs:List (TE × TE)):Prop :=
  ∀ (pins:List (Addr × Obj)) (s:Shared) (σ:St) (H:Hp) (Q:List (V × V)→Hp→Prop),Inv X pins σ H s→tPairs trs σ H Q →
    wpAny (model X.prog X.w) X.A (evalPairs (pairTrees keys values X.env pos)) (fun vs s'=>∃ ps H',Inv X pins σ H' s'∧VV ps vs∧Q ps H') X.xe s
def mergeK (kvs more:List (Key × V)):List (Key × V):=more.foldl (fun acc kv=>putK acc kv.1 kv.2) kvs
def tDisp (trs:List (TE × TE)):TE:=fun σ H Q=>∀ p,H p=none→tPairs trs σ (upd H p (.dK [])) fun ps H2=>H2 p=some (.dK [])∧∃ kvs:List (Key × V),ps=kvs.map (fun kv=>(kV kv.1,kv.2))∧kvs.length≤15∧Q (.ref p) (upd H2 p (.dK (mergeK [] kvs)))
structure M1 (X:Cx) (o:Expr) (m:Str) (apos:Pos) (e:Expr) (cpos:Pos):Prop where
  base:attributeBase o m X.env (eval o X.env)=eval o X.env
  few:((backTo cpos (starEach [e] X.env)).all (fun x=>!x.1) && (backToKw cpos (keywordEach [] X.env)).all (fun x=>x.1.isSome)
    && decide (([e]:List Expr).length+([]:List Keyword).length+(if ([]:List Keyword).isEmpty then 0 else 1) < 30))=true
  line:(apos.endLine == cpos.line)=true
  trees:backTo cpos (starEach [e] X.env)=[(false,eval e X.env)]
structure M2 (X:Cx) (o:Expr) (m:Str) (apos:Pos) (e f:Expr) (cpos:Pos):Prop where
  base:attributeBase o m X.env (eval o X.env)=eval o X.env
  few:((backTo cpos (starEach [e,f] X.env)).all (fun x=>!x.1) && (backToKw cpos (keywordEach [] X.env)).all (fun x=>x.1.isSome)
    && decide (([e,f]:List Expr).length+([]:List Keyword).length+(if ([]:List Keyword).isEmpty then 0 else 1) < 30))=true
  line:(apos.endLine == cpos.line)=true
  trees:backTo cpos (starEach [e,f] X.env)=[(false,eval e X.env),(false,eval f X.env)]
def IsD (H:Hp) (a:Addr):Prop:=(∃ kvs,Rd H a (.dK kvs))∨∃ kvs,Rd H a (.dT kvs)
section
variable {X:Cx} {pins:List (Addr × Obj)} {σ:St} {H:Hp} {s:Shared} {a:Addr} {y d:V} {u r:Value} {o:Option V} {A:Around} {E:Value→Shared→Prop}
end
def tDGet1 (td ty:TE):TE:=fun σ H Q=>td σ H fun x H1=>∃ a,x=.ref a∧IsD H1 a∧ty σ H1 fun y H2=>∃ o,DGet H2 a y o∧Q (o.getD .non) H2
def tDGet2 (td ty tx:TE):TE:=fun σ H Q=>td σ H fun x H1=>∃ a,x=.ref a∧IsD H1 a∧ty σ H1 fun y H2=>tx σ H2 fun z H3=>∃ o,DGet H3 a y o∧Q (o.getD z) H3
def tDPop1 (td ty:TE):TE:=fun σ H Q=>td σ H fun x H1=>∃ a,x=.ref a∧IsD H1 a∧ty σ H1 fun y H2=>∃ kvs k v,H2 a=some (.dK kvs)∧y=kV k∧valV kvs k=some v∧Q v (upd H2 a (.dK (dropK kvs k)))
def tDPop2 (td ty tx:TE):TE:=fun σ H Q=>td σ H fun x H1=>∃ a,x=.ref a∧IsD H1 a∧ty σ H1 fun y H2=>tx σ H2 fun z H3=>∃ kvs k,H3 a=some (.dK kvs)∧y=kV k ∧
  (∀ v,valV kvs k=some v→Q v (upd H3 a (.dK (dropK kvs k))))∧(valV kvs k=none→Q z H3)
section
variable {X:Cx} {o e f:Expr} {apos cpos:Pos} {td ty tx:TE}
end
section
variable {X:Cx} {pins:List (Addr × Obj)} {σ:St} {H:Hp} {s:Shared} {a:Addr} {kvs:List (Key × V)} {A:Around} {E:Value→Shared→Prop}
end
section
variable {X:Cx} {pins:List (Addr × Obj)} {σ:St} {H:Hp} {s:Shared} {a:Addr} {y:V} {u:Value} {A:Around} {E:Value→Shared→Prop}
end
end L2
namespace L2
open PySem PySem.Spec PyProof.Rows
section
variable {X:Cx}
def tIndex (K:PySem.W.Frag) (to:TE) (t:TA):TE:=fun σ H Q=>to σ H fun x H1=>∃ (a:Addr) (ns:List Str),x=.ref a∧(H1 a=some (.lst (ns.map V.str))∨H1 a=some (.tup (ns.map V.str)))∧t σ H1 fun vs H2=>(H2 a=H1 a)∧∃ (z:Str) (j:Nat),vs=[.str z]∧posOf z ns=some j∧Q (.int (j:Int)) H2
variable {o e:Expr} {es:List Expr} {to:TE} {t:TA} {apos cpos:Pos}
end
end L2
namespace L2
open PySem PySem.Spec PyProof.Rows
end L2
namespace L2
open PySem PySem.Spec PyProof.Rows
section
variable {X:Cx}
def rCountL (K:PySem.W.Frag):V→List V→Hp→VK→Prop:=fun x vs H Q=>∃ (a:Addr) (xs:List V) (z:V),x=.ref a∧vs=[z]∧SqL K H a xs∧xs.all flatV=true∧flatV z=true∧Q (.int ((xs.countP fun y=>eqV y z:Nat):Int)) H
end
section
variable {prog:Program} {w:World} {A:Around} {E:Value→Shared→Prop} {s:Shared}
end
section
variable {X:Cx} {e k:Expr} {te tk:TE} {pos p2:Pos}
def tRev (K:PySem.W.Frag) (te tk:TE):TE:=fun σ H Q=>te σ H fun x H1=>tk σ H1 fun y H2=>y=.int (-1)∧∃ a xs,x=.ref a ∧
  ((SqL K H2 a xs∧∀ p,H2 p=none→Q (.ref p) (upd H2 p (.lst xs.reverse)))∨(SqT K H2 a xs∧∀ p,H2 p=none→Q (.ref p) (upd H2 p (.tup xs.reverse))))
end
def bestI (g:Nat→Int):Nat→Int
  | 0=>g 0
  | k+1=>if bestI g k < g (k+1) then g (k+1) else bestI g k
def maxD (ns:List Int) (d:Int):Int:=match ns with | []=>d | _::_=>bestI (fun i=>ns[i]?.getD 0) (ns.length - 1)
section
variable {prog:Program} {w:World} {A:Around} {R:Result→Shared→Prop} {I S:Addr} {fp wr:List Addr} {n:Nat} {P:Nat→Value→Prop} {St:Nat→Heap→Prop} {g:Nat→Int} {kw:List (Str × Value)}
end
section
variable {X:Cx} {e k:Expr} {te tk:TE} {pos p1 kp:Pos}
def tMaxD (K:PySem.W.Frag) (te tk:TE):TE:=fun σ H Q=>te σ H fun x H1=>tk σ H1 fun y H2=>∃ a ns d,x=.ref a∧y=.int d∧SqT K H2 a (ns.map V.int)∧Q (.int (maxD ns d)) H2
def rMax1 (K:PySem.W.Frag):List V→Hp→VK→Prop:=fun xs H Q=>∃ a ns,xs=[.ref a]∧SqL K H a (ns.map V.int)∧ns ≠ []∧Q (.int (maxD ns 0)) H
end
end L2
namespace L2
open PySem PySem.Spec PyProof.Rows
section
variable {prog:Program} {w:World} {A:Around} {E:Value→Shared→Prop} {s:Shared}
end
open AutoSeq1 (wpAny_loadPart') in
section
variable {prog:Program} {w:World} {A:Around} {E:Value→Shared→Prop} {s:Shared}
end
def IteT (K:PySem.W.Frag) (a:Addr):It :=
  ⟨fun i H=>∃ xs x,SqT K H a xs∧xs[i]?=some x,fun i H y H'=>∃ t,y=.ref t∧H t=none∧∀ xs x,SqT K H a xs→xs[i]?=some x→H'=upd H t (.tup [.int i,x]),fun i H=>∃ xs,SqT K H a xs∧xs.length≤i⟩
section
variable {X:Cx} {elts:List Expr} {k:Nat} {tpos:Pos}
def iEnumT (K:PySem.W.Frag) (tl:TE):TI:=fun σ H R=>tl σ H fun x H1=>∃ a,x=.ref a∧(∃ xs,SqT K H1 a xs)∧R (IteT K a) H1
end
end L2
namespace L2
open PySem PySem.Spec PyProof.Rows
def ItV (K:PySem.W.Frag) (a:Addr) (xs:List V):It:=⟨fun i H=>SqL K H a xs∧i < xs.length,fun i H y H'=>H'=H∧xs.reverse[i]?=some y,fun i _=>xs.length≤i⟩
section
variable {X:Cx} {tg:Expr}
def iRevL (K:PySem.W.Frag) (tl:TE):TI:=fun σ H R=>tl σ H fun x H1=>∃ a xs,x=.ref a∧SqL K H1 a xs∧R (ItV K a xs) H1
end
end L2
namespace L2
open PySem PySem.Spec PyProof.Rows
section
variable {X:Cx} {o e:Expr} {es:List Expr} {to ta:TE} {t:TA} {T id:String} {name f:Str} {r:V→List V→Hp→VK→Prop} {apos cpos pos:Pos}
end
end L2
namespace L2
open PySem PySem.Spec PyProof.Rows
@[reducible] def cxCompO (X:Cx) (x:Str) (N:List Str) (scope:Scope) (cl:List (Str × Addr)) (s:Shared) (H:Hp) (fp:List Addr):Cx where
  prog:=X.prog
  w:=X.w
  K:=X.K
  mg:=X.mg
  base:=X.base
  A:=X.A
  N:=x::N
  s₀:=s
  H₀:=H
  env:=compEnvC scope ((x,s.heap.objs.size+1)::cl) s.heap.objs.size X.env
  outer:=X.stack
  stack:=X.stack
  ex:=fp
  fn:=fun y=>y == x
  calm:=X.calm
  pn:=[]
  xe:=fun _ _=>False
structure CompScopeO (X:Cx) (x:Str) (N:List Str) (ix:List Nat) (scope:Scope) (cl:List (Str × Addr)):Prop where
  clos:closureFor scope X.env=pure cl
  lay:∀ (n:Addr) (h:Heap),cellsFrom n scope.names cl=(x,n)::cl∧pushCells h scope.names=h.push { cls:=.type "cell", data:=.cell none }
  kind:scope.kind=.function
  names:∀ y ∈ scope.names,y.2=.local→scope.names.lookup y.1=some .local
  own:(relabel scope X.env).names.lookup x=some .cell
  nd:(x::N).Nodup
  sub:∀ p ∈ cl,X.env.cells.lookup p.1=some p.2
  has:((relabel scope X.env).names.all fun p=>!(p.2 == .cell || p.2 == .free) || (p.1 == x || (cl.lookup p.1).isSome))=true
  outs:∀ (j:Nat) (y:Str),N[j]?=some y→(relabel scope X.env).names.lookup y=some .cell∧∃ k c,ix[j]?=some k∧X.N[k]?=some y∧cl.lookup y=some c∧X.env.scope.names.lookup y=some .cell
section
variable {X:Cx} {pins:List (Addr × Obj)} {σ:St} {x:Str} {N:List Str} {ix:List Nat} {scope:Scope} {cl:List (Str × Addr)} {fp:List Addr} {H3:Hp} {s3:Shared}
end
section
variable {M:Model} {A:Around} {E:Value→Shared→Prop} {s:Shared}
end
section
variable {X:Cx} {x:Str} {N:List Str} {ix:List Nat} {scope:Scope} {cl:List (Str × Addr)} {elt iter:Expr} {ifs:List Expr} {px pos:Pos} {wi:TI} {tb:TBl}
end
end L2
namespace L2
open PySem PySem.Spec PyProof.Rows
end L2
namespace L2
open PySem PySem.Spec PyProof.Rows
def ItrS (lo c:Int) (n:Nat):It:=⟨fun i _=>i < n,fun i H x H'=>H'=H∧x=.int (lo+i*c),fun i _=>n≤i⟩
section
variable {X:Cx} {tg:Expr}
def iRng3 (ta:TA):TI:=fun σ H R=>ta σ H fun vs H1=>∃ i j c:Int,vs=[.int i,.int j,.int c]∧0 < c∧c < 1000000∧Builtin.Range.small i j c=true∧R (ItrS i c (Builtin.Range.rangeSize i j c).toNat) H1
end
end L2
namespace L2
open PySem PySem.Spec PyProof.Rows
section
variable {X:Cx}
def tListRng1 (ta:TA):TE:=fun σ H Q=>ta σ H fun vs H1=>∃ j:Int,vs=[.int j]∧0≤j∧j≤1000∧∀ p,H1 p=none→Q (.ref p) (upd H1 p (.lst ((rngV 0 j.toNat).map V.int)))
def rSorted (K:PySem.W.Frag):List V→Hp→VK→Prop:=fun xs H Q=>∃ a ns,xs=[.ref a]∧SqL K H a (ns.map V.int)∧ns.length < 64∧∀ p ms,H p=none→List.Perm ms ns→ms.Pairwise (·≤·)→Q (.ref p) (upd H p (.lst (ms.map V.int)))
end
end L2
namespace L2
open PySem PySem.Spec PyProof.Rows PySem.Builtin PySem.Builtin.Str
section
variable {prog:Program} {w:World} {A:Around} {E:Value→Shared→Prop} {s:Shared} {Q:Value→Shared→Prop} {x:PySem.Str} {t:Tok}
end
section
variable {X:Cx}
def rSplit:V→List V→Hp→VK→Prop:=fun x vs H Q=>∃ z u,x=.str z∧vs=[.str u]∧0 < u.length∧z.length≤100000∧(Txt.split z u).length≤100000∧∀ p,H p=none→Q (.ref p) (upd H p (.lst ((Txt.split z u).map V.str)))
end
end L2
namespace L2
open PySem PySem.Spec PyProof.Rows
section
variable {X:Cx} {e:Expr} {te:TE} {p pos pos1:Pos}
def tIsiT (te:TE):TE:=fun σ H Q=>te σ H fun x H1=>∃ a xs,x=.ref a∧(H1 a=some (.lst xs)∨H1 a=some (.tup xs))∧Q (.bl true) H1
end
end L2
namespace HT
open PySem PyProof.Rows
section
variable {prog:Program} {w:World} {A:Around} {E:Value→Shared→Prop} {s:Shared}
theorem getItem_tuple_whole {t sl:Addr} {items:Array Value} {vl vu:Value} {lo hi:Option Int} {Q:Value→Shared→Prop} (ht:IsTup s.heap t items) (hs:s.heap.IsSliceOf sl vl vu .none) (pl:IsPart vl lo) (pu:IsPart vu hi)
    (hw:sIx items.size 0 lo=0∧sIx items.size items.size hi=items.size) (h:Q (.ref t) s):wpAny (model prog w) A (getItem (.ref t) (.ref sl)) Q E s:=by
  obtain ⟨os,hos,hcs,hds⟩:=id hs
  have hTs:s.TypeIs (.ref sl) "slice" := ⟨os,hos,hcs⟩
  unfold getItem
  try with_reducible refine wpAny_holding ?_
  first | refine wpAny_bind (wpAny_pure ?_) | skip
  refine wpAny_bind (wpAny_sequenceKey ht.typeIs (by decide) ?_)
  refine wpAny_bind (wpAny_callSpecial?_slot (name:=Str.ofString "__getitem__") ht.typeIs PyProof.Rows.slot_tuple_getitem
    (wpAny_call_entry PyProof.Rows.slot_tuple_getitem ht.typeIs entry_tuple_getitem ?_ (args_tuple_getitem _ _)))
  show wpAny _ _ (Builtin.Tuple.tupleItemsOf (.ref t) >>= _) _ _ s
  refine wpAny_bind (tupleItemsOf_ ht ?_)
  refine wpAny_bind (wpAny_typeOf hTs ?_)
  rw [if_pos (by decide)]
  refine wpAny_bind (sliceApplied_gen hs pl pu ?_)
  have hyes:(((sIx items.size 0 lo:Nat):Int) == 0 && (1:Int) == 1 && (sIx items.size items.size hi - sIx items.size 0 lo) == items.size)=true:=by
    rw [hw.1,hw.2,Nat.sub_zero]
    simp
  show wpAny _ _ (if (((sIx items.size 0 lo:Nat):Int) == 0 && (1:Int) == 1 && (sIx items.size items.size hi - sIx items.size 0 lo) == items.size)=true then _ else _) _ _ s
  rw [if_pos hyes]
  refine wpAny_bind ?_
  unfold Builtin.Tuple.tupleIsExact
  refine wpAny_bind (wpAny_typeOf ht.typeIs (wpAny_pure ?_))
  rw [if_pos (by decide)]
  first
    | exact wpAny_bind (wpAny_rule (wpAny_pure ⟨_,rfl,wpAny_pure h⟩))
    | (refine wpAny_pure ?_; exact ⟨_,rfl,wpAny_pure h⟩)
    | (refine wpAny_bind (wpAny_pure ?_); refine wpAny_pure ?_; exact ⟨_,rfl,wpAny_pure h⟩)
    | (refine wpAny_bind (wpAny_pure ?_); refine wpAny_bind (wpAny_pure ?_); refine wpAny_pure ?_; exact ⟨_,rfl,wpAny_pure h⟩)
    | (refine wpAny_bind (wpAny_bind (wpAny_pure ?_)); refine wpAny_pure ?_; exact ⟨_,rfl,wpAny_pure h⟩)
end
end HT
namespace L2
open PySem PySem.Spec PyProof.Rows
section
variable {X:Cx}
def rSlTW (K:PySem.W.Frag):V→Option Int→Option Int→Hp→VK→Prop:=fun x lo hi H Q=>∃ a xs,x=.ref a∧SqT K H a xs ∧
  (HT.sIx xs.length 0 lo=0∧HT.sIx xs.length xs.length hi=xs.length)∧Q (.ref a) H
theorem sl_tupW:SlR X (rSlTW X.K):=by
  intro pins s σ H x v vl vu lo hi sl Q I rx hs pl pu h
  obtain ⟨a,xs,rfl,hx,hw,q⟩:=h
  cases rx
  obtain ⟨its,r,ht,hz⟩:=I.tuple hx
  have hlen:its.toArray.size=xs.length:=by rw [List.size_toArray]; exact r.length.symm
  refine ⟨"tuple", _,PyProof.Rows.slot_tuple_getitem.lookup,ht.typeIs,?_⟩
  exact HT.getItem_tuple_whole ht hs pl pu (by rw [hlen]; exact hw) ⟨.ref a,H,I,rfl,q⟩
theorem cutV_whole {xs:List V} {lo hi:Option Int} (hw:HT.sIx xs.length 0 lo=0∧HT.sIx xs.length xs.length hi=xs.length):cutV xs lo hi=xs:=by
  unfold cutV
  rw [hw.1,hw.2,List.drop_zero,Nat.sub_zero,List.take_length]
def rSlTA (K:PySem.W.Frag):V→Option Int→Option Int→Hp→VK→Prop:=fun x lo hi H Q=>∃ a xs,x=.ref a∧SqT K H a xs∧H a=some (.tup xs)∧∀ p H',Same H H'→H' p=some (.tup (cutV xs lo hi))→Q (.ref p) H'
theorem sl_tupA:SlR X (rSlTA X.K):=by
  intro pins s σ H x v vl vu lo hi sl Q I rx hs pl pu h
  obtain ⟨a,xs,rfl,hx,ha,q⟩:=h
  by_cases hw:HT.sIx xs.length 0 lo=0∧HT.sIx xs.length xs.length hi=xs.length
  · exact sl_tupW pins s σ H _ v vl vu lo hi sl Q I rx hs pl pu ⟨a,xs,rfl,hx,hw,q a H (Same.refl _) (by rw [cutV_whole hw]; exact ha)⟩
  · exact sl_tup pins s σ H _ v vl vu lo hi sl Q I rx hs pl pu ⟨a,xs,rfl,hx,hw,fun p hp=>q p _ (Same.new hp _) upd_same⟩
end
end L2
namespace L2
open PySem PySem.Spec PyProof.Rows
def SqIt (h:Heap) (i l:Addr) (k:Nat) (xs:Array Value):Prop:=(h.IsListIter i l k∧h.IsList l xs)∨(h.IsTupleIter i l k∧h.IsTuple l xs)
section
variable {prog:Program} {w:World} {A:Around} {E:Value→Shared→Prop} {s:Shared}
end
def itO (b:Bool) (l:Addr):Obj:={ cls:=.type (if b=true then "list_iterator" else "tuple_iterator"),data:=.fields #[.ref l,.int 0 0] }
def SqO (b:Bool) (h:Heap) (l:Addr) (xs:Array Value):Prop:=if b=true then h.IsList l xs else h.IsTuple l xs
abbrev zqH (h:Heap) (b1 b2:Bool) (l1 l2:Addr):Heap:=((((h.push (itO b1 l1)).push (itO b2 l2)).push { cls:=.type "tuple", data:=.seq #[.ref h.objs.size,.ref (h.push (itO b1 l1)).objs.size] }).push { cls:=.type "tuple", data:=.seq #[.none,.none] }).push
  { cls:=.type "zip", data:=.fields #[.none,.bool false,.bool false,.ref ((h.push (itO b1 l1)).push (itO b2 l2)).objs.size,.ref (((h.push (itO b1 l1)).push (itO b2 l2)).push { cls:=.type "tuple", data:=.seq #[.ref h.objs.size,.ref (h.push (itO b1 l1)).objs.size] }).objs.size] }
abbrev zqA (h:Heap) (b1 b2:Bool) (l1 l2:Addr):Addr:=((((h.push (itO b1 l1)).push (itO b2 l2)).push { cls:=.type "tuple", data:=.seq #[.ref h.objs.size,.ref (h.push (itO b1 l1)).objs.size] }).push { cls:=.type "tuple", data:=.seq #[.none,.none] }).objs.size
end L2
namespace L2
open PySem PySem.Spec PyProof.Rows
section
variable {prog:Program} {w:World} {A:Around} {E:Value→Shared→Prop} {s:Shared}
end
def SqB (K:PySem.W.Frag) (b:Bool) (H:Hp) (a:Addr) (xs:List V):Prop:=if b=true then SqL K H a xs else SqT K H a xs
def Itz (K:PySem.W.Frag) (c d:Bool) (a b:Addr):It :=
  ⟨fun i H=>∃ xs ys x y,SqB K c H a xs∧SqB K d H b ys∧xs[i]?=some x∧ys[i]?=some y,fun i H v H'=>∃ t,v=.ref t∧H t=none∧∀ xs ys x y,SqB K c H a xs→SqB K d H b ys→xs[i]?=some x→ys[i]?=some y→H'=upd H t (.tup [x,y]),
    fun i H=>∃ xs ys,SqB K c H a xs∧SqB K d H b ys∧(xs.length≤i∨ys.length≤i)⟩
end L2
namespace L2
open PySem PySem.Spec PyProof.Rows
section
variable {X:Cx} {elts:List Expr} {k:Nat} {tpos:Pos}
def iZip (K:PySem.W.Frag) (tl:TA):TI:=fun σ H R=>tl σ H fun vs H1=>∃ a b c d,vs=[.ref a,.ref b]∧(∃ xs,SqB K c H1 a xs)∧(∃ ys,SqB K d H1 b ys)∧R (Itz K c d a b) H1
end
end L2
namespace L2
open PySem PySem.Spec PyProof.Rows
section
variable {X:Cx} {pins:List (Addr × Obj)} {σ:St} {x y2:Str} {N:List Str} {ix:List Nat} {scope:Scope} {cl:List (Str × Addr)} {fp:List Addr} {H3:Hp} {s3:Shared}
end
section
variable {X:Cx} {x y2:Str} {N:List Str} {ix:List Nat} {scope:Scope} {cl:List (Str × Addr)} {elt iter:Expr} {ifs:List Expr} {px py pt pos:Pos} {kt:Nat} {wi:TI} {tb:TBl}
def CompEx2 (K:PySem.W.Frag) (J:It) (D:Addr) (ix:List Nat) (tb:TBl) (σ:St) (H:Hp) (Q:VK):Prop:=∃ W:Nat→Nat→Hp→Prop,(∃ m,W 0 m (upd H D (.lst [])))∧∀ i m H2,W i m H2 →
  (J.stop i H2∧Q (.ref D) H2)∨(J.go i H2∧∀ y H3,J.yld i H2 y H3→∃ t v1 v2,y=.ref t∧SqT K H3 t [v1,v2]∧tb (some v1::some v2::outs ix σ) H3 (fun H4=>∃ m',m' < m∧W (i+1) m' H4)
    fun z H4=>∃ ys,H4 D=some (.lst ys)∧ys.length < sizeLine∧∃ m',m' < m∧W (i+1) m' (upd H4 D (.lst (ys++[z]))))
def tCompR2 (K:PySem.W.Frag) (wi:TI) (ix:List Nat) (tb:TBl):TE:=fun σ H Q=>wi σ H fun J H1=>∀ D,H1 D=none→CompEx2 K J D ix tb σ H1 Q
end
end L2
namespace L2
open PySem PyProof.Rows HT
section
variable {X:Cx}
def rAny (K:PySem.W.Frag):List V→Hp→VK→Prop:=fun xs H Q=>∃ (a:Addr) (bs:List Bool),xs=[.ref a]∧SqL K H a (bs.map V.bl)∧Q (.bl (bs.any id)) H
end
end L2
namespace L2
open PySem PySem.Spec PyProof.Rows
section
variable {X:Cx}
def startsAt (z u:Str) (i:Int):Bool:=decide (PySem.fromIndex z.length i+u.length≤z.length) && Builtin.Str.subAt z u (PySem.fromIndex z.length i)
def rStartsAt:V→List V→Hp→VK→Prop:=fun x vs H Q=>∃ z u i,x=.str z∧vs=[.str u,.int i]∧Q (.bl (startsAt z u i)) H
theorem mt_startsAt:MtR X "str.startswith" rStartsAt:=by
  intro pins s σ H x vs v us Q I rx rv h
  obtain ⟨z,u,i,rfl,rfl,q⟩:=h
  obtain ⟨t,rfl⟩:=rx
  cases rv with
  | cons r1 rv1 =>
    cases rv1 with
    | cons r2 rv2 =>
      cases rv2
      obtain ⟨t1,rfl⟩:=r1
      obtain ⟨t2,rfl⟩:=r2
      exact call_gives F.slot_str_startswith (typeIs_str _ _ _) F.entry_str_startswith (F.args_str_startswith_3 _ _ _) (gives_str_startswith_from z u i t t1 t2) ⟨.bl _,H,I,rfl,q⟩
abbrev TJ:=St→Hp→Str→VK→Prop
def PJ (X:Cx) (es:List Expr) (t:TJ):Prop :=
  ∀ (pins:List (Addr × Obj)) (s:Shared) (σ:St) (H:Hp) (out:Str) (Q:VK),Inv X pins σ H s→t σ H out Q→wpAny (model X.prog X.w) X.A (joinParts out (evalEach es X.env)) (EP X pins σ Q) X.xe s
theorem pj_nil:PJ X [] (fun _ H out Q=>out.length≤sizeLine∧Q (.str out) H):=by
  intro pins s σ H out Q I h
  exact joinParts_nil ⟨.str out,H,I.tok _,⟨_,rfl⟩,h.2⟩ h.1
theorem pj_cons {e:Expr} {es:List Expr} {te:TE} {t:TJ} (he:PE X e te) (ht:PJ X es t):PJ X (e::es) (fun σ H out Q=>te σ H fun v H1=>∃ y,v=.str y∧(out++y).length≤sizeLine∧t σ H1 (out++y) Q):=by
  intro pins s σ H out Q I h
  show wpAny _ _ (joinParts out (eval e X.env::evalEach es X.env)) _ _ s
  refine joinParts_cons (thn (he pins s σ H _ I h) fun v s1 ⟨x,H1,I1,r1,y,ex,hz,q⟩=>?_)
  subst ex
  obtain ⟨t',rfl⟩:=r1
  exact ⟨hz,ht pins s1 σ H1 _ Q I1 q⟩
theorem pe_fstr {e1 e2:Expr} {es:List Expr} {t:TJ} {pos:Pos} (h:PJ X (e1::e2::es) t):PE X (.JoinedStr (e1::e2::es) pos) (fun σ H Q=>t σ H Str.empty Q) :=
  fun pins s σ H Q I k=>JoinedStr_many (h pins s σ H Str.empty Q I k)
end
end L2
namespace L2
open PySem PySem.Spec PyProof.Rows
section
variable {X:Cx}
end
end L2
namespace L2
open PySem PySem.Spec PyProof.Rows
abbrev IsZipB (h:Heap) (z TI TO:Addr) (f0:Value) (b:Bool):Prop :=
  h.get? z=some { cls:=.type "zip", dict:=none,data:=.fields #[f0,.bool b,.bool false,.ref TI,.ref TO],slots:=#[] }
section
variable {prog:Program} {w:World} {A:Around} {E:Value→Shared→Prop} {s:Shared}
end
end L2
namespace L2
open PySem PySem.Spec PyProof.Rows
def ItK (c:Bool) (h:Heap) (i1 a:Addr) (k:Nat):Prop:=∃ o,h.get? i1=some o∧o.cls=.type (if c=true then "list_iterator" else "tuple_iterator")∧o.data=.fields #[.ref a,.int k 0]
def ZSt (c d:Bool) (a b z TI TO i1 i2:Addr) (cs:List Addr) (i:Nat) (h:Heap):Prop :=
  ((i=0∧IsZip h z TI TO .none)∨∃ (t:Addr) (f:Bool),cs[0]?=some t∧IsZipB h z TI TO (rawInt t) f)∧IsPair h TI (.ref i1) (.ref i2)∧(∃ p q,IsPair h TO p q)∧ItK c h i1 a i∧ItK d h i2 b i
def PairsAt (H:Hp) (cs:List Addr) (xs ys:List V):Prop:=∀ (j:Nat) (t:Addr) (x y:V),cs[j]?=some t→xs[j]?=some x→ys[j]?=some y→H t=some (.tup [x,y])
section
variable {X:Cx} {pins:List (Addr × Obj)} {σ:St}
end
end L2
namespace L2
open PySem PySem.Spec PyProof.Rows
section
variable {X:Cx} {pins:List (Addr × Obj)} {σ:St}
def tListZip (K:PySem.W.Frag) (t:TA):TE:=fun σ H Q=>t σ H fun vs H1=>∃ a b c d xs ys,vs=[.ref a,.ref b]∧SqB K c H1 a xs∧SqB K d H1 b ys∧xs.length=ys.length∧xs.length≤sizeLine ∧
  ∀ S cs H2,H1 S=none→H2 S=some (.lst (cs.map V.ref))→cs.length=xs.length→PairsAt H2 cs xs ys→(∀ t ∈ cs,H1 t=none∧t ≠ S)→Same H1 H2→Q (.ref S) H2
def rNeNil (K:PySem.W.Frag):R2:=fun x y H Q=>∃ a b xs,x=.ref a∧y=.ref b∧SqL K H a xs∧SqL K H b []∧Q (.bl (!xs.isEmpty)) H
end
end L2
namespace L2
open PySem PySem.Spec PyProof.Rows
section
variable {X:Cx}
end
end L2
namespace L2
open PySem
section
variable {M:Model} {A:Around} {E:Value→Shared→Prop} {h:Heap} {g:Array GenState} {d:Drawn} {t:Nat} {os:OsState}
variable {nm q:Str} {C N:Addr} {bs bm:List Value} {hdct:Bool} {sn:List Str} {sub:List Value} {ab:Bool} {col:Option Bool} {dd:Option Addr} {k0 k1 k2 k3 k5:Option Value} {Bn newId inN:String} {bmN:List Value}
theorem check_newX (Fn:ExcBaseFacts Bn newId inN bmN) (hcont:(Value.ref C::bm).contains (.type Bn)=true) {rest:List Value} {Q:Unit→Shared→Prop} (hC:h.get? C=some (excClassObj nm q C N bs bm hdct sn sub ab col dd k0 k1 k2 k3 k5 newId))
    (hq:Q () ⟨h,g,d,t,os⟩):wpAny M A (checkBuiltinCall newId ⟨.ref C::rest,[]⟩) Q E ⟨h,g,d,t,os⟩:=by
  have hstar:=Fn.noStar
  simp only [checkBuiltinCall,Fn.newKind,Fn.newSplit,Fn.newRow]
  repeat (first | refine wpAny_loadPart_at hC ?_ | (refine wpAny_isSubtype_exc hC ?_; rw [hcont]) | refine wpAny_staticBase_exc hC ?_ | refine wpAny_madeBy_exc hC ?_ | simp only [bne_self_eq_false,Bool.false_eq_true,if_false] | wp_step)
  exact hq
end
section
variable {prog:Program} {w:World} {A:Around} {R:Result→Shared→Prop} {h:Heap} {g:Array GenState} {d:Drawn} {t:Nat} {os:OsState}
variable {nm q:Str} {C N:Addr} {bs bm:List Value} {hdct:Bool} {sn:List Str} {sub:List Value} {ab:Bool} {col:Option Bool} {dd:Option Addr} {k0 k1 k2 k3 k5:Option Value} {Bn newId inN:String} {bmN:List Value}
theorem exc_newX (Fn:ExcBaseFacts Bn newId inN bmN) (hcB:(Value.ref C::bm).contains (.type Bn)=true) (hcA:(Value.ref C::bm).contains (.type "AttributeError")=false) (hcN:(Value.ref C::bm).contains (.type "NameError")=false) {rest:List Value} (hC:h.get? C=some (excClassObj nm q C N bs bm hdct sn sub ab col dd k0 k1 k2 k3 k5 newId))
    (hq:R (.ok (.ret (.ref (h.objs.size+1)))) ⟨(h.push { cls:=.type "tuple", data:=.seq rest.toArray }).push
      { cls:=.ref C,data:=.fields #[.ref h.objs.size,.none,.none,.none,.bool false,.none] },g,d,t,os⟩) (hrest:rest.length≤sizeLine:=by size_fits) :
    codeAny (model prog w) A (.builtin newId ⟨.ref C::rest,[]⟩) R ⟨h,g,d,t,os⟩:=by
  have hends:=Fn.ends
  refine codeAny_builtinAt Fn.entry ?_
  unfold Builtin.«BaseException.__new__»
  refine wpAt_bind ?_
  show wpAt _ _ _ (stack >>= _) _ _ _
  refine wpAt_bind (wpAt_stack fun p below=>wpAt_of_wpAny ?_)
  wp_walk
  refine wpAt_of_wpAny ?_
  rw [Fn.owner]
  repeat (first | with_reducible refine wpAny_madeHere_exc Fn.canon hC ?_ | with_reducible refine wpAny_loadPart_at hC ?_ | (with_reducible refine wpAny_isSubtype_exc hC ?_; first | rw [hcB] | rw [hcA] | rw [hcN]) | wp_step)
  show R _ _
  rw [Heap.size_push]
  exact hq
end
section
variable {prog:Program} {w:World} {A:Around} {E:Value→Shared→Prop} {h:Heap} {g:Array GenState} {d:Drawn} {t:Nat} {os:OsState}
variable {nm q:Str} {C N:Addr} {bs bm:List Value} {hdct:Bool} {sn:List Str} {sub:List Value} {ab:Bool} {col:Option Bool} {dd:Option Addr} {k0 k1 k2 k3 k5:Option Value} {Bn newId inN:String} {bmN:List Value}
abbrev excObj (C:Addr) (dx:Option Addr) (vs:Array Value):Obj:={ cls:=.ref C,dict:=dx,data:=.fields vs }
abbrev excNew (C a:Addr):Obj:=excObj C none #[.ref a,.none,.none,.none,.bool false,.none]
theorem type_call_initX (Fn:ExcBaseFacts Bn newId inN bmN) (hcB:(Value.ref C::bm).contains (.type Bn)=true) (hcA:(Value.ref C::bm).contains (.type "AttributeError")=false) (hcN:(Value.ref C::bm).contains (.type "NameError")=false) {rest:List Value} {fI:Addr} {oI:Obj} {Q:Fin→Shared→Prop}
    (hC:h.get? C=some (excClassObj nm q C N bs bm hdct sn sub ab col dd k0 k1 k2 k3 k5 newId)) (hi:PySem.W.Looks (model prog w) h (typeLookup (.ref C) "__init__") (some (.ref fI)))
    (hfI:h.get? fI=some oI) (hfc:oI.cls=.type "function")
    (hq:wpAny (model prog w) A (call (.ref fI) (.ref (h.objs.size+1)::rest)) (fun r s'=>r=.none∧Q (.done (.ret (.ref (h.objs.size+1)))) s') E ⟨(h.push { cls:=.type "tuple", data:=.seq rest.toArray }).push (excNew C h.objs.size),g,d,t,os⟩) (hrest:rest.length≤sizeLine:=by size_fits) :
    wpAny (model prog w) A (Builtin.«type.__call__» ⟨.ref C::rest,[]⟩) Q E ⟨h,g,d,t,os⟩:=by
  repeat (first | with_reducible refine wpAny_loadPart_at hC ?_ | with_reducible refine wpAny_madeBy_exc hC ?_ | wp_step)
  refine codeAny_call_builtin_code (Code.quiet_builtin _ Fn.quiet) (check_newX Fn hcB hC ?_)
  refine exc_newX Fn hcB hcA hcN hC ?_ hrest
  show wpAny _ _ _ _ _ _
  have hC₁:=Heap.get?_push_of_some (excNew C h.objs.size) (Heap.get?_push_of_some { cls:=.type "tuple", data:=.seq rest.toArray } hC)
  have hfI₁:=Heap.get?_push_of_some (excNew C h.objs.size) (Heap.get?_push_of_some { cls:=.type "tuple", data:=.seq rest.toArray } hfI)
  have hget:((h.push { cls:=.type "tuple", data:=.seq rest.toArray }).push (excNew C h.objs.size)).get? (h.objs.size+1)=some (excNew C h.objs.size):=by heap_get
  have hcC:(Value.ref C::bm).contains (.ref C)=true:=by simp
  unfold isInstance
  repeat (first | with_reducible refine wpAny_loadPart_at hget ?_ | (with_reducible refine wpAny_isSubtype_exc hC₁ ?_; rw [hcC]) | wp_step)
  show wpAny _ _ (typeLookup (.ref C) _) _ _ _
  refine hi _ _ _ _ (fun b o e=>Heap.get?_push_of_some _ (Heap.get?_push_of_some _ e)) ?_
  refine wpAny_holding (wpAny_bind ?_)
  unfold bindSpecial
  refine wpAny_bind (wpAny_typeOf (T := "function") ⟨_,hfI₁,hfc⟩ ?_)
  rw [if_pos (by decide)]
  refine wpAny_pure (wpAny_bind (wpAny_mono hq (fun r s' hr=>?_) fun _ _ x=>x))
  obtain ⟨rfl,hQ⟩:=hr
  wp_walk
  exact hQ
theorem call_exc_initX (Fn:ExcBaseFacts Bn newId inN bmN) (hcB:(Value.ref C::bm).contains (.type Bn)=true) (hcA:(Value.ref C::bm).contains (.type "AttributeError")=false) (hcN:(Value.ref C::bm).contains (.type "NameError")=false) {rest:List Value} {fI:Addr} {oI:Obj} {Q:Value→Shared→Prop}
    (hC:h.get? C=some (excClassObj nm q C N bs bm hdct sn sub ab col dd k0 k1 k2 k3 k5 newId)) (hi:PySem.W.Looks (model prog w) h (typeLookup (.ref C) "__init__") (some (.ref fI)))
    (hfI:h.get? fI=some oI) (hfc:oI.cls=.type "function")
    (hq:wpAny (model prog w) (A.under (.builtin "type.__call__" ⟨.ref C::rest,[]⟩)) (call (.ref fI) (.ref (h.objs.size+1)::rest)) (fun r s'=>r=.none∧Q (.ref (h.objs.size+1)) s') E ⟨(h.push { cls:=.type "tuple", data:=.seq rest.toArray }).push (excNew C h.objs.size),g,d,t,os⟩) (hrest:rest.length≤sizeLine:=by size_fits) :
    wpAny (model prog w) A (call (.ref C) rest) Q E ⟨h,g,d,t,os⟩:=by
  have f1:=tc_lookup
  have f2:=tc_bind (.ref C)
  have hT:(⟨h,g,d,t,os⟩:Shared).TypeIs (.ref C) "type" := ⟨_,hC,rfl⟩
  refine wpAny_call (codeAny_of_tree ?_)
  show wpAny _ _ (callAny (.ref C) _) _ _ _
  repeat (any_goals (first | assumption | with_reducible refine wpAny_loadPart_at hC ?_ | wp_step))
  refine ⟨rfl,?_⟩
  refine codeAny_call_builtin_at (Code.quiet_builtin _ (by decide +kernel)) entry_typeCall (wpAny_check_type_call_sub hC (type_call_initX (hrest:=hrest) Fn hcB hcA hcN hC hi hfI hfc ?_))
  exact hq
end
end L2
namespace L2
open PySem PySem.Spec PyProof.Rows
def ObP (e:Addr) (p:Obj→Prop):HO:=.ext fun h=>∃ o,h.get? e=some o∧p o
theorem ObP.ok {P:Program} {w:World} {H:Hp} {h:Heap} {e:Addr} {p:Obj→Prop} {o:Obj} (ho:h.get? e=some o) (hp:p o):ObjOk P w H h e (ObP e p) :=
  ⟨⟨o,ho,hp⟩,⟨o,ho⟩,fun _ _ ⟨o,ho,hp⟩ k=>⟨o,k o ho,hp⟩⟩
theorem ObP.get {P:Program} {w:World} {H:Hp} {h:Heap} {e:Addr} {p:Obj→Prop} (x:HOk P w H h) (he:H e=some (ObP e p)):∃ o,h.get? e=some o∧p o:=(x e _ he).1
abbrev vs6 (a:Addr):Array Value:=#[.ref a,.none,.none,.none,.bool false,.none]
def ExcN (C e:Addr):HO:=ObP e fun o=>∃ a,o=excObj C none (vs6 a)
def ExcD (C e dx:Addr):HO:=ObP e fun o=>∃ a,o=excObj C (some dx) (vs6 a)
def ExcT (C e dx:Addr):HO:=ObP e fun o=>∃ vs,o=excObj C (some dx) vs∧vs.size=6
structure MkX (K:PySem.W.Frag) (C f:Addr):Prop where
  obj:∃ (nm q:Str) (N:Addr) (bs bm:List Value) (hdct:Bool) (sn:List Str) (sub:List Value) (ab:Bool) (col:Option Bool) (dd:Option Addr) (k0 k1 k2 k3 k5:Option Value),K.lookup C=some (excClassObj nm q C N bs bm hdct sn sub ab col dd k0 k1 k2 k3 k5 "ValueError.__new__") ∧
    (Value.ref C::bm).contains (.type "ValueError")=true∧(Value.ref C::bm).contains (.type "AttributeError")=false∧(Value.ref C::bm).contains (.type "NameError")=false
  init:PySem.W.findIn K (.ref C) "__init__" = some (some (.ref f))
  fn:∃ o,K.lookup f=some o∧o.cls=.type "function"
  kp:PySem.W.keepIn K (.ref C)=true
section
variable {X:Cx} {CX:CXT} {k:Nat} {f C:Addr} {fd:FuncData} {ps:List Str} {sp:Sp} {dvs:List V} {ds:List Value} {E:XK} {x m:Str} {p pos apos:Pos} {e o:Expr} {es:List Expr} {ta:TE} {t:TA}
theorem run_makeX {pins:List (Addr × Obj)} {σ:St} {H:Hp} {s:Shared} {Q:VK} {us:List Value} {vs:List V} (M:MkX X.K C f) (Fo:FnOk X.prog X.w X.K X.mg X.base CX k f fd ps sp) (hr:Room (k+1) X.A) (hb:Binds X.K fd ps ds) (hd:Vals dvs ds)
    (hx:Passes CX X E) (I:Inv X pins σ H s) (r:Vals vs us) (hz:vs.length≤sizeLine)
    (h:∀ e,H e=none→sp (.ref e::(vs++dvs)) (upd H e (ExcN C e)) (fun v H2=>v=.non∧Q (.ref e) H2) E) :
    wpAny (model X.prog X.w) X.A (call (.ref C) us) (EP X pins σ Q) X.xe s:=by
  have hf:H (s.heap.objs.size+1)=none:=I.hok.fresh (Nat.le_succ _)
  have hq:=h (s.heap.objs.size+1) hf
  obtain ⟨nm,q,N,bs,bm,hdct,sn,sub,ab,col,dd,k0,k1,k2,k3,k5,lk,c1,c2,c3⟩:=M.obj
  obtain ⟨oI,lf,hfc⟩:=M.fn
  obtain ⟨hh,g,d,tk,os⟩:=s
  have I1:Inv X pins σ H { heap:=hh.push { cls:=.type "tuple", data:=.seq us.toArray },gens:=g,drawn:=d,toks:=tk,os:=os }:=I.kept (t':=tk) fun b o e=>Heap.get?_push_of_some _ e
  have sz1:(hh.push { cls:=.type "tuple", data:=.seq us.toArray }).objs.size=hh.objs.size+1:=Heap.size_push ..
  have I2:Inv X pins σ (upd H (hh.objs.size+1) (ExcN C (hh.objs.size+1))) { heap:=(hh.push { cls:=.type "tuple", data:=.seq us.toArray }).push (excNew C hh.objs.size),gens:=g,drawn:=d,toks:=tk,os:=os } :=
    I1.laid (t':=tk) (fun b o e=>Heap.get?_push_of_some _ e) (Nat.le_of_eq sz1) (ObP.ok (o:=excNew C hh.objs.size) (by rw [← sz1]; exact Heap.get?_push_size _ rfl) ⟨_,rfl⟩)
  have r2:Vals (V.ref (hh.objs.size+1)::(vs++dvs)) (Value.ref (hh.objs.size+1)::(us++ds)):=.cons rfl (r.append hd)
  have hl:(Value.ref (hh.objs.size+1)::us++ds).length=ps.length:=by
    have e:=r2.length
    rw [Fo.len _ _ _ _ hq] at e
    exact e.symm
  refine call_exc_initX PySem.F.excBase_ValueError c1 c2 c3 (I.kIn _ _ lk) (PySem.W.looks_findIn I.kIn M.init) (I.kIn _ _ lf) hfc ?_ (by rw [← r.length]; exact hz)
  refine wpAny_call (codeAny_mono (Fo.run _ X.stack _ _ ⟨Value.ref (hh.objs.size+1)::us,[]⟩ (Value.ref (hh.objs.size+1)::(us++ds)) _ _ E (hr.make C us []) (I2.env0.make C us []) (hb _ (Value.ref (hh.objs.size+1)::us) I2.kIn hl) r2 hq) fun r s' hq'=>?_)
  cases r with
  | error e=>exact hx pins σ _ _ e s' I2 hq'
  | ok fl =>
    cases fl with
    | ret u =>
      obtain ⟨v,H',I3,rv,ev,q3⟩:=I2.after hq'
      subst ev
      exact ⟨rv,⟨V.ref (hh.objs.size+1),H',I3,rfl,q3⟩⟩
    | next=>exact False.elim hq'
    | brk=>exact False.elim hq'
    | cont=>exact False.elim hq'
def tMakeX (C:Addr) (sp:Sp) (dvs:List V) (E:XK) (t:TA):TE:=fun σ H Q=>t σ H fun vs H1=>vs.length≤sizeLine∧∀ e,H1 e=none →
  sp (.ref e::(vs++dvs)) (upd H1 e (ExcN C e)) (fun v H2=>v=.non∧Q (.ref e) H2) E
theorem pe_makeX (M:MkX X.K C f) (F:FnOk X.prog X.w X.K X.mg X.base CX k f fd ps sp) (hr:Room (k+1) X.A) (hg:Gl X x) (hm:X.mg x=some (.ref C)) (hb:Binds X.K fd ps ds) (hd:Vals dvs ds) (hx:Passes CX X E)
    (ha:PA X (e::es) t) (hdb:(x == ("__debug__" : Str))=false:=by decide) (he:starEach (e::es) X.env=(false,eval e X.env)::starEach es X.env:=by rfl) (hpl:(backTo pos (starEach es X.env)).any (·.1)=false:=by rfl) :
    PE X (.Call (.Name x p) (e::es) [] pos) (tMakeX C sp dvs E t):=by
  intro pins s σ H Q I h
  refine wpAny_Call_Name_kw (ld_glob I hg hm ?_ hdb)
  refine PySem.W.callWith_K (h₀:=X.base) I.ok.mod.kin M.kp (thn (ha pos pins s σ H _ I h) fun us s1 ⟨vs,H1,I1,r,z,q⟩=>⟨I1.kIn,?_⟩) he hpl
  exact run_makeX M F hr hb hd hx I1 r z q
end
end L2
namespace L2
open PySem PySem.Spec PyProof.Rows
structure ClsFn (K:PySem.W.Frag) (C f:Addr) (name:Str):Prop where
  ga:PySem.W.specialIn K (.ref C) "__getattribute__" = some (some (.builtin "type.__getattribute__"))
  rd:PySem.W.readsIn K C (.type "type")=true
  fc:(match PySem.W.findCls K (.ref C) (.type "type") name with | some (.val v)=>some v | _=>none)=some (.ref f)
  kp:PySem.W.keepIn K (.ref f)=true
theorem ClsFn.find {K:PySem.W.Frag} {C f:Addr} {name:Str} (c:ClsFn K C f name):PySem.W.findCls K (.ref C) (.type "type") name=some (.val (.ref f)):=by
  have h:=c.fc
  split at h
  · rename_i v e
    cases h
    exact e
  · cases h
section
variable {X:Cx} {CX:CXT} {k:Nat} {f C:Addr} {fd:FuncData} {ps:List Str} {sp:Sp} {dvs:List V} {ds:List Value} {E:XK} {x m:Str} {p pos apos:Pos} {e o:Expr} {es:List Expr} {ta:TE} {t:TA}
theorem pe_clscall {pl:Sem Bool} (hg:Gl X x) (hm:X.mg x=some (.ref C)) (c:ClsFn X.K C f m) (Fo:FnOk X.prog X.w X.K X.mg X.base CX k f fd ps sp) (hr:Room k X.A) (hb:Binds X.K fd ps ds) (hd:Vals dvs ds) (hx:Passes CX X E) (ha:PA X (e::es) t) (hdb:(x == ("__debug__" : Str))=false:=by decide)
    (hst:starEach (e::es) X.env=(false,eval e X.env)::starEach es X.env:=by rfl) (hpl:(backTo pos (starEach es X.env)).any (·.1)=false:=by rfl)
    (ht:eval (.Call (.Attribute (.Name x p) m apos) (e::es) [] pos) X.env=(do
      let ov ← eval (.Name x p) X.env
      standAt apos.atName
      let (f,first) ← holding [ov] (getMethod ov m pl)
      callWith pos f first (backTo pos (starEach (e::es) X.env)) (backToKw pos (keywordEach [] X.env))):=by rfl) :
    PE X (.Call (.Attribute (.Name x p) m apos) (e::es) [] pos) (tCall sp dvs E t):=by
  intro pins s σ H Q I h
  refine PySem.W.methodCall_KW (pl:=pl) ?_ ht
  refine thn (pe_glob (v:=.ref C) hg hm rfl hdb pins s σ H (fun v H'=>v=.ref C∧H'=H) I ⟨rfl,rfl⟩) fun u s1 ⟨v,H1,I1,r1,ev,eH⟩=>?_
  subst ev eH
  cases r1
  refine PySem.W.method_cls I1.kIn c.ga (PySem.W.cls_value I1.kIn c.rd c.find rfl ?_)
  have I2:=I1.tok (s1.toks+1)
  refine PySem.W.callWith_K (first:=[]) (h₀:=X.base) I2.ok.mod.kin c.kp (thn (ha pos pins _ σ H1 _ I2 h) fun us s2 ⟨vs,H2,I3,r,q⟩=>⟨I3.kIn,?_⟩) hst hpl
  exact run_fn Fo hr hb hd hx I3 r q
end
section
variable {prog:Program} {w:World} {A:Around} {E:Value→Shared→Prop} {h:Heap} {g:Array GenState} {d:Drawn} {t:Nat} {os:OsState}
variable {nm q:Str} {C N:Addr} {bs bm:List Value} {hdct:Bool} {sn:List Str} {sub:List Value} {ab:Bool} {col:Option Bool} {dd:Option Addr} {k0 k1 k2 k3 k5:Option Value} {B newId nid initId inN:String} {bmN bmB:List Value}
theorem check_initX (Fb:ExcBaseFacts B nid initId bmB) (hcB:(Value.ref C::bm).contains (.type B)=true) {M:Model} {e:Addr} {oe:Obj} {rest:List Value} {Q:Unit→Shared→Prop}
    (hC:h.get? C=some (excClassObj nm q C N bs bm hdct sn sub ab col dd k0 k1 k2 k3 k5 newId)) (he:h.get? e=some oe) (hcls:oe.cls=.ref C) (hq:Q () ⟨h,g,d,t,os⟩) :
    wpAny M A (checkBuiltinCall initId ⟨.ref e::rest,[]⟩) Q E ⟨h,g,d,t,os⟩:=by
  have hshort:=Fb.noStar
  simp only [checkBuiltinCall,Fb.initKind,Fb.initSplit,Fb.initRow]
  repeat (first | (with_reducible refine wpAny_loadPart_at he ?_; rw [hcls]) | with_reducible refine wpAny_loadPart_at hC ?_ | (with_reducible refine wpAny_isSubtype_exc hC ?_; rw [hcB]) | wp_step)
  refine wpAny_onRaise ?_
  rw [show ∀ (a b:String) (n:Nat),Bind.check ⟨.positional, "*", B,.self,[⟨"args", .varPos,false⟩]⟩ a b n (List.map (fun x=>x.fst) ({ pos:=Value.ref e::rest }:Args).kw)=pure () from
    fun a b n=>check_star_args _ _ _ _ _ _]
  exact wpAny_pure hq
theorem exc_initX (Fb:ExcBaseFacts B nid initId bmB) (hcB:(Value.ref C::bm).contains (.type B)=true) {e a:Addr} {dx:Option Addr} {rest:List Value} {Q:Value→Shared→Prop}
    (hC:h.get? C=some (excClassObj nm q C N bs bm hdct sn sub ab col dd k0 k1 k2 k3 k5 newId)) (he:h.get? e=some (excObj C dx (vs6 a))) (hrest:rest.length≤sizeLine)
    (hq:Q .none ⟨(h.push { cls:=.type "tuple", data:=.seq rest.toArray }).update e (Obj.mapFields (·.setIfInBounds 0 (.ref h.objs.size))),g,d,t,os⟩) :
    wpAny (model prog w) A (call (.builtin initId) (.ref e::rest)) Q E ⟨h,g,d,t,os⟩:=by
  refine wpAny_call (codeAny_call_builtin Fb.init.plain Fb.initEntry (check_initX Fb hcB hC he rfl ?_))
  wp_walk
  exact hq
end
end L2
namespace L2
open PySem PySem.Spec PyProof.Rows
theorem val_find {K:PySem.W.Frag}:PySem.W.findCls K (.type "ValueError") (.type "type") "__init__" = some (.val (.builtin "ValueError.__init__")):=by
  with_unfolding_all rfl
theorem val_type:typeOf (.type "ValueError")=pure (.type "type"):=by
  kernel_rfl
theorem upd_id {H:Hp} {e:Addr} {o:HO} (h:H e=some o):upd H e o=H:=by
  funext b
  unfold upd
  split
  · rename_i z
    rw [z,h]
  · rfl
section
variable {prog:Program} {w:World} {A:Around} {E:Value→Shared→Prop} {s:Shared} {K:PySem.W.Frag} {name:Str}
theorem method_typeX {T:String} {v:Value} {pl:Sem Bool} {Q:Value × List Value→Shared→Prop} (X:K.In s.heap) (ht:typeOf (.type T)=pure (.type "type")) (hs:Manifest.isStub T=false)
    (e:PySem.W.findCls K (.type T) (.type "type") name=some (.val v)) (hh:PySem.W.handedIn v=true) (h:Q (v,[]) { s with toks:=s.toks+1 }):wpAny (model prog w) A (getMethod (.type T) name pl) Q E s:=by
  have hstub:opaqueClassAbove (.type T)=pure none:=by unfold opaqueClassAbove; dsimp only; rw [hs]; rfl
  have L0:PySem.W.Looks (model prog w) s.heap (typeOf (.type T)) (.type "type"):=PySem.W.Looks.of_pure ht
  have hg:PySem.W.findIn K (.type "type") "__getattribute__" = some (some (.builtin "type.__getattribute__")):=PySem.W.type_tga
  unfold getMethod specialOf
  refine wpAny_bind (wpAny_bind (L0.here ((PySem.W.looks_findIn X hg).here ?_)))
  dsimp only
  rw [if_pos PySem.W.canon_tga]
  refine wpAny_bind (wpAny_mono (Q:=fun v=>Q (v,[])) (E:=E) ?_ (fun _ _ z=>wpAny_pure z) fun _ _ z=>z)
  have LO:PySem.W.Looks (model prog w) s.heap (opaqueClassAbove (.type T)) none:=PySem.W.Looks.of_pure hstub
  refine PySem.W.cls_open X LO L0 hg (PySem.W.looks_hook X (r:=none) (by rfl)) (by show PySem.W.subIn K _ _=_; rfl) e
    (wpAny_pure (by show wpAny _ _ (PySem.handedOut v) _ _ _; rw [PySem.W.handedOut_of hh]; exact wpAny_pure h))
end
section
variable {X:Cx} {p pos apos:Pos} {e1 e2:Expr} {t:TA}
theorem boot_val:bootBuiltins ("ValueError" : Str)=some (.type "ValueError"):=by decide +kernel
theorem pe_valinit {pl:Sem Bool} (hg:Gl X "ValueError") (hm:X.mg "ValueError" = none) (ha:PA X [e1,e2] t)
    (hst:starEach [e1,e2] X.env=(false,eval e1 X.env)::starEach [e2] X.env:=by rfl) (hpl:(backTo pos (starEach [e2] X.env)).any (·.1)=false:=by rfl)
    (ht:eval (.Call (.Attribute (.Name "ValueError" p) "__init__" apos) [e1,e2] [] pos) X.env=(do
      let ov ← eval (.Name "ValueError" p) X.env
      standAt apos.atName
      let (f,first) ← holding [ov] (getMethod ov "__init__" pl)
      callWith pos f first (backTo pos (starEach [e1,e2] X.env)) (backToKw pos (keywordEach [] X.env))):=by rfl) :
    PE X (.Call (.Attribute (.Name "ValueError" p) "__init__" apos) [e1,e2] [] pos) (fun σ H Q=>t σ H fun vs H1=>∃ e C f x,vs=[.ref e,x]∧H1 e=some (ExcN C e)∧MkX X.K C f∧Q .non H1):=by
  intro pins s σ H Q I h
  refine PySem.W.methodCall_KW (pl:=pl) ?_ ht
  have hP:PE X (.Name "ValueError" p) (tC (V.ty "ValueError")):=pe_bltn hg hm boot_val rfl
  refine thn (hP pins s σ H (fun v H'=>v=.ty "ValueError" ∧ H'=H) I ⟨rfl,rfl⟩) fun u s1 ⟨v,H1,I1,r1,ev,eH⟩=>?_
  subst ev eH
  cases r1
  refine method_typeX I1.kIn val_type (by decide +kernel) val_find rfl ?_
  have I2:=I1.tok (s1.toks+1)
  have hA:=ha pos pins _ σ H1 _ I2 h
  rw [hst] at hA ⊢
  refine Calls.callWith_builtin (by show (false || (backTo pos (starEach [e2] X.env)).any (·.1))=false; rw [hpl] <;> rfl) (Calls.evalArgs_plain ?_)
  refine thn hA fun us s2 ⟨vs,H2,I3,r2,e,C,f,x,ev,he,M,q⟩=>?_
  subst ev
  cases r2 with
  | cons r rr =>
    cases rr with
    | @cons _ u2 _ _ r' rr =>
      cases rr
      cases r
      obtain ⟨nm,qn,N,bs,bm,hdct,sn,sub,ab,col,dd,k0,k1,k2,k3,k5,lk,c1,c2,c3⟩:=M.obj
      obtain ⟨o,ho,a,rfl⟩:=ObP.get I3.hok he
      obtain ⟨hh,g,d,tk,os⟩:=s2
      show wpAny _ _ (call (.builtin "ValueError.__init__") (.ref e::[u2])) _ _ _
      refine exc_initX PySem.F.excBase_ValueError c1 (I3.kIn _ _ lk) ho (by show 1≤sizeLine; decide) ?_
      have I4:Inv X pins σ H2 { heap:=hh.push { cls:=.type "tuple", data:=.seq [u2].toArray },gens:=g,drawn:=d,toks:=tk,os:=os }:=I3.kept (t':=tk) fun b o e=>Heap.get?_push_of_some _ e
      have ho4:=Heap.get?_push_of_some { cls:=.type "tuple", data:=.seq [u2].toArray } ho
      have hu:=Heap.get?_update_self (Obj.mapFields (·.setIfInBounds 0 (Value.ref hh.objs.size))) ho4 rfl
      have I5:Inv X pins σ (upd H2 e (ExcN C e)) { heap:=(hh.push { cls:=.type "tuple", data:=.seq [u2].toArray }).update e (Obj.mapFields (·.setIfInBounds 0 (Value.ref hh.objs.size))),gens:=g,drawn:=d,toks:=tk,os:=os } :=
        I4.write (x:=e) (e:=e) (t':=tk) (by rw [he]; exact trivial) (.inl rfl) (fun b u hb hu=>(Heap.get?_update_other _ _ (Ne.symm hb)).trans hu) ⟨_,hu⟩ (ObP.ok hu ⟨hh.objs.size,rfl⟩)
      rw [upd_id he] at I5
      exact ⟨.non,H2,I5,rfl,q⟩
end
end L2
namespace L2
open PySem Builtin Builtin.ObjectAttr
section
variable {prog:Program} {w:World} {A:Around} {E:Value→Shared→Prop} {h:Heap} {g:Array GenState} {d:Drawn} {t:Nat} {os:OsState}
variable {nm q:Str} {C N x:Addr} {bs bm:List Value} {sn:List Str} {sub:List Value} {ab:Bool} {col:Option Bool} {dd:Option Addr} {k0 k1 k2 k3 k5:Option Value} {newId:String} {name:Str} {v:Value} {vs:Array Value}
theorem check_saX {M:Model} {B sa owner:String} {bmB:List Value} {o:Obj} {nameV:Value} {Q:Unit→Shared→Prop} (SF:StoreFacts B bmB sa owner) (hcB:(Value.ref C::bm).contains (.type owner)=true)
    (hC:h.get? C=some (excClassObj nm q C N bs bm true sn sub ab col dd k0 k1 k2 k3 k5 newId)) (hx:h.get? x=some o) (hc:o.cls=.ref C) (hq:Q () ⟨h,g,d,t,os⟩) :
    wpAny M A (checkBuiltinCall sa ⟨[.ref x,nameV,v],[]⟩) Q E ⟨h,g,d,t,os⟩:=by
  have ha:=SF.args (.ref x) nameV v
  simp only [checkBuiltinCall,SF.kind,SF.split]
  refine wpAny_bind ?_
  · unfold isInstance
    repeat (first | (with_reducible refine wpAny_loadPart_at hx ?_; rw [hc]) | (with_reducible refine wpAny_isSubtype_exc hC ?_; rw [hcB]) | wp_step)
    cases hsig:Manifest.signature? sa with
    | none=>exact wpAny_pure hq
    | some sig =>
      simp only [argsOk,hsig] at ha
      have h2:Bind.checkArgs sa sig ⟨[.ref x,nameV,v],[]⟩=pure ():=ha
      show wpAny M A (Bind.checkArgs sa sig ⟨[.ref x,nameV,v],[]⟩) Q E _
      rw [h2]; exact wpAny_pure hq
theorem store_entryX {tk:Tok} {Q:Fin→Shared→Prop} (hpass:refuseLoop (.ref x) "__setattr__" (.ref C::bm)=pure ())
    (hC:h.get? C=some (excClassObj nm q C N bs bm true sn sub ab col dd k0 k1 k2 k3 k5 newId)) (hL:PySem.W.Looks (model prog w) h (typeLookup (.ref C) name) none) {o:Obj} (hx:h.get? x=some o) (hc:o.cls=.ref C) (hdn:o.dict=none) (hnc:∀ c,o.data ≠ .cls c)
    (hq:∀ h' tk',h'.get? x=some { cls:=o.cls,dict:=some h.objs.size,data:=o.data,slots:=o.slots }→h'.Ns1 h.objs.size (fun y=>if y=name then some v else none)→(∀ b o,b ≠ x→h.get? b=some o→h'.get? b=some o)→Q (.done (.ret .none)) ⟨h',g,d,tk',os⟩) :
    wpAny (model prog w) A (Builtin.«object.__setattr__» ⟨[.ref x,.str name tk,v],[]⟩) Q E ⟨h,g,d,t,os⟩:=by
  have hL':∀ {A':Around} {E':Value→Shared→Prop} {Q':Option Value→Shared→Prop} {t':Nat},Q' none ⟨h,g,d,t',os⟩→wpAny (model prog w) A' (typeLookup (.ref C) name) Q' E' ⟨h,g,d,t',os⟩:=fun q'=>hL _ _ _ _ (fun _ _ e=>e) q'
  unfold Builtin.«object.__setattr__»
  repeat (first | rw [refuse_eq] | (rw [hpass]) | (with_reducible refine wpAny_loadPart_at hx ?_; rw [hc]) | with_reducible refine wpAny_mroOf_exc hC ?_ | (with_reducible refine hL' ?_) | wp_step)
  rw [hdn,if_neg (by simp [typeHasDict])]
  split
  · rename_i hcd
    cases hcd
  split
  · rename_i c hcd
    exact absurd hcd (hnc c)
  · have hx₁:(h.push { cls:=.type "dict", data:=.dict #[] }).get? x=some o:=Heap.get?_push_of_some _ hx
    have hxs:x ≠ h.objs.size:=Nat.ne_of_lt (Heap.lt_size hx)
    refine wpAny_bind (wpAny_alloc' ?_)
    refine wpAny_bind (wpAny_update' hx₁ ?_)
    refine wpAny_pure ?_
    have hgd:((h.push { cls:=.type "dict", data:=.dict #[] }).update x fun o=>{ cls:=o.cls,dict:=some h.objs.size,data:=o.data,slots:=o.slots }).get? h.objs.size
        = some { cls:=.type "dict", data:=.dict #[] } :=
      (Heap.get?_update_ne _ _ _ _ hxs.symm).trans (Heap.get?_push_at rfl rfl)
    have hnd:((h.push { cls:=.type "dict", data:=.dict #[] }).update x fun o=>{ cls:=o.cls,dict:=some h.objs.size,data:=o.data,slots:=o.slots }).Ns h.objs.size (fun _=>none) :=
      ⟨_,#[],_,hgd,rfl,fun e he=>absurd he (by simp),fun _=>rfl⟩
    show wpAny _ _ (storeInDict h.objs.size (.str name tk) name v) _ _ _
    unfold storeInDict newKeyGuard
    refine wpAny_bind (wpAny_pure (wpAny_bind (wpAny_nsSet1 (Heap.Ns1.of_empty hnd) fun h' hn' hs=>?_)))
    obtain ⟨oD,esD,epD,hoD,hdD,hcD⟩:=hn'.count (Within.cons name v Within.nil)
    refine wpAny_bind (wpAny_lookBehind hoD (by rw [hdD]; exact pastItsLine_dict (Nat.le_trans hcD (by rw [List.length_cons,List.length_nil,sizeLine_eq]; omega))) ?_)
    wp_walk
    refine hq h' _ ?_ hn' fun b ob hbx hb=>?_
    · refine (hs.2 x hxs).trans (Heap.get?_update_self _ hx₁ ?_)
      have hfr:=(Heap.get?_some_iff.mp hx).2
      obtain ⟨oc,od,odt,osl⟩:=o
      cases odt <;> first | rfl | exact hfr
    · exact (hs.2 b (Nat.ne_of_lt (Heap.lt_size hb))).trans ((Heap.get?_update_ne _ _ _ _ hbx).trans (Heap.get?_push_of_some _ hb))
theorem store_attrX {B sa owner:String} {bmB:List Value} {Q:Unit→Shared→Prop} (SF:StoreFacts B bmB sa owner) (hcO:(Value.ref C::bm).contains (.type owner)=true) (hpass:refuseLoop (.ref x) "__setattr__" (.ref C::bm)=pure ())
    (hC:h.get? C=some (excClassObj nm q C N bs bm true sn sub ab col dd k0 k1 k2 k3 k5 newId)) (hS:PySem.W.Looks (model prog w) h (typeLookup (.ref C) "__setattr__") (some (.builtin sa)))
    (hL:PySem.W.Looks (model prog w) h (typeLookup (.ref C) name) none) {o:Obj} (hx:h.get? x=some o) (hc:o.cls=.ref C) (hdn:o.dict=none) (hnc:∀ c,o.data ≠ .cls c)
    (hq:∀ h' tk',h'.get? x=some { cls:=o.cls,dict:=some h.objs.size,data:=o.data,slots:=o.slots }→h'.Ns1 h.objs.size (fun y=>if y=name then some v else none)→(∀ b o,b ≠ x→h.get? b=some o→h'.get? b=some o)→Q () ⟨h',g,d,tk',os⟩) :
    wpAny (model prog w) A (setAttr (.ref x) name v) Q E ⟨h,g,d,t,os⟩:=by
  have f3:=SF.slot.bind (.ref x)
  have hS':∀ {A':Around} {E':Value→Shared→Prop} {Q':Option Value→Shared→Prop} {t':Nat},Q' (some (.builtin sa)) ⟨h,g,d,t',os⟩→wpAny (model prog w) A' (typeLookup (.ref C) "__setattr__") Q' E' ⟨h,g,d,t',os⟩:=fun q'=>hS _ _ _ _ (fun _ _ e=>e) q'
  unfold setAttr callSpecial? specialOf
  repeat (any_goals (first | assumption | (with_reducible refine wpAny_loadPart_at hx ?_; rw [hc]) | (with_reducible refine hS' ?_) | wp_step))
  refine codeAny_call_builtin SF.slot.plain SF.entry (check_saX SF hcO hC hx hc (store_entryX hpass hC hL hx hc hdn hnc fun h' tk' i1 i2 i3=>?_))
  repeat (any_goals (first | assumption | wp_step))
  exact hq h' tk' i1 i2 i3
end
end L2
namespace L2
open PySem Builtin Builtin.ObjectAttr
section
variable {prog:Program} {w:World} {A:Around} {E:Value→Shared→Prop} {h:Heap} {g:Array GenState} {d:Drawn} {t:Nat} {os:OsState} {a dx:Addr} {o:Obj} {v:Value}
  {nm q:Str} {C N:Addr} {bs bm:List Value} {sn:List Str} {sub:List Value} {ab:Bool} {col:Option Bool} {dd:Option Addr} {k0 k1 k2 k3 k5:Option Value} {newId:String} {mA:Str→Option Value} {name:Str}
theorem check_gaX {M:Model} {nameV:Value} {Q:Unit→Shared→Prop} (hC:h.get? C=some (excClassObj nm q C N bs bm true sn sub ab col dd k0 k1 k2 k3 k5 newId)) (hcB:(Value.ref C::bm).contains (.type "BaseException")=true)
    (hx:h.get? a=some o) (hc:o.cls=.ref C) (hq:Q () ⟨h,g,d,t,os⟩):wpAny M A (checkBuiltinCall "BaseException.__getattribute__" ⟨[.ref a,nameV],[]⟩) Q E ⟨h,g,d,t,os⟩:=by
  have hk:builtinKind "BaseException.__getattribute__" = some .slot:=by decide +kernel
  have hsplit:splitId "BaseException.__getattribute__" = some ("BaseException", "__getattribute__"):=by decide +kernel
  have ha:=F.args_bexc_ga (.ref a) nameV
  simp only [checkBuiltinCall,hk,hsplit]
  refine wpAny_bind ?_
  · unfold isInstance
    repeat (first | (with_reducible refine wpAny_loadPart_at hx ?_; rw [hc]) | (with_reducible refine wpAny_isSubtype_exc hC ?_; rw [hcB]) | wp_step)
    exact hq
theorem load_entryX {tk:Tok} {Q:Fin→Shared→Prop} (hC:h.get? C=some (excClassObj nm q C N bs bm true sn sub ab col dd k0 k1 k2 k3 k5 newId)) (hL:PySem.W.Looks (model prog w) h (typeLookup (.ref C) name) none)
    (hx:h.get? a=some o) (hc:o.cls=.ref C) (hdx:o.dict=some dx) (hnc:∀ c,o.data ≠ .cls c) (hns:h.Ns dx mA) (hv:mA name=some v) (hq:Q (.done (.ret v)) ⟨h,g,d,t,os⟩) :
    wpAny (model prog w) A (Builtin.«object.__getattribute__» ⟨[.ref a,.str name tk],[]⟩) Q E ⟨h,g,d,t,os⟩:=by
  have hL':∀ {A':Around} {E':Value→Shared→Prop} {Q':Option Value→Shared→Prop} {t':Nat},Q' none ⟨h,g,d,t',os⟩→wpAny (model prog w) A' (typeLookup (.ref C) name) Q' E' ⟨h,g,d,t',os⟩:=fun q'=>hL _ _ _ _ (fun _ _ e=>e) q'
  unfold Builtin.«object.__getattribute__»
  repeat (first | (with_reducible refine wpAny_loadPart_at hx ?_; rw [hc]) | (with_reducible refine hL' ?_) | wp_step)
  split
  · rename_i c hcd
    exact absurd hcd (hnc c)
  · repeat (first | (with_reducible refine wpAny_loadPart_at hx ?_; rw [hc]) | wp_step)
    rw [hdx]
    repeat (first | (with_reducible refine wpAny_nsGet hns ?_; rw [hv]) | wp_step)
    exact hq
end
end L2
namespace L2
open PySem Builtin Builtin.ObjectAttr
section
variable {prog:Program} {w:World} {A:Around} {E:Value→Shared→Prop} {h:Heap} {g:Array GenState} {d:Drawn} {t:Nat} {os:OsState} {a dx:Addr} {o:Obj} {v:Value}
  {nm q:Str} {C N:Addr} {bs bm:List Value} {sn:List Str} {sub:List Value} {ab:Bool} {col:Option Bool} {dd:Option Addr} {k0 k1 k2 k3 k5:Option Value} {newId:String} {mA:Str→Option Value} {name:Str}
theorem load_byX {tk:Tok} {fill expr:Bool} {Q:Value→Shared→Prop} (hC:h.get? C=some (excClassObj nm q C N bs bm true sn sub ab col dd k0 k1 k2 k3 k5 newId)) (hcB:(Value.ref C::bm).contains (.type "BaseException")=true)
    (hG:PySem.W.Looks (model prog w) h (typeLookup (.ref C) "__getattribute__") (some (.builtin "BaseException.__getattribute__"))) (hA:PySem.W.Looks (model prog w) h (typeLookup (.ref C) "__getattr__") none) (hL:PySem.W.Looks (model prog w) h (typeLookup (.ref C) name) none)
    (hx:h.get? a=some o) (hc:o.cls=.ref C) (hdx:o.dict=some dx) (hnc:∀ c,o.data ≠ .cls c) (hns:h.Ns dx mA) (hv:mA name=some v) (hh:PySem.W.handedIn v=true) (hq:Q v ⟨h,g,d,t,os⟩) :
    wpAny (model prog w) A (getAttrBy (.ref a) (.str name tk) fill expr) Q E ⟨h,g,d,t,os⟩:=by
  have FB:=F.attrBase_ValueError
  have f3:=FB.ga.bind (.ref a)
  have hx0:(expr && onTheHeap (Value.builtin "BaseException.__getattribute__"))=false:=by cases expr <;> rfl
  have hx2:(Value.builtin "BaseException.__getattribute__" == Value.builtin "object.__getattribute__")=false:=by decide +kernel
  have hx1:(onTheHeap (Value.ref C) && Value.builtin "BaseException.__getattribute__" == Value.builtin "object.__getattribute__")=false:=by rw [hx2]; rfl
  have hG':∀ {A':Around} {E':Value→Shared→Prop} {Q':Option Value→Shared→Prop} {t':Nat},Q' (some (.builtin "BaseException.__getattribute__")) ⟨h,g,d,t',os⟩→wpAny (model prog w) A' (typeLookup (.ref C) "__getattribute__") Q' E' ⟨h,g,d,t',os⟩:=fun q'=>hG _ _ _ _ (fun _ _ e=>e) q'
  have hA':∀ {A':Around} {E':Value→Shared→Prop} {Q':Option Value→Shared→Prop} {t':Nat},Q' none ⟨h,g,d,t',os⟩→wpAny (model prog w) A' (typeLookup (.ref C) "__getattr__") Q' E' ⟨h,g,d,t',os⟩:=fun q'=>hA _ _ _ _ (fun _ _ e=>e) q'
  repeat (any_goals (first | assumption | (with_reducible refine wpAny_loadPart_at hx ?_; rw [hc]) | with_reducible refine hG' ?_ | with_reducible refine hA' ?_ | wp_step))
  refine codeAny_call_builtin FB.ga.plain F.entry_bexc_ga (check_gaX hC hcB hx hc (load_entryX hC hL hx hc hdx hnc hns hv ?_))
  show wpAny _ _ (handedOut v) _ _ _
  rw [PySem.W.handedOut_of hh]
  exact wpAny_pure hq
end
end L2
namespace L2
open PySem Builtin Builtin.ObjectAttr
section
variable {prog:Program} {w:World} {A:Around} {E:Value→Shared→Prop} {h:Heap} {g:Array GenState} {d:Drawn} {t:Nat} {os:OsState} {a:Addr} {o:Obj}
  {nm q:Str} {C N:Addr} {bs bm:List Value} {sn:List Str} {sub:List Value} {ab:Bool} {col:Option Bool} {dd:Option Addr} {k0 k1 k2 k3 k5:Option Value} {newId:String}
end
end L2
namespace L2
open PySem PySem.Spec PyProof.Rows
abbrev bmV:List Value:=[.type "ValueError", .type "Exception", .type "BaseException", .type "object"]
structure ClsX (K:PySem.W.Frag) (C CA:Addr):Prop where
  obj:∃ (nm q:Str) (N:Addr) (bs:List Value) (sn:List Str) (sub:List Value) (ab:Bool) (col:Option Bool) (dd:Option Addr) (k0 k1 k2 k3 k5:Option Value),K.lookup C=some (excClassObj nm q C N bs (.ref CA::bmV) true sn sub ab col dd k0 k1 k2 k3 k5 "ValueError.__new__")
  set:PySem.W.findIn K (.ref C) "__setattr__" = some (some (.builtin "object.__setattr__"))
  ga:PySem.W.findIn K (.ref C) "__getattribute__" = some (some (.builtin "BaseException.__getattribute__"))
  gt:PySem.W.findIn K (.ref C) "__getattr__" = some none
  cl:PySem.W.findIn K (.ref C) "__class__" = some (some (.builtin "object.__class__"))
section
variable {C CA:Addr}
theorem cX_val:(Value.ref C::.ref CA::bmV).contains (.type "ValueError")=true:=by simp [bmV]
theorem cX_base:(Value.ref C::.ref CA::bmV).contains (.type "BaseException")=true:=by simp [bmV]
theorem cX_obj:(Value.ref C::.ref CA::bmV).contains (.type "object")=true:=by simp [bmV]
theorem cX_attr:(Value.ref C::.ref CA::bmV).contains (.type "AttributeError")=false:=by
  rw [List.contains_cons,List.contains_cons]
  rfl
theorem cX_name:(Value.ref C::.ref CA::bmV).contains (.type "NameError")=false:=by
  rw [List.contains_cons,List.contains_cons]
  rfl
theorem pass_X (self:Value):refuseLoop self "__setattr__" (.ref C::.ref CA::bmV)=pure ():=by
  rw [refuseLoop_ref,refuseLoop_ref]
  exact PySem.F.store_ValueError.passes self
theorem ClsX.mk' {K:PySem.W.Frag} {f:Addr} (c:ClsX K C CA) (init:PySem.W.findIn K (.ref C) "__init__" = some (some (.ref f))) (fn:∃ o,K.lookup f=some o∧o.cls=.type "function") (kp:PySem.W.keepIn K (.ref C)=true):MkX K C f:=by
  obtain ⟨nm,q,N,bs,sn,sub,ab,col,dd,k0,k1,k2,k3,k5,lk⟩:=c.obj
  exact ⟨⟨nm,q,N,bs,_,_,sn,sub,ab,col,dd,k0,k1,k2,k3,k5,lk,cX_val,cX_attr,cX_name⟩,init,fn,kp⟩
end
def XAt (H:Hp) (e C dx:Addr):Prop:=H e=some (ExcD C e dx)∨H e=some (ExcT C e dx)
theorem XAt.get {P:Program} {w:World} {H:Hp} {h:Heap} {e C dx:Addr} (x:HOk P w H h) (he:XAt H e C dx):∃ vs,h.get? e=some (excObj C (some dx) vs):=by
  rcases he with he | he
  · obtain ⟨o,ho,a,rfl⟩:=ObP.get x he
    exact ⟨_,ho⟩
  · obtain ⟨o,ho,vs,rfl,_⟩:=ObP.get x he
    exact ⟨_,ho⟩
section
variable {X:Cx} {pins:List (Addr × Obj)} {σ:St} {H:Hp} {s:Shared} {h':Heap} {e dx:Addr} {φ:Heap→Prop} {o1 o2:HO}
theorem Inv.ext2 {t':Nat} (I:Inv X pins σ H s) (he:H e=some (.ext φ)) (hp:s.heap.objs.size≤dx) (k:∀ b u,b ≠ e→s.heap.get? b=some u→h'.get? b=some u) (heo:∃ u,h'.get? e=some u)
    (n1:ObjOk X.prog X.w (upd (upd H dx o1) e o2) h' dx o1) (n2:ObjOk X.prog X.w (upd (upd H dx o1) e o2) h' e o2):Inv X pins σ (upd (upd H dx o1) e o2) { s with heap:=h',toks:=t' }:=by
  have hdn:H dx=none:=I.hok.fresh hp
  have ne:∀ b u,H b=some u→(∀ ψ,u ≠ .ext ψ)→b ≠ e∧b ≠ dx:=fun b u hb hu=>⟨fun z=>by rw [z,he] at hb; cases hb; exact hu _ rfl,ne_of_none hb hdn⟩
  have old:∀ b,b ≠ e→b ≠ dx→upd (upd H dx o1) e o2 b=H b:=fun b h1 h2=>by rw [upd_ne h1,upd_ne h2]
  have fr:∀ b u,s.heap.get? b=some u→b ≠ dx:=fun b u q=>Nat.ne_of_lt (Nat.lt_of_lt_of_le (Heap.lt_size q) hp)
  have nn:∀ b,H b=none→b ≠ e:=fun b n z=>by rw [z,he] at n; cases n
  refine I.un ⟨fun b u q n _ _=>k b u (nn b n) q,fun b u q n _ _=>⟨u.slots,k b u (nn b n) q⟩,fun b u q n _=>?_,fun b u q _=>?_,fun b xs q=>?_,fun b u xs q=>?_,fun b ps q=>⟨#[],?_⟩⟩ fun b u q=>?_
  · rw [old b (nn b n) (fr b u q)]
    exact n
  · by_cases hb:b=e
    · rw [hb]; exact heo
    · exact ⟨u,k b u hb q⟩
  · obtain ⟨h1,h2⟩:=ne b _ q (fun ψ z=>by cases z)
    rw [old b h1 h2]
    exact q
  · obtain ⟨h1,h2⟩:=ne b _ q (fun ψ z=>by cases z)
    rw [old b h1 h2]
    exact q
  · obtain ⟨h1,h2⟩:=ne b _ q (fun ψ z=>by cases z)
    rw [old b h1 h2,q]
    simp
  · by_cases hb:b=e
    · subst hb
      rw [upd_same] at q
      cases q
      exact n2
    · by_cases hb2:b=dx
      · subst hb2
        rw [upd_ne hb,upd_same] at q
        cases q
        exact n1
      · rw [old b hb hb2] at q
        refine (I.hok b u q).stay (fun c v hc r=>k c v ?_ r) (fun c r=>?_) fun c xs r=>?_
        · rcases hc with rfl | hc
          · exact hb
          · exact (ne c _ hc (fun ψ z=>by cases z)).1
        · obtain ⟨h1,h2⟩:=ne c _ r (fun ψ z=>by cases z)
          rw [old c h1 h2]
          exact r
        · obtain ⟨h1,h2⟩:=ne c _ r (fun ψ z=>by cases z)
          rw [old c h1 h2]
          exact r
end
section
variable {X:Cx} {o e value:Expr} {f:Str} {pos pos' tpos:Pos} {ta tv:TE}
theorem ps_fldX (ha:PE X o ta) (hv:PE X value tv) (hs:swapsWith value (some (.Attribute o f pos')) pos.line X.env=pure false) :
    PS X (.Assign [.Attribute o f pos'] value pos) (fun D σ H=>tv σ H fun y H1=>ta σ H1 fun x H2=>∃ e C CA,x=.ref e∧H2 e=some (ExcN C e)∧ClsX X.K C CA∧NoAttr X.K C f∧∀ dx,H2 dx=none→dx ≠ e→D.nx σ (upd (upd H2 dx (.xd [(f,y)])) e (ExcD C e dx))):=by
  intro pins s σ H D I h
  refine plainObj_wpAny_Assign_Attribute (thn (hv pins s σ H _ I h) fun u s1 ⟨y,H1,I1,ry,q⟩=>thn (ha pins s1 σ H1 _ I1 q) fun ov s2 ⟨x,H2,I2,rx,e,C,CA,ex,he,c,n,q2⟩=>?_) hs
  subst ex
  obtain rfl:ov=Value.ref e:=rx
  obtain ⟨nm,qn,N,bs,sn,sub,ab,col,dd,k0,k1,k2,k3,k5,lk⟩:=c.obj
  obtain ⟨ob,ho,a,rfl⟩:=ObP.get I2.hok he
  obtain ⟨hh,g,d,tk,os⟩:=s2
  refine store_attrX PySem.F.store_ValueError cX_obj (pass_X _) (I2.kIn _ _ lk) (PySem.W.looks_findIn I2.kIn c.set) (PySem.W.looks_findIn I2.kIn n) ho rfl rfl (fun _ z=>by cases z) fun h' tk' i1 i2 i3=>?_
  have hd:H2 hh.objs.size=none:=I2.hok.fresh (Nat.le_refl _)
  have hde:hh.objs.size ≠ e:=fun z=>by rw [z,he] at hd; cases hd
  refine ⟨σ,_,I2.ext2 (t':=tk') (dx:=hh.objs.size) (e:=e) (o1:=.xd [(f,y)]) (o2:=ExcD C e hh.objs.size) he (Nat.le_refl _) (fun b u hb q=>i3 b u hb q) ⟨_,i1⟩ ⟨_,i2,fun z=>?_⟩ (ObP.ok i1 ⟨a,rfl⟩),q2 _ hd hde⟩
  by_cases hz:z=f
  · subst hz
    rw [if_pos rfl,show ([(z,y)]:List (Str × V)).lookup z=some y by simp [List.lookup]]
    exact ry
  · rw [if_neg hz]
    have:([(f,y)]:List (Str × V)).lookup z=none:=by
      have hb:(z == f)=false:=beq_eq_false_iff_ne.mpr hz
      simp only [List.lookup,hb]
    rw [this]
    trivial
theorem pe_fldX (he:PE X e ta) (hb:attributeBase e f X.env (eval e X.env)=eval e X.env):PE X (.Attribute e f pos) (fun σ H Q=>ta σ H fun x H1=>∃ a C CA dx fs v,x=.ref a∧XAt H1 a C dx∧H1 dx=some (.xd fs)∧fs.lookup f=some v∧ClsX X.K C CA∧NoAttr X.K C f∧Q v H1):=by
  intro pins s σ H Q I h
  refine attr_of hb (thn (he pins s σ H _ I h) fun u s1 ⟨x,H1,I1,rx,a,C,CA,dx,fs,v,ex,ea,ed,l,c,n,q⟩=>?_)
  subst ex
  obtain rfl:u=Value.ref a:=rx
  obtain ⟨nm,qn,N,bs,sn,sub,ab,col,dd,k0,k1,k2,k3,k5,lk⟩:=c.obj
  obtain ⟨vs,ho⟩:=XAt.get I1.hok ea
  obtain ⟨mA,hn,r⟩:=I1.hok dx _ ed
  obtain ⟨u,hu,ru⟩:=RelO.some_of (v:=v) (o:=mA f) (by rw [← l]; exact r f)
  obtain ⟨hh,g,d,tk,os⟩:=s1
  unfold getAttr
  refine wpAny_bind (wpAny_mkText ?_)
  exact load_byX (I1.kIn _ _ lk) cX_base (PySem.W.looks_findIn I1.kIn c.ga) (PySem.W.looks_findIn I1.kIn c.gt) (PySem.W.looks_findIn I1.kIn n) ho rfl rfl (fun _ z=>by cases z) hn.ns hu (handed_of ru) ⟨v,H1,I1.tok _,ru,q⟩
end
end L2
namespace L2
open PySem PySem.Spec PyProof.Rows
section
variable {X:Cx}
def rIsiX (K:PySem.W.Frag):List V→Hp→VK→Prop:=fun xs H Q=>∃ e C CA dx c b,xs=[.ref e,c]∧XAt H e C dx∧ClsX K C CA ∧
  ((∃ D,c=.ref D∧PySem.W.kitOne K (.ref C) (.ref D)=some b)∨(∃ T,c=.ty T∧PySem.W.kitOne K (.ref C) (.type T)=some b)∨∃ (tp:Addr) (Ds:List Addr),c=.ref tp∧H tp=some (.tup (Ds.map V.ref))∧PySem.W.kitAny K (.ref C) (Ds.map Value.ref)=some b)∧Q (.bl b) H
end
end L2
namespace L2
open PySem PySem.Spec PyProof.Rows
section
variable {X:Cx}
def FmV (v:V) (y:Str):Prop:=(∃ i:Int,v=.int i∧i.natAbs.log2 < 1920∧y=toString i)∨v=.str y∨(v=.non∧y = "None")
theorem pe_fmtV {e:Expr} {te:TE} {pos:Pos} (he:PE X e te):PE X (.FormattedValue e (-1) none pos) (fun σ H Q=>te σ H fun v H1=>∃ y,FmV v y∧y.length≤sizeLine∧Q (.str y) H1):=by
  intro pins s σ H Q I h
  refine FormattedValue_plain (thn (he pins s σ H _ I h) fun v s1 ⟨x,H1,I1,r1,y,ex,hz,q⟩=>?_)
  rcases ex with ⟨i,rfl,hl,rfl⟩ | rfl | ⟨rfl,rfl⟩
  · obtain ⟨t',rfl⟩:=r1
    exact formatField_int_small hl ⟨.str (toString i),H1,I1.tok _,⟨_,rfl⟩,q⟩
  · obtain ⟨t',rfl⟩:=r1
    exact formatField_str (fun t'' tk=>⟨.str y,H1,I1.tok _,⟨_,rfl⟩,q⟩) hz
  · obtain rfl:v=Value.none:=r1
    exact PySem.wpAny_formatField_none ⟨.str "None", H1,I1.tok _,⟨_,rfl⟩,q⟩
end
structure FunD (K:PySem.W.Frag) (x qual:Str) (st:Stmt) (f:Addr) (fd:FuncData) (dV:Value):Prop where
  ex:∃ (oc:Value) (od:Option Addr) (kV doc pm:Value) (an:Option Addr) (cdv ct:Value) (osl:Array (Option Value)),
    fd=PySem.W.fnOf x qual (defArgs st) (defBody st) (defScope st) dV kV doc pm an cdv ct∧K.lookup f=some ⟨oc,od,.func fd,osl⟩∧PySem.W.codeIn K cdv qual=true
  kp:PySem.W.keepIn K (.ref f)=true
section
variable {P:Program} {w:World} {K:PySem.W.Frag} {mg:Str→Option Value} {base:Heap} {dV:Value}
theorem FunD.ok {x qual:Str} {st:Stmt} {f:Addr} {fd:FuncData} {N ps:List Str} {k:Nat} {sp:Sp} (F:FunD K x qual st f fd dV) (S:FnScope N ps (defScope st)) (len:∀ vs H Q E,sp vs H Q E→vs.length=ps.length)
    (hbody:∀ (cdv:Value) (A:Around) (outer:List Env) (s:Shared) (H:Hp) (vs:List V) (Q:VK) (E:XK),Room k (A.deeper (envOfC qual (defScope st) s.heap.objs.size f cdv))→sp vs H Q E →
      ∃ t,PSs (cxOf CX0 P w K mg base N qual (defScope st) f cdv A outer s H E).nox (defBody st) t∧t { nx:=fun _ H'=>Q .non H',rt:=Q } (start N vs) H):FnOk P w K mg base CX0 (k+1) f fd ps sp:=by
  obtain ⟨oc,od,kV,doc,pm,an,cdv,ct,osl,rfl,lk,hcd⟩:=F.ex
  refine fn_of lk hcd S len fun A outer s H vs Q E hr hsp=>?_
  obtain ⟨t,h,q⟩:=hbody cdv A outer s H vs Q E hr hsp
  exact ⟨t,h.nox,q⟩
theorem funD_mk {x qual:Str} {st:Stmt} {f:Addr} {oc:Value} {od an:Option Addr} {osl:Array (Option Value)} {kV doc pm cdv ct:Value} (l:K.lookup f=some ⟨oc,od,.func (PySem.W.fnOf x qual (defArgs st) (defBody st) (defScope st) dV kV doc pm an cdv ct),osl⟩)
    (c:PySem.W.codeIn K cdv qual=true) (k:PySem.W.keepIn K (.ref f)=true):FunD K x qual st f (PySem.W.fnOf x qual (defArgs st) (defBody st) (defScope st) dV kV doc pm an cdv ct) dV:=⟨⟨oc,od,kV,doc,pm,an,cdv,ct,osl,rfl,l,c⟩,k⟩
theorem Fun.toD {x qual:Str} {st:Stmt} {f:Addr} {fd:FuncData} (F:Fun K x qual st f fd):FunD K x qual st f fd .none:=⟨F.ex,F.kp⟩
end
section
variable {K:PySem.W.Frag} {C D CA:Addr}
end
def Ex (H:Hp) (e C:Addr) (f:Str) (v:V):Prop:=∃ dx,H e=some (ExcD C e dx)∧H dx=some (.xd [(f,v)])
end L2
namespace L2
open PySem PySem.Spec PyProof.Rows
def Fly (h:Heap) (e C dx:Addr):Prop:=∃ vs,h.get? e=some (excObj C (some dx) vs)∧vs.size=6∧(vs[1]?=some .none∨∃ T oT ts,vs[1]?=some (.ref T)∧T ≠ e∧h.get? T=some oT∧oT.data=.fields ts∧ts[3]?=some .none)
structure Lft (fs:List Addr) (e:Addr) (h h':Heap):Prop where
  keep:∀ b o,h.get? b=some o→b ∉ fs→b ≠ e→h'.get? b=some o
  slot:∀ b o,h.get? b=some o→b ≠ e→∃ sl,h'.get? b=some { o with slots:=sl }
section
variable {M:Model} {A:Around} {E:Value→Shared→Prop} {s:Shared}
theorem newEntryX {base:Heap} {env:Env} {outer:List Env} {L e C dx:Addr} {vs:Array Value} {head:Value} {hadNext:Bool} {Q:Unit→Shared→Prop}
    (hfr:A.frames=some (env::outer)) (hl:s.heap.FunFrames base (env::outer)) (hf:env.frame=some L)
    (he:s.heap.get? e=some (excObj C (some dx) vs)) (hsz:vs.size=6)
    (h:∀ h',Lft ((env::outer).filterMap (·.frame)) e s.heap h'→Fly h' e C dx→Q () { s with heap:=h' }) :
    wpAny M A (do let a ← frameOf env; let pl ← entryPlaceOf L hadNext; let b ← EntryCells.newEntry head a .none (rawInt L) .none pl; setField (.ref e) 1 b) (fun _ s'=>wpAny M A (setFlight (.ref e) none) Q E s') E s:=by
  have hd:(excObj C (some dx) vs).data=.fields vs:=rfl
  have hs1:1 < vs.size:=by omega
  have hene:e ∉ (env::outer).filterMap (·.frame):=fun hm=>by
    obtain ⟨_,o,ho,hnf⟩:=hl.mem hm
    rw [he] at ho; injection ho with ho; subst ho; exact hnf vs hd
  refine wpAny_bind (wpAny_frameOf_fun hfr hl hf fun h₁ hs₁=>?_)
  refine wpAny_bind (wpAny_entryPlaceOf fun pl hpl=>?_)
  unfold EntryCells.newEntry newFields
  refine wpAny_bind (wpAny_newObj_type ?_ (hpl.sizeOk5 _ _ _ _ _))
  have he₁:h₁.get? e=some (excObj C (some dx) vs):=(hs₁.2.1 e hene).trans he
  have he₂:=Heap.get?_push_of_some (h:=h₁) { cls:=.type "traceback", dict:=none,data:=.fields ([head,.ref L,.none,rawInt L,.none]++(if pl.isEmpty then List.replicate 6 Value.none else pl)).toArray } he₁
  refine wpAny_setField he₂ hd hs1 ?_
  have hTe:h₁.objs.size ≠ e:=Nat.ne_of_gt (Heap.lt_size he₁)
  have hd₃:=Obj.data_mapFields hd (·.setIfInBounds 1 (Value.ref h₁.objs.size))
  have he₃:=Heap.get?_update_self (Obj.mapFields (·.setIfInBounds 1 (Value.ref h₁.objs.size))) he₂ (Obj.isFreed_of_fields hd₃)
  have hT₃:=(Heap.get?_update_other (h₁.push { cls:=.type "traceback", dict:=none,data:=.fields ([head,.ref L,.none,rawInt L,.none]++(if pl.isEmpty then List.replicate 6 Value.none else pl)).toArray })
    (Obj.mapFields (·.setIfInBounds 1 (Value.ref h₁.objs.size))) (Ne.symm hTe)).trans (Heap.get?_push_size h₁ rfl)
  unfold setFlight
  refine wpAny_bind (wpAny_field he₃ hd₃ (x:=.ref h₁.objs.size) (by simp [hs1]) ?_)
  rw [if_pos (show (Value.ref h₁.objs.size != Value.none)=true from by simp)]
  refine wpAny_setField hT₃ rfl (by simp only [List.size_toArray,List.length_append,List.length_cons,List.length_nil] <;> omega) ?_
  have keep:∀ b o,b ≠ e→h₁.get? b=some o →
      (((h₁.push { cls:=.type "traceback", dict:=none,data:=.fields ([head,.ref L,.none,rawInt L,.none]++(if pl.isEmpty then List.replicate 6 Value.none else pl)).toArray }).update e (Obj.mapFields (·.setIfInBounds 1 (Value.ref h₁.objs.size)))).update h₁.objs.size
        (Obj.mapFields (·.setIfInBounds 3 ((none:Option Addr).elim Value.none fun f=>rawInt f)))).get? b=some o:=fun b o hbe hb=>by
    have hbT:h₁.objs.size ≠ b:=Nat.ne_of_gt (Heap.lt_size hb)
    rw [Heap.get?_update_other _ _ hbT,Heap.get?_update_other _ _ (Ne.symm hbe)]
    exact Heap.get?_push_of_some _ hb
  refine h _ ⟨fun b o hb hn hbe=>keep b o hbe ((hs₁.2.1 b hn).trans hb),fun b o hb hbe=>?_⟩ ⟨vs.setIfInBounds 1 (.ref h₁.objs.size),?_,?_,.inr ⟨h₁.objs.size,_,_,?_,hTe,Heap.get?_update_self _ hT₃ (Obj.isFreed_of_fields (Obj.data_mapFields rfl _)),Obj.data_mapFields rfl _,?_⟩⟩
  · obtain ⟨sl,hs⟩:=hs₁.2.2 b o hb
    exact ⟨sl,keep b _ hbe hs⟩
  · rw [Heap.get?_update_other _ _ hTe]
    exact he₃
  · simp [hsz]
  · simp [hs1]
  · first | (simp; done) | (rcases hpl with rfl | ⟨_,_,_,_,_,_,_,rfl⟩ <;> simp)
theorem set_same {ts:Array Value} {i:Nat} {v:Value} (h:ts[i]?=some v):ts.setIfInBounds i v=ts:=by
  obtain ⟨hi,e⟩:=Array.getElem?_eq_some_iff.mp h
  refine Array.ext (by simp) fun j h1 h2=>?_
  rw [Array.getElem_setIfInBounds]
  · by_cases hj:i=j
    · subst hj
      rw [if_pos rfl,← e]
    · rw [if_neg hj]
theorem note_run {base:Heap} {env:Env} {outer:List Env} {L e C dx:Addr} {Q:Unit→Shared→Prop}
    (hfr:A.frames=some (env::outer)) (hl:s.heap.FunFrames base (env::outer)) (hf:env.frame=some L) (he:Fly s.heap e C dx)
    (h:∀ h',Lft ((env::outer).filterMap (·.frame)) e s.heap h'→Fly h' e C dx→Q () { s with heap:=h' }) :
    wpAny M A (noteFrame (.ref e) env) (fun _ s'=>wpAny M A (setFlight (.ref e) none) Q E s') E s:=by
  obtain ⟨vs,he,hz,hv⟩:=he
  have hd:(excObj C (some dx) vs).data=.fields vs:=rfl
  unfold noteFrame
  simp only [hf]
  rcases hv with h1 | ⟨T,oT,ts,h1,hTe,hT,hdT,h3⟩
  · refine wpAny_bind (wpAny_field he hd h1 ?_)
    rw [if_neg (by decide)]
    exact newEntryX hfr hl hf he hz h
  · refine wpAny_bind (wpAny_field he hd h1 ?_)
    rw [if_pos (show (Value.ref T != Value.none)=true from by simp)]
    refine wpAny_bind (wpAny_field hT hdT h3 ?_)
    rw [if_neg (show ¬ ((Value.none == rawInt L)=true) from by simp [rawInt])]
    refine wpAny_bind (wpAny_setField hT hdT (Array.getElem?_eq_some_iff.mp h3).1 ?_)
    have id:∀ b o,s.heap.get? b=some o→(s.heap.update T (Obj.mapFields (·.setIfInBounds 3 Value.none))).get? b=some o:=fun b o hb=>by
      by_cases hbT:b=T
      · subst hbT
        rw [hT] at hb
        cases hb
        have hm:Obj.mapFields (·.setIfInBounds 3 Value.none) oT=oT:=by
          obtain ⟨c,d,dt,sl⟩:=oT
          cases hdT
          show ({ cls:=c,dict:=d,data:=.fields (ts.setIfInBounds 3 Value.none),slots:=sl }:Obj)=_
          rw [set_same h3]
        have:=Heap.get?_update_self (Obj.mapFields (·.setIfInBounds 3 Value.none)) hT (by rw [hm]; exact (Heap.get?_some_iff.mp hT).2)
        rw [this,hm]
      · rw [Heap.get?_update_other _ _ (Ne.symm hbT)]
        exact hb
    refine newEntryX (s:={ s with heap:=_ }) hfr (hl.of_keeps fun b o hb _=>⟨o,id b o hb,rfl⟩) hf (id _ _ he) hz fun h' x1 x2=>h h' ⟨fun b o hb hn hbe=>x1.keep b o (id b o hb) hn hbe,fun b o hb hbe=>x1.slot b o (id b o hb) hbe⟩ x2
theorem leave_run {base:Heap} {env:Env} {outer:List Env} {L e C dx:Addr} {Q:Unit→Shared→Prop}
    (hfr:A.frames=some (env::outer)) (hl:s.heap.FunFrames base (env::outer)) (hf:env.frame=some L) (he:Fly s.heap e C dx)
    (h:∀ h',Lft ((env::outer).filterMap (·.frame)) e s.heap h'→Fly h' e C dx→Q () { s with heap:=h' }):wpAny M A (leaving env (.ref e)) Q E s:=by
  unfold leaving
  exact wpAny_bind (note_run hfr hl hf he h)
theorem flight_run {e C dx:Addr} {Q:Unit→Shared→Prop} (he:Fly s.heap e C dx) (h:∀ h',(∀ b o,s.heap.get? b=some o→h'.get? b=some o)→Q () { s with heap:=h' }):wpAny M A (setFlight (.ref e) none) Q E s:=by
  obtain ⟨vs,he,hz,hv⟩:=he
  have hd:(excObj C (some dx) vs).data=.fields vs:=rfl
  unfold setFlight
  rcases hv with h1 | ⟨T,oT,ts,h1,hTe,hT,hdT,h3⟩
  · refine wpAny_bind (wpAny_field he hd h1 ?_)
    rw [if_neg (by decide)]
    exact wpAny_pure (h s.heap fun _ _ q=>q)
  · refine wpAny_bind (wpAny_field he hd h1 ?_)
    rw [if_pos (show (Value.ref T != Value.none)=true from by simp)]
    refine wpAny_setField hT hdT (Array.getElem?_eq_some_iff.mp h3).1 (h _ fun b o hb=>?_)
    show (s.heap.update T (Obj.mapFields (·.setIfInBounds 3 Value.none))).get? b=some o
    by_cases hbT:b=T
    · subst hbT
      rw [hT] at hb
      cases hb
      have hm:Obj.mapFields (·.setIfInBounds 3 Value.none) oT=oT:=by
        obtain ⟨c,d,dt,sl⟩:=oT
        cases hdT
        show ({ cls:=c,dict:=d,data:=.fields (ts.setIfInBounds 3 Value.none),slots:=sl }:Obj)=_
        rw [set_same h3]
      have:=Heap.get?_update_self (Obj.mapFields (·.setIfInBounds 3 Value.none)) hT (by rw [hm]; exact (Heap.get?_some_iff.mp hT).2)
      rw [this,hm]
    · rw [Heap.get?_update_other _ _ (Ne.symm hbT)]
      exact hb
end
end L2
namespace L2
open PySem PySem.Spec PyProof.Rows
section
variable {P:Program} {w:World} {H:Hp} {h h':Heap} {fs:List Addr} {e C dx:Addr} {φ:Heap→Prop}
theorem Fly.ofD (x:HOk P w H h) (he:H e=some (ExcD C e dx)):Fly h e C dx:=by
  obtain ⟨o,ho,a,rfl⟩:=ObP.get x he
  exact ⟨_,ho,rfl,.inl rfl⟩
theorem lft_un (l:Lft fs e h h') (he:H e=some (.ext φ)) (fl:Fly h' e C dx):Un fs [] H (upd H e (ExcT C e dx)) h h':=by
  have nn:∀ b,H b=none→b ≠ e:=fun b n z=>by rw [z,he] at n; cases n
  have ne:∀ b u,H b=some u→(∀ ψ,u ≠ .ext ψ)→b ≠ e:=fun b u hb hu z=>by rw [z,he] at hb; cases hb; exact hu _ rfl
  refine ⟨fun b o q n hb _=>l.keep b o q hb (nn b n),fun b o q n _ _=>l.slot b o q (nn b n),fun b o _ n _=>by rw [upd_ne (nn b n)]; exact n,fun b o q _=>?_,fun b xs q=>?_,fun b o u q=>?_,fun b ps q=>⟨#[],?_⟩⟩
  · by_cases hb:b=e
    · obtain ⟨vs,h1,_⟩:=fl
      exact ⟨_,by rw [hb]; exact h1⟩
    · obtain ⟨sl,h1⟩:=l.slot b o q hb
      exact ⟨_,h1⟩
  · rw [upd_ne (ne b _ q fun ψ z=>by cases z)]
    exact q
  · rw [upd_ne (ne b _ q fun ψ z=>by cases z)]
    exact q
  · rw [upd_ne (ne b _ q fun ψ z=>by cases z),q]
    simp
theorem lft_hok (x:HOk P w H h) (l:Lft fs e h h') (hfs:∀ b ∈ fs,H b=none) (he:H e=some (.ext φ)) (fl:Fly h' e C dx):HOk P w (upd H e (ExcT C e dx)) h':=by
  have ne:∀ b u,H b=some u→(∀ ψ,u ≠ .ext ψ)→b ≠ e:=fun b u hb hu z=>by rw [z,he] at hb; cases hb; exact hu _ rfl
  have nf:∀ b u,H b=some u→b ∉ fs:=fun b u hb z=>by rw [hfs b z] at hb; cases hb
  intro b u q
  by_cases hb:b=e
  · subst hb
    rw [upd_same] at q
    cases q
    obtain ⟨vs,h1,h2,_⟩:=fl
    exact ObP.ok h1 ⟨vs,rfl,h2⟩
  · rw [upd_ne hb] at q
    refine (x b u q).stay (fun c v hc r=>?_) (fun c r=>?_) fun c xs r=>?_
    · rcases hc with rfl | hc
      · exact l.keep _ _ r (nf _ _ q) hb
      · exact l.keep _ _ r (nf _ _ hc) (ne _ _ hc fun ψ z=>by cases z)
    · rw [upd_ne (ne _ _ r fun ψ z=>by cases z)]
      exact r
    · rw [upd_ne (ne _ _ r fun ψ z=>by cases z)]
      exact r
end
def CXr (P:Program) (w:World):CXT:=fun outer H s E e s'=>∃ e0 C dx H',e=.ref e0∧s'.os=s.os∧AllBare s'.gens∧Un (frs outer) [] H H' s.heap s'.heap∧HOk P w H' s'.heap∧H' e0=some (ExcT C e0 dx)∧Fly s'.heap e0 C dx∧E (.ref e0) (some dx) H'
section
variable {P:Program} {w:World} {K:PySem.W.Frag} {mg:Str→Option Value} {base:Heap} {N:List Str} {qual:Str} {scope:Scope} {f:Addr} {cd:Value} {A:Around} {outer:List Env} {s s1:Shared} {H H1:Hp} {E:XK} {pins:List (Addr × Obj)} {σ:St} {e C dx:Addr} {φ:Heap→Prop}
theorem xe_fly (I:Inv (cxOf (CXr P w) P w K mg base N qual scope f cd A outer s H E) pins σ H1 s1) (he:H1 e=some (.ext φ)) (fl:Fly s1.heap e C dx) (q:E (.ref e) (some dx) (upd H1 e (ExcT C e dx))) :
    (cxOf (CXr P w) P w K mg base N qual scope f cd A outer s H E).xe (.ref e) s1:=by
  show wpAny _ _ (leaving _ (.ref e)) _ _ s1
  refine leave_run (base:=base) I.ok.frames I.stack rfl fl fun h' l fl'=>?_
  have u1:=lft_un (H:=H1) l he fl'
  have k1:=lft_hok I.hok l I.stkFree he fl'
  have b0:Un (frs outer) [] H H1 s.heap s1.heap:=I.base
  have above:s.heap.objs.size≤(cxOf (CXr P w) P w K mg base N qual scope f cd A outer s H E).env.locals:=I.ok.above
  have sub:∀ b o,s.heap.get? b=some o→b ∉ frs outer→b ∉ frs (cxOf (CXr P w) P w K mg base N qual scope f cd A outer s H E).stack:=fun b o q hb z=>by
    rcases List.mem_cons.mp (I.stkSub b z) with z | z
    · have:=Heap.lt_size q
      rw [z] at this
      exact absurd above (Nat.not_le.mpr this)
    · exact hb z
  have u2:=(b0.mono (fs':=frs (cxOf (CXr P w) P w K mg base N qual scope f cd A outer s H E).stack) (ex':=[]) (fun b hb=>by
    show b ∈ List.filterMap _ (_::outer)
    rw [List.filterMap_cons]
    exact List.mem_cons_of_mem _ hb) fun _ z=>z).trans u1
  refine ⟨e,C,dx,_,rfl,I.os,I.bare,⟨fun b o q n hb hx=>u2.keep b o q n (sub b o q hb) hx,fun b o q n _ hx=>u2.any q n hx,u2.free,u2.there,u2.tups,u2.frzs,u2.tbls⟩,k1,upd_same,fl',q⟩
end
section
variable {X:Cx} {x:Expr} {te:TE} {pos:Pos}
end
end L2
namespace L2
open PySem PySem.Spec PyProof.Rows
theorem raise_objX2 {M:Model} {A:Around} {E:Value→Shared→Prop} {s:Shared} {env:Env} {K:PySem.W.Frag} {x:Sem Value} {Q:Flow→Shared→Prop} (hh:A.handled=none)
    (h:wpAny M A x (fun v s₁=>∃ e dx a C CA,v=.ref e∧ClsX K C CA∧K.In s₁.heap∧s₁.heap.get? e=some (excObj C (some dx) (vs6 a))∧E (.ref e) s₁) E s):wpAny M A (raiseStmt env (some x) none) Q E s:=by
  unfold raiseStmt
  refine wpAny_bind (wpAny_mono h (fun v s₁ h₁=>?_) fun _ _ x=>x)
  obtain ⟨e,dx,a,C,CA,rfl,c,KX,he,hE⟩:=h₁
  obtain ⟨nm,q,N,bs,sn,sub,ab,col,dd,k0,k1,k2,k3,k5,lk⟩:=c.obj
  have hcB:=cX_base (C:=C) (CA:=CA)
  have hC:=KX _ _ lk
  obtain ⟨hp,g,d,tk,os⟩:=s₁
  repeat (first | with_reducible refine wpAny_loadPart_at he ?_ | with_reducible refine wpAny_loadPart_at hC ?_ | (with_reducible refine wpAny_isSubtype_exc hC ?_; rw [hcB]) | wp_step)
  exact wpAny_raiseNew_none hh hE
section
variable {P:Program} {w:World} {K:PySem.W.Frag} {mg:Str→Option Value} {base:Heap} {N:List Str} {qual:Str} {scope:Scope} {f:Addr} {cd:Value} {A:Around} {outer:List Env} {s:Shared} {H:Hp} {E:XK}
theorem ps_raise {x:Expr} {te:TE} {pos:Pos} (he:PE (cxOf (CXr P w) P w K mg base N qual scope f cd A outer s H E) x te) :
    PS (cxOf (CXr P w) P w K mg base N qual scope f cd A outer s H E) (.Raise (some x) none pos) (fun _ σ H1=>te σ H1 fun v H2=>∃ e C CA dx,v=.ref e∧H2 e=some (ExcD C e dx)∧ClsX K C CA∧E (.ref e) (some dx) (upd H2 e (ExcT C e dx))):=by
  intro pins s1 σ H1 D I h
  rw [arm_exec_Raise]
  refine wpAny_bind (wpAny_standAt (raise_objX2 (K:=K) (I.ok.hd rfl) ?_))
  refine wpAny_bind (thn (he pins s1 σ H1 _ I h) fun u s2 ⟨v,H2,I2,r,e,C,CA,dx,ev,e2,c,q⟩=>wpAny_bind (wpAny_standAt (wpAny_pure ?_)))
  subst ev
  obtain rfl:u=Value.ref e:=r
  obtain ⟨o,ho,a,rfl⟩:=ObP.get I2.hok e2
  exact ⟨e,dx,a,C,CA,rfl,c,I2.kIn,ho,xe_fly I2 e2 (Fly.ofD I2.hok e2) q⟩
theorem passX:Passes (CXr P w) (cxOf (CXr P w) P w K mg base N qual scope f cd A outer s H E) E:=by
  rintro pins σ H1 s1 _ s2 I ⟨e0,C,dx,H',rfl,os,bare,un,hok,he,fl,q⟩
  have I2:=I.call' (ch:=[]) os un hok bare (fun b z=>absurd z (by simp))
  refine xe_fly I2 he fl ?_
  rw [upd_id he]
  exact q
end
section
variable {P:Program} {w:World} {K:PySem.W.Frag} {mg:Str→Option Value} {base:Heap} {dV:Value}
theorem FunD.okX {x qual:Str} {st:Stmt} {f:Addr} {fd:FuncData} {N ps:List Str} {k:Nat} {sp:Sp} (F:FunD K x qual st f fd dV) (S:FnScope N ps (defScope st)) (len:∀ vs H Q E,sp vs H Q E→vs.length=ps.length)
    (hbody:∀ (cdv:Value) (A:Around) (outer:List Env) (s:Shared) (H:Hp) (vs:List V) (Q:VK) (E:XK),Room k (A.deeper (envOfC qual (defScope st) s.heap.objs.size f cdv))→sp vs H Q E →
      ∃ t,PSs (cxOf (CXr P w) P w K mg base N qual (defScope st) f cdv A outer s H E) (defBody st) t∧t { nx:=fun _ H'=>Q .non H',rt:=Q } (start N vs) H):FnOk P w K mg base (CXr P w) (k+1) f fd ps sp:=by
  obtain ⟨oc,od,kV,doc,pm,an,cdv,ct,osl,rfl,lk,hcd⟩:=F.ex
  exact fn_of lk hcd S len fun A outer s H vs Q E hr hsp=>hbody cdv A outer s H vs Q E hr hsp
theorem Fun.okX {x qual:Str} {st:Stmt} {f:Addr} {fd:FuncData} {N ps:List Str} {k:Nat} {sp:Sp} (F:Fun K x qual st f fd) (S:FnScope N ps (defScope st)) (len:∀ vs H Q E,sp vs H Q E→vs.length=ps.length)
    (hbody:∀ (cdv:Value) (A:Around) (outer:List Env) (s:Shared) (H:Hp) (vs:List V) (Q:VK) (E:XK),Room k (A.deeper (envOfC qual (defScope st) s.heap.objs.size f cdv))→sp vs H Q E →
      ∃ t,PSs (cxOf (CXr P w) P w K mg base N qual (defScope st) f cdv A outer s H E) (defBody st) t∧t { nx:=fun _ H'=>Q .non H',rt:=Q } (start N vs) H):FnOk P w K mg base (CXr P w) (k+1) f fd ps sp:=F.toD.okX S len hbody
structure CalR (P:Program) (w:World) (K:PySem.W.Frag) (mg:Str→Option Value) (base:Heap) (n:Nat) (x:Str) (ps:List Str) (sp:Sp):Prop where
  ex:∃ (f:Addr) (fd:FuncData),FnOk P w K mg base (CXr P w) n f fd ps sp∧Binds K fd ps []∧PySem.W.keepIn K (.ref f)=true∧mg x=some (.ref f)
theorem CalR.of {n:Nat} {x qual:Str} {ps:List Str} {sp:Sp} {st:Stmt} {f:Addr} {fd:FuncData} (F:Fun K x qual st f fd) (O:FnOk P w K mg base (CXr P w) n f fd ps sp) (m:mg x=some (.ref f))
    (h:∀ (kV doc pm:Value) (an:Option Addr) (cdv ct:Value) (us:List Value),us.length=ps.length→bindArgs (PySem.W.fnOf x qual (defArgs st) (defBody st) (defScope st) .none kV doc pm an cdv ct) ⟨us,[]⟩=pure (ps.zip us)):CalR P w K mg base n x ps sp :=
  ⟨f,fd,O,F.binds h,F.kp,m⟩
theorem pe_calR {X:Cx} {n k:Nat} {x:Str} {ps:List Str} {sp:Sp} {e:Expr} {es:List Expr} {t:TA} {p pos:Pos} {E:XK} (C:CalR X.prog X.w X.K X.mg X.base n x ps sp) (hr:Room k X.A) (hk:n≤k) (hg:Gl X x) (hx:Passes (CXr X.prog X.w) X E)
    (ha:PA X (e::es) t) (hdb:(x == ("__debug__" : Str))=false:=by decide) (he:starEach (e::es) X.env=(false,eval e X.env)::starEach es X.env:=by rfl) (hpl:(backTo pos (starEach es X.env)).any (·.1)=false:=by rfl) :
    PE X (.Call (.Name x p) (e::es) [] pos) (tCall sp [] E t):=by
  obtain ⟨f,fd,F,b,kp,m⟩:=C.ex
  exact pe_call F (hr.mono hk) hg m kp b .nil hx ha hdb he hpl
end
end L2
namespace L2
open PySem PySem.Spec PyProof.Rows
section
variable {M:Model} {A:Around} {E:Value→Shared→Prop}
end
section
variable {prog:Program} {w:World} {A:Around} {s:Shared} {env:Env} {R:Result→Shared→Prop}
theorem handlers_named {e:Value} {n:Str} {b₀:Stmt} {body:List Stmt} {pos:Pos}
    (h:wpAny (model prog w) A (setFlight e none) (fun _ s1=>wpAny (model prog w) A (bindName env n e) (fun _ s2=>wpAny (model prog w) A (execs (b₀::body) env) (fun f s3=>R (.ok f) s3) (fun _ _=>False) s2) (fun _ _=>False) s1) (fun _ _=>False) s) :
    codeAny (model prog w) A (.handlers e [.ExceptHandler none (some n) (b₀::body) pos] env) R s:=by
  refine codeAny_of_tree ?_
  show wpAny _ A (do return Fin.done (← (handleWith e env [.ExceptHandler none (some n) (b₀::body) pos]).onRaise (fun x=>do noteFrame x env; theTreesLotGoes x))) _ _ s
  refine wpAny_bind (wpAny_noted ?_)
  unfold handleWith
  exact wpAny_bind (wpAny_standAt (wpAny_bind (wpAny_mono h (fun _ s₁ h₁=>wpAny_bind (wpAny_mono h₁ (fun _ s2 h2=>wpAny_bind (wpAny_attempt (wpAny_mono h2 (fun f s3 h3=>wpAny_pure (wpAny_pure h3)) fun _ _ z=>z.elim))) fun _ _ z=>z.elim)) fun _ _ z=>z.elim)))
end
abbrev Cx.marked (X:Cx) (e:Addr):Cx:={ X with A:=X.A.mark (some (.ref e)),calm:=false,xe:=fun _ _=>False }
section
variable {X:Cx} {pins:List (Addr × Obj)} {σ:St} {H:Hp} {s:Shared} {e:Addr}
theorem Inv.marked (I:Inv X pins σ H s):Inv (X.marked e) pins σ H s :=
  ⟨⟨I.ok.mod,I.ok.kind,I.ok.glob,I.ok.blt,I.ok.above,I.ok.inj,I.ok.has,I.ok.cab,(fun z=>by cases z),I.ok.frames,I.ok.stk,I.ok.exf,I.ok.bs,I.ok.bsz,I.ok.noex,I.ok.exfs,I.ok.funs,I.ok.frf⟩,I.os,I.bare,I.base,I.loc,I.cell,I.free,I.freeC,I.pin,I.hok,I.len⟩
theorem Inv.unmarked (ok:X.Ok) (I:Inv (X.marked e) pins σ H s):Inv X pins σ H s:=⟨ok,I.os,I.bare,I.base,I.loc,I.cell,I.free,I.freeC,I.pin,I.hok,I.len⟩
theorem SP.unmarked {D:Ends} {f:Flow} {s':Shared} (ok:X.Ok) (h:SP (X.marked e) pins D f s'):SP X pins D f s':=by
  cases f with
  | next=>obtain ⟨σ',H',I,q⟩:=h; exact ⟨σ',H',I.unmarked ok,q⟩
  | brk=>obtain ⟨σ',H',I,q⟩:=h; exact ⟨σ',H',I.unmarked ok,q⟩
  | cont=>obtain ⟨σ',H',I,q⟩:=h; exact ⟨σ',H',I.unmarked ok,q⟩
  | ret u=>obtain ⟨v,σ',H',I,r,q⟩:=h; exact ⟨v,σ',H',I.unmarked ok,r,q⟩
theorem del_ok {M:Model} {A:Around} {E:Value→Shared→Prop} {i:Nat} {x:Str} {v:V} {pos:Pos} {Q:Unit→Shared→Prop} (I:Inv X pins σ H s) (hN:X.N.Nodup) (hi:X.N[i]?=some x) (hk:X.env.kindOf x=some .local) (hv:σ[i]?=some (some v))
    (h:∀ s',Inv X pins (σ.set i none) H s'→Q () s'):wpAny M A (unbindBehindTheSuite X.env x pos) Q E s:=by
  obtain ⟨m,hn,hl⟩:=id I.loc
  have hcls:(X.env.scope.kind == .class || (X.env.scope.kind == .module && X.env.locals != X.env.globals))=false:=by rw [I.ok.kind]; rfl
  have hiσ:i < σ.length:=by rw [I.len]; exact (List.getElem?_eq_some_iff.mp hi).1
  have cne:=I.cne
  obtain ⟨u0,_,lk⟩:=hl i x v hi hv (.inl hk)
  have hm:(m x).isSome=true:=by
    rcases lk with ⟨_,q⟩ | ⟨q,_⟩
    · rw [q]; rfl
    · rcases q with q | q <;> (rw [hk] at q; cases q)
  unfold unbindBehindTheSuite unbindName deleteName
  refine wpAny_onRaise (wpAny_bind (wpAny_point (wpAny_bind ?_)))
  simp only [hk,hcls,Bool.false_eq_true,if_false]
  refine wpAny_bind (wpAny_nsDel_keeps hn fun h' v' hn' hs=>?_)
  rw [hm]
  refine wpAny_pure (wpAny_point ?_)
  obtain ⟨oL,_,_,hoL,_⟩:=id hn
  refine h _ ⟨I.ok,I.os,I.bare,⟨fun b o e n hb hx=>?_,fun b o e n hb hx=>?_,I.base.free,fun b o e hx=>?_,I.base.tups,I.base.frzs,I.base.tbls⟩,⟨_,hn',fun j y v' e1 e2 e3=>?_⟩,fun y c e=>?_,I.free,I.freeC,fun p hp=>?_,fun b ob e=>?_,by simpa using I.len⟩
  · exact (hs.2 b (Nat.ne_of_lt (Nat.lt_of_lt_of_le (Heap.lt_size e) I.ok.above))).trans (I.base.keep b o e n hb hx)
  · obtain ⟨sl,e1⟩:=I.base.slot b o e n hb hx
    exact ⟨sl,(hs.2 b (Nat.ne_of_lt (Nat.lt_of_lt_of_le (Heap.lt_size e) I.ok.above))).trans e1⟩
  · obtain ⟨o',e1⟩:=I.base.there b o e hx
    exact ⟨o',(hs.2 b (Nat.ne_of_lt (Nat.lt_of_lt_of_le (Heap.lt_size e) I.ok.above))).trans e1⟩
  · by_cases hj:j=i
    · subst hj
      rw [List.getElem?_set_self hiσ] at e2
      cases e2
    · rw [List.getElem?_set_ne (Ne.symm hj)] at e2
      obtain ⟨u',r',q⟩:=hl j y v' e1 e2 e3
      refine ⟨u',r',?_⟩
      rcases q with ⟨k,e⟩ | ⟨k,c,e,z⟩
      · refine .inl ⟨k,?_⟩
        have:y ≠ x:=fun e=>hj (nodup_ix hN e1 (e ▸ hi))
        simp [this,e]
      · exact .inr ⟨k,c,e,z.sameBut hs (cne y c e)⟩
  · obtain ⟨w',z⟩:=I.cell y c e
    exact ⟨w',z.sameBut hs (cne y c e)⟩
  · obtain ⟨e,n,ne,nf,d⟩:=I.pin p hp
    exact ⟨(hs.2 p.1 ne).trans e,n,ne,nf,d⟩
  · refine (I.hok b ob e).stay (fun c w' hc q=>(hs.2 c ?_).trans q) (fun _ q=>q) fun _ _ q=>q
    rintro rfl
    rcases hc with rfl | hc
    · rw [I.free] at e; cases e
    · rw [I.free] at hc; cases hc
end
end L2
namespace L2
open PySem PySem.Spec PyProof.Rows
def PSw (X:Cx) (EE:Ends→St→XK) (st:List Stmt) (t:TS):Prop :=
  ∀ (W:Value→Shared→Prop) (pins:List (Addr × Obj)) (s:Shared) (σ:St) (H:Hp) (D:Ends),(∀ H1 s1 ev s2,Inv X pins σ H1 s1→CXr X.prog X.w X.stack H1 s1 (EE D σ) ev s2→W ev s2)→Inv X pins σ H s→t D σ H →
    wpAny (model X.prog X.w) X.A (execs st X.env) (SP X pins D) W s
section
variable {X:Cx} {EE:Ends→St→XK} {n k:Nat} {x:Str} {ps:List Str} {sp:Sp} {e:Expr} {es:List Expr} {ta:TA} {p pos:Pos}
theorem callW {W:Value→Shared→Prop} {E:XK} {pins:List (Addr × Obj)} {s:Shared} {σ:St} {H:Hp} {Q:VK} (C:CalR X.prog X.w X.K X.mg X.base n x ps sp) (hr:Room k X.A) (hk:n≤k) (hg:Gl X x) (ha:PA (X.wish W) (e::es) ta)
    (hW:∀ H1 s1 ev s2,Inv X pins σ H1 s1→CXr X.prog X.w X.stack H1 s1 E ev s2→W ev s2) (I:Inv X pins σ H s) (h:tCall sp [] E ta σ H Q)
    (hdb:(x == ("__debug__" : Str))=false:=by decide) (he:starEach (e::es) X.env=(false,eval e X.env)::starEach es X.env:=by rfl) (hpl:(backTo pos (starEach es X.env)).any (·.1)=false:=by rfl) :
    wpAny (model X.prog X.w) X.A (eval (.Call (.Name x p) (e::es) [] pos) X.env) (EP X pins σ Q) W s:=by
  obtain ⟨f,fd,F,b,kp,m⟩:=C.ex
  refine wpAny_Call_Name_kw (ld_glob I hg m ?_ hdb)
  refine PySem.W.callWith_K (h₀:=X.base) I.ok.mod.kin kp (thn (ha pos pins s σ H _ (I.wish W) h) fun us s1 ⟨vs,H1,I1,r,q⟩=>⟨I1.kIn,?_⟩) he hpl
  have I1':=I1.unwish
  have r2:Vals (vs++[]) (us++[]):=r.append .nil
  have hl:(us++[]).length=ps.length:=by rw [← r2.length]; exact F.len _ _ _ _ q
  refine wpAny_call (codeAny_mono (F.run X.A X.stack s1 H1 ⟨us,[]⟩ (us++[]) (vs++[]) Q E (hr.mono hk) I1'.env0 (b s1 us I1'.kIn hl) r2 q) fun r s' hq=>?_)
  cases r with
  | error ev=>exact hW H1 s1 ev s' I1' hq
  | ok fl =>
    cases fl with
    | ret u=>exact I1'.after hq
    | next=>exact False.elim hq
    | brk=>exact False.elim hq
    | cont=>exact False.elim hq
theorem psw_set {i:Nat} {y:Str} {py p1:Pos} (hN:X.N.Nodup) (hi:X.N[i]?=some y) (hx:Loc X.env.scope y) (C:CalR X.prog X.w X.K X.mg X.base n x ps sp) (hr:Room k X.A) (hk:n≤k) (hg:Gl X x) (ha:∀ W,PA (X.wish W) (e::es) ta)
    (hs:swapsWith (.Call (.Name x p) (e::es) [] pos) (some (.Name y py)) p1.line X.env=pure false:=by rfl) (hf:X.fn y=true∨X.env.scope.names.lookup y=some .local:=by first | exact .inl rfl | exact .inr rfl | assumption)
    (hdb:(x == ("__debug__" : Str))=false:=by decide) (he:starEach (e::es) X.env=(false,eval e X.env)::starEach es X.env:=by rfl) (hpl:(backTo pos (starEach es X.env)).any (·.1)=false:=by rfl) :
    PSw X EE [.Assign [.Name y py] (.Call (.Name x p) (e::es) [] pos) p1] (fun D σ H=>tCall sp [] (EE D σ) ta σ H fun v H1=>D.nx (σ.set i (some v)) H1):=by
  intro W pins s σ H D hW I h
  refine wpAny_execs_cons (wpAny_Assign_Name (thn (callW C hr hk hg (ha W) hW I h hdb he hpl) fun v s1 ⟨z,H1,I1,r1,q1⟩=>?_) hs)
  exact store_ok I1 hN hi hx r1 (fun s2 I2=>wpAny_execs_nil ⟨_,H1,I2,q1⟩) hf
def Ends.un (D:Ends) (i:Nat):Ends:={ nx:=fun σ H=>D.nx (σ.set i none) H,rt:=D.rt,bk:=fun σ H=>D.bk (σ.set i none) H,ct:=fun σ H=>D.ct (σ.set i none) H }
def isBaseX (K:PySem.W.Frag) (CA:Addr):Prop:=∃ (nm q:Str) (N:Addr) (bs:List Value) (sn:List Str) (sub:List Value) (ab:Bool) (col:Option Bool) (dd:Option Addr) (k0 k1 k2 k3 k5:Option Value),K.lookup CA=some (excClassObj nm q CA N bs bmV true sn sub ab col dd k0 k1 k2 k3 k5 "ValueError.__new__")
end
end L2
namespace L2
open PySem PySem.Spec PyProof.Rows
section
variable {X:Cx} {e:Expr} {f:Str} {pos:Pos} {ta:TE}
theorem pe_fldXK (K:PySem.W.Frag) (he:PE X e ta) (hb:attributeBase e f X.env (eval e X.env)=eval e X.env) (hK:X.K=K:=by rfl) :
    PE X (.Attribute e f pos) (fun σ H Q=>ta σ H fun x H1=>∃ a C CA dx fs v,x=.ref a∧XAt H1 a C dx∧H1 dx=some (.xd fs)∧fs.lookup f=some v∧ClsX K C CA∧NoAttr K C f∧Q v H1):=by subst hK; exact pe_fldX he hb
end
end L2
namespace L2
open PySem PySem.Spec PyProof.Rows
def ItVT (K:PySem.W.Frag) (a:Addr) (xs:List V):It:=⟨fun i H=>SqT K H a xs∧i < xs.length,fun i H y H'=>H'=H∧xs.reverse[i]?=some y,fun i _=>xs.length≤i⟩
def ItVB (K:PySem.W.Frag) (c:Bool) (a:Addr) (xs:List V):It:=if c=true then ItV K a xs else ItVT K a xs
section
variable {X:Cx} {tg:Expr}
def iRevB (K:PySem.W.Frag) (tl:TE):TI:=fun σ H R=>tl σ H fun x H1=>∃ c a xs,x=.ref a∧SqB K c H1 a xs∧R (ItVB K c a xs) H1
end
end L2
namespace L2
open PySem PySem.Spec PyProof.Rows
set_option maxRecDepth 100000
section
variable {X:Cx}
def rRepT (K:PySem.W.Frag):R2:=fun x y H Q=>∃ a v k,x=.ref a∧y=.int k∧SqT K H a [v]∧0≤k∧k≤1000∧(k=1→Q (.ref a) H)∧(k ≠ 1→∀ p,H p=none→Q (.ref p) (upd H p (.tup (List.replicate k.toNat v))))
end
end L2
namespace L2
open PySem PySem.Spec PyProof.Rows
end L2
namespace L2
open PySem PySem.Spec PyProof.Rows
section
variable {M:Model} {A:Around} {E:Value→Shared→Prop}
theorem excMatches_same {K:PySem.W.Frag} {C CA:Addr} {s:Shared} {e:Addr} {oe:Obj} {Q:Bool→Shared→Prop} (c:ClsX K C CA) (X:K.In s.heap) (he:s.heap.get? e=some oe) (hcls:oe.cls=.ref C) (hq:Q true s):wpAny M A (excMatches (.ref e) (.ref C)) Q E s:=by
  obtain ⟨nm,q,N,bs,sn,sub,ab,col,dd,k0,k1,k2,k3,k5,lk⟩:=c.obj
  have hC:=X _ _ lk
  obtain ⟨h,g,d,t,os⟩:=s
  have hcB:(Value.ref C::.ref CA::bmV).contains (.type "BaseException")=true:=by simp [bmV]
  have hcC:(Value.ref C::.ref CA::bmV).contains (.ref C)=true:=by simp
  have f:=tc_notTuple
  unfold excMatches
  repeat (first | (with_reducible refine wpAny_loadPart_at he ?_; rw [hcls]) | with_reducible refine wpAny_loadPart_at hC ?_ | (with_reducible refine wpAny_isSubtype_exc hC ?_; first | rw [hcB] | rw [hcC]) | wp_step)
  exact hq
end
section
variable {X:Cx} {EE:Ends→St→XK} {k:Nat} {m:Str} {ps:List Str} {sp:Sp} {e o:Expr} {es:List Expr} {ta:TE} {t:TA} {f C:Addr} {fd:FuncData} {apos pos:Pos}
end
end L2
namespace L2
open PySem PySem.Spec PyProof.Rows
def ItB (K:PySem.W.Frag) (c:Bool) (a:Addr):It:=if c=true then Itl K a else Itt K a
section
variable {X:Cx} {tg:Expr}
def iAny (K:PySem.W.Frag) (tl:TE):TI:=fun σ H R=>tl σ H fun x H1=>∃ c a,x=.ref a∧(∃ xs,SqB K c H1 a xs)∧R (ItB K c a) H1
end
end L2
namespace L2
open PySem PySem.Spec PyProof.Rows
section
variable {X:Cx} {EE:Ends→St→XK} {pos:Pos}
end
end L2
namespace L2
open PySem PySem.Spec PyProof.Rows
abbrev TV:=Ends→TS
def PSv (X:Cx) (EE:Ends→St→XK) (st:List Stmt) (t:TV):Prop :=
  ∀ (W:Value→Shared→Prop) (pins:List (Addr × Obj)) (s:Shared) (σ:St) (H:Hp) (DT D:Ends),(∀ σ' H1 s1 ev s2,Inv X pins σ' H1 s1→CXr X.prog X.w X.stack H1 s1 (EE DT σ') ev s2→W ev s2)→Inv X pins σ H s→t DT D σ H →
    wpAny (model X.prog X.w) X.A (execs st X.env) (SP X pins D) W s
section
variable {X:Cx} {EE:Ends→St→XK} {k:Nat} {x:Str} {ps:List Str} {sp:Sp} {e:Expr} {es:List Expr} {ta:TA} {p pos:Pos} {f C:Addr} {fd:FuncData} {st:Stmt} {rest:List Stmt} {t:TS} {u:TV}
end
section
variable {X:Cx}
def rInsert:V→List V→Hp→VK→Prop:=fun x vs H Q=>∃ l xs i y,x=.ref l∧vs=[.int i,y]∧H l=some (.lst xs)∧xs.length < sizeLine∧0≤i∧i < 2 ^ 62∧Q .non (upd H l (.lst (xs.take i.toNat++y::xs.drop i.toNat)))
end
end L2
namespace L2
open PySem PySem.Spec PyProof.Rows
section
variable {X:Cx} {pos:Pos}
theorem ps_tryNM {c m:Str} {C0 CA:Addr} {i:Nat} {st body:List Stmt} {b₀:Stmt} {pc ph:Pos} {rest:List ExceptHandler} {t tb:TS} (hN:X.N.Nodup) (hi:X.N[i]?=some m) (hk:X.env.kindOf m=some .local) (hg:Gl X c) (hm:X.mg c=some (.ref C0)) (cl:ClsX X.K C0 CA)
    (hb:PSw X (fun D σ ev dxo H'=>∃ e dx,ev=.ref e∧dxo=some dx∧H' e=some (ExcT C0 e dx)∧tb (D.un i) (σ.set i (some (.ref e))) H') st t) (hh:∀ e,PSs (X.marked e) (b₀::body) tb)
    (hst:X.stack=X.env::X.outer:=by rfl) (hfr:X.env.frame=some X.env.locals:=by rfl) (hdb:(c == ("__debug__" : Str))=false:=by decide) :
    PS X (.Try st (.ExceptHandler (some (.Name c pc)) (some m) (b₀::body) ph::rest) [] [] pos) t:=by
  intro pins s σ H D I h
  refine wpAny_Try_except (wpAny_mono (hb _ pins s σ H D ?_ I h) (fun f s1 q=>?_) fun _ _ z=>z)
  · rintro H1 s1 _ s2 I1 ⟨e,C1,dx0,H2,rfl,os,bare,un,hok,he0,fl,e',dx,ee,ed,he,q⟩
    cases ee
    cases ed
    have I2:=I1.call' (ch:=[]) os un hok bare (fun b z=>absurd z (by simp))
    refine note_run (base:=X.base) (env:=X.env) (outer:=X.outer) (by rw [← hst]; exact I2.ok.frames) (by rw [← hst]; exact I2.stack) hfr fl fun h' l fl'=>?_
    have u:=lft_un (H:=H2) l he0 fl'
    have kk:=lft_hok I2.hok l (by
      have z:=I2.stkFree
      rw [hst] at z
      exact z) he0 fl'
    rw [upd_id he0] at u kk
    have I3:Inv X pins σ H2 { s2 with heap:=h' }:=I2.call' (ch:=[]) rfl (by rw [hst]; exact u) kk I2.bare (fun b z=>absurd z (by simp))
    refine wpAny_handleBy_cons (codeAny_handlers_test (ld_glob (X:=X.marked e) (I3.marked (e:=e)) hg hm ?_ hdb)) (by intro z; cases z)
    obtain ⟨o,ho,vs,rfl,_⟩:=ObP.get I3.hok he
    refine excMatches_same cl I3.kIn ho rfl ?_
    refine handlers_named ?_
    refine flight_run fl' fun h'' kp=>?_
    have I4:Inv X pins σ H2 { s2 with heap:=h'' }:=I3.kept (t':=s2.toks) kp
    refine wpAny_bindName (store_ok (X:=X.marked e) (v:=.ref e) (I4.marked (e:=e)) hN hi (.inl hk) rfl (fun s5 I5=>?_) (.inr hk))
    refine wpAny_mono (hh e pins s5 _ H2 (D.un i) I5 q) (fun f s6 q6=>?_) fun _ _ z=>z
    have q7:=SP.unmarked I.ok q6
    have fin:∀ {σ' H'} {G:Shared→Prop},Inv X pins σ' H' s6→(∀ s8,Inv X pins (σ'.set i none) H' s8→G s8)→wpAny (model X.prog X.w) X.A (do bindName X.env m .none; unbindBehindTheSuite X.env m ph) (fun _ s3=>G s3) X.xe s6:=fun {σ' H' G} I6 g=>by
      refine wpAny_bind (wpAny_bindName (store_ok (v:=.non) I6 hN hi (.inl hk) rfl (fun s7 I7=>?_) (.inr hk)))
      have hl:i < σ'.length:=by rw [I6.len]; exact (List.getElem?_eq_some_iff.mp hi).1
      refine del_ok (v:=.non) I7 hN hi hk (List.getElem?_set_self hl) fun s8 I8=>?_
      rw [List.set_set] at I8
      exact g s8 I8
    cases f with
    | next=>obtain ⟨σ',H',I',q⟩:=q7; exact fin I' fun s8 I8=>⟨_,H',I8,q⟩
    | brk=>obtain ⟨σ',H',I',q⟩:=q7; exact fin I' fun s8 I8=>⟨_,H',I8,q⟩
    | cont=>obtain ⟨σ',H',I',q⟩:=q7; exact fin I' fun s8 I8=>⟨_,H',I8,q⟩
    | ret v=>obtain ⟨z,σ',H',I',r,q⟩:=q7; exact fin I' fun s8 I8=>⟨z,_,H',I8,r,q⟩
  · cases f with
    | next=>exact wpAny_execs_nil q
    | brk=>exact q
    | cont=>exact q
    | ret v=>exact q
end
end L2
namespace L2
open PySem PySem.Spec PyProof.Rows
inductive ConstsI:List Expr→List Int→Prop
  | nil:ConstsI [] []
  | cons {n:Int} {j:Nat} {pos:Pos} {es:List Expr} {zs:List Int}:ConstsI es zs→ConstsI (.Constant (.int n) j pos::es) (n::zs)
section
variable {X:Cx}
def rPopA:V→List V→Hp→VK→Prop:=fun x vs H Q=>∃ l xs i j v,x=.ref l∧vs=[.int i]∧H l=some (.lst xs)∧0≤i∧i < 2 ^ 62∧i=((j:Nat):Int)∧xs[j]?=some v∧Q v (upd H l (.lst (xs.eraseIdx j)))
end
theorem fold_size (x:Array Nat):∀ (n:Nat) (a:Array Nat),((List.replicate n x).foldl (fun x1 x2=>x1++x2) a).size=a.size+n*x.size
  | 0,a=>by simp
  | n+1,a=>by
    rw [List.replicate_succ,List.foldl_cons,fold_size x n (a++x),Array.size_append,Nat.add_mul]
    omega
theorem mul_len (x:Str) (n:Int):(Txt.mul x n).length≤x.length*n.toNat:=by
  unfold Txt.mul
  by_cases c:n < 1
  · rw [if_pos c]
    exact Nat.zero_le _
  · rw [if_neg c]
    by_cases d:(n == 1 || x.length == 0)=true
    · rw [if_pos d]
      simp only [Bool.or_eq_true,beq_iff_eq] at d
      rcases d with d | d
      · rw [d]; simp
      · rw [d]; exact Nat.zero_le _
    · rw [if_neg d]
      show (List.foldl (fun x1 x2=>x1++x2) #[] (List.replicate n.toNat x.cps)).size≤_
      rw [fold_size,Nat.mul_comm]
      show 0+x.cps.size*n.toNat≤x.length*n.toNat
      rw [Nat.zero_add]
      exact Nat.le_refl _
theorem mul_ok {x:Str} {n:Int} (hx:x.length≤20) (h0:0≤n) (h1:n≤20):MulOk x n:=by
  refine ⟨by simp; omega,fun hn _=>?_,fun hn _=>?_⟩
  · have:n=1∨n=2∨n=3∨n=4∨n=5∨n=6∨n=7∨n=8∨n=9∨n=10∨n=11∨n=12∨n=13∨n=14∨n=15∨n=16∨n=17∨n=18∨n=19∨n=20:=by omega
    rcases this with rfl | rfl | rfl | rfl | rfl | rfl | rfl | rfl | rfl | rfl | rfl | rfl | rfl | rfl | rfl | rfl | rfl | rfl | rfl | rfl <;> omega
  · unfold Builtin.Str.tooLong
    have h:x.length*n.toNat≤20*20:=Nat.mul_le_mul hx (by omega)
    have sl:sizeLine=16777216:=sizeLine_eq
    simp
    omega
end L2
namespace L2
open PySem PySem.Spec PyProof.Rows PySem.Builtin PySem.Builtin.Str
def PEt (X:Cx) (e:Expr) (t:TE):Prop :=
  ∀ (pins:List (Addr × Obj)) (s:Shared) (σ:St) (H:Hp) (Q:VK),1≤s.toks→Inv X pins σ H s→t σ H Q→wpAny (model X.prog X.w) X.A (eval e X.env) (EP X pins σ Q) X.xe s
def PAt (X:Cx) (es:List Expr) (t:TA):Prop :=
  ∀ (pos:Pos) (pins:List (Addr × Obj)) (s:Shared) (σ:St) (H:Hp) (Q:List V→Hp→Prop),1≤s.toks→Inv X pins σ H s→t σ H Q→wpAny (model X.prog X.w) X.A (spliced (backTo pos (starEach es X.env))) (AP X pins σ Q) X.xe s
def PSt (X:Cx) (st:Stmt) (t:TS):Prop :=
  ∀ (pins:List (Addr × Obj)) (s:Shared) (σ:St) (H:Hp) (D:Ends),1≤s.toks→Inv X pins σ H s→t D σ H→wpAny (model X.prog X.w) X.A (exec st X.env) (SP X pins D) X.xe s
def PSst (X:Cx) (st:List Stmt) (t:TS):Prop :=
  ∀ (pins:List (Addr × Obj)) (s:Shared) (σ:St) (H:Hp) (D:Ends),1≤s.toks→Inv X pins σ H s→t D σ H→wpAny (model X.prog X.w) X.A (execs st X.env) (SP X pins D) X.xe s
section
variable {X:Cx} {st:Stmt} {rest es:List Stmt} {t u:TS}
theorem psst_cons (h1:PSt X st t) (h2:PSs X rest u):PSst X (st::rest) (tSeq t u):=by
  intro pins s σ H D ht I h
  refine wpAny_execs_cons (thn (h1 pins s σ H { D with nx:=u D } ht I h) fun f s1 q=>?_)
  cases f with
  | next =>
    obtain ⟨σ',H',I',q⟩:=q
    exact h2 pins s1 σ' H' D I' q
  | ret v=>exact q
  | brk=>exact q
  | cont=>exact q
theorem pst_set {i:Nat} {x:Str} {e:Expr} {te:TE} {pos pos':Pos} (hN:X.N.Nodup) (hi:X.N[i]?=some x) (hx:Loc X.env.scope x) (he:PEt X e te) (hs:swapsWith e (some (.Name x pos')) pos.line X.env=pure false:=by rfl) (hf:X.fn x=true∨X.env.scope.names.lookup x=some .local:=by first | exact .inl rfl | exact .inr rfl | assumption) :
    PSt X (.Assign [.Name x pos'] e pos) (tAsg te (gName i)):=by
  intro pins s σ H D ht I h
  refine wpAny_Assign_Name (thn (he pins s σ H _ ht I h) fun v s1 ⟨y,H1,I1,r1,q1⟩=>?_) hs
  exact store_ok I1 hN hi hx r1 (fun s2 I2=>⟨_,H1,I2,q1⟩) hf
theorem pet_lst {es:List Expr} {t:TA} {pos:Pos} (h:PAt X es t):PEt X (.List es pos) (tLst t):=by
  intro pins s σ H Q ht I hq
  refine wpAny_List_spliced (thn (h pos pins s σ H _ ht I hq) fun us s1 ⟨xs,H1,I1,r,z,q⟩=>⟨by rw [← r.length]; exact z,?_⟩)
  have hf:H1 s1.heap.objs.size=none:=I1.hok.fresh (Nat.le_refl _)
  refine ⟨.ref s1.heap.objs.size,upd H1 s1.heap.objs.size (.lst xs),I1.laid (t':=s1.toks) (fun b u e=>Heap.get?_push_of_some _ e) (Nat.le_refl _) ?_,rfl,q _ hf⟩
  exact ⟨z,us,0,r,Heap.get?_push_size _ rfl⟩
theorem pat_cons {e:Expr} {es:List Expr} {te:TE} {t:TA} (ha:PEt X e te) (hr:PA X es t) (hs:starEach (e::es) X.env=(false,eval e X.env)::starEach es X.env:=by rfl):PAt X (e::es) (tCons te t):=by
  intro pos pins s σ H Q ht I h
  rw [hs]
  show wpAny _ _ (spliced ((false,eval e X.env)::backTo pos (starEach es X.env))) _ _ s
  refine Calls.spliced_cons (thn (ha pins s σ H _ ht I h) fun u s1 ⟨x,H1,I1,r1,q1⟩=>?_)
  exact thn (hr pos pins s1 σ H1 _ I1 q1) fun us s2 ⟨xs,H2,I2,r2,q2⟩=>⟨x::xs,H2,I2,.cons r1 r2,q2⟩
theorem ev_name {i:Nat} {x:Str} {v:V} {pos:Pos} {pins:List (Addr × Obj)} {s:Shared} {σ:St} {H:Hp} (I:Inv X pins σ H s) (hN:X.N[i]?=some x) (hv:Vis X.env.scope x) (e:σ[i]?=some (some v)) (hd:(x == ("__debug__" : Str))=false:=by decide) (hcd:(x == ("__classdict__" : Str))=false:=by decide) :
    ∃ u,RelV v u∧∀ Q:Value→Shared→Prop,Q u s→wpAny (model X.prog X.w) X.A (eval (.Name x pos) X.env) Q X.xe s:=by
  obtain ⟨m,hn,hl⟩:=I.loc
  obtain ⟨u,r,l⟩:=hl i x v hN e hv
  refine ⟨u,r,fun Q fin=>?_⟩
  rcases l with ⟨hk,hm⟩ | ⟨hk,c,hc,hcell⟩
  · exact wpAny_Name (wpAny_loadName_local I.ok.kind hk hn hm fin) hd
  · rcases hk with hk | hk
    · exact wpAny_Name (wpAny_loadName_cell I.ok.kind hk hc hcell fin) hd
    · exact wpAny_Name (wpAny_loadName_free I.ok.kind hk hc hcell fin hcd) hd
def tEqT (i:Nat) (n:Int) (t u:TS):TS:=fun D σ H=>∃ k,σ[i]?=some (some (.int k))∧(k=n→t { D with nx:=fun _ _=>False } σ H)∧(k ≠ n→u D σ H)
theorem pss_eqT {i j:Nat} {x:Str} {n:Int} {a:List Stmt} {p0 p1 p2 pos:Pos} (hN:X.N[i]?=some x) (hv:Vis X.env.scope x) (ha:PSs X a t) (hr:PSst X rest u) (hd:(x == ("__debug__" : Str))=false:=by decide) (hcd:(x == ("__classdict__" : Str))=false:=by decide) :
    PSs X (.If (.Compare (.Name x p0) [.Eq] [.Constant (.int n) j p1] p2) a [] pos::rest) (tEqT i n t u):=by
  intro pins s σ H D I h
  obtain ⟨k,e,h1,h2⟩:=h
  obtain ⟨_,⟨tk,rfl⟩,nm⟩:=ev_name (pos:=p0) I hN hv e hd hcd
  refine wpAny_execs_cons (wpAny_If (wpAny_isTrue_Compare1 (nm _ (wpAny_Constant_int (eq_int (wpAny_truthy_bool ?_)))) (nomark _)))
  have I1:=I.tok (s.toks+1)
  by_cases c:k=n
  · have b:(k == n)=true:=by simp [c]
    rw [b]
    refine ite_tt ?_
    refine thn (ha pins _ σ H { D with nx:=fun _ _=>False } I1 (h1 c)) fun f s1 q=>?_
    cases f with
    | next =>
      obtain ⟨σ',H',I',q⟩:=q
      exact q.elim
    | ret v=>exact q
    | brk=>exact q
    | cont=>exact q
  · have b:(k == n)=false:=by simp [c]
    rw [b]
    refine ite_ff ?_
    exact wpAny_execs_nil (hr pins _ σ H D (Nat.le_add_left 1 _) I1 (h2 c))
theorem gives_replace1 (x y z:Str) (t u v k:Tok) (h0:(u == 0 || v == 0)=false) (huv:(u == v)=false) (hyz:(y == z)=false) (hl:tooLong (x.length+(occurrences x y 0 x.length 1).length*z.length)=false) :
    Gives («str.replace» ⟨[.str x t,.str y u,.str z v,.int 1 k],[]⟩) (if ((occurrences x y 0 x.length 1).isEmpty || (y.length == 0 && z.length == 0))=true then .val (.str x t) else .str (glued z (partsBetween x (occurrences x y 0 x.length 1) y.length))):=by
  show Gives (if ((occurrences x y 0 x.length 1).isEmpty || (y.length == 0 && z.length == 0))=true then (do rule "str.replace.nothing"; ret (.str x t)) else
          (do let same ← isSame (.str y u) (.str z v)
              if same=true then (do rule "str.replace.old-is-new"; ret (.str x t)) else
              if tooLong (x.length+(occurrences x y 0 x.length 1).length*z.length)=true then unsupported "str.replace:memory" else
              retStr (glued z (partsBetween x (occurrences x y 0 x.length 1) y.length)))) _
  cases hc:((occurrences x y 0 x.length 1).isEmpty || (y.length == 0 && z.length == 0))
  · rw [isSame_str_other y z u v h0 huv hyz,hl]
    exact .of_eq rfl
  · exact .rule (.of_eq rfl)
theorem sub_len (x:Str) (i j:Nat):(strSub x i j).length≤x.length:=by
  show (x.cps.extract i j).size≤x.cps.size
  rw [Array.size_extract]
  omega
theorem glued1 {x z:Str} {cs:List Nat} {n:Nat} (h:cs.length≤1):(glued z (partsBetween x cs n)).length≤2*x.length+z.length:=by
  match cs,h with
  | [],_ =>
    have:=sub_len x 0 x.length
    show (strSub x 0 x.length).length≤_
    omega
  | [c],_ =>
    have h1:=sub_len x 0 c
    have h2:=sub_len x (c+n) x.length
    show ((strSub x 0 c).cps++z.cps++(strSub x (c+n) x.length).cps).size≤_
    rw [Array.size_append,Array.size_append]
    have e1:(strSub x 0 c).cps.size=(strSub x 0 c).length:=rfl
    have e2:(strSub x (c+n) x.length).cps.size=(strSub x (c+n) x.length).length:=rfl
    have e3:z.cps.size=z.length:=rfl
    omega
def tRep1 (i:Nat):TE:=fun σ H Q=>∃ z:Str,σ[i]?=some (some (.str z))∧z.length≤100000∧∀ y:Str,y.length≤2*z.length+2→Q (.str y) H
theorem pet_rep1 {i j1 j2 j3:Nat} {x:Str} {p0 p1 p2 p3 apos cpos:Pos} (hN:X.N[i]?=some x) (hv:Vis X.env.scope x)
    (hline:(apos.endLine == cpos.line)=true:=by rfl) (hd:(x == ("__debug__" : Str))=false:=by decide) (hcd:(x == ("__classdict__" : Str))=false:=by decide) :
    PEt X (.Call (.Attribute (.Name x p0) "replace" apos) [.Constant (.str " ") j1 p1,.Constant (.str "  ") j2 p2,.Constant (.int 1) j3 p3] [] cpos) (tRep1 i):=by
  intro pins s σ H Q ht I h
  obtain ⟨z,e,zl,q⟩:=h
  obtain ⟨_,⟨tk,rfl⟩,nm⟩:=ev_name (pos:=p0) I hN hv e hd hcd
  refine wpAny_Call_method_late (by rfl) (by rfl) hline rfl (nm _ ?_)
  refine ⟨"str", "str.replace", PySem.F.plainAttrs_str,PySem.F.slot_str_replace,PySem.F.type_str_replace,typeIs_str _ _ _,fun a e2=>(by cases e2),?_⟩
  refine Calls.callWith_builtin (by rfl) (Calls.evalArgs_plain ?_)
  refine Calls.spliced_cons (Calls.Constant_str (k:=j1) (pos:=p1) (Calls.spliced_cons (Calls.Constant_str (k:=j2) (pos:=p2) (Calls.spliced_cons (wpAny_Constant_int (k:=j3) (pos:=p3) (Calls.spliced_nil ?_))))))
  have hne:((" " : Str) == ("  " : Str))=false:=by decide +kernel
  have l2:(("  " : Str)).length=2:=by decide +kernel
  have ol:=StrLaws.occ_length_le z (" " : Str) 0 z.length 1
  have hl:tooLong (z.length+(occurrences z (" " : Str) 0 z.length 1).length*("  " : Str).length)=false:=by
    rw [l2]
    unfold tooLong sizeLine
    exact decide_eq_false (by omega)
  have hb:(s.toks == 0 || s.toks+1 == 0)=false:=by
    have a1:(s.toks == 0)=false:=by
      rw [beq_eq_false_iff_ne]
      omega
    have a2:(s.toks+1 == 0)=false:=by
      rw [beq_eq_false_iff_ne]
      omega
    rw [a1,a2]
    rfl
  have huv:(s.toks == s.toks+1)=false:=by
    rw [beq_eq_false_iff_ne]
    omega
  refine call_gives PySem.F.slot_str_replace (typeIs_str _ _ _) PySem.F.entry_str_replace (PySem.F.args_str_replace_4 _ _ _ _) (gives_replace1 z " " "  " tk _ _ _ hb huv hne hl) ?_
  have gl:=glued1 (x:=z) (z:=("  " : Str)) (n:=(" " : Str).length) ol
  rw [l2] at gl
  have I3:=I.tok (s.toks+1+1+1)
  split
  · exact ⟨.str z,H,I3,⟨_,rfl⟩,q z (by omega)⟩
  · exact ⟨Nat.le_trans gl (by rw [sizeLine_eq]; omega),.str _,H,I.tok _,⟨_,rfl⟩,q _ gl⟩
end
end L2
namespace Mine
open PySem L2
theorem len1 {us:List Value} (h:us.length=1):∃ a,us=[a]:=by
  cases us with
  | nil=>cases h
  | cons a r =>
    cases r with
    | nil=>exact ⟨a,rfl⟩
    | cons _ _=>cases h
theorem lenS {us:List Value} {n:Nat} (h:us.length=n+1):∃ a r,us=a::r∧r.length=n:=by
  cases us with
  | nil=>cases h
  | cons a r=>exact ⟨a,r,rfl,Nat.succ.inj h⟩
theorem len2 {us:List Value} (h:us.length=2):∃ a b,us=[a,b]:=by
  obtain ⟨a,r,rfl,h1⟩:=lenS h
  obtain ⟨b,rfl⟩:=len1 h1
  exact ⟨a,b,rfl⟩
theorem len3 {us:List Value} (h:us.length=3):∃ a b c,us=[a,b,c]:=by
  obtain ⟨a,r,rfl,h1⟩:=lenS h
  obtain ⟨b,c,rfl⟩:=len2 h1
  exact ⟨a,b,c,rfl⟩
theorem len4 {us:List Value} (h:us.length=4):∃ a b c d,us=[a,b,c,d]:=by
  obtain ⟨a,r,rfl,h1⟩:=lenS h
  obtain ⟨b,c,d,rfl⟩:=len3 h1
  exact ⟨a,b,c,d,rfl⟩
theorem len5 {us:List Value} (h:us.length=5):∃ a b c d e,us=[a,b,c,d,e]:=by
  obtain ⟨a,r,rfl,h1⟩:=lenS h
  obtain ⟨b,c,d,e,rfl⟩:=len4 h1
  exact ⟨a,b,c,d,e,rfl⟩
theorem len6 {us:List Value} (h:us.length=6):∃ a b c d e f,us=[a,b,c,d,e,f]:=by
  obtain ⟨a,r,rfl,h1⟩:=lenS h
  obtain ⟨b,c,d,e,f,rfl⟩:=len5 h1
  exact ⟨a,b,c,d,e,f,rfl⟩
theorem len7 {us:List Value} (h:us.length=7):∃ a b c d e f g,us=[a,b,c,d,e,f,g]:=by
  obtain ⟨a,r,rfl,h1⟩:=lenS h
  obtain ⟨b,c,d,e,f,g,rfl⟩:=len6 h1
  exact ⟨a,b,c,d,e,f,g,rfl⟩
def top (i:Nat):Stmt:=PySem.Challenge.pw_asktally_k03_texts_of_trees.main.body.getD i (.Pass ⟨0,0,0,0⟩)
abbrev s_is_name:Stmt:=top 10
abbrev s_read_tree:Stmt:=top 15
abbrev s_tree_in_row:Stmt:=top 16
abbrev s_next_tree:Stmt:=top 17
abbrev s_joined_tree:Stmt:=top 18
abbrev s_l_feed:Stmt:=top 20
abbrev s_l_take:Stmt:=top 21
abbrev s_l_names:Stmt:=top 22
abbrev s_l_tree:Stmt:=top 23
abbrev s_l_signs:Stmt:=top 24
abbrev s_l_is_name:Stmt:=top 25
abbrev s_l_text:Stmt:=top 26
abbrev s_l_name_ends:Stmt:=top 27
abbrev s_l_parse:Stmt:=top 28
abbrev s_l_size:Stmt:=top 29
abbrev s_l_tree_of:Stmt:=top 30
abbrev s_l_changed:Stmt:=top 31
abbrev s_l_wide:Stmt:=top 32
abbrev s_l_drawn:Stmt:=top 33
abbrev s_l_right:Stmt:=top 34
abbrev s_law:Stmt:=top 35
section
variable {P:Program} {w:World} {K:PySem.W.Frag} {mg:Str→Option Value} {base:Heap}
structure Bl (mg:Str→Option Value):Prop where
  len:mg "len" = none
  range:mg "range" = none
  max:mg "max" = none
  min:mg "min" = none
  isinstance:mg "isinstance" = none
  tuple:mg "tuple" = none
  str:mg "str" = none
  all:mg "all" = none
  int:mg "int" = none
  bool:mg "bool" = none
  list:mg "list" = none
  sum:mg "sum" = none
theorem feedB (z:Int):0≤z % 2147483646+1∧z % 2147483646+1≤2147483646:=by omega
theorem sc_l_feed:FnScope ["_law_script", "_law_k", "_law_cell", "_law_own"] ["_law_script", "_law_k"] (defScope s_l_feed):=⟨rfl,rfl,rfl,by decide +kernel,rfl,by decide +kernel,by decide +kernel⟩
theorem ok_l_feed {f:Addr} {fd:FuncData} (F:Fun K "_law_feed" "_law_feed" s_l_feed f fd) (hlen:mg "len" = none):FnOk P w K mg base CX0 1 f fd ["_law_script", "_law_k"] (spFeed K):=by
  refine F.ok sc_l_feed (fun vs H Q E h=>?_) (fun cdv A outer s H vs Q E hr h=>?_)
  · obtain ⟨a,ns,k,rfl,_⟩:=h
    rfl
  obtain ⟨a,ns,k,rfl,hS,h63,k0,k1,q⟩:=h
  refine ⟨_,(pss_cons (ps_set (i:=2) sc_l_feed.nd rfl (Or.inl rfl) (pe_op op_add (pe_op op_mul pe_int (pv 1)) pe_int))
      (pss_cons (ps_if (pt_cmpR op_lt (pv 1) (pe_callB call_len_seq rfl hlen PySem.boot_len (pa_cons (pv 0) pa_nil)) (nomark _)) (pss_one (ps_set (i:=2) sc_l_feed.nd rfl (Or.inl rfl) (pe_ix ix_list (pv 0) (pv 1) (fun _ _=>rfl)))) (pss_one (ps_if (pt_cmpR op_gt (pe_callB call_len_seq rfl hlen PySem.boot_len (pa_cons (pv 0) pa_nil)) pe_int (nomark _)) (pss_one (ps_set (i:=2) sc_l_feed.nd rfl (Or.inl rfl) (pe_op op_add (pe_op op_mul (pe_op op_mod (pe_ix ix_list (pv 0) (pe_op op_mod (pv 1) (pe_callB call_len_seq rfl hlen PySem.boot_len (pa_cons (pv 0) pa_nil))) (fun _ _=>rfl)) pe_int) pe_int) (pe_op op_mul pe_int (pv 1))))) pss_nil)))
      (pss_cons (ps_set (i:=3) sc_l_feed.nd rfl (Or.inl rfl) pe_int)
      (pss_cons (ps_if (pt_cmpR op_ge (pv 2) (pe_op op_pow pe_int pe_int) (nomark _)) (pss_one (ps_set (i:=3) sc_l_feed.nd rfl (Or.inl rfl) (pv 2))) pss_nil)
      (pss_one (ps_ret (pe_lst (pa_cons (pv 3) (pa_cons (pe_op op_add (pe_op op_mod (pe_op op_add (pe_op op_mul (pe_op op_mod (pv 2) pe_int) pe_int) (pe_op op_mul pe_int (pv 1))) pe_int) pe_int) pa_nil))))))))),?_⟩
  have hl:(ns.map V.int).length=ns.length:=List.length_map _
  have hp:(10:Int) ^ (18:Int).toNat=1000000000000000000:=by decide
  refine ⟨_,rfl,_,_,rfl,rfl,.inl ⟨by decide,by decide⟩,_,_,rfl,rfl,?_⟩
  refine ⟨_,rfl,_,rfl,a,_,rfl,.inl hS,_,_,rfl,rfl,_,rfl,?_⟩
  refine ite2 (fun c=>?b1) (fun c=>?b2)
  case' b1 =>
    have c':k < (((ns.map V.int).length:Nat):Int):=of_decide_eq_true c
    rw [hl] at c'
    obtain ⟨v,hv⟩:=at_int (ns:=ns) k0 c'
    refine ⟨_,rfl,_,rfl,a,_,_,_,rfl,rfl,hS,hv,?_⟩
  case' b2 =>
    refine ⟨_,rfl,a,_,rfl,.inl hS,_,_,rfl,rfl,_,rfl,?_⟩
    refine ite2 (fun c2=>?b3) (fun c2=>?b4)
    case' b3 =>
      have c':(0:Int) < (((ns.map V.int).length:Nat):Int):=of_decide_eq_true c2
      have m0:=Int.emod_nonneg k (b:=(((ns.map V.int).length:Nat):Int)) (by omega)
      have m1:=Int.emod_lt_of_pos k c'
      obtain ⟨v,hv⟩:=at_int (ns:=ns) m0 (by rw [hl] at m1 ⊢; exact m1)
      have n0:=Int.emod_nonneg v (b:=2147483629) (by decide)
      have n1:=Int.emod_lt_of_pos v (b:=2147483629) (by decide)
      refine ⟨_,rfl,_,rfl,_,rfl,a,_,rfl,.inl hS,_,_,rfl,rfl,c',a,_,_,_,rfl,rfl,hS,hv,_,_,rfl,rfl,(by show (0:Int) < _; decide),_,_,rfl,rfl,.inr ⟨by decide,by decide⟩,_,rfl,_,_,rfl,rfl,.inl ⟨by decide,by decide⟩,_,_,rfl,rfl,?_⟩
  all_goals
    refine ⟨_,rfl,_,_,rfl,rfl,⟨by decide,by decide,by decide⟩,_,_,rfl,rfl,_,rfl,?_⟩
    refine ite2 (fun c3=>?_) (fun c3=>?_)
    · have c4:=of_decide_eq_true c3
      rw [hp] at c4
      refine ⟨_,rfl,_,rfl,_,rfl,_,_,rfl,rfl,(by show (0:Int) < _; decide),_,_,rfl,rfl,.inr ⟨by decide,by decide⟩,_,rfl,_,_,rfl,rfl,.inl ⟨by decide,by decide⟩,_,_,rfl,rfl,_,_,rfl,rfl,(by show (0:Int) < _; decide),_,_,rfl,rfl,(by show 2≤sizeLine; decide),fun p hp=>?_⟩
      refine q p _ hp (Same.new hp _) ⟨_,_,upd_same,Int.le_trans (by decide) c4,(feedB _).1,(feedB _).2⟩
    · refine ⟨_,rfl,_,rfl,_,_,rfl,rfl,(by show (0:Int) < _; decide),_,_,rfl,rfl,.inr ⟨by decide,by decide⟩,_,rfl,_,_,rfl,rfl,.inl ⟨by decide,by decide⟩,_,_,rfl,rfl,_,_,rfl,rfl,(by show (0:Int) < _; decide),_,_,rfl,rfl,(by show 2≤sizeLine; decide),fun p hp=>?_⟩
      refine q p _ hp (Same.new hp _) ⟨_,_,upd_same,Int.le_refl 0,(feedB _).1,(feedB _).2⟩
theorem sc_l_take:FnScope ["_law_feed_here", "_law_many", "_law_digit", "_law_one"] ["_law_feed_here", "_law_many"] (defScope s_l_take):=⟨rfl,rfl,rfl,by decide +kernel,rfl,by decide +kernel,by decide +kernel⟩
theorem ok_l_take {f:Addr} {fd:FuncData} (F:Fun K "_law_take" "_law_take" s_l_take f fd):FnOk P w K mg base CX0 1 f fd ["_law_feed_here", "_law_many"] spTake:=by
  refine F.ok sc_l_take (fun vs H Q E h=>?_) (fun cdv A outer s H vs Q E hr h=>?_)
  · obtain ⟨f,m,rfl,_⟩:=h
    rfl
  obtain ⟨f,m,rfl,⟨own,st,hf,o0,s0,s1⟩,m0,m1,q⟩:=h
  refine ⟨_,(pss_cons (ps_if (pt_cmpR op_gt (pe_ix ix_list (pv 0) pe_int (fun _ _=>rfl)) pe_int (nomark _)) (pss_cons (ps_set (i:=2) sc_l_take.nd rfl (Or.inl rfl) (pe_op op_mod (pe_ix ix_list (pv 0) pe_int (fun _ _=>rfl)) (pv 1)))
        (pss_cons (ps_asg (pe_op op_fdivL (pe_ix ix_list (pv 0) pe_int (fun _ _=>rfl)) (pv 1)) (pg_sub (pv 0) pe_int set_list))
        (pss_one (ps_ret (pv 2))))) pss_nil)
      (pss_cons (ps_set (i:=3) sc_l_take.nd rfl (Or.inl rfl) (pe_op op_mod (pe_op op_mul (pe_ix ix_list (pv 0) pe_int (fun _ _=>rfl)) pe_int) pe_int))
      (pss_cons (ps_asg (pe_op op_add (pe_op op_mod (pe_op op_add (pe_op op_mul (pv 3) pe_int) pe_int) pe_int) pe_int) (pg_sub (pv 0) pe_int set_list))
      (pss_one (ps_ret (pe_op op_mod (pe_op op_fdiv (pe_op op_add (pe_op op_mul (pv 3) pe_int) (pe_ix ix_list (pv 0) pe_int (fun _ _=>rfl))) pe_int) (pv 1))))))),?_⟩
  refine ⟨_,rfl,f,_,0,_,rfl,rfl,SqL.of hf,rfl,_,_,rfl,rfl,_,rfl,?_⟩
  refine ite2 (fun c=>?_) (fun c=>?_)
  · refine ⟨_,rfl,f,_,0,_,rfl,rfl,SqL.of hf,rfl,_,rfl,_,_,rfl,rfl,m0,?_⟩
    refine ⟨_,rfl,f,_,0,_,rfl,rfl,SqL.of hf,rfl,_,rfl,_,_,rfl,rfl,⟨m0,m1⟩,_,rfl,f,_,0,0,rfl,rfl,hf,rfl,?_⟩
    refine ⟨_,rfl,?_⟩
    exact q _ _ (Int.emod_nonneg _ (by omega)) (Int.emod_lt_of_pos _ m0) ⟨_,_,upd_same,Int.ediv_nonneg o0 (by omega),s0,s1⟩ (SameBut.upd _)
  · have a0:=Int.emod_nonneg (st*69621) (b:=2147483647) (by decide)
    have a1:=Int.emod_lt_of_pos (st*69621) (b:=2147483647) (by decide)
    refine ⟨_,rfl,f,_,1,_,rfl,rfl,SqL.of hf,rfl,_,_,rfl,rfl,.inr ⟨by decide,by decide⟩,_,_,rfl,rfl,(by show (0:Int) < _; decide),?_⟩
    refine ⟨_,rfl,_,_,rfl,rfl,.inr ⟨by decide,by decide⟩,_,_,rfl,rfl,_,_,rfl,rfl,(by show (0:Int) < _; decide),_,_,rfl,rfl,_,rfl,f,_,1,1,rfl,rfl,hf,rfl,?_⟩
    have b0:=Int.emod_nonneg (st*69621 % 2147483647*48271+30103) (b:=2147483646) (by decide)
    have b1:=Int.emod_lt_of_pos (st*69621 % 2147483647*48271+30103) (b:=2147483646) (by decide)
    refine ⟨_,rfl,_,_,rfl,rfl,.inr ⟨by decide,by decide⟩,_,rfl,f,_,1,_,rfl,rfl,SqL.of upd_same,rfl,_,_,rfl,rfl,_,_,rfl,rfl,⟨by decide,by decide⟩,_,rfl,_,_,rfl,rfl,m0,?_⟩
    exact q _ _ (Int.emod_nonneg _ (by omega)) (Int.emod_lt_of_pos _ m0) ⟨_,_,upd_same,o0,by omega,by omega⟩ (SameBut.upd _)
def spTreeS (n:Nat):Sp:=fun vs H Q _=>∃ (f a:Addr) (room deep:Int) (ns:List Str),vs=[.ref f,.ref a,.int room,.int deep]∧FeedAt H f∧NamesAt H a ns∧ns.length≤10∧1≤room∧room≤100∧1≤deep∧deep+1≤(n:Int)+1 ∧
  ∀ (v:V) (t:Tr) (H':Hp),FeedAt H' f→SameBut f H H'→TreeAt H' v t→t.ok ns→(t.size:Int)≤room→(t.depth:Int)≤deep→Q v H'
theorem sc_l_tree:FnScope ["_law_feed_here", "_law_names_here", "_law_room", "_law_deep", "_law_form", "_law_more", "_law_one", "_law_word"] ["_law_feed_here", "_law_names_here", "_law_room", "_law_deep"] (defScope s_l_tree):=⟨rfl,rfl,rfl,by decide +kernel,rfl,by decide +kernel,by decide +kernel⟩
theorem lf {a X Y B:Prop} [Decidable a] (x:X) (h:¬ a→X→B):if decide a=true then (if true=true then X else Y) else B:=by
  by_cases c:a
  · rw [decide_eq_true c]
    exact iteT (iteT x)
  · rw [decide_eq_false c]
    exact iteF (h c x)
theorem tree_step {n:Nat} {f:Addr} {fd:FuncData} (F:Fun K "_law_tree" "_law_tree" s_l_tree f fd) (hlen:mg "len" = none) (C_l_take:Cal P w K mg base 1 "_law_take" ["_law_feed_here", "_law_many"] spTake)
    (C_l_tree:Cal P w K mg base (n+2) "_law_tree" ["_law_feed_here", "_law_names_here", "_law_room", "_law_deep"] (spTreeS n)):FnOk P w K mg base CX0 (n+3) f fd ["_law_feed_here", "_law_names_here", "_law_room", "_law_deep"] (spTreeS (n+1)):=by
  refine F.ok sc_l_tree (fun vs H Q E h=>?_) (fun cdv A outer s H vs Q E hr h=>?_)
  · obtain ⟨f,a,room,deep,ns,rfl,_⟩:=h
    rfl
  obtain ⟨f,a,room,deep,ns,rfl,hF,hN,nl,r1,r100,d1,dn,q⟩:=h
  refine ⟨_,(pss_cons (ps_set (i:=4) sc_l_tree.nd rfl (Or.inl rfl) (pe_cal C_l_take hr (Nat.succ_le_succ (Nat.zero_le _)) rfl (pa_cons (pv 0) (pa_cons pe_int pa_nil))))
      (pss_cons (ps_if (PW.pt (pw_or (pt_cmpR op_lt (pv 2) pe_int (nomark _)) (pw_or (pt_cmpR op_lt (pv 3) pe_int (nomark _)) (pw_or1 (pt_cmpR op_eq (pv 4) pe_int (nomark _)))))) (pss_cons (ps_if (PW.pt (pw_or (pt_cmpR op_eq (pe_op op_mod (pv 4) pe_int) pe_int (nomark _)) (pw_or1 (pt_cmpR op_eq (pe_callB call_len_seq rfl hlen PySem.boot_len (pa_cons (pv 1) pa_nil)) pe_int (nomark _))))) (pss_one (ps_ret (pe_ix ix_list (pe_lst (pa_cons (pe_tup (pa_cons pe_str pa_nil)) (pa_cons (pe_tup (pa_cons pe_str pa_nil)) pa_nil))) (pe_cal C_l_take hr (Nat.succ_le_succ (Nat.zero_le _)) rfl (pa_cons (pv 0) (pa_cons pe_int pa_nil))) (fun _ _=>rfl)))) pss_nil)
        (pss_one (ps_ret (pe_tup (pa_cons pe_str (pa_cons (pe_ix (ix_list.or ix_tup) (pv 1) (pe_cal C_l_take hr (Nat.succ_le_succ (Nat.zero_le _)) rfl (pa_cons (pv 0) (pa_cons (pe_callB call_len_seq rfl hlen PySem.boot_len (pa_cons (pv 1) pa_nil)) pa_nil))) (fun _ _=>rfl)) pa_nil)))))) pss_nil)
      (pss_cons (ps_if (PW.pt (pw_or (pt_cmpR op_lt (pv 2) pe_int (nomark _)) (pw_or1 (pt_cmpR op_eq (pv 4) pe_int (nomark _))))) (pss_one (ps_ret (pe_tup (pa_cons pe_str (pa_cons (pe_cal C_l_tree hr (Nat.le_refl _) rfl (pa_cons (pv 0) (pa_cons (pv 1) (pa_cons (pe_op op_sub (pv 2) pe_int) (pa_cons (pe_op op_sub (pv 3) pe_int) pa_nil))))) pa_nil))))) pss_nil)
      (pss_cons (ps_set (i:=5) sc_l_tree.nd rfl (Or.inl rfl) (pe_op op_add pe_int (pe_cal C_l_take hr (Nat.succ_le_succ (Nat.zero_le _)) rfl (pa_cons (pv 0) (pa_cons (pe_op op_sub (pv 2) pe_int) pa_nil)))))
      (pss_cons (ps_set (i:=6) sc_l_tree.nd rfl (Or.inl rfl) (pe_cal C_l_tree hr (Nat.le_refl _) rfl (pa_cons (pv 0) (pa_cons (pv 1) (pa_cons (pv 5) (pa_cons (pe_op op_sub (pv 3) pe_int) pa_nil))))))
      (pss_cons (ps_set (i:=7) sc_l_tree.nd rfl (Or.inl rfl) (pe_ix ix_list (pe_lst (pa_cons pe_str (pa_cons pe_str (pa_cons pe_str (pa_cons pe_str pa_nil))))) (pe_op op_mod (pv 4) pe_int) (fun _ _=>rfl)))
      (pss_one (ps_ret (pe_tup (pa_cons (pv 7) (pa_cons (pv 6) (pa_cons (pe_cal C_l_tree hr (Nat.le_refl _) rfl (pa_cons (pv 0) (pa_cons (pv 1) (pa_cons (pe_op op_sub (pe_op op_sub (pv 2) pe_int) (pv 5)) (pa_cons (pe_op op_sub (pv 3) pe_int) pa_nil))))) pa_nil)))))))))))),?_⟩
  refine ⟨_,rfl,f,10,rfl,hF,by decide,by decide,fun fm H1 f0 f10 F1 S1=>?_⟩
  have N1:=hN.feed hF S1
  refine ⟨_,rfl,_,_,rfl,rfl,_,rfl,?_⟩
  refine lf ?leaf fun c1 hX=>?_
  case leaf =>
    refine ⟨_,rfl,_,_,rfl,rfl,(by show (0:Int) < _; decide),rfl,_,rfl,?_⟩
    refine lf ?yn fun c6 hY=>?_
    case yn =>
      refine ⟨(by show 1≤sizeLine; decide),fun p1 h1=>?_⟩
      refine ⟨(by show 1≤sizeLine; decide),fun p2 h2=>?_⟩
      refine ⟨(by show 2≤sizeLine; decide),fun l hl=>?_⟩
      have ga:=Same.new h1 (.tup [.str "yes"])
      have gb:=Same.new h2 (.tup [.str "no"])
      have gc:=Same.new hl (.lst [.ref p1,.ref p2])
      have G:=ga.trans (gb.trans gc)
      have nlf:=(F1.same (ga.trans gb)).ne hl
      refine ⟨_,rfl,f,2,rfl,F1.same G,by decide,by decide,fun d H2 d0 d2 F2 S2=>?_⟩
      have y2:H2 p1=some (.tup [.str "yes"]):=keepT_feed (F1.same G) S2 _ _ (gc _ _ (gb _ _ upd_same))
      have n2:H2 p2=some (.tup [.str "no"]):=keepT_feed (F1.same G) S2 _ _ (gc _ _ upd_same)
      have l2:=S2 l _ nlf upd_same
      have:d=0∨d=1:=by omega
      rcases this with rfl | rfl
      · exact ⟨l,_,0,_,rfl,rfl,SqL.of l2,rfl,q (.ref p1) .yes H2 F2 (S1.trans ((SameBut.of G).trans S2)) (.yes y2) trivial (show (1:Int)≤room from r1) (show (1:Int)≤deep from d1)⟩
      · exact ⟨l,_,1,_,rfl,rfl,SqL.of l2,rfl,q (.ref p2) .no H2 F2 (S1.trans ((SameBut.of G).trans S2)) (.no n2) trivial (show (1:Int)≤room from r1) (show (1:Int)≤deep from d1)⟩
    refine ⟨_,rfl,a,_,rfl,N1.seq,rfl,_,rfl,?_⟩
    by_cases c7:V.int ((ns.map V.str).length:Int)=V.int 0
    · exact iteD c7 hY
    refine iteDF c7 ?_
    have nz:0 < ns.length:=by
      have z:¬ ((ns.map V.str).length:Int)=0:=fun z=>c7 (congrArg V.int z)
      rw [List.length_map] at z
      omega
    refine ⟨_,rfl,_,rfl,_,rfl,a,_,rfl,N1.seq,f,_,rfl,F1,(show (0:Int) < ((ns.map V.str).length:Int) by rw [List.length_map]; omega),by rw [List.length_map]; omega,fun d H2 d0 d9 F2 S2=>?_⟩
    obtain ⟨v,hv,vm⟩:=at_in (l:=ns.map V.str) (i:=d) d0 d9
    obtain ⟨x,hx,rfl⟩:=List.mem_map.mp vm
    refine (N1.feed F1 S2).ix hv ?_
    refine ⟨(by show 2≤sizeLine; decide),fun p hp=>?_⟩
    have G:=Same.new hp (.tup [.str "is", .str x])
    exact q (.ref p) (.is x) _ (F2.same G) (S1.trans (S2.trans (SameBut.of G))) (.is upd_same) hx (show (1:Int)≤room from r1) (show (1:Int)≤deep from d1)
  refine ⟨_,rfl,_,_,rfl,rfl,_,rfl,?_⟩
  by_cases c2:deep < 2
  · exact iteD c2 (iteT hX)
  refine iteDF c2 ?_
  refine ⟨_,rfl,rfl,_,rfl,?_⟩
  by_cases c3:V.int fm=V.int 9
  · exact iteD c3 hX
  refine iteDF c3 ?_
  refine ⟨_,rfl,_,_,rfl,rfl,_,rfl,?_⟩
  have d2:2≤deep:=by omega
  have dd:1≤deep - 1:=by omega
  have ddn:deep - 1+1≤(n:Int)+1:=by omega
  refine lf ?nt fun c4 hN=>?_
  case nt =>
    refine ⟨_,rfl,_,rfl,_,rfl,_,_,rfl,rfl,_,rfl,_,_,rfl,rfl,f,a,_,_,ns,rfl,F1,N1,nl,(show 1≤room - 1 by omega),by omega,dd,ddn,fun v1 t1 H3 F3 S3 T1 o1 z1 p1=>?_⟩
    refine ⟨(by show 2≤sizeLine; decide),fun p hp=>?_⟩
    have G5:=Same.new hp (.tup [.str "not", v1])
    refine q (.ref p) (.not t1) _ (F3.same G5) (S1.trans (S3.trans (SameBut.of G5))) (.not upd_same (T1.mono (keepT_same G5))) o1 ?_ ?_
    · show ((t1.size+1:Nat):Int)≤room
      omega
    · show ((t1.depth+1:Nat):Int)≤deep
      omega
  refine ⟨_,rfl,rfl,_,rfl,?_⟩
  by_cases c5:V.int fm=V.int 8
  · exact iteD c5 hN
  refine iteDF c5 ?_
  refine ⟨_,rfl,_,rfl,_,_,rfl,rfl,f,_,rfl,F1,(show (0:Int) < room - 2 by omega),(show room - 2 < 2 ^ 63 by omega),fun e H2 e0 e1 F2 S2=>?_⟩
  refine ⟨_,_,rfl,rfl,?_⟩
  have N2:=N1.feed F1 S2
  refine ⟨_,rfl,_,rfl,_,rfl,_,rfl,_,_,rfl,rfl,f,a,_,_,ns,rfl,F2,N2,nl,by omega,by omega,dd,ddn,fun v1 t1 H3 F3 S3 T1 o1 z1 p1=>?_⟩
  have N3:=N2.feed F2 S3
  refine ⟨(by show 4≤sizeLine; decide),fun l hl=>?_⟩
  obtain ⟨wd,hw,wm⟩:=at_in (l:=joinW.map V.str) (i:=fm % 4) (by omega) (by
    have:(joinW.map V.str).length=4:=by rfl
    omega)
  obtain ⟨x,hx,rfl⟩:=List.mem_map.mp wm
  refine ⟨_,rfl,_,_,rfl,rfl,(by show (0:Int) < _; decide),l,_,_,_,rfl,rfl,SqL.of upd_same,hw,?_⟩
  have G:=Same.new hl (.lst [.str "and", .str "or", .str "odd", .str "same"])
  refine ⟨_,rfl,_,rfl,_,rfl,_,rfl,_,rfl,_,_,rfl,rfl,_,rfl,_,_,rfl,rfl,_,rfl,_,_,rfl,rfl,f,a,_,_,ns,rfl,F3.same G,N3.same G,nl,(show 1≤room - 1 - (1+e) by omega),by omega,dd,ddn,fun v2 t2 H4 F4 S4 T2 o2 z2 p2=>?_⟩
  refine ⟨(by show 3≤sizeLine; decide),fun p hp=>?_⟩
  have G5:=Same.new hp (.tup [.str x,v1,v2])
  have T1':TreeAt H4 v1 t1:=(T1.mono (keepT_same G)).mono (keepT_feed (F3.same G) S4)
  refine q (.ref p) (.bin x t1 t2) _ (F4.same G5) (S1.trans (S2.trans (S3.trans ((SameBut.of G).trans (S4.trans (SameBut.of G5)))))) (.bin upd_same (T1'.mono (keepT_same G5)) (T2.mono (keepT_same G5))) ⟨hx,o1,o2⟩ ?_ ?_
  · show ((t1.size+t2.size+1:Nat):Int)≤room
    omega
  · show ((max t1.depth t2.depth+1:Nat):Int)≤deep
    omega
theorem tree_zero {f:Addr} {fd:FuncData}:FnOk P w K mg base CX0 2 f fd ["_law_feed_here", "_law_names_here", "_law_room", "_law_deep"] (spTreeS 0):=by
  have no:∀ vs H Q E,¬ spTreeS 0 vs H Q E:=fun vs H Q E h=>by
    obtain ⟨f,a,room,deep,ns,_,_,_,_,_,_,h1,h2,_⟩:=h
    omega
  exact ⟨fun vs H Q E h=>absurd h (no vs H Q E),fun A outer s H args us vs Q E _ _ _ _ h=>absurd h (no vs H Q E)⟩
theorem ok_l_tree {f:Addr} {fd:FuncData} (F:Fun K "_law_tree" "_law_tree" s_l_tree f fd) (hlen:mg "len" = none) (m:mg "_law_tree" = some (.ref f)) (C_l_take:Cal P w K mg base 1 "_law_take" ["_law_feed_here", "_law_many"] spTake) :
    ∀ n:Nat,FnOk P w K mg base CX0 (n+2) f fd ["_law_feed_here", "_law_names_here", "_law_room", "_law_deep"] (spTreeS n)
  | 0=>tree_zero
  | n+1=>tree_step F hlen C_l_take (Cal.of F (ok_l_tree F hlen m C_l_take n) m (fun _ _ _ _ _ _ us hl=>by obtain ⟨u0,u1,u2,u3,rfl⟩:=len4 hl; rfl))
def ifBody:Stmt→List Stmt
  | .If _ b _ _=>b
  | _=>[]
def ifTest:Stmt→Expr
  | .If c _ _ _=>c
  | _=>.Constant .none 0 ⟨0,0,0,0⟩
def valOf:Stmt→Expr
  | .Assign _ v _=>v
  | .Return (some v) _=>v
  | _=>.Constant .none 0 ⟨0,0,0,0⟩
def eltsOf:Expr→List Expr
  | .List es _=>es
  | .BinOp _ _ (.List es _) _=>es
  | .Subscript (.List es _) _ _=>es
  | _=>[]
abbrev stm (s:Stmt) (i:Nat):Stmt:=(defBody s).getD i (.Pass ⟨0,0,0,0⟩)
abbrev stmI (s:Stmt) (i j:Nat):Stmt:=(ifBody (stm s i)).getD j (.Pass ⟨0,0,0,0⟩)
def wordsA:List Str:=["is", "set", "say", "if", "go", "end", "num", "box", "op", "field", "holds", "claims"]
def wordsB:List Str:=["nota", "nob", "yesx", "andy", "ors", "oddly"]
def wordsC:List Str:=["samey", "rounds", "dues", "coins", "truex", "asks"]
@[irreducible] def namesA:List Expr:=eltsOf (valOf (stmI s_l_names 6 0))
@[irreducible] def namesB:List Expr:=eltsOf (valOf (stmI s_l_names 6 1))
@[irreducible] def namesC:List Expr:=eltsOf (valOf (stmI s_l_names 6 2))
theorem namesA_w:Consts namesA wordsA:=by
  unfold namesA
  exact .cons (.cons (.cons (.cons (.cons (.cons (.cons (.cons (.cons (.cons (.cons (.cons .nil)))))))))))
theorem namesB_w:Consts namesB wordsB:=by
  unfold namesB
  exact .cons (.cons (.cons (.cons (.cons (.cons .nil)))))
theorem namesC_w:Consts namesC wordsC:=by
  unfold namesC
  exact .cons (.cons (.cons (.cons (.cons (.cons .nil)))))
theorem names_body:∃ p1 p2 p3 p4 p5 p6 p7 p8 p9 q1 q2 q3 q4 q5,defBody s_l_names=[stm s_l_names 0,stm s_l_names 1,stm s_l_names 2,stm s_l_names 3,stm s_l_names 4,stm s_l_names 5,
    .If (ifTest (stm s_l_names 6)) [.Assign [.Name "_law_words" p1] (.List namesA p2) p3,.Assign [.Name "_law_words" p4] (.BinOp (.Name "_law_words" p5) .Add (.List namesB p6) p7) p8,.Assign [.Name "_law_words" p9] (.BinOp (.Name "_law_words" q1) .Add (.List namesC q2) q3) q4,stmI s_l_names 6 3] [] q5,stm s_l_names 7] :=
  ⟨_,_,_,_,_,_,_,_,_,_,_,_,_,_,by with_unfolding_all rfl⟩
def LTR:Str := "bcdfghjklmnpqrstvwxz"
theorem ltr_na:∀ c ∈ LTR.cps.toList,c ≠ 97:=by decide +kernel
theorem ltr_ok:∀ c ∈ LTR.cps.toList,97≤c∧c≤122:=by decide +kernel
def kept:List Str:=["yes", "no", "not", "and", "or", "odd", "same", "round", "due", "asked", "true", "coin"]
def NmK (x:Str):Prop:=NmOk x∧1≤x.length∧x.length≤6∧x ∉ kept
theorem words_ok0:∀ x ∈ (wordsA++wordsB)++wordsC,(x.length≤20∧(∀ c ∈ x.cps.toList,97≤c∧c≤122)∧x ≠ "aa")∧1≤x.length∧x.length≤6∧x ∉ kept:=by decide +kernel
theorem words_ok (x:Str) (h:x ∈ (wordsA++wordsB)++wordsC):NmK x:=words_ok0 x h
theorem kept_out:∀ x ∈ kept,∃ c ∈ x.cps.toList,c ∉ LTR.cps.toList:=by decide +kernel
def spNamesN:Sp:=fun vs H Q _=>∃ (f:Addr) (m:Int),vs=[.ref f,.int m]∧FeedAt H f∧0≤m∧m≤7∧∀ (l:Addr) (ns:List Str) (H':Hp),H l=none→l ≠ f→H' l=some (.lst (ns.map V.str))→ns.length=m.toNat→(∀ x ∈ ns,NmK x)→ns.Nodup→FeedAt H' f→SameBut f H H'→Q (.ref l) H'
theorem words_out:∀ x ∈ (wordsA++wordsB)++wordsC,∃ c ∈ x.cps.toList,c ∉ LTR.cps.toList:=by decide +kernel
theorem ltr_inj:∀ a b:Fin 20,LTR.cps.toList[a.val]?=LTR.cps.toList[b.val]?→a=b:=by decide +kernel
theorem nd_names {ns:List Str} {t:Nat} {u:Int} (u0:0≤u) (u20:u < 20) (hl:ns.length≤7) (h:∀ (k:Nat) x,ns[k]?=some x→x.cps.toList[t]?=LTR.cps.toList[((u+7*(k:Int)) % 20).toNat]?):ns.Nodup:=by
  refine List.pairwise_iff_getElem.mpr fun i j hi hj ij e=>?_
  have h1:=h i _ (List.getElem?_eq_getElem hi)
  have h2:=h j _ (List.getElem?_eq_getElem hj)
  rw [e] at h1
  have h3:=h1.symm.trans h2
  have h4:=ltr_inj ⟨((u+7*(i:Int)) % 20).toNat,by omega⟩ ⟨((u+7*(j:Int)) % 20).toNat,by omega⟩ h3
  have h5:=congrArg Fin.val h4
  simp only at h5
  omega
theorem nd_set {ns:List Str} {x:Str} {j:Nat} (h:ns.Nodup) (hx:x ∉ ns):(ns.set j x).Nodup:=by
  refine List.pairwise_iff_getElem.mpr fun a b ha hb ab=>?_
  rw [List.length_set] at ha hb
  rw [List.getElem_set,List.getElem_set]
  split
  · split
    · omega
    · intro e
      exact hx (e ▸ List.getElem_mem hb)
  · split
    · intro e
      exact hx (e ▸ List.getElem_mem ha)
    · exact List.pairwise_iff_getElem.mp h a b ha hb ab
theorem at_get {α:Type} {l:List α} {i:Int} {v:α} (h0:0≤i) (h:atI l i=some v):l[i.toNat]?=some v:=by
  have ek:((i.toNat:Nat):Int)=i:=by omega
  by_cases c:i.toNat < l.length
  · have q:atI l ((i.toNat:Nat):Int)=some l[i.toNat]:=atI_nat (List.getElem?_eq_getElem c)
    rw [ek,h] at q
    rw [List.getElem?_eq_getElem c]
    exact q.symm
  · exfalso
    unfold atI ixN at h
    rw [if_pos h0,if_neg (by omega)] at h
    cases h
theorem sum_ones {zs:List Str} (h:∀ z ∈ zs,z.length=1∧∀ c ∈ z.cps.toList,c ∈ LTR.cps.toList):(zs.map (·.length)).sum=zs.length:=by
  induction zs with
  | nil=>rfl
  | cons a r ih =>
    rw [List.map_cons,List.sum_cons,ih fun z hz=>h z (List.mem_cons_of_mem _ hz),(h a List.mem_cons_self).1,List.length_cons]
    omega
theorem sc_l_names:FnScope ["_law_feed_here", "_law_many", "_law_letters", "_law_common", "_law_at", "_law_first", "_law_found", "_law_k", "_law_tail", "_law_sign", "_law_words"] ["_law_feed_here", "_law_many"] (defScope s_l_names):=⟨rfl,rfl,rfl,by decide +kernel,rfl,by decide +kernel,by decide +kernel⟩
theorem feed_upd {H:Hp} {f p:Addr} {o:HO} (F:FeedAt H f) (h:p ≠ f):FeedAt (upd H p o) f:=by
  obtain ⟨x,t,e,r⟩:=F
  exact ⟨x,t,by rw [upd_ne (Ne.symm h)]; exact e,r⟩
theorem ok_l_names {f:Addr} {fd:FuncData} (F:Fun K "_law_names" "_law_names" s_l_names f fd) (hrange:mg "range" = none) (C_l_take:Cal P w K mg base 1 "_law_take" ["_law_feed_here", "_law_many"] spTake):FnOk P w K mg base CX0 2 f fd ["_law_feed_here", "_law_many"] spNamesN:=by
  refine F.ok sc_l_names (fun vs H Q E h=>?_) (fun cdv A outer s H vs Q E hr h=>?_)
  · obtain ⟨f,m,rfl,_⟩:=h
    rfl
  obtain ⟨f,m,rfl,hF,m0,m6,q⟩:=h
  obtain ⟨p1,p2,p3,p4,p5,p6,p7,p8,p9,q1,q2,q3,q4,q5,ebody⟩:=names_body
  rw [ebody]
  refine ⟨_,(pss_cons (ps_set (i:=2) sc_l_names.nd rfl (Or.inr rfl) pe_str)
      (pss_cons (ps_set (i:=3) sc_l_names.nd rfl (Or.inl rfl) (pe_bm PySem.F.plainAttrs_str PySem.F.slot_str_join PySem.F.type_str_join mt_join pe_str (pa_cons (pe_comp (N:=["_law_letters", "_law_feed_here"]) (ix:=[2,0]) rfl
          (CompScope.two (by with_unfolding_all rfl) (by decide) rfl (by decide) rfl (by decide +kernel) (by first | exact Or.inl rfl | exact Or.inr rfl) (by with_unfolding_all rfl) (by with_unfolding_all rfl) (by with_unfolding_all rfl) (by with_unfolding_all rfl) rfl rfl (by with_unfolding_all rfl) rfl rfl) rfl
          (pi_range1 rfl hrange (pa_cons pe_int pa_nil))
          (fun _ _ _=>pb_all (pe_ix ix_str (pv 1) (pe_cal C_l_take hr (by decide) rfl (pa_cons (pv 2) (pa_cons pe_int pa_nil))) (fun _ _=>rfl)))) pa_nil)))
      (pss_cons (ps_set (i:=4) sc_l_names.nd rfl (Or.inl rfl) (pe_cal C_l_take hr (by decide) rfl (pa_cons (pv 0) (pa_cons pe_int pa_nil))))
      (pss_cons (ps_set (i:=5) sc_l_names.nd rfl (Or.inl rfl) (pe_cal C_l_take hr (by decide) rfl (pa_cons (pv 0) (pa_cons pe_int pa_nil))))
      (pss_cons (ps_set (i:=6) sc_l_names.nd rfl (Or.inl rfl) (pe_lst pa_nil))
      (pss_cons (ps_for PassesOwn.never rfl (pi_range1 rfl hrange (pa_cons (pv 1) pa_nil)) (pg_name (i:=7) sc_l_names.nd rfl (Or.inl rfl)) (pss_cons (ps_set (i:=8) sc_l_names.nd rfl (Or.inl rfl) (pe_op op_mod (pe_cal C_l_take hr (by decide) rfl (pa_cons (pv 0) (pa_cons (pe_op op_sub pe_int (pv 4)) pa_nil))) pe_int))
        (pss_cons (ps_set (i:=9) sc_l_names.nd rfl (Or.inl rfl) (pe_ix ix_str (pv 2) (pe_op op_mod (pe_op op_add (pv 5) (pe_op op_mul pe_int (pv 7))) pe_int) (fun _ _=>rfl)))
        (pss_one (ps_expr (pe_bm PySem.F.plainAttrs_list PySem.F.slot_list_append PySem.F.type_list_append mt_append (pv 6) (pa_cons (pe_op op_add_str (pe_op op_add_str (pe_slice sl_str (pv 3) po_none (po_some (pv 4))) (pv 9)) (pe_slice sl_str (pv 3) (po_some (pv 4)) (po_some (pe_op op_add (pv 4) (pv 8))))) pa_nil)))))))
      (pss_cons (ps_if (PW.pt (pw_and (pt_cmpR op_gt (pv 1) pe_int (nomark _)) (pw_and1 (pt_cmpR op_eq (pe_cal C_l_take hr (by decide) rfl (pa_cons (pv 0) (pa_cons pe_int pa_nil))) pe_int (nomark _))))) (pss_cons (ps_set (i:=10) sc_l_names.nd rfl (Or.inl rfl) (pe_lst (pa_consts namesA_w)))
        (pss_cons (ps_set (i:=10) sc_l_names.nd rfl (Or.inl rfl) (pe_op op_cat (pv 10) (pe_lst (pa_consts namesB_w))))
        (pss_cons (ps_set (i:=10) sc_l_names.nd rfl (Or.inl rfl) (pe_op op_cat (pv 10) (pe_lst (pa_consts namesC_w))))
        (pss_one (ps_asg (pe_ix ix_list (pv 10) (pe_cal C_l_take hr (by decide) rfl (pa_cons (pv 0) (pa_cons pe_int pa_nil))) (fun _ _=>rfl)) (pg_sub (pv 6) (pe_cal C_l_take hr (by decide) rfl (pa_cons (pv 0) (pa_cons (pv 1) pa_nil))) set_list)))))) pss_nil)
      (pss_one (ps_ret (pv 6)))))))))),?_⟩
  refine ⟨rfl,5,rfl,by decide,by decide,fun D hD=>?_⟩
  have Df:=hF.ne hD
  have L20:LTR.cps.toList.length=20:=by decide +kernel
  refine comp_range (fun i H'=>∃ zs:List Str,H' D=some (.lst (zs.map V.str))∧zs.length=i∧(∀ z ∈ zs,z.length=1∧∀ c ∈ z.cps.toList,c ∈ LTR.cps.toList)∧FeedAt H' f∧SameBut f H H') ⟨[],by rw [upd_same]; rfl,rfl,by simp,hF.same (Same.new hD _),SameBut.of (Same.new hD _)⟩ ?_ ?_
  · rintro i H3 hi ⟨zs,hl,zl,z1,F3,S3⟩
    have i5:i < 5:=hi
    refine ⟨_,rfl,_,rfl,f,20,rfl,F3,by decide,by decide,fun d H4 d0 d26 F4 S4=>?_⟩
    obtain ⟨c,hc,hm⟩:=at_in (l:=LTR.cps.toList) (i:=d) d0 (by rw [L20]; exact d26)
    have hD4:H4 D=some (.lst (zs.map V.str)):=S4 D _ Df hl
    refine ⟨_,d,c,rfl,rfl,small (by decide +kernel),hc,_,hD4,?_,Nx.of hi ⟨zs++[⟨#[c]⟩],?_,?_,?_,feed_upd F4 Df,?_⟩⟩
    · rw [List.length_map,zl]
      exact small1000 (Nat.le_of_lt (Nat.lt_trans i5 (by decide)))
    · rw [upd_same,List.map_append]
      rfl
    · rw [List.length_append,List.length_singleton,zl]
    · intro z hz
      rcases List.mem_append.mp hz with h | h
      · exact z1 z h
      · rw [List.mem_singleton.mp h]
        refine ⟨rfl,fun c' hc'=>?_⟩
        have:c'=c:=by simpa using hc'
        subst this
        exact hm
    · intro b o hb e
      rw [upd_ne (ne_of_none e hD)]
      exact S4 b o hb (S3 b o hb e)
  rintro H3 ⟨zs,hl,zl,z1,F3,S3⟩
  have sl:=sum_ones z1
  have zl5:zs.length=5:=zl
  refine ⟨_,D,zs,rfl,rfl,SqL.of hl,(by decide +kernel),by omega,?_⟩
  have jl:(Txt.join "" zs).length=5:=by
    have:=size_glued "" zs
    have e0:(("" : Str)).length=0:=by decide +kernel
    rw [e0,Nat.mul_zero] at this
    show (Builtin.Str.glued "" zs).length=5
    omega
  have jc:∀ c ∈ (Txt.join "" zs).cps.toList,c ∈ LTR.cps.toList:=fun c hc=>by
    obtain ⟨z,hz,h⟩:=mem_join0 hc
    exact (z1 z hz).2 c h
  generalize Txt.join "" zs=cm at jl jc
  refine ⟨_,rfl,f,6,rfl,F3,by decide,by decide,fun t H4 t0 t6 F4 S4=>?_⟩
  refine ⟨_,rfl,f,20,rfl,F4,by decide,by decide,fun u H5 u0 u20 F5 S5=>?_⟩
  refine ⟨(by show 0≤sizeLine; decide),fun L hL=>?_⟩
  have S05:SameBut f H H5:=S3.trans (S4.trans S5)
  have Lf:=F5.ne hL
  have L0:H L=none:=by
    cases e:H L with
    | none=>rfl
    | some o=>rw [S05 L o Lf e] at hL; cases hL
  refine ⟨_,rfl,m,rfl,by omega,by omega,for_range (fun i σ H'=>∃ (x7 x8 x9:Option V) (ns:List Str),σ=[some (.ref f),some (.int m),some (.str LTR),some (.str cm),some (.int t),some (.int u),some (.ref L),x7,x8,x9,none]∧H' L=some (.lst (ns.map V.str))∧ns.length=i∧(∀ x ∈ ns,NmK x)∧(∀ x ∈ ns,∀ c ∈ x.cps.toList,c ∈ LTR.cps.toList)∧(∀ (k:Nat) x,ns[k]?=some x→x.cps.toList[t.toNat]?=LTR.cps.toList[((u+7*(k:Int)) % 20).toNat]?)∧FeedAt H' f∧SameBut f H H')
    ⟨_,_,_,[],rfl,by rw [upd_same]; rfl,rfl,by simp,by simp,by simp,F5.same (Same.new hL _),S05.trans (SameBut.of (Same.new hL _))⟩ ?_ ?_⟩
  · rintro i σ H6 hi ⟨x7,x8,x9,ns,rfl,hns,nl,nok,nlt,nat,F6,S6⟩
    refine ⟨_,rfl,_,rfl,_,_,rfl,rfl,f,_,rfl,F6,(Int.sub_pos_of_lt t6),(Int.lt_of_le_of_lt (Int.sub_le_self 6 t0) (by decide)),fun d H7 d0 d1 F7 S7=>?_⟩
    refine ⟨_,_,rfl,rfl,(by show (0:Int) < _; decide),?_⟩
    obtain ⟨c,hc,hm⟩:=at_in (l:=LTR.cps.toList) (i:=(u+7*(0+(i:Int))) % 20) (Int.emod_nonneg _ (by decide)) (by rw [L20]; exact Int.emod_lt_of_pos _ (by decide))
    refine ⟨_,rfl,_,rfl,_,rfl,_,_,rfl,rfl,?_,_,_,rfl,rfl,_,_,rfl,rfl,(by show (0:Int) < _; decide),_,_,c,rfl,rfl,small (by decide +kernel),hc,?_⟩
    · exact .inl ⟨by decide,by decide⟩
    have hL7:=S7 L _ Lf hns
    have z1:(Txt.slice cm none (some t)).length≤cm.length:=Txt.slice_le cm none (some t)
    have z2:(Txt.slice cm (some t) (some (t+d % 3))).length≤cm.length:=Txt.slice_le cm _ _
    have z3:((⟨#[c]⟩:Str)).length=1:=rfl
    refine ⟨_,rfl,.inl ⟨rfl,_,SqL.of hL7⟩,?_⟩
    refine ⟨_,rfl,_,rfl,_,rfl,_,rfl,small (by rw [jl]; decide),_,rfl,_,_,rfl,rfl,small (by rw [z3]; omega),?_⟩
    refine ⟨_,rfl,_,rfl,_,rfl,_,rfl,_,rfl,_,_,rfl,rfl,_,rfl,_,rfl,small (by rw [jl]; decide),_,_,rfl,rfl,small (by rw [Str.length_append,z3]; omega),?_⟩
    refine ⟨L,_,_,rfl,rfl,hL7,?_,?_⟩
    · rw [List.length_map]
      exact small1000 (by omega)
    refine ⟨_,_,_,ns++[(Txt.slice cm none (some t)++⟨#[c]⟩)++Txt.slice cm (some t) (some (t+d % 3))],rfl,?_,?_,?_,?_,?_,feed_upd F7 Lf,?_⟩
    · rw [upd_same,List.map_append]
      rfl
    · rw [List.length_append,List.length_singleton,nl]
    · intro x hx
      rcases List.mem_append.mp hx with h | h
      · exact nok x h
      · rw [List.mem_singleton.mp h]
        have old:NmOk ((Txt.slice cm none (some t)++⟨#[c]⟩)++Txt.slice cm (some t) (some (t+d % 3))):=by
          refine ⟨?_,fun c' hc'=>?_,fun ea=>?_⟩
          · rw [Str.length_append,Str.length_append,z3]
            omega
          rotate_left
          · have cm1:c ∈ (((Txt.slice cm none (some t)++⟨#[c]⟩)++Txt.slice cm (some t) (some (t+d % 3)):Str)).cps.toList:=by
              rw [Str.cps_append,Str.cps_append]
              simp
            rw [ea] at cm1
            exact ltr_na c hm ((by decide +kernel:∀ c ∈ (("aa" : Str)).cps.toList,c=97) c cm1)
          · rcases mem_append hc' with h | h
            · rcases mem_append h with h | h
              · exact ltr_ok _ (jc _ (mem_slice h))
              · have:c'=c:=by simpa using h
                subst this
                exact ltr_ok _ hm
            · exact ltr_ok _ (jc _ (mem_slice h))
        have cl:cm.cps.toList.length=5:=jl
        have e1:(Txt.slice cm none (some t)).length=t.toNat:=by
          have es:Txt.slice cm none (some t)=⟨((cm.cps.toList.drop 0).take (t - 0).toNat).toArray⟩:=StrLaws.sliceText_to ⟨t0,by omega⟩
          rw [es]
          show (((cm.cps.toList.drop 0).take (t - 0).toNat).toArray).size=_
          simp only [List.drop_zero,Int.sub_zero,List.size_toArray,List.length_take]
          omega
        have e2:(Txt.slice cm (some t) (some (t+d % 3))).length≤(d % 3).toNat:=by
          have es:Txt.slice cm (some t) (some (t+d % 3))=_:=StrLaws.sliceText_plain ⟨t0,by omega,by omega⟩
          rw [es]
          show (List.toArray _).size≤_
          simp only [List.size_toArray,List.length_take]
          omega
        refine ⟨old,?_,?_,fun hk=>?_⟩
        · rw [Str.length_append,Str.length_append,z3]
          omega
        · rw [Str.length_append,Str.length_append,z3]
          omega
        · obtain ⟨c',hc',hn⟩:=kept_out _ hk
          refine hn ?_
          rcases mem_append hc' with h | h
          · rcases mem_append h with h | h
            · exact jc _ (mem_slice h)
            · have:c'=c:=by simpa using h
              subst this
              exact hm
          · exact jc _ (mem_slice h)
    · intro x hx c' hc'
      rcases List.mem_append.mp hx with h | h
      · exact nlt x h c' hc'
      · rw [List.mem_singleton.mp h] at hc'
        rcases mem_append hc' with h | h
        · rcases mem_append h with h | h
          · exact jc _ (mem_slice h)
          · have:c'=c:=by simpa using h
            subst this
            exact hm
        · exact jc _ (mem_slice h)
    · intro k x hx
      by_cases ck:k < ns.length
      · rw [List.getElem?_append_left ck] at hx
        exact nat k x hx
      · have kl:k < (ns++[(Txt.slice cm none (some t)++⟨#[c]⟩)++Txt.slice cm (some t) (some (t+d % 3))]).length:=(List.getElem?_eq_some_iff.mp hx).1
        rw [List.length_append,List.length_singleton] at kl
        have ek:k=i:=by omega
        subst ek
        rw [List.getElem?_append_right (by omega),nl,Nat.sub_self] at hx
        have ex:(Txt.slice cm none (some t)++⟨#[c]⟩)++Txt.slice cm (some t) (some (t+d % 3))=x:=Option.some.inj hx
        rw [← ex]
        have cl:cm.cps.toList.length=5:=jl
        have es:Txt.slice cm none (some t)=⟨((cm.cps.toList.drop 0).take (t - 0).toNat).toArray⟩:=StrLaws.sliceText_to ⟨t0,by omega⟩
        have el:(Txt.slice cm none (some t)).cps.toList.length=t.toNat:=by
          rw [es]
          simp only [List.drop_zero,Int.sub_zero,List.length_take]
          omega
        have ea:((Txt.slice cm none (some t)++⟨#[c]⟩)++Txt.slice cm (some t) (some (t+d % 3))).cps.toList=(Txt.slice cm none (some t)).cps.toList++([c]++(Txt.slice cm (some t) (some (t+d % 3))).cps.toList):=by
          rw [Str.cps_append,Str.cps_append]
          simp
        rw [ea,List.getElem?_append_right (by omega),el,Nat.sub_self]
        have hc2:LTR.cps.toList[((u+7*(0+(k:Int))) % 20).toNat]?=some c:=at_get (Int.emod_nonneg _ (by decide)) hc
        rw [Int.zero_add] at hc2
        rw [hc2]
        rfl
    · intro b o hb e
      rw [upd_ne (ne_of_none e L0)]
      exact S7 b o hb (S6 b o hb e)
  · rintro σ H6 ⟨x7,x8,x9,ns,rfl,hns,nl,nok,nlt,nat,F6,S6⟩
    have nnd:ns.Nodup:=nd_names u0 u20 (by omega) nat
    refine ⟨_,rfl,_,_,rfl,rfl,_,rfl,?_⟩
    have fin:∀ H':Hp,∀ ns:List Str,H' L=some (.lst (ns.map V.str))→ns.length=m.toNat→(∀ x ∈ ns,NmK x)→ns.Nodup→FeedAt H' f→SameBut f H H'→Q (.ref L) H':=fun H' ns a b c nd d e=>q L ns H' L0 Lf a b c nd d e
    by_cases c1:(0:Int) < m
    · refine iteD c1 ?_
      refine ⟨_,rfl,f,3,rfl,F6,by decide,by decide,fun d H7 d0 d1 F7 S7=>?_⟩
      refine ⟨rfl,_,rfl,?_⟩
      have hL7:=S7 L _ Lf hns
      refine ite2 (fun _=>?_) (fun _=>?_)
      · refine ⟨(by show 12≤sizeLine; decide),fun l1 h1=>?_⟩
        refine ⟨_,rfl,(by show 6≤sizeLine; decide),fun l2 h2=>?_⟩
        refine ⟨l1,l2,wordsA.map V.str,wordsB.map V.str,rfl,rfl,Same.new h2 _ _ _ upd_same,upd_same,(by show 18≤sizeLine; decide),fun l3 h3=>?_⟩
        refine ⟨_,rfl,(by show 6≤sizeLine; decide),fun l4 h4=>?_⟩
        refine ⟨l3,l4,wordsA.map V.str++wordsB.map V.str,wordsC.map V.str,rfl,rfl,Same.new h4 _ _ _ upd_same,upd_same,(by show 24≤sizeLine; decide),fun l5 h5=>?_⟩
        have G:=(Same.new h1 (.lst (wordsA.map V.str))).trans ((Same.new h2 (.lst (wordsB.map V.str))).trans ((Same.new h3 (.lst (wordsA.map V.str++wordsB.map V.str))).trans ((Same.new h4 (.lst (wordsC.map V.str))).trans (Same.new h5 (.lst ((wordsA.map V.str++wordsB.map V.str)++wordsC.map V.str))))))
        have F8:=F7.same G
        have n5:=(F7.same ((Same.new h1 (.lst (wordsA.map V.str))).trans ((Same.new h2 (.lst (wordsB.map V.str))).trans ((Same.new h3 (.lst (wordsA.map V.str++wordsB.map V.str))).trans (Same.new h4 (.lst (wordsC.map V.str))))))).ne h5
        refine ⟨_,rfl,_,rfl,f,24,rfl,F8,by decide,by decide,fun e H9 e0 e1 F9 S9=>?_⟩
        obtain ⟨v,hv,vm⟩:=at_in (l:=(wordsA.map V.str++wordsB.map V.str)++wordsC.map V.str) (i:=e) e0 (by
          have:((wordsA.map V.str++wordsB.map V.str)++wordsC.map V.str).length=24:=by rfl
          omega)
        rw [← List.map_append,← List.map_append] at vm
        obtain ⟨x,hx,rfl⟩:=List.mem_map.mp vm
        refine ⟨l5,_,e,_,rfl,rfl,SqL.of (S9 l5 _ n5 upd_same),hv,?_⟩
        refine ⟨_,rfl,_,rfl,_,rfl,f,m,rfl,F9,c1,by omega,fun j H10 j0 j1 F10 S10=>?_⟩
        have hL10:=S10 L _ Lf (S9 L _ Lf (G L _ hL7))
        refine ⟨L,_,j,j.toNat,rfl,rfl,hL10,?_,?_⟩
        · have jl:j < ((ns.map V.str).length:Int):=by rw [List.length_map]; omega
          unfold ixN
          rw [if_pos j0,if_pos jl]
        refine ⟨_,rfl,?_⟩
        refine fin _ (ns.set j.toNat x) (by rw [upd_same,List.map_set]) (by rw [List.length_set]; exact nl) ?_ ?_ (feed_upd F10 Lf) ?_
        · intro y hy
          rcases List.mem_or_eq_of_mem_set hy with h | h
          · exact nok y h
          · rw [h]
            exact words_ok x hx
        · refine nd_set nnd fun hm=>?_
          obtain ⟨c,c1,c2⟩:=words_out x hx
          exact c2 (nlt x hm c c1)
        · intro b o hb e'
          rw [upd_ne (ne_of_none e' L0)]
          exact S10 b o hb (S9 b o hb (G b o (S7 b o hb (S6 b o hb e'))))
      · refine ⟨_,rfl,?_⟩
        exact fin H7 ns hL7 nl nok nnd F7 (S6.trans S7)
    · refine iteDF c1 ?_
      refine iteF ?_
      refine ⟨_,rfl,?_⟩
      exact fin H6 ns hns nl nok nnd F6 S6
theorem smallT {n:Nat} (h:n≤60000):n≤sizeLine:=Nat.le_trans h (by decide)
def LET:Str := "abcdefghijklmnopqrstuvwxyz"
def ENDS:Str := " ()"
def isIn (L:Str) (c:Nat):Bool:=!(Builtin.Str.occurrences L ⟨#[c]⟩ 0 L.length 1).isEmpty
def nameB (z:Str):Bool:=decide (1≤z.length) && decide (z.length≤6) && !inV (.str z) (kept.map V.str) && z.cps.toList.all (isIn LET)
def FIG:Str := "0123456789"
def figB (z:Str):Bool:=decide (1≤z.length) && decide (z.length≤12) && !(decide (1 < z.length) && Txt.startswith z "0") && z.cps.toList.all (isIn FIG)
def spTxt (fB:Str→Bool):Sp:=fun vs H Q _=>∃ z:Str,vs=[.str z]∧z.length≤60000∧∀ H',Same H H'→Q (.bl (fB z)) H'
structure Tx (K:PySem.W.Frag) (mg:Str→Option Value):Prop where
  letters:∃ t,mg "LETTERS" = some (.str LET t)
  longest:∃ t,mg "LONGEST_NAME" = some (.int 6 t)
  keptW:∃ a,mg "KEPT_WORDS" = some (.ref a)∧∀ H,SqT K H a (kept.map V.str)
  ends:∃ t,mg "WORD_ENDS" = some (.str ENDS t)
  within:∃ t,mg "MOST_WITHIN" = some (.int 10 t)
  parts:∃ t,mg "MOST_PARTS" = some (.int 30 t)
  joining:∃ a,mg "JOINING_WORDS" = some (.ref a)∧∀ H,SqT K H a (joinW.map V.str)
theorem len_size (z:Str):z.cps.size=z.length:=rfl
theorem sc_is_name:FnScope ["text"] ["text"] (defScope s_is_name):=⟨rfl,rfl,rfl,by decide +kernel,rfl,by decide +kernel,by decide +kernel⟩
theorem ok_is_name {f:Addr} {fd:FuncData} (F:Fun K "is_name" "is_name" s_is_name f fd) (B:Bl mg) (T:Tx K mg):FnOk P w K mg base CX0 1 f fd ["text"] (spTxt nameB):=by
  refine F.ok sc_is_name (fun vs H Q E h=>?_) (fun cdv A outer s H vs Q E hr h=>?_)
  · obtain ⟨z,rfl,_⟩:=h
    rfl
  obtain ⟨z,rfl,hz,q⟩:=h
  obtain ⟨t1,g1⟩:=T.letters
  obtain ⟨t3,g3⟩:=T.longest
  obtain ⟨ka,g5,hk⟩:=T.keptW
  refine ⟨_,(pss_cons (ps_if (PW.pt (pw_or (pt_cmpR op_lt (pe_callB call_len_str rfl B.len PySem.boot_len (pa_cons (pv 0) pa_nil)) pe_int (nomark _)) (pw_or (pt_cmpR op_gt (pe_callB call_len_str rfl B.len PySem.boot_len (pa_cons (pv 0) pa_nil)) (pe_glob (v:=.int 6) rfl g3 ⟨_,rfl⟩) (nomark _)) (pw_or1 (pt_cmpR op_in_seq (pv 0) (pe_glob (v:=.ref ka) rfl g5 rfl) (by with_unfolding_all rfl)))))) (pss_one (ps_ret pe_bl)) pss_nil)
      (pss_one (ps_ret (pe_callB (call_all rfl) rfl B.all PyProof.Rows.boot_all (pa_cons (pe_comp (N:=[]) (ix:=[]) (cl:=[]) rfl (CompScope.closed (by with_unfolding_all rfl) (by decide) rfl (by decide) rfl (by with_unfolding_all rfl)) rfl (pi_str (pv 0))
        (fun _ _ _=>pb_all (pe_cmpR op_in_str (pv 0) (pe_glob (v:=.str LET) rfl g1 ⟨_,rfl⟩) (by with_unfolding_all rfl)))) pa_nil))))),?_⟩
  have fls:nameB z=false→Q (.bl false) H:=fun e=>by
    have:=q H (Same.refl H)
    rw [e] at this
    exact this
  refine ⟨_,rfl,z,rfl,smallT hz,_,_,rfl,rfl,_,rfl,?_⟩
  by_cases c1:(z.length:Int) < 1
  · refine iteD c1 (iteT ?_)
    exact fls (by unfold nameB; rw [decide_eq_false (show ¬ 1≤z.length by omega)]; rfl)
  refine iteDF c1 ?_
  refine ⟨_,rfl,z,rfl,smallT hz,_,_,rfl,rfl,_,rfl,?_⟩
  by_cases c2:(6:Int) < (z.length:Int)
  · refine iteD c2 (iteT ?_)
    exact fls (by unfold nameB; rw [decide_eq_false (show ¬ z.length≤6 by omega)]; simp)
  refine iteDF c2 ?_
  refine ⟨_,rfl,ka,_,rfl,.inr (hk _),rfl,(by decide),_,rfl,?_⟩
  cases c3:inV (.str z) (kept.map V.str) with
  | true =>
    refine iteT ?_
    exact fls (by unfold nameB; rw [c3]; simp)
  | false =>
    refine iteF ?_
    refine ⟨_,rfl,z,rfl,fun D hD=>?_⟩
    refine comp_str (z:=z) (fun i H'=>H' D=some (.lst (((z.cps.toList.take i).map (isIn LET)).map V.bl))∧Same H H') ⟨by rw [upd_same]; rfl,Same.new hD _⟩ ?_ ?_
    · rintro i c H' hc ⟨hl,s0⟩
      have hi:i < z.cps.size:=(Array.getElem?_eq_some_iff.mp hc).1
      rw [len_size] at hi
      refine ⟨_,rfl,_,_,rfl,rfl,_,hl,?_,Nx.of hi ⟨?_,?_⟩⟩
      · rw [List.length_map,List.length_map,List.length_take]
        exact small1000 (by omega)
      · rw [upd_same]
        have ec:z.cps.toList[i]?=some c:=by simpa using hc
        rw [List.take_add_one,ec,List.map_append,List.map_append]
        rfl
      · intro b o e
        rw [upd_ne (ne_of_none e hD)]
        exact s0 b o e
    · rintro H' ⟨hl,s0⟩
      rw [show z.cps.toList.take z.cps.size=z.cps.toList by rw [← Array.length_toList]; exact List.take_length] at hl
      refine ⟨D,_,rfl,SqL.of hl,?_⟩
      have e:nameB z=(z.cps.toList.map (isIn LET)).all id:=by
        unfold nameB
        rw [c3,decide_eq_true (show 1≤z.length by omega),decide_eq_true (show z.length≤6 by omega),List.all_map]
        rfl
      rw [← e]
      exact q H' s0
theorem ends_in:isIn ENDS 32=true∧isIn ENDS 40=true∧isIn ENDS 41=true:=by decide +kernel
theorem in_strs (x:Str) (ns:List Str):inV (.str x) (ns.map V.str)=decide (x ∈ ns):=by
  unfold inV
  induction ns with
  | nil=>rfl
  | cons a r ih =>
    rw [List.map_cons,List.any_cons,ih]
    have e:eqV (.str a) (.str x)=decide (x=a):=by
      show (a == x)=_
      by_cases c:x=a
      · subst c; simp
      · rw [decide_eq_false c]; simpa using fun h=>c h.symm
    rw [e]
    by_cases c1:x=a <;> by_cases c2:x ∈ r <;> simp [c1,c2]
def stl (l:List Nat):Str:=⟨l.toArray⟩
theorem str_ext {a b:Str} (h:a.cps.toList=b.cps.toList):a=b:=by
  cases a with
  | mk x =>
    cases b with
    | mk y =>
      have:x=y:=Array.toList_inj.mp h
      rw [this]
theorem stl_len (l:List Nat):(stl l).length=l.length:=by
  show l.toArray.size=_
  simp
theorem cat_list (a b:Str):(a++b).cps.toList=a.cps.toList++b.cps.toList:=by simp [Str.cps_append]
theorem lit_po:(("(" : Str)).cps.toList=[40]:=by decide +kernel
theorem lit_pc:((")" : Str)).cps.toList=[41]:=by decide +kernel
theorem lit_sp:((" " : Str)).cps.toList=[32]:=by decide +kernel
theorem lit_not:(("not " : Str)).cps.toList=[110,111,116,32]:=by decide +kernel
theorem lit_n:(("not" : Str)).cps.toList=[110,111,116]:=by decide +kernel
theorem lit_y:(("yes" : Str)).cps.toList=[121,101,115]:=by decide +kernel
theorem lit_o:(("no" : Str)).cps.toList=[110,111]:=by decide +kernel
def Tr.txt:Tr→List Nat
  | .is x=>x.cps.toList
  | .yes=>[121,101,115]
  | .no=>[110,111]
  | .not a=>[110,111,116,32]++a.txt
  | .bin o a b=>[40]++(a.txt++([32]++(o.cps.toList++([32]++(b.txt++[41])))))
def Tr.nm:Tr→Prop
  | .is x=>NmK x | .yes=>True | .no=>True | .not a=>a.nm | .bin w a b=>w ∈ joinW∧a.nm∧b.nm
theorem Tr.ok_nm {ns:List Str} (hn:∀ x ∈ ns,NmK x):∀ t:Tr,t.ok ns→t.nm
  | .is _,h=>hn _ h
  | .yes,_=>trivial
  | .no,_=>trivial
  | .not a,h=>Tr.ok_nm hn a h
  | .bin _ a b,⟨h,h1,h2⟩=>⟨h,Tr.ok_nm hn a h1,Tr.ok_nm hn b h2⟩
theorem join_letters:∀ w ∈ joinW,w.length≤4∧(∀ c ∈ w.cps.toList,97≤c∧c≤122)∧1≤w.length:=by decide +kernel
theorem Tr.txt_len:∀ t:Tr,t.nm→t.txt.length≤8*t.size
  | .is x,h=>by
    have:x.cps.toList.length=x.length:=by rw [Array.length_toList]; rfl
    show x.cps.toList.length≤8
    have:=h.2.2.1
    omega
  | .yes,_=>by decide
  | .no,_=>by decide
  | .not a,h=>by
    have:=Tr.txt_len a h
    show ([110,111,116,32]++a.txt).length≤8*(a.size+1)
    rw [List.length_append]
    simp only [List.length_cons,List.length_nil]
    omega
  | .bin o a b,⟨h,h1,h2⟩=>by
    have e1:=Tr.txt_len a h1
    have e2:=Tr.txt_len b h2
    have e3:o.cps.toList.length=o.length:=by rw [Array.length_toList]; rfl
    have e4:=(join_letters o h).1
    show ([40]++(a.txt++([32]++(o.cps.toList++([32]++(b.txt++[41])))))).length≤8*(a.size+b.size+1)
    simp only [List.length_append,List.length_cons,List.length_nil]
    omega
def Tr.str (t:Tr):Str:=stl t.txt
theorem Tr.str_len {t:Tr} (h:t.nm):t.str.length≤8*t.size:=by
  unfold Tr.str
  rw [stl_len]
  exact t.txt_len h
def spTT (n:Nat):Sp:=fun vs H Q _=>∃ (v:V) (t:Tr),vs=[v]∧TreeAt H v t∧t.nm∧t.depth≤n∧t.size≤100∧∀ H',Same H H'→Q (.str t.str) H'
theorem join_ne:∀ w ∈ joinW,w ≠ "is" ∧ w ≠ "yes" ∧ w ≠ "no" ∧ w ≠ "not" := by decide +kernel
theorem str_inj {a b:Str} (h:V.str a=V.str b):a=b:=V.str.inj h
theorem ne_str {a b:Str} (h:a ≠ b):¬ V.str a=V.str b:=fun z=>h (str_inj z)
theorem txt_not2 (a:Tr):("not " : Str)++a.str=(Tr.not a).str:=by
  refine str_ext ?_
  rw [cat_list,lit_not]
  rfl
theorem txt_bin2 (o:Str) (a b:Tr):(("(" : Str)++Txt.join (" " : Str) [a.str,o,b.str])++(")" : Str)=(Tr.bin o a b).str:=by
  refine str_ext ?_
  have ej:(Txt.join (" " : Str) [a.str,o,b.str])=(((a.str++(" " : Str))++o)++(" " : Str))++b.str:=rfl
  rw [ej]
  simp only [cat_list,lit_po,lit_sp,lit_pc]
  show ([40]++((((a.txt++[32])++o.cps.toList)++[32])++b.txt))++[41]=[40]++(a.txt++([32]++(o.cps.toList++([32]++(b.txt++[41])))))
  simp
theorem txt_yes:Tr.yes.str = "yes" := str_ext lit_y.symm
theorem txt_no:Tr.no.str = "no" := str_ext lit_o.symm
theorem at0 (x:V) (xs:List V):atI (x::xs) 0=some x:=atI_nat (j:=0) rfl
theorem at1 (x y:V) (xs:List V):atI (x::y::xs) 1=some y:=atI_nat (j:=1) rfl
theorem at2 (x y z:V) (xs:List V):atI (x::y::z::xs) 2=some z:=atI_nat (j:=2) rfl
theorem sc_l_text:FnScope ["_law_tree_here"] ["_law_tree_here"] (defScope s_l_text):=⟨rfl,rfl,rfl,by decide +kernel,rfl,by decide +kernel,by decide +kernel⟩
theorem lt_step {n:Nat} {f:Addr} {fd:FuncData} (F:Fun K "_law_text" "_law_text" s_l_text f fd) (B:Bl mg) (C_l_text:Cal P w K mg base (n+1) "_law_text" ["_law_tree_here"] (spTT n)):FnOk P w K mg base CX0 (n+2) f fd ["_law_tree_here"] (spTT (n+1)):=by
  refine F.ok sc_l_text (fun vs H Q E h=>?_) (fun cdv A outer s H vs Q E hr h=>?_)
  · obtain ⟨v,t,rfl,_⟩:=h
    rfl
  obtain ⟨v,t,rfl,T,ok,dn,sz,k⟩:=h
  refine ⟨_,(pss_cons (ps_if (pt_cmpR op_eq (pe_ix ix_tup (pv 0) pe_int (fun _ _=>rfl)) pe_str (nomark _)) (pss_one (ps_ret (pe_ix ix_tup (pv 0) pe_int (fun _ _=>rfl)))) pss_nil)
      (pss_cons (ps_if (pt_cmpR op_eq (pe_ix ix_tup (pv 0) pe_int (fun _ _=>rfl)) pe_str (nomark _)) (pss_one (ps_ret (pe_op op_add_str pe_str (pe_cal C_l_text hr (Nat.le_refl _) rfl (pa_cons (pe_ix ix_tup (pv 0) pe_int (fun _ _=>rfl)) pa_nil))))) pss_nil)
      (pss_cons (ps_if (pt_cmpR op_eq (pe_callB call_len_seq rfl B.len PySem.boot_len (pa_cons (pv 0) pa_nil)) pe_int (nomark _)) (pss_one (ps_ret (pe_ix ix_tup (pv 0) pe_int (fun _ _=>rfl)))) pss_nil)
      (pss_one (ps_ret (pe_op op_add_str (pe_op op_add_str pe_str (pe_bm PySem.F.plainAttrs_str PySem.F.slot_str_join PySem.F.type_str_join mt_join pe_str (pa_cons (pe_lst (pa_cons (pe_cal C_l_text hr (Nat.le_refl _) rfl (pa_cons (pe_ix ix_tup (pv 0) pe_int (fun _ _=>rfl)) pa_nil)) (pa_cons (pe_ix ix_tup (pv 0) pe_int (fun _ _=>rfl)) (pa_cons (pe_cal C_l_text hr (Nat.le_refl _) rfl (pa_cons (pe_ix ix_tup (pv 0) pe_int (fun _ _=>rfl)) pa_nil)) pa_nil)))) pa_nil))) pe_str)))))),?_⟩
  cases T with
  | @is a x e =>
    refine ⟨_,rfl,a,_,0,_,rfl,rfl,SqT.of e,at0 ..,rfl,_,rfl,?_⟩
    refine iteD rfl ?_
    exact ⟨_,rfl,a,_,1,_,rfl,rfl,SqT.of e,at1 ..,k H (Same.refl H)⟩
  | @yes a e =>
    refine ⟨_,rfl,a,_,0,_,rfl,rfl,SqT.of e,at0 ..,rfl,_,rfl,?_⟩
    refine iteDF (ne_str (by decide +kernel)) ?_
    refine ⟨_,rfl,a,_,0,_,rfl,rfl,SqT.of e,at0 ..,rfl,_,rfl,?_⟩
    refine iteDF (ne_str (by decide +kernel)) ?_
    refine ⟨_,rfl,a,_,rfl,.inr (SqT.of e),rfl,_,rfl,?_⟩
    refine iteD rfl ?_
    have k':=k H (Same.refl H)
    rw [txt_yes] at k'
    exact ⟨_,rfl,a,_,0,_,rfl,rfl,SqT.of e,at0 ..,k'⟩
  | @no a e =>
    refine ⟨_,rfl,a,_,0,_,rfl,rfl,SqT.of e,at0 ..,rfl,_,rfl,?_⟩
    refine iteDF (ne_str (by decide +kernel)) ?_
    refine ⟨_,rfl,a,_,0,_,rfl,rfl,SqT.of e,at0 ..,rfl,_,rfl,?_⟩
    refine iteDF (ne_str (by decide +kernel)) ?_
    refine ⟨_,rfl,a,_,rfl,.inr (SqT.of e),rfl,_,rfl,?_⟩
    refine iteD rfl ?_
    have k':=k H (Same.refl H)
    rw [txt_no] at k'
    exact ⟨_,rfl,a,_,0,_,rfl,rfl,SqT.of e,at0 ..,k'⟩
  | @not a u r e g =>
    have dr:r.depth≤n:=Nat.le_of_succ_le_succ dn
    have sr:r.size+1≤100:=sz
    have lr:=Tr.str_len (t:=r) ok
    have l4:(("not " : Str)).length=4:=by decide +kernel
    refine ⟨_,rfl,a,_,0,_,rfl,rfl,SqT.of e,at0 ..,rfl,_,rfl,?_⟩
    refine iteDF (ne_str (by decide +kernel)) ?_
    refine ⟨_,rfl,a,_,0,_,rfl,rfl,SqT.of e,at0 ..,rfl,_,rfl,?_⟩
    refine iteD rfl ?_
    refine ⟨_,rfl,a,_,1,_,rfl,rfl,SqT.of e,at1 ..,u,r,rfl,g,ok,dr,by omega,fun H1 S1=>?_⟩
    refine ⟨_,_,rfl,rfl,small (by rw [l4]; omega),?_⟩
    rw [txt_not2]
    exact k H1 S1
  | @bin a o u u2 r r2 e g g2 =>
    obtain ⟨oj,ok1,ok2⟩:=ok
    obtain ⟨n1,n2,n3,n4⟩:=join_ne o oj
    have dd:r.depth≤n∧r2.depth≤n:=by
      have:max r.depth r2.depth+1≤n+1:=dn
      omega
    have sr:r.size+r2.size+1≤100:=sz
    have lr:=Tr.str_len (t:=r) ok1
    have lr2:=Tr.str_len (t:=r2) ok2
    have ol:=(join_letters o oj).1
    refine ⟨_,rfl,a,_,0,.str o,rfl,rfl,SqT.of e,at0 ..,rfl,_,rfl,?_⟩
    refine iteDF (ne_str n1) ?_
    refine ⟨_,rfl,a,_,0,.str o,rfl,rfl,SqT.of e,at0 ..,rfl,_,rfl,?_⟩
    refine iteDF (ne_str n4) ?_
    refine ⟨_,rfl,a,_,rfl,.inr (SqT.of e),rfl,_,rfl,?_⟩
    refine iteDF (fun z=>by have:=V.int.inj z; simp at this) ?_
    refine ⟨rfl,_,rfl,a,_,1,u,rfl,rfl,SqT.of e,at1 ..,u,r,rfl,g,ok1,dd.1,by omega,fun H1 S1=>?_⟩
    refine ⟨_,rfl,a,_,0,.str o,rfl,rfl,SqT.of (S1 _ _ e),at0 ..,_,rfl,a,_,2,u2,rfl,rfl,SqT.of (S1 _ _ e),at2 ..,u2,r2,rfl,g2.mono (keepT_same S1),ok2,dd.2,by omega,fun H2 S2=>?_⟩
    refine ⟨(by show 3≤sizeLine; decide),fun L hL=>?_⟩
    have l1:(("(" : Str)).length=1:=by decide +kernel
    have l2:((" " : Str)).length=1:=by decide +kernel
    have l3:((")" : Str)).length=1:=by decide +kernel
    have hL':upd H2 L (.lst [.str r.str,.str o,.str r2.str]) L=some (.lst ([r.str,o,r2.str].map V.str)):=upd_same
    refine ⟨_,L,_,rfl,rfl,SqL.of hL',by rw [l2]; decide,?_,?_⟩
    · simp only [List.map_cons,List.map_nil,List.sum_cons,List.sum_nil,List.length_cons,List.length_nil]
      omega
    have ej:(Txt.join (" " : Str) [r.str,o,r2.str])=(((r.str++(" " : Str))++o)++(" " : Str))++r2.str:=rfl
    refine ⟨_,_,rfl,rfl,small (by rw [ej]; simp only [Str.length_append,l1,l2]; omega),_,_,rfl,rfl,small (by rw [ej]; simp only [Str.length_append,l1,l2,l3]; omega),?_⟩
    rw [txt_bin2]
    exact k _ (S1.trans (S2.trans (Same.new hL _)))
theorem lt_zero {f:Addr} {fd:FuncData}:FnOk P w K mg base CX0 1 f fd ["_law_tree_here"] (spTT 0):=by
  have no:∀ vs H Q E,¬ spTT 0 vs H Q E:=fun vs H Q E h=>by
    obtain ⟨v,t,_,_,_,h1,_⟩:=h
    have:=t.depth_pos
    omega
  exact ⟨fun vs H Q E h=>absurd h (no vs H Q E),fun A outer s H args us vs Q E _ _ _ _ h=>absurd h (no vs H Q E)⟩
theorem ok_l_text {f:Addr} {fd:FuncData} (F:Fun K "_law_text" "_law_text" s_l_text f fd) (B:Bl mg) (m:mg "_law_text" = some (.ref f)) :
    ∀ n:Nat,FnOk P w K mg base CX0 (n+1) f fd ["_law_tree_here"] (spTT n)
  | 0=>lt_zero
  | n+1=>lt_step F B (Cal.of F (ok_l_text F B m n) m (fun _ _ _ _ _ _ us hl=>by obtain ⟨u0,rfl⟩:=len1 hl; rfl))
def jn (c:Nat):List (List Nat)→List Nat
  | []=>[]
  | [a]=>a
  | a::b::r=>a++c::jn c (b::r)
def cd (x:Str):List Nat:=x.cps.toList
def numT (n:Int):Str:=toString n
def SP:Str:=⟨#[32]⟩
def NL:Str:=⟨#[10]⟩
theorem log_small {n:Int} (h0:0≤n) (h1:n < 1000000000000):n.natAbs.log2 < 1920:=by
  have h2:n.natAbs < 2 ^ 40:=by omega
  by_cases c:n.natAbs=0
  · rw [c]
    decide
  · have:=(Nat.log2_lt c).mpr h2
    omega
theorem cut_from {xs:List V} {k:Nat} (hk:k≤xs.length):cutV xs (some (k:Int)) none=xs.drop k:=by
  unfold cutV
  rw [HT.sIx_none,HT.sIx_nat,Nat.min_eq_left hk]
  exact List.take_of_length_le (by rw [List.length_drop]; exact Nat.le_refl _)
theorem isIn_iff (L:Str) (c:Nat):isIn L c=true↔c ∈ L.cps.toList:=by
  unfold isIn
  constructor
  · intro h
    cases e:Builtin.Str.occurrences L ⟨#[c]⟩ 0 L.length 1 with
    | nil=>rw [e] at h; cases h
    | cons i r =>
      have s:=StrLaws.occ_spec L ⟨#[c]⟩ 0 L.length 1 i (by rw [e]; exact List.mem_cons_self)
      exact List.mem_of_getElem? ((StrLaws.subAt_one L c i).mp s)
  · intro h
    obtain ⟨i,hi⟩:=List.mem_iff_getElem?.mp h
    have s:=(StrLaws.subAt_one L c i).mpr hi
    rcases StrLaws.occ_head L ⟨#[c]⟩ 1 (Nat.le_refl _) with ⟨_,no⟩ | ⟨j,r,e,_⟩
    · exact absurd s (no i)
    · rw [e]; rfl
theorem let_ends {c:Nat} (h:isIn LET c=true):isIn ENDS c=false:=by
  have h1:=(isIn_iff LET c).mp h
  have h2:∀ c ∈ LET.cps.toList,isIn ENDS c=false:=by decide +kernel
  exact h2 c h1
def notE (c:Nat):Bool:=!isIn ENDS c
def wL (r:List Nat):List Nat:=r.takeWhile notE
def wR (r:List Nat):List Nat:=r.dropWhile notE
theorem wLR (r:List Nat):wL r++wR r=r:=List.takeWhile_append_dropWhile
theorem wL_no {r:List Nat}:∀ c ∈ wL r,isIn ENDS c=false:=fun c h=>by
  have:=List.all_eq_true.mp (List.all_takeWhile (p:=notE) (l:=r)) c h
  unfold notE at this
  simpa using this
def EndR (r:List Nat):Prop:=∀ c,r.head?=some c→isIn ENDS c=true
theorem wR_end (r:List Nat):EndR (wR r):=fun c h=>by
  have:=List.head?_dropWhile_not notE r
  unfold wR at h
  rw [h] at this
  unfold notE at this
  simpa using this
theorem wL_eq {x r:List Nat} (hx:∀ c ∈ x,isIn ENDS c=false) (hr:EndR r):wL (x++r)=x∧wR (x++r)=r:=by
  have hp:∀ c ∈ x,notE c=true:=fun c hc=>by unfold notE; rw [hx c hc]; rfl
  have h1:r.takeWhile notE=[]∧r.dropWhile notE=r:=by
    cases r with
    | nil=>exact ⟨rfl,rfl⟩
    | cons c t =>
      have e:notE c=false:=by unfold notE; rw [hr c rfl]; rfl
      rw [List.takeWhile_cons,List.dropWhile_cons,e]
      exact ⟨rfl,rfl⟩
  unfold wL wR
  rw [List.takeWhile_append_of_pos hp,List.dropWhile_append_of_pos hp,h1.1,h1.2,List.append_nil]
  exact ⟨rfl,rfl⟩
abbrev PR:=Option (Tr × List Nat)
def jR (f:List Nat→PR) (a:Tr) (r1:List Nat):PR :=
  if r1.head?=some 32∧stl (wL r1.tail) ∈ joinW∧(wR r1.tail).head?=some 32 then
    match f (wR r1.tail).tail with
    | none=>none
    | some (b,r3)=>if r3.head?=some 41 then some (.bin (stl (wL r1.tail)) a b,r3.tail) else none
  else none
def pJ (f:List Nat→PR) (r:List Nat):PR:=match f r.tail with | none=>none | some (a,r1)=>jR f a r1
def pW (f:List Nat→PR) (r:List Nat):PR :=
  if wL r=[110,111,116] then
    if (wR r).head?=some 32 then match f (wR r).tail with | none=>none | some (a,r2)=>some (.not a,r2) else none
  else if wL r=[121,101,115] then some (.yes,wR r) else if wL r=[110,111] then some (.no,wR r) else if nameB (stl (wL r))=true then some (.is (stl (wL r)),wR r) else none
def pN:Nat→List Nat→PR
  | 0,_=>none
  | n+1,r=>if r.head?=some 40 then pJ (pN n) r else pW (pN n) r
def lLet (r:List Nat):List Nat:=r.takeWhile (isIn LET)
def rLet (r:List Nat):List Nat:=r.dropWhile (isIn LET)
def lJ (f:List Nat→PR) (a:Tr) (r1:List Nat):List Str→PR
  | []=>none
  | o::os=>if r1.take (o.length+2)=32::(o.cps.toList++[32]) then
      match f (r1.drop (o.length+2)) with
      | some (b,r3)=>if r3.head?=some 41 then some (.bin o a b,r3.tail) else lJ f a r1 os
      | none=>lJ f a r1 os
    else lJ f a r1 os
def pL:Nat→List Nat→PR
  | 0,_=>none
  | n+1,r=>if r.head?=some 40 then (match pL n r.tail with | none=>none | some (a,r1)=>lJ (pL n) a r1 joinW)
    else if r.take 4=[110,111,116,32] then (match pL n (r.drop 4) with | none=>none | some (a,r1)=>some (.not a,r1))
    else if lLet r=[121,101,115] then some (.yes,rLet r) else if lLet r=[110,111] then some (.no,rLet r) else if nameB (stl (lLet r))=true then some (.is (stl (lLet r)),rLet r) else none
theorem lLR (r:List Nat):lLet r++rLet r=r:=List.takeWhile_append_dropWhile
theorem lLet_in {r:List Nat}:∀ c ∈ lLet r,isIn LET c=true:=fun c h=>List.all_eq_true.mp (List.all_takeWhile (p:=isIn LET) (l:=r)) c h
theorem rLet_hd (r:List Nat) {c:Nat} (h:(rLet r).head?=some c):isIn LET c=false:=by
  have:=List.head?_dropWhile_not (isIn LET) r
  unfold rLet at h
  rw [h] at this
  simpa using this
theorem lLet_eq {x r:List Nat} (hx:∀ c ∈ x,isIn LET c=true) (hr:EndR r):lLet (x++r)=x∧rLet (x++r)=r:=by
  have h1:r.takeWhile (isIn LET)=[]∧r.dropWhile (isIn LET)=r:=by
    cases r with
    | nil=>exact ⟨rfl,rfl⟩
    | cons c t =>
      have e:isIn LET c=false:=by
        cases e:isIn LET c with
        | false=>rfl
        | true =>
          have h1:=let_ends e
          rw [hr c rfl] at h1
          cases h1
      rw [List.takeWhile_cons,List.dropWhile_cons,e]
      exact ⟨rfl,rfl⟩
  unfold lLet rLet
  rw [List.takeWhile_append_of_pos hx,List.dropWhile_append_of_pos hx,h1.1,h1.2,List.append_nil]
  exact ⟨rfl,rfl⟩
theorem name_lets {x:List Nat} (h:nameB (stl x)=true):∀ c ∈ x,isIn LET c=true:=fun c hc=>by
  unfold nameB at h
  simp only [Bool.and_eq_true] at h
  exact List.all_eq_true.mp h.2 c hc
theorem join_ends:∀ w ∈ joinW,∀ c ∈ w.cps.toList,isIn ENDS c=false:=by decide +kernel
theorem word_lets:(∀ c ∈ ([121,101,115]:List Nat),isIn LET c=true)∧(∀ c ∈ ([110,111]:List Nat),isIn LET c=true)∧(∀ c ∈ ([110,111,116]:List Nat),isIn LET c=true):=by decide +kernel
theorem head_cons {r:List Nat} {c:Nat} (h:r.head?=some c):r=c::r.tail:=by
  cases r with
  | nil=>cases h
  | cons a t=>cases h; rfl
theorem end32:isIn ENDS 32=true:=ends_in.1
theorem stl_inj {x:List Nat} {o:Str} (h:stl x=o):x=o.cps.toList:=by rw [← h]; rfl
theorem lJ_hit {f:List Nat→PR} {a b:Tr} {r1 r2 r3:List Nat} {o:Str} (e1:r1=32::(o.cps.toList++32::r2)) (hf:f r2=some (b,r3)) (h3:r3.head?=some 41):∀ os:List Str,(∀ w ∈ os,∀ c ∈ w.cps.toList,isIn ENDS c=false)→o ∈ os→(∀ c ∈ o.cps.toList,isIn ENDS c=false)→lJ f a r1 os=some (.bin o a b,r3.tail)
  | [],_,h,_=>by cases h
  | w::os,hw,h,ho=>by
    unfold lJ
    by_cases c:w=o
    · subst c
      have ll:w.cps.toList.length=w.length:=by rw [Array.length_toList]; rfl
      have t1:r1.take (w.length+2)=32::(w.cps.toList++[32]):=by
        rw [e1,List.take_succ_cons,List.take_append,List.take_of_length_le (by omega),ll,show w.length+1 - w.length=1 by omega]
        rfl
      have t2:r1.drop (w.length+2)=r2:=by
        rw [e1,List.drop_succ_cons,List.drop_append,List.drop_of_length_le (by omega),ll,show w.length+1 - w.length=1 by omega]
        rfl
      rw [if_pos t1,t2,hf]
      show (if r3.head?=some 41 then _ else _)=_
      rw [if_pos h3]
    · have mo:o ∈ os:=by
        rcases List.mem_cons.mp h with z | z
        · exact absurd z.symm c
        · exact z
      have ih:=lJ_hit (f:=f) (a:=a) (b:=b) e1 hf h3 os (fun w' hw'=>hw w' (List.mem_cons_of_mem _ hw')) mo ho
      rw [if_neg]
      · exact ih
      · intro z
        apply c
        have z1:=wL_eq (x:=w.cps.toList) (r:=32::r1.drop (w.length+2)) (fun c hc=>hw w List.mem_cons_self c hc) (fun c hc=>by cases hc; exact end32)
        have z2:=wL_eq (x:=o.cps.toList) (r:=32::r2) ho (fun c hc=>by cases hc; exact end32)
        have e3:=List.take_append_drop (w.length+2) r1
        rw [z] at e3
        generalize r1.drop (w.length+2)=d at e3 z1
        have e2:w.cps.toList++32::d=o.cps.toList++32::r2:=by
          have e4:32::(w.cps.toList++32::d)=32::(o.cps.toList++32::r2):=by
            rw [← e1,← e3]
            simp
          exact (List.cons.inj e4).2
        rw [e2] at z1
        exact str_ext (z1.1.symm.trans z2.1)
theorem lJ_some {f:List Nat→PR} {a t:Tr} {r1 r':List Nat}:∀ os:List Str,lJ f a r1 os=some (t,r')→∃ o b r2 r3,o ∈ os∧r1=32::(o.cps.toList++32::r2)∧f r2=some (b,r3)∧r3.head?=some 41∧t=.bin o a b∧r'=r3.tail
  | [],h=>by cases h
  | w::os,h=>by
    have later:lJ f a r1 os=some (t,r')→∃ o b r2 r3,o ∈ w::os∧r1=32::(o.cps.toList++32::r2)∧f r2=some (b,r3)∧r3.head?=some 41∧t=.bin o a b∧r'=r3.tail:=fun h=>by
      obtain ⟨o,b,r2,r3,ho,q⟩:=lJ_some os h
      exact ⟨o,b,r2,r3,List.mem_cons_of_mem _ ho,q⟩
    unfold lJ at h
    by_cases c:r1.take (w.length+2)=32::(w.cps.toList++[32])
    · rw [if_pos c] at h
      cases e:f (r1.drop (w.length+2)) with
      | none=>rw [e] at h; exact later h
      | some q =>
        obtain ⟨b,r3⟩:=q
        rw [e] at h
        dsimp only at h
        by_cases c3:r3.head?=some 41
        · rw [if_pos c3] at h
          have h':=Option.some.inj h
          refine ⟨w,b,r1.drop (w.length+2),r3,List.mem_cons_self,?_,e,c3,(congrArg Prod.fst h').symm,(congrArg Prod.snd h').symm⟩
          have e3:=List.take_append_drop (w.length+2) r1
          rw [c] at e3
          generalize r1.drop (w.length+2)=d at e3
          rw [← e3]
          simp
        · rw [if_neg c3] at h
          exact later h
    · rw [if_neg c] at h
      exact later h
theorem jR_some {f:List Nat→PR} {a t:Tr} {r1 r':List Nat} (h:jR f a r1=some (t,r')):∃ b r3,r1.head?=some 32∧stl (wL r1.tail) ∈ joinW∧(wR r1.tail).head?=some 32∧f (wR r1.tail).tail=some (b,r3)∧r3.head?=some 41∧t=.bin (stl (wL r1.tail)) a b∧r'=r3.tail:=by
  unfold jR at h
  by_cases c:r1.head?=some 32∧stl (wL r1.tail) ∈ joinW∧(wR r1.tail).head?=some 32
  · rw [if_pos c] at h
    cases e:f (wR r1.tail).tail with
    | none=>rw [e] at h; cases h
    | some q =>
      obtain ⟨b,r3⟩:=q
      rw [e] at h
      dsimp only at h
      by_cases c3:r3.head?=some 41
      · rw [if_pos c3] at h
        have h':=Option.some.inj h
        exact ⟨b,r3,c.1,c.2.1,c.2.2,rfl,c3,(congrArg Prod.fst h').symm,(congrArg Prod.snd h').symm⟩
      · rw [if_neg c3] at h
        cases h
  · rw [if_neg c] at h
    cases h
theorem jR_join {r1:List Nat} (h1:r1.head?=some 32) (h2:(wR r1.tail).head?=some 32):r1=32::(wL r1.tail++32::(wR r1.tail).tail):=by
  have e1:=head_cons h1
  have e2:=head_cons h2
  have e3:=wLR r1.tail
  rw [e2] at e3
  rw [e3]
  exact e1
theorem pN_pL:∀ (n:Nat) {r r':List Nat} {t:Tr},pN n r=some (t,r')→pL n r=some (t,r')
  | 0,r,r',t,h=>by cases h
  | n+1,r,r',t,h=>by
    unfold pN at h
    unfold pL
    by_cases c:r.head?=some 40
    · rw [if_pos c] at h ⊢
      unfold pJ at h
      cases e:pN n r.tail with
      | none=>rw [e] at h; cases h
      | some q =>
        obtain ⟨a,r1⟩:=q
        rw [e] at h
        dsimp only at h
        rw [pN_pL n e]
        dsimp only
        obtain ⟨b,r3,h1,h2,h3,h4,h5,rfl,rfl⟩:=jR_some h
        have oe:=join_ends _ h2
        exact lJ_hit (o:=stl (wL r1.tail)) (jR_join h1 h3) (pN_pL n h4) h5 joinW join_ends h2 oe
    · rw [if_neg c] at h ⊢
      unfold pW at h
      by_cases c1:wL r=[110,111,116]
      · rw [if_pos c1] at h
        by_cases c2:(wR r).head?=some 32
        · rw [if_pos c2] at h
          have e0:=wLR r
          rw [c1,head_cons c2] at e0
          have t4:r.take 4=[110,111,116,32]:=by rw [← e0]; rfl
          have d4:r.drop 4=(wR r).tail:=(congrArg (List.drop 4) e0).symm
          rw [if_pos t4,d4]
          cases e:pN n (wR r).tail with
          | none=>rw [e] at h; cases h
          | some q =>
            obtain ⟨a,r2⟩:=q
            rw [e] at h
            rw [pN_pL n e]
            exact h
        · rw [if_neg c2] at h
          cases h
      · rw [if_neg c1] at h
        have t4:¬ r.take 4=[110,111,116,32]:=fun z=>c1 (by
          have e3:=List.take_append_drop 4 r
          rw [z] at e3
          have:=(wL_eq (x:=[110,111,116]) (r:=32::r.drop 4) (fun c hc=>let_ends (word_lets.2.2 c hc)) (fun c hc=>by cases hc; exact end32)).1
          rw [← e3]
          exact this)
        rw [if_neg t4]
        have key:∀ {x:List Nat},wL r=x→(∀ c ∈ x,isIn LET c=true)→lLet r=x∧rLet r=wR r:=fun {x} hx hl=>by
          have e0:=wLR r
          rw [hx] at e0
          have:=lLet_eq (x:=x) (r:=wR r) hl (wR_end r)
          rw [e0] at this
          exact this
        by_cases c2:wL r=[121,101,115]
        · rw [if_pos c2] at h
          obtain ⟨k1,k2⟩:=key c2 word_lets.1
          rw [k1,if_pos rfl,k2]
          exact h
        · rw [if_neg c2] at h
          by_cases c3:wL r=[110,111]
          · rw [if_pos c3] at h
            obtain ⟨k1,k2⟩:=key c3 word_lets.2.1
            rw [k1,if_neg (by decide),if_pos rfl,k2]
            exact h
          · rw [if_neg c3] at h
            by_cases c4:nameB (stl (wL r))=true
            · rw [if_pos c4] at h
              obtain ⟨k1,k2⟩:=key rfl (name_lets c4)
              rw [k1,if_neg c2,if_neg c3,if_pos c4,k2]
              exact h
            · rw [if_neg c4] at h
              cases h
theorem pL_pN:∀ (n:Nat) {r r':List Nat} {t:Tr},pL n r=some (t,r')→EndR r'→pN n r=some (t,r')
  | 0,r,r',t,h,_=>by cases h
  | n+1,r,r',t,h,er=>by
    unfold pL at h
    unfold pN
    by_cases c:r.head?=some 40
    · rw [if_pos c] at h ⊢
      unfold pJ
      cases e:pL n r.tail with
      | none=>rw [e] at h; cases h
      | some q =>
        obtain ⟨a,r1⟩:=q
        rw [e] at h
        dsimp only at h
        obtain ⟨o,b,r2,r3,ho,e1,h4,h5,rfl,rfl⟩:=lJ_some joinW h
        have er1:EndR r1:=fun c hc=>by rw [e1] at hc; cases hc; exact end32
        have er3:EndR r3:=fun c hc=>by rw [h5] at hc; cases hc; exact ends_in.2.2
        rw [pL_pN n e er1]
        dsimp only
        have w:=wL_eq (x:=o.cps.toList) (r:=32::r2) (join_ends o ho) (fun c hc=>by cases hc; exact end32)
        have et:r1.tail=o.cps.toList++32::r2:=by rw [e1]; rfl
        have so:stl (wL r1.tail)=o:=by rw [et,w.1]; rfl
        unfold jR
        rw [so,if_pos ⟨by rw [e1]; rfl,ho,by rw [et,w.2]; rfl⟩]
        have e2:(wR r1.tail).tail=r2:=by rw [et,w.2]; rfl
        rw [e2,pL_pN n h4 er3]
        dsimp only
        rw [if_pos h5]
    · rw [if_neg c] at h ⊢
      unfold pW
      by_cases c1:r.take 4=[110,111,116,32]
      · rw [if_pos c1] at h
        have e3:=List.take_append_drop 4 r
        rw [c1] at e3
        have w:=wL_eq (x:=[110,111,116]) (r:=32::r.drop 4) (fun c hc=>let_ends (word_lets.2.2 c hc)) (fun c hc=>by cases hc; exact end32)
        have e4:[110,111,116]++32::r.drop 4=r:=e3
        rw [e4] at w
        rw [if_pos w.1,w.2]
        show (if (some 32:Option Nat)=some 32 then (match pN n (r.drop 4) with | none=>none | some (a,r2)=>some (Tr.not a,r2)) else none)=_
        rw [if_pos rfl]
        cases e:pL n (r.drop 4) with
        | none=>rw [e] at h; cases h
        | some q =>
          obtain ⟨a,r2⟩:=q
          rw [e] at h
          have h':=Option.some.inj h
          rw [pL_pN n e (by have:=congrArg Prod.snd h'; rw [show r2=r' from this]; exact er)]
          exact h
      · rw [if_neg c1] at h
        have key:EndR (rLet r)→wL r=lLet r∧wR r=rLet r:=fun hr=>by
          have:=wL_eq (x:=lLet r) (r:=rLet r) (fun c hc=>let_ends (lLet_in c hc)) hr
          rw [lLR] at this
          exact this
        have fin:∀ {t0:Tr},some (t0,rLet r)=some (t,r')→EndR (rLet r):=fun {t0} h=>by
          have h':=Option.some.inj h
          have:=congrArg Prod.snd h'
          rw [show rLet r=r' from this]
          exact er
        by_cases c2:lLet r=[121,101,115]
        · rw [if_pos c2] at h
          obtain ⟨k1,k2⟩:=key (fin h)
          rw [k1,c2,if_neg (by decide),if_pos rfl,k2]
          exact h
        · rw [if_neg c2] at h
          by_cases c3:lLet r=[110,111]
          · rw [if_pos c3] at h
            obtain ⟨k1,k2⟩:=key (fin h)
            rw [k1,c3,if_neg (by decide),if_neg (by decide),if_pos rfl,k2]
            exact h
          · rw [if_neg c3] at h
            by_cases c4:nameB (stl (lLet r))=true
            · rw [if_pos c4] at h
              obtain ⟨k1,k2⟩:=key (fin h)
              have c5:¬ lLet r=[110,111,116]:=fun z=>by
                rw [z] at c4
                exact absurd c4 (by decide +kernel)
              rw [k1,if_neg c5,if_neg c2,if_neg c3,if_pos c4,k2]
              exact h
            · rw [if_neg c4] at h
              cases h
def treeP (z:List Nat):Option Tr:=match pN 10 z with
  | some (t,r')=>if r'=[]∧t.size≤30 then some t else none
  | none=>none
theorem treeL (z:List Nat):treeP z=match pL 10 z with
  | some (t,r')=>if r'=[]∧t.size≤30 then some t else none
  | none=>none:=by
  unfold treeP
  cases e:pL 10 z with
  | none =>
    cases e2:pN 10 z with
    | none=>rfl
    | some q=>rw [pN_pL 10 e2] at e; cases e
  | some q =>
    obtain ⟨t,r'⟩:=q
    dsimp only
    by_cases c:r'=[]
    · have er:EndR r':=fun d hd=>by rw [c] at hd; cases hd
      rw [pL_pN 10 e er]
    · rw [if_neg (fun z=>c z.1)]
      cases e2:pN 10 z with
      | none=>rfl
      | some q2 =>
        obtain ⟨t2,r2⟩:=q2
        have:=pN_pL 10 e2
        rw [e] at this
        have h':=Option.some.inj this
        dsimp only
        rw [if_neg]
        intro z
        apply c
        rw [show r'=r2 from congrArg Prod.snd h']
        exact z.1
abbrev s_AskError:Stmt:=inClass (top 1) 0
abbrev s_NoText:Stmt:=inClass (top 2) 0
def FmOk (v:V):Prop:=(∃ i:Int,v=.int i∧0≤i∧i < 1000000000000)∨(∃ y:Str,v=.str y∧y.length≤20)∨v=.non
theorem FmOk.fm {v:V} (h:FmOk v):∃ y,FmV v y∧y.length≤60:=by
  rcases h with ⟨i,rfl,h0,h1⟩ | ⟨y,rfl,hy⟩ | rfl
  · exact ⟨_,.inl ⟨i,rfl,log_small h0 h1,rfl⟩,Nat.le_trans (PyProof.Rows.toString_length_le h0 (k:=12) (by decide) (by show i < 10 ^ 12; omega)) (by decide)⟩
  · exact ⟨y,.inr (.inl rfl),by omega⟩
  · exact ⟨_,.inr (.inr ⟨rfl,rfl⟩),by decide +kernel⟩
theorem fl1 {a:Str} (ha:a.length≤60):(Str.empty++a).length≤sizeLine:=by
  rw [Str.length_append]
  have:Str.empty.length=0:=rfl
  exact small (by omega)
theorem fl2 {a b:Str} (ha:a.length≤60) (hb:b.length≤60):((Str.empty++a)++b).length≤sizeLine:=by
  rw [Str.length_append,Str.length_append]
  have:Str.empty.length=0:=rfl
  exact small (by omega)
def spAI (K:PySem.W.Frag):Sp:=fun vs H Q _=>∃ (e C f:Addr) (x:V),vs=[.ref e,x]∧H e=some (ExcN C e)∧MkX K C f∧Q .non H
theorem sc_AskError:FnScope ["self", "words"] ["self", "words"] (defScope s_AskError):=⟨rfl,rfl,rfl,by decide +kernel,rfl,by decide +kernel,by decide +kernel⟩
theorem ok_AskError {f:Addr} {fd:FuncData} {dV:Value} (F:FunD K "__init__" "AskError.__init__" s_AskError f fd dV) (hV:mg "ValueError" = none):FnOk P w K mg base CX0 1 f fd ["self", "words"] (spAI K):=by
  refine F.ok sc_AskError (fun vs H Q E h=>?_) (fun cdv A outer s H vs Q E hr h=>?_)
  · obtain ⟨e,C,f,x,rfl,_⟩:=h
    rfl
  obtain ⟨e,C,f,x,rfl,he,M,q⟩:=h
  refine ⟨_,pss_one (ps_expr (pe_valinit rfl hV (pa_cons (pv 0) (pa_cons (pv 1) pa_nil)))),?_⟩
  exact ⟨_,rfl,_,rfl,e,C,f,x,rfl,he,M,q⟩
def spXI (C:Addr) (a:Str):Sp:=fun vs H Q _=>∃ (e:Addr) (v:V),vs=[.ref e,v]∧H e=some (ExcN C e)∧FmOk v∧∀ dx,H dx=none→dx ≠ e→Q .non (upd (upd H dx (.xd [(a,v)])) e (ExcD C e dx))
structure AskC (P:Program) (w:World) (K:PySem.W.Frag) (mg:Str→Option Value) (base:Heap) (CA fA:Addr) (fdA:FuncData):Prop where
  g:mg "AskError" = some (.ref CA)
  c:ClsFn K CA fA "__init__"
  ok:FnOk P w K mg base CX0 1 fA fdA ["self", "words"] (spAI K)
  b:Binds K fdA ["self", "words"] []
section
variable {CA fA:Addr} {fdA:FuncData}
theorem sc_NoText:FnScope ["self", "row"] ["self", "row"] (defScope s_NoText):=⟨rfl,rfl,rfl,by decide +kernel,rfl,by decide +kernel,by decide +kernel⟩
theorem ok_NoText {f C:Addr} {fd:FuncData} {dV:Value} (F:FunD K "__init__" "NoText.__init__" s_NoText f fd dV) (T:AskC P w K mg base CA fA fdA) (M:MkX K C f) (c:ClsX K C CA) (na:NoAttr K C "row"):FnOk P w K mg base CX0 2 f fd ["self", "row"] (spXI C "row"):=by
  refine F.ok sc_NoText (fun vs H Q E h=>?_) (fun cdv A outer s H vs Q E hr h=>?_)
  · obtain ⟨e,v,rfl,_⟩:=h
    rfl
  obtain ⟨e,v,rfl,he,hv,q⟩:=h
  refine ⟨_,pss_cons (ps_expr (pe_clscall rfl T.g T.c T.ok hr T.b .nil pass0 (pa_cons (pv 0) (pa_cons (pe_fstr (pj_cons pe_str (pj_cons (pe_fmtV (pv 1)) pj_nil))) pa_nil)))) (pss_one (ps_fldX (pv 0) (pv 1) rfl)),?_⟩
  obtain ⟨y,fy,hy⟩:=hv.fm
  refine ⟨_,rfl,_,rfl,fl1 (by decide +kernel),_,rfl,y,fy,Nat.le_trans hy (by decide),y,rfl,fl2 (by decide +kernel) hy,fl2 (by decide +kernel) hy,?_⟩
  refine ⟨e,C,f,_,rfl,he,M,?_⟩
  exact ⟨_,rfl,_,rfl,e,C,CA,rfl,he,c,na,q⟩
end
structure Mkr (P:Program) (w:World) (K:PySem.W.Frag) (mg:Str→Option Value) (base:Heap) (C:Addr) (a:Str) (f:Addr) (fd:FuncData):Prop where
  made:MkX K C f
  ok:FnOk P w K mg base CX0 2 f fd ["self", a] (spXI C a)
  b:Binds K fd ["self", a] []
  na:NoAttr K C a
theorem ex_made {H:Hp} {e dx C:Addr} {a:Str} {v:V} (h0:H e=none) (h1:upd H e (ExcN C e) dx=none) (h2:dx ≠ e):Same H (upd (upd (upd H e (ExcN C e)) dx (.xd [(a,v)])) e (ExcD C e dx))∧Ex (upd (upd (upd H e (ExcN C e)) dx (.xd [(a,v)])) e (ExcD C e dx)) e C a v:=by
  rw [upd_ne h2] at h1
  refine ⟨fun b o hb=>?_,dx,upd_same,?_⟩
  · rw [upd_ne (ne_of_none hb h0),upd_ne (ne_of_none hb h1),upd_ne (ne_of_none hb h0)]
    exact hb
  · rw [upd_ne h2,upd_same]
theorem mk_sp {H:Hp} {C e:Addr} {a:Str} {v:V} {Q:VK} {E:XK} (hv:FmOk v) (he:H e=none) (h:∀ H2,Same H H2→Ex H2 e C a v→Q .non H2):spXI C a [.ref e,v] (upd H e (ExcN C e)) Q E:=by
  refine ⟨e,v,rfl,upd_same,hv,fun dx h1 h2=>?_⟩
  obtain ⟨s,x⟩:=ex_made (a:=a) (v:=v) he h1 h2
  exact h _ s x
theorem lk1 (f:Str) (v:V):([(f,v)]:List (Str × V)).lookup f=some v:=by simp [List.lookup]
def RaisesRow (C:Addr) (k:Int) (H:Hp) (E:XK):Prop:=∀ (e dx:Addr) (H':Hp),Same H H'→H' e=some (ExcT C e dx)→H' dx=some (.xd [("row", .int k)])→E (.ref e) (some dx) H'
abbrev s_scan:Stmt:=top 5
abbrev s_sinit:Stmt:=inClass s_scan 0
abbrev s_senter:Stmt:=inClass s_scan 1
abbrev s_ssees:Stmt:=inClass s_scan 2
abbrev s_stake:Stmt:=inClass s_scan 3
abbrev s_sword:Stmt:=inClass s_scan 4
abbrev s_sfinish:Stmt:=inClass s_scan 5
structure STxt (K:PySem.W.Frag) (mg:Str→Option Value) (C:Addr):Prop where
  cl:Cls K C
  nX:NoAttr K C "text"
  nR:NoAttr K C "row"
  nW:NoAttr K C "most_within"
  nP:NoAttr K C "most_parts"
  nL:NoAttr K C "place"
  nN:NoAttr K C "parts"
  mgC:mg "Scan" = some (.ref C)
theorem putF_has (f:Str) (v:V):∀ (fs:List (Str × V)) (u:V),fs.lookup f=some u→(putF f v fs).length=fs.length
  | [],u,h=>by cases h
  | (g,x)::r,u,h=>by
    unfold putF
    by_cases e:g=f
    · rw [if_pos e]
      rfl
    · rw [if_neg e]
      have e':(f == g)=false:=by simpa using fun z=>e z.symm
      simp only [List.lookup,e'] at h
      rw [List.length_cons,List.length_cons,putF_has f v r u h]
theorem putF_len (f:Str) (v:V):∀ fs:List (Str × V),(putF f v fs).length≤fs.length+1
  | []=>Nat.le_refl _
  | (g,u)::r=>by
    have:=putF_len f v r
    unfold putF
    split
    · simp
    · simp only [List.length_cons]
      omega
structure SF (T:Str) (k:Int) (p n:Nat) (fs:List (Str × V)):Prop where
  text:fs.lookup ("text" : Str)=some (.str T)
  mw:fs.lookup ("most_within" : Str)=some (.int 10)
  mp:fs.lookup ("most_parts" : Str)=some (.int 30)
  place:fs.lookup ("place" : Str)=some (.int (p:Int))
  parts:fs.lookup ("parts" : Str)=some (.int (n:Int))
  no1:fs.lookup ("enter" : Str)=none
  no2:fs.lookup ("sees" : Str)=none
  no3:fs.lookup ("take" : Str)=none
  no4:fs.lookup ("word" : Str)=none
  no5:fs.lookup ("finish" : Str)=none
  len:fs.length≤6
  row:fs.lookup ("row" : Str)=some (.int k)
theorem SF.toPlace {T:Str} {k:Int} {p n:Nat} {fs:List (Str × V)} (h:SF T k p n fs) (p':Nat)   : SF T k p' n (putF "place" (.int (p':Int)) fs):=by
  refine ⟨?_,?_,?_,?_,?_,?_,?_,?_,?_,?_,?_,?_⟩
  · rw [lookup_putF,if_neg (by decide +kernel)]; exact h.text
  · rw [lookup_putF,if_neg (by decide +kernel)]; exact h.mw
  · rw [lookup_putF,if_neg (by decide +kernel)]; exact h.mp
  · rw [lookup_putF,if_pos rfl]
  · rw [lookup_putF,if_neg (by decide +kernel)]; exact h.parts
  · rw [lookup_putF,if_neg (by decide +kernel)]; exact h.no1
  · rw [lookup_putF,if_neg (by decide +kernel)]; exact h.no2
  · rw [lookup_putF,if_neg (by decide +kernel)]; exact h.no3
  · rw [lookup_putF,if_neg (by decide +kernel)]; exact h.no4
  · rw [lookup_putF,if_neg (by decide +kernel)]; exact h.no5
  · rw [putF_has _ _ _ _ h.place]; exact h.len
  · rw [lookup_putF,if_neg (by decide +kernel)]; exact h.row
theorem SF.toParts {T:Str} {k:Int} {p n:Nat} {fs:List (Str × V)} (h:SF T k p n fs) (n':Nat)  : SF T k p n' (putF "parts" (.int (n':Int)) fs):=by
  refine ⟨?_,?_,?_,?_,?_,?_,?_,?_,?_,?_,?_,?_⟩
  · rw [lookup_putF,if_neg (by decide +kernel)]; exact h.text
  · rw [lookup_putF,if_neg (by decide +kernel)]; exact h.mw
  · rw [lookup_putF,if_neg (by decide +kernel)]; exact h.mp
  · rw [lookup_putF,if_neg (by decide +kernel)]; exact h.place
  · rw [lookup_putF,if_pos rfl]
  · rw [lookup_putF,if_neg (by decide +kernel)]; exact h.no1
  · rw [lookup_putF,if_neg (by decide +kernel)]; exact h.no2
  · rw [lookup_putF,if_neg (by decide +kernel)]; exact h.no3
  · rw [lookup_putF,if_neg (by decide +kernel)]; exact h.no4
  · rw [lookup_putF,if_neg (by decide +kernel)]; exact h.no5
  · rw [putF_has _ _ _ _ h.parts]; exact h.len
  · rw [lookup_putF,if_neg (by decide +kernel)]; exact h.row
def sfs (T:Str) (k:Int):List (Str × V):=putF "parts" (.int 0) (putF "place" (.int 0) (putF "most_parts" (.int 30) (putF "most_within" (.int 10) (putF "row" (.int k) (putF "text" (.str T) [])))))
theorem sfs_ok (T:Str) (k:Int):SF T k 0 0 (sfs T k):=by
  have no:∀ m:Str,m ≠ "parts" → m ≠ "place" → m ≠ "most_parts" → m ≠ "most_within" → m ≠ "row" → m ≠ "text" → (sfs T k).lookup m=none:=fun m h1 h2 h3 h4 h5 h6=>by
    unfold sfs
    rw [lookup_putF,if_neg h1,lookup_putF,if_neg h2,lookup_putF,if_neg h3,lookup_putF,if_neg h4,lookup_putF,if_neg h5,lookup_putF,if_neg h6]
    rfl
  refine ⟨?_,?_,?_,?_,?_,no _ (by decide +kernel) (by decide +kernel) (by decide +kernel) (by decide +kernel) (by decide +kernel) (by decide +kernel),no _ (by decide +kernel) (by decide +kernel) (by decide +kernel) (by decide +kernel) (by decide +kernel) (by decide +kernel),no _ (by decide +kernel) (by decide +kernel) (by decide +kernel) (by decide +kernel) (by decide +kernel) (by decide +kernel),no _ (by decide +kernel) (by decide +kernel) (by decide +kernel) (by decide +kernel) (by decide +kernel) (by decide +kernel),no _ (by decide +kernel) (by decide +kernel) (by decide +kernel) (by decide +kernel) (by decide +kernel) (by decide +kernel),?_,?_⟩
  · unfold sfs
    rw [lookup_putF,if_neg (by decide +kernel),lookup_putF,if_neg (by decide +kernel),lookup_putF,if_neg (by decide +kernel),lookup_putF,if_neg (by decide +kernel),lookup_putF,if_neg (by decide +kernel),lookup_putF,if_pos rfl]
  · unfold sfs
    rw [lookup_putF,if_neg (by decide +kernel),lookup_putF,if_neg (by decide +kernel),lookup_putF,if_neg (by decide +kernel),lookup_putF,if_pos rfl]
  · unfold sfs
    rw [lookup_putF,if_neg (by decide +kernel),lookup_putF,if_neg (by decide +kernel),lookup_putF,if_pos rfl]
  · unfold sfs
    rw [lookup_putF,if_neg (by decide +kernel),lookup_putF,if_pos rfl]
    rfl
  · unfold sfs
    rw [lookup_putF,if_pos rfl]
    rfl
  · unfold sfs
    refine Nat.le_trans (putF_len _ _ _) (Nat.succ_le_succ (Nat.le_trans (putF_len _ _ _) (Nat.succ_le_succ (Nat.le_trans (putF_len _ _ _) (Nat.succ_le_succ (Nat.le_trans (putF_len _ _ _) (Nat.succ_le_succ (Nat.le_trans (putF_len _ _ _) (Nat.succ_le_succ (putF_len _ _ _))))))))))
  · unfold sfs
    rw [lookup_putF,if_neg (by decide +kernel),lookup_putF,if_neg (by decide +kernel),lookup_putF,if_neg (by decide +kernel),lookup_putF,if_neg (by decide +kernel),lookup_putF,if_pos rfl]
def ScanAt (C:Addr) (H:Hp) (sc:Addr) (T:Str) (k:Int) (p n:Nat):Prop:=∃ dx fs,H sc=some (.ins C dx fs)∧SF T k p n fs
def spSInit (C:Addr):Sp:=fun vs H Q _=>∃ (g dx:Addr) (T:Str) (k:Int),vs=[.ref g,.str T,.int k,.int 10,.int 30]∧H g=some (.ins C dx [])∧∀ H',ScanAt C H' g T k 0 0→SameBut g H H'→Q .non H'
theorem sc_sinit:FnScope ["self", "text", "row", "most_within", "most_parts"] ["self", "text", "row", "most_within", "most_parts"] (defScope s_sinit):=⟨rfl,rfl,rfl,by decide +kernel,rfl,by decide +kernel,by decide +kernel⟩
theorem ok_sinit {f C:Addr} {fd:FuncData} (F:Fun K "__init__" "Scan.__init__" s_sinit f fd) (T:STxt K mg C):FnOk P w K mg base CX0 1 f fd ["self", "text", "row", "most_within", "most_parts"] (spSInit C):=by
  refine F.ok sc_sinit (fun vs H Q E h=>?_) (fun cdv A outer s H vs Q E hr h=>?_)
  · obtain ⟨g,dx,Tx,kr,rfl,_⟩:=h
    rfl
  obtain ⟨g,dx,Tx,kr,rfl,hg,q⟩:=h
  refine ⟨_,(pss_cons (ps_fld (pv 0) (pv 1) rfl) (pss_cons (ps_fld (pv 0) (pv 2) rfl) (pss_cons (ps_fld (pv 0) (pv 3) rfl) (pss_cons (ps_fld (pv 0) (pv 4) rfl) (pss_cons (ps_fld (pv 0) pe_int rfl) (pss_one (ps_fld (pv 0) pe_int rfl))))))),?_⟩
  refine ⟨_,rfl,_,rfl,g,C,dx,[],rfl,hg,T.cl,T.nX,(by show 0 < 1000; decide),?_⟩
  refine ⟨_,rfl,_,rfl,g,C,dx,_,rfl,upd_same,T.cl,T.nR,(Nat.lt_of_le_of_lt (putF_len _ _ _) (by show 1 < 1000; decide)),?_⟩
  refine ⟨_,rfl,_,rfl,g,C,dx,_,rfl,upd_same,T.cl,T.nW,(Nat.lt_of_le_of_lt (putF_len _ _ _) (Nat.lt_of_le_of_lt (Nat.succ_le_succ (putF_len _ _ _)) (by show 2 < 1000; decide))),?_⟩
  refine ⟨_,rfl,_,rfl,g,C,dx,_,rfl,upd_same,T.cl,T.nP,(Nat.lt_of_le_of_lt (putF_len _ _ _) (Nat.lt_of_le_of_lt (Nat.succ_le_succ (Nat.le_trans (putF_len _ _ _) (Nat.succ_le_succ (putF_len _ _ _)))) (by show 3 < 1000; decide))),?_⟩
  refine ⟨_,rfl,g,C,dx,_,rfl,upd_same,T.cl,T.nL,(Nat.lt_of_le_of_lt (putF_len _ _ _) (Nat.lt_of_le_of_lt (Nat.succ_le_succ (Nat.le_trans (putF_len _ _ _) (Nat.succ_le_succ (Nat.le_trans (putF_len _ _ _) (Nat.succ_le_succ (putF_len _ _ _)))))) (by show 4 < 1000; decide))),?_⟩
  refine ⟨_,rfl,g,C,dx,_,rfl,upd_same,T.cl,T.nN,(Nat.lt_of_le_of_lt (putF_len _ _ _) (Nat.lt_of_le_of_lt (Nat.succ_le_succ (Nat.le_trans (putF_len _ _ _) (Nat.succ_le_succ (Nat.le_trans (putF_len _ _ _) (Nat.succ_le_succ (Nat.le_trans (putF_len _ _ _) (Nat.succ_le_succ (putF_len _ _ _)))))))) (by show 5 < 1000; decide))),?_⟩
  exact q _ ⟨dx,sfs Tx kr,upd_same,sfs_ok Tx kr⟩ ((SameBut.upd _).trans ((SameBut.upd _).trans ((SameBut.upd _).trans ((SameBut.upd _).trans ((SameBut.upd _).trans (SameBut.upd _))))))
theorem SF.size {T:Str} {k:Int} {p n:Nat} {fs:List (Str × V)} (h:SF T k p n fs):fs.length < 1000:=Nat.lt_of_le_of_lt h.len (by decide)
theorem fi_nat (n p:Nat):PySem.fromIndex n (p:Int)=p:=by
  unfold PySem.fromIndex
  rw [if_neg (by omega)]
  omega
theorem sub_iff (T u:Str) (p:Nat):Builtin.Str.subAt T u p=decide ((T.cps.toList.drop p).take u.length=u.cps.toList):=by
  unfold Builtin.Str.subAt
  have e:(T.cps.extract p (p+u.length)).toList=(T.cps.toList.drop p).take u.length:=by
    rw [Array.toList_extract,List.extract_eq_drop_take]
    congr 1
    omega
  by_cases c:(T.cps.toList.drop p).take u.length=u.cps.toList
  · rw [decide_eq_true c]
    have:T.cps.extract p (p+u.length)=u.cps:=Array.toList_inj.mp (e.trans c)
    rw [this]
    simp
  · rw [decide_eq_false c]
    have:¬ T.cps.extract p (p+u.length)=u.cps:=fun z=>c (by rw [← e,z])
    simpa using this
theorem len_list (T:Str):T.cps.toList.length=T.length:=by rw [Array.length_toList]; rfl
theorem drop_app {T:Str} {p:Nat} {u v:List Nat} (h:T.cps.toList.drop p=u++v):T.cps.toList.drop (p+u.length)=v:=by
  rw [← List.drop_drop,h,List.drop_left]
def RaisesBut (sc C:Addr) (k:Int) (H:Hp) (E:XK):Prop:=∀ (e dx:Addr) (H':Hp),SameBut sc H H'→H' e=some (ExcT C e dx)→H' dx=some (.xd [("row", .int k)])→E (.ref e) (some dx) H'
theorem RaisesBut.but {sc C:Addr} {k:Int} {H H1:Hp} {E:XK} (r:RaisesBut sc C k H E) (S:SameBut sc H H1):RaisesBut sc C k H1 E:=fun e dx H' s=>r e dx H' (S.trans s)
theorem raise_but {sc C CA:Addr} {K:PySem.W.Frag} {k:Int} {H H1:Hp} {E:XK} {e:Addr} {G:Hp} (c:ClsX K C CA) (r:RaisesBut sc C k H E) (S:SameBut sc H H1) (ze:H1 e=none) (s4:Same H1 G) (x4:Ex G e C "row" (.int k)) :
    ∃ e' C' CA dx,V.ref e=.ref e'∧G e'=some (ExcD C' e' dx)∧ClsX K C' CA∧E (.ref e') (some dx) (upd G e' (ExcT C' e' dx)):=by
  obtain ⟨dx,e1,e2⟩:=x4
  have hde:dx ≠ e:=fun z=>by
    rw [z,e1] at e2
    cases e2
  refine ⟨e,C,CA,dx,rfl,e1,c,r e dx _ (fun b o hn hb=>?_) upd_same (by rw [upd_ne hde]; exact e2)⟩
  have hb3:=S b o hn hb
  rw [upd_ne (ne_of_none hb3 ze)]
  exact s4 _ _ hb3
def KOk (k:Int):Prop:=0≤k∧k≤100000
theorem KOk.fm {k:Int} (h:KOk k):FmOk (.int k):=.inl ⟨_,rfl,h.1,by have:=h.2; omega⟩
theorem ScanAt.same {C:Addr} {H H':Hp} {sc:Addr} {T:Str} {k:Int} {p n:Nat} (S:ScanAt C H sc T k p n) (s:Same H H'):ScanAt C H' sc T k p n:=by
  obtain ⟨dx,fs,h1,h2⟩:=S
  exact ⟨dx,fs,s _ _ h1,h2⟩
theorem keepT_scan {C:Addr} {H H':Hp} {sc:Addr} {T:Str} {k:Int} {p n:Nat} (S:ScanAt C H sc T k p n) (s:SameBut sc H H'):KeepT H H':=fun a xs h=>s a _ (fun z=>by
  obtain ⟨dx,fs,e,_⟩:=S
  rw [z,e] at h
  cases h) h
def dr (T:Str) (p:Nat):List Nat:=T.cps.toList.drop p
section
variable {C CN CA f0:Addr} {fd0:FuncData}
def spEnterR (C CN:Addr):Sp:=fun vs H Q E=>∃ (sc:Addr) (T:Str) (k:Int) (p n:Nat) (wi:Int),vs=[.ref sc,.int wi]∧ScanAt C H sc T k p n∧KOk k∧((wi≤10∧n+1≤30∧∀ H',ScanAt C H' sc T k p (n+1)→SameBut sc H H'→Q .non H')∨(¬ (wi≤10∧n+1≤30)∧RaisesBut sc CN k H E))
theorem sc_senter:FnScope ["self", "within"] ["self", "within"] (defScope s_senter):=⟨rfl,rfl,rfl,by decide +kernel,rfl,by decide +kernel,by decide +kernel⟩
theorem ok_senter {f:Addr} {fd:FuncData} (F:Fun K "enter" "Scan.enter" s_senter f fd) (T:STxt K mg C) (g0:mg "NoText" = some (.ref CN)) (cl:ClsX K CN CA) (M0:Mkr P w K mg base CN "row" f0 fd0):FnOk P w K mg base (CXr P w) 4 f fd ["self", "within"] (spEnterR C CN):=by
  refine F.okX sc_senter (fun vs H Q E h=>?_) (fun cdv A outer s H vs Q E hr h=>?_)
  · obtain ⟨sc,Tx,k,p,n,wi,rfl,_⟩:=h
    rfl
  obtain ⟨sc,Tx,k,p,n,wi,rfl,⟨dx,fs,hs,sf⟩,kk,q⟩:=h
  refine ⟨_,(pss_cons (ps_fld (pv 0) (pe_op op_add (pe_fld (pv 0) rfl) pe_int) rfl)
      (pss_one (ps_if (PW.pt (pw_or (pt_cmpR op_gt (pv 1) (pe_fld (pv 0) rfl) (nomark _)) (pw_or1 (pt_cmpR op_gt (pe_fld (pv 0) rfl) (pe_fld (pv 0) rfl) (nomark _))))) (pss_one (ps_raise (pe_makeX M0.made M0.ok hr rfl g0 M0.b .nil pass0 (pa_cons (pe_fld (pv 0) rfl) pa_nil)))) pss_nil))),?_⟩
  have sf':=sf.toParts (n+1)
  refine ⟨_,rfl,sc,C,dx,fs,_,rfl,hs,T.cl,T.nN,sf.parts,_,_,rfl,rfl,_,rfl,sc,C,dx,fs,rfl,hs,T.cl,T.nN,sf.size,?_⟩
  have hs':upd H sc (.ins C dx (putF "parts" (.int ((n:Int)+1)) fs)) sc=some (.ins C dx (putF "parts" (.int ((n+1:Nat):Int)) fs)):=upd_same
  have S1:SameBut sc H (upd H sc (.ins C dx (putF "parts" (.int ((n:Int)+1)) fs))):=SameBut.upd _
  refine ⟨_,rfl,_,rfl,sc,C,dx,_,_,rfl,hs',T.cl,T.nW,sf'.mw,_,_,rfl,rfl,_,rfl,?_⟩
  by_cases c1:(10:Int) < wi
  · rcases q with ⟨w10,_⟩ | ⟨_,rr⟩
    · omega
    refine iteD c1 (iteT ?_)
    exact ⟨_,rfl,sc,C,dx,_,_,rfl,hs',T.cl,T.nR,sf'.row,(by show 1≤sizeLine; decide),fun e ze=>mk_sp kk.fm ze fun G4 s4 x4=>⟨rfl,raise_but cl rr S1 ze s4 x4⟩⟩
  refine iteDF c1 ?_
  refine ⟨_,rfl,sc,C,dx,_,_,rfl,hs',T.cl,T.nN,sf'.parts,_,rfl,sc,C,dx,_,_,rfl,hs',T.cl,T.nP,sf'.mp,_,_,rfl,rfl,_,rfl,?_⟩
  by_cases c2:(30:Int) < ((n+1:Nat):Int)
  · rcases q with ⟨_,n30,_⟩ | ⟨_,rr⟩
    · omega
    refine iteD c2 ?_
    exact ⟨_,rfl,sc,C,dx,_,_,rfl,hs',T.cl,T.nR,sf'.row,(by show 1≤sizeLine; decide),fun e ze=>mk_sp kk.fm ze fun G4 s4 x4=>⟨rfl,raise_but cl rr S1 ze s4 x4⟩⟩
  refine iteDF c2 ?_
  rcases q with ⟨_,_,q⟩ | ⟨no,_⟩
  · exact q _ ⟨dx,_,hs',sf'⟩ S1
  · exact absurd ⟨by omega,by omega⟩ no
theorem starts_hd {T u:Str} {p c:Nat} (hu:u.cps.toList=[c]) (hp:p≤T.length):startsAt T u (p:Int)=decide ((dr T p).head?=some c):=by
  have ul:u.length=1:=by rw [← len_list,hu]; rfl
  unfold startsAt dr
  rw [fi_nat,sub_iff,ul,hu]
  have L:=len_list T
  cases e:T.cps.toList.drop p with
  | nil =>
    have:T.cps.toList.length≤p:=List.drop_eq_nil_iff.mp e
    simp
  | cons a r =>
    have:p < T.cps.toList.length:=by
      by_cases z:p < T.cps.toList.length
      · exact z
      · rw [List.drop_eq_nil_of_le (by omega)] at e; cases e
    have h1:p+1≤T.length:=by omega
    simp only [List.take_succ_cons,List.take_zero,List.head?_cons]
    by_cases z:a=c
    · subst z; simp; omega
    · have:¬ ([a]:List Nat)=[c]:=fun h=>z (List.cons.inj h).1
      simp [z]
def spSees (C:Addr):Sp:=fun vs H Q _=>∃ (sc:Addr) (T u:Str) (k:Int) (p n:Nat),vs=[.ref sc,.str u]∧ScanAt C H sc T k p n∧Q (.bl (startsAt T u p)) H
theorem sc_ssees:FnScope ["self", "signs"] ["self", "signs"] (defScope s_ssees):=⟨rfl,rfl,rfl,by decide +kernel,rfl,by decide +kernel,by decide +kernel⟩
theorem ok_ssees {f:Addr} {fd:FuncData} (F:Fun K "sees" "Scan.sees" s_ssees f fd) (T:STxt K mg C):FnOk P w K mg base CX0 1 f fd ["self", "signs"] (spSees C):=by
  refine F.ok sc_ssees (fun vs H Q E h=>?_) (fun cdv A outer s H vs Q E hr h=>?_)
  · obtain ⟨sc,Tx,u,k,p,n,rfl,_⟩:=h
    rfl
  obtain ⟨sc,Tx,u,k,p,n,rfl,⟨dx,fs,hs,sf⟩,q⟩:=h
  refine ⟨_,(pss_one (ps_ret (pe_bm PySem.F.plainAttrs_str PySem.F.slot_str_startswith PySem.F.type_str_startswith mt_startsAt (pe_fld (pv 0) rfl) (pa_cons (pv 1) (pa_cons (pe_fld (pv 0) rfl) pa_nil))))),?_⟩
  exact ⟨_,rfl,sc,C,dx,fs,_,rfl,hs,T.cl,T.nX,sf.text,rfl,_,rfl,_,rfl,sc,C,dx,fs,_,rfl,hs,T.cl,T.nL,sf.place,Tx,u,_,rfl,rfl,q⟩
def spTakeR (C CN:Addr):Sp:=fun vs H Q E=>∃ (sc:Addr) (T u:Str) (k:Int) (p n c:Nat),vs=[.ref sc,.str u]∧ScanAt C H sc T k p n∧KOk k∧u.cps.toList=[c]∧p≤T.length∧(((dr T p).head?=some c∧∀ H',ScanAt C H' sc T k (p+1) n→SameBut sc H H'→Q .non H')∨(¬ (dr T p).head?=some c∧RaisesBut sc CN k H E))
theorem sc_stake:FnScope ["self", "signs"] ["self", "signs"] (defScope s_stake):=⟨rfl,rfl,rfl,by decide +kernel,rfl,by decide +kernel,by decide +kernel⟩
theorem ok_stake {f fS:Addr} {fd fdS:FuncData} (F:Fun K "take" "Scan.take" s_stake f fd) (B:Bl mg) (T:STxt K mg C) (g0:mg "NoText" = some (.ref CN)) (cl:ClsX K CN CA) (M0:Mkr P w K mg base CN "row" f0 fd0) (mS:Meth K C "sees" fS) (GS:FnOk P w K mg base CX0 1 fS fdS ["self", "signs"] (spSees C)) (bS:Binds K fdS ["self", "signs"] []):FnOk P w K mg base (CXr P w) 4 f fd ["self", "signs"] (spTakeR C CN):=by
  refine F.okX sc_stake (fun vs H Q E h=>?_) (fun cdv A outer s H vs Q E hr h=>?_)
  · obtain ⟨sc,Tx,u,k,p,n,c,rfl,_⟩:=h
    rfl
  obtain ⟨sc,Tx,u,k,p,n,c,rfl,S,kk,hu,pl,q⟩:=h
  have hr1:Room 1 _:=hr.mono (by decide)
  refine ⟨_,(pss_cons (ps_if (pt_not (pt_val (pe_meth (pv 0) T.cl mS GS hr1 bS .nil pass0 (pa_cons (pv 1) pa_nil)))) (pss_one (ps_raise (pe_makeX M0.made M0.ok hr rfl g0 M0.b .nil pass0 (pa_cons (pe_fld (pv 0) rfl) pa_nil)))) pss_nil)
      (pss_one (ps_fld (pv 0) (pe_op op_add (pe_fld (pv 0) rfl) (pe_callB call_len_str rfl B.len PySem.boot_len (pa_cons (pv 1) pa_nil))) rfl))),?_⟩
  have ul:u.length=1:=by rw [← len_list,hu]; rfl
  obtain ⟨dx,fs,hs,sf⟩:=id S
  refine ⟨_,rfl,sc,dx,fs,rfl,hs,sf.no2,_,rfl,sc,Tx,u,k,p,n,rfl,S,_,rfl,?_⟩
  rw [starts_hd hu pl]
  rcases q with ⟨hc,q⟩ | ⟨hc,rr⟩
  · rw [decide_eq_true hc]
    refine iteF ?_
    refine ⟨_,rfl,sc,C,dx,fs,_,rfl,hs,T.cl,T.nL,sf.place,_,rfl,u,rfl,small (by omega),_,_,rfl,rfl,_,rfl,sc,C,dx,fs,rfl,hs,T.cl,T.nL,sf.size,?_⟩
    have hs':upd H sc (.ins C dx (putF "place" (.int ((p:Int)+(u.length:Int))) fs)) sc=some (.ins C dx (putF "place" (.int ((p+1:Nat):Int)) fs)):=by rw [upd_same,ul,Int.natCast_add]
    exact q _ ⟨dx,_,hs',sf.toPlace _⟩ (SameBut.upd _)
  · rw [decide_eq_false hc]
    refine iteT ?_
    exact ⟨_,rfl,sc,C,dx,_,_,rfl,hs,T.cl,T.nR,sf.row,(by show 1≤sizeLine; decide),fun e ze=>mk_sp kk.fm ze fun G4 s4 x4=>⟨rfl,raise_but cl rr (SameBut.refl _ _) ze s4 x4⟩⟩
def spWordR (C:Addr):Sp:=fun vs H Q _=>∃ (sc:Addr) (T:Str) (k:Int) (p n:Nat),vs=[.ref sc]∧ScanAt C H sc T k p n∧T.length≤60000∧p≤T.length∧∀ H' p',ScanAt C H' sc T k p' n→dr T p'=wR (dr T p)→p'≤T.length→SameBut sc H H'→Q (.str (stl (wL (dr T p)))) H'
theorem sc_sword:FnScope ["self", "start"] ["self"] (defScope s_sword):=⟨rfl,rfl,rfl,by decide +kernel,rfl,by decide +kernel,by decide +kernel⟩
theorem ok_sword {f:Addr} {fd:FuncData} (F:Fun K "word" "Scan.word" s_sword f fd) (B:Bl mg) (X:Tx K mg) (T:STxt K mg C):FnOk P w K mg base CX0 1 f fd ["self"] (spWordR C):=by
  refine F.ok sc_sword (fun vs H Q E h=>?_) (fun cdv A outer s H vs Q E hr h=>?_)
  · obtain ⟨sc,Tx,k,p,n,rfl,_⟩:=h
    rfl
  obtain ⟨sc,Tx,k,p,n,rfl,⟨dx,fs,hs,sf⟩,tl,pl,q⟩:=h
  have hd:Tx.cps.toList.drop p=wL (dr Tx p)++wR (dr Tx p):=(wLR (dr Tx p)).symm
  have xl:=wL_no (r:=dr Tx p)
  have er:=wR_end (dr Tx p)
  generalize wL (dr Tx p)=x at hd xl q
  generalize wR (dr Tx p)=r at hd er q
  obtain ⟨te,ge⟩:=X.ends
  refine ⟨_,(pss_cons (ps_set (i:=1) sc_sword.nd rfl (Or.inl rfl) (pe_fld (pv 0) rfl))
      (pss_cons (ps_while PassesOwn.never (PW.pt (pw_and (pt_cmpR op_lt (pe_fld (pv 0) rfl) (pe_callB call_len_str rfl B.len PySem.boot_len (pa_cons (pe_fld (pv 0) rfl) pa_nil)) (nomark _)) (pw_and1 (pt_cmpR op_notIn_str (pe_ix ix_str (pe_fld (pv 0) rfl) (pe_fld (pv 0) rfl) (fun _ _=>rfl)) (pe_glob (v:=.str ENDS) rfl ge ⟨_,rfl⟩) (by with_unfolding_all rfl))))) (pss_one (ps_fld (pv 0) (pe_op op_add (pe_fld (pv 0) rfl) pe_int) rfl)))
      (pss_one (ps_ret (pe_slice sl_str (pe_fld (pv 0) rfl) (po_some (pv 1)) (po_some (pe_fld (pv 0) rfl))))))),?_⟩
  have L:Tx.cps.toList.length=Tx.length:=by rw [Array.length_toList]; rfl
  have hlen:Tx.length=p+(x.length+r.length):=by
    have:=congrArg List.length hd
    rw [List.length_drop,List.length_append,L] at this
    omega
  refine ⟨_,rfl,sc,C,dx,fs,_,rfl,hs,T.cl,T.nL,sf.place,?_⟩
  refine ⟨fun m σ H'=>∃ j:Nat,j≤x.length∧σ=[some (.ref sc),some (.int (p:Int))]∧ScanAt C H' sc Tx k (p+j) n∧SameBut sc H H'∧m=x.length - j,⟨_,0,Nat.zero_le _,rfl,⟨dx,fs,hs,sf⟩,SameBut.refl _ _,rfl⟩,?_⟩
  rintro m σ H1 ⟨j,hj,rfl,⟨dx1,fs1,hs1,sf1⟩,S1,rfl⟩
  refine ⟨_,rfl,sc,C,dx1,fs1,_,rfl,hs1,T.cl,T.nL,sf1.place,_,rfl,sc,C,dx1,fs1,_,rfl,hs1,T.cl,T.nX,sf1.text,Tx,rfl,smallT tl,_,_,rfl,rfl,_,rfl,?_⟩
  have sl:j=x.length→Txt.slice Tx (some (p:Int)) (some ((p+j:Nat):Int))=stl x:=fun ej=>by
    have es:Txt.slice Tx (some (p:Int)) (some ((p+j:Nat):Int))=_:=StrLaws.sliceText_plain (i:=(p:Int)) (j:=((p+j:Nat):Int)) ⟨by omega,by omega,by rw [L]; omega⟩
    rw [es]
    refine str_ext ?_
    show (Tx.cps.toList.drop (p:Int).toNat).take (((p+j:Nat):Int) - (p:Int)).toNat=x
    rw [show (p:Int).toNat=p by omega,show (((p+j:Nat):Int) - (p:Int)).toNat=x.length by omega,hd,List.take_left']
    rfl
  by_cases c1:(((p+j:Nat):Int)) < (Tx.length:Int)
  · refine iteD c1 ?_
    have hk:p+j < Tx.cps.toList.length:=by rw [L]; omega
    have ha:atI Tx.cps.toList ((p+j:Nat):Int)=some Tx.cps.toList[p+j]:=atI_nat (List.getElem?_eq_getElem hk)
    have hx:Tx.cps.toList[p+j]?=(x++r)[j]?:=by rw [← hd,List.getElem?_drop]
    refine ⟨_,rfl,sc,C,dx1,fs1,_,rfl,hs1,T.cl,T.nX,sf1.text,_,rfl,sc,C,dx1,fs1,_,rfl,hs1,T.cl,T.nL,sf1.place,Tx,_,_,rfl,rfl,smallT tl,ha,_,_,rfl,rfl,_,rfl,?_⟩
    by_cases c2:j < x.length
    · have ec:Tx.cps.toList[p+j]=x[j]:=by
        rw [List.getElem?_eq_getElem hk,List.getElem?_append_left c2,List.getElem?_eq_getElem c2] at hx
        exact Option.some.inj hx
      have en:(!isIn ENDS Tx.cps.toList[p+j])=true:=by rw [ec,xl _ (List.getElem_mem c2)]; rfl
      have en':(!(!(Builtin.Str.occurrences ENDS ⟨#[Tx.cps.toList[p+j]]⟩ 0 ENDS.length 1).isEmpty))=true:=en
      rw [en']
      refine ⟨_,fun _ _ h=>h,?_⟩
      refine ⟨_,rfl,sc,C,dx1,fs1,_,rfl,hs1,T.cl,T.nL,sf1.place,_,_,rfl,rfl,_,rfl,sc,C,dx1,fs1,rfl,hs1,T.cl,T.nL,sf1.size,?_⟩
      have hs':upd H1 sc (.ins C dx1 (putF "place" (.int (((p+j:Nat):Int)+1)) fs1)) sc=some (.ins C dx1 (putF "place" (.int ((p+(j+1):Nat):Int)) fs1)):=by
        rw [upd_same,show ((p+j:Nat):Int)+1=((p+(j+1):Nat):Int) by omega]
      exact ⟨_,by omega,j+1,by omega,rfl,⟨dx1,_,hs',sf1.toPlace _⟩,S1.trans (SameBut.upd _),rfl⟩
    · have ej:j=x.length:=by omega
      have en:(!isIn ENDS Tx.cps.toList[p+j])=false:=by
        cases r with
        | nil =>
          rw [List.length_nil] at hlen
          omega
        | cons c r' =>
          rw [List.getElem?_eq_getElem hk,List.getElem?_append_right (by omega),show j - x.length=0 by omega] at hx
          have ec:Tx.cps.toList[p+j]=c:=Option.some.inj hx
          rw [ec,er c rfl]
          rfl
      have en':(!(!(Builtin.Str.occurrences ENDS ⟨#[Tx.cps.toList[p+j]]⟩ 0 ENDS.length 1).isEmpty))=false:=en
      rw [en']
      refine ⟨_,rfl,sc,C,dx1,fs1,_,rfl,hs1,T.cl,T.nX,sf1.text,_,rfl,_,rfl,_,rfl,sc,C,dx1,fs1,_,rfl,hs1,T.cl,T.nL,sf1.place,_,rfl,Tx,rfl,smallT tl,?_⟩
      rw [sl ej]
      rw [ej] at sf1
      exact q H1 (p+x.length) ⟨dx1,fs1,hs1,sf1⟩ (drop_app hd) (by omega) S1
  · refine iteDF c1 ?_
    have ej:j=x.length:=by omega
    refine ⟨_,rfl,sc,C,dx1,fs1,_,rfl,hs1,T.cl,T.nX,sf1.text,_,rfl,_,rfl,_,rfl,sc,C,dx1,fs1,_,rfl,hs1,T.cl,T.nL,sf1.place,_,rfl,Tx,rfl,smallT tl,?_⟩
    rw [sl ej]
    rw [ej] at sf1
    exact q H1 (p+x.length) ⟨dx1,fs1,hs1,sf1⟩ (drop_app hd) (by omega) S1
def spFinishR (C CN:Addr):Sp:=fun vs H Q E=>∃ (sc:Addr) (T:Str) (k:Int) (p n:Nat),vs=[.ref sc]∧ScanAt C H sc T k p n∧KOk k∧T.length≤60000∧p≤T.length∧((dr T p=[]∧Q .non H)∨(¬ dr T p=[]∧RaisesBut sc CN k H E))
theorem sc_sfinish:FnScope ["self"] ["self"] (defScope s_sfinish):=⟨rfl,rfl,rfl,by decide +kernel,rfl,by decide +kernel,by decide +kernel⟩
theorem dr_nil {T:Str} {p:Nat} (hp:p≤T.length):dr T p=[]↔p=T.length:=by
  have L:=len_list T
  unfold dr
  rw [List.drop_eq_nil_iff]
  omega
theorem ok_sfinish {f:Addr} {fd:FuncData} (F:Fun K "finish" "Scan.finish" s_sfinish f fd) (B:Bl mg) (T:STxt K mg C) (g0:mg "NoText" = some (.ref CN)) (cl:ClsX K CN CA) (M0:Mkr P w K mg base CN "row" f0 fd0):FnOk P w K mg base (CXr P w) 4 f fd ["self"] (spFinishR C CN):=by
  refine F.okX sc_sfinish (fun vs H Q E h=>?_) (fun cdv A outer s H vs Q E hr h=>?_)
  · obtain ⟨sc,Tx,k,p,n,rfl,_⟩:=h
    rfl
  obtain ⟨sc,Tx,k,p,n,rfl,⟨dx,fs,hs,sf⟩,kk,tl,pl,q⟩:=h
  refine ⟨_,(pss_one (ps_if (pt_cmpR op_ne (pe_fld (pv 0) rfl) (pe_callB call_len_str rfl B.len PySem.boot_len (pa_cons (pe_fld (pv 0) rfl) pa_nil)) (nomark _)) (pss_one (ps_raise (pe_makeX M0.made M0.ok hr rfl g0 M0.b .nil pass0 (pa_cons (pe_fld (pv 0) rfl) pa_nil)))) pss_nil)),?_⟩
  refine ⟨_,rfl,sc,C,dx,fs,_,rfl,hs,T.cl,T.nL,sf.place,_,rfl,sc,C,dx,fs,_,rfl,hs,T.cl,T.nX,sf.text,Tx,rfl,smallT tl,rfl,_,rfl,?_⟩
  show if (!decide (V.int (p:Int)=V.int (Tx.length:Int)))=true then _ else _
  rcases q with ⟨e,q⟩ | ⟨e,rr⟩
  · rw [(dr_nil pl).mp e,decide_eq_true rfl]
    exact iteF q
  · have ne:¬ V.int (p:Int)=V.int (Tx.length:Int):=fun z=>e ((dr_nil pl).mpr (by have:=V.int.inj z; omega))
    rw [decide_eq_false ne]
    refine iteT ?_
    exact ⟨_,rfl,sc,C,dx,_,_,rfl,hs,T.cl,T.nR,sf.row,(by show 1≤sizeLine; decide),fun e ze=>mk_sp kk.fm ze fun G4 s4 x4=>⟨rfl,raise_but cl rr (SameBut.refl _ _) ze s4 x4⟩⟩
end
structure MthsR (P:Program) (w:World) (K:PySem.W.Frag) (mg:Str→Option Value) (base:Heap) (C CN fE fS fT fW fF:Addr) (dE dS dT dW dF:FuncData):Prop where
  mE:Meth K C "enter" fE
  gE:FnOk P w K mg base (CXr P w) 4 fE dE ["self", "within"] (spEnterR C CN)
  bE:Binds K dE ["self", "within"] []
  mS:Meth K C "sees" fS
  gS:FnOk P w K mg base CX0 1 fS dS ["self", "signs"] (spSees C)
  bS:Binds K dS ["self", "signs"] []
  mT:Meth K C "take" fT
  gT:FnOk P w K mg base (CXr P w) 4 fT dT ["self", "signs"] (spTakeR C CN)
  bT:Binds K dT ["self", "signs"] []
  mW:Meth K C "word" fW
  gW:FnOk P w K mg base CX0 1 fW dW ["self"] (spWordR C)
  bW:Binds K dW ["self"] []
  mF:Meth K C "finish" fF
  gF:FnOk P w K mg base (CXr P w) 4 fF dF ["self"] (spFinishR C CN)
  bF:Binds K dF ["self"] []
def WishR (C CN sc:Addr) (T:Str) (k:Int) (m b:Nat) (R:PR) (H:Hp) (Q:VK) (E:XK):Prop :=
  (∀ (t:Tr) (r':List Nat) (p':Nat) (v:V) (H':Hp),R=some (t,r')→m+t.size≤b→TreeAt H' v t→ScanAt C H' sc T k p' (m+t.size+30 - b)→dr T p'=r'→p'≤T.length→SameBut sc H H'→Q v H') ∧
  ((∀ t r',R=some (t,r')→b < m+t.size)→RaisesBut sc CN k H E)
def spNextR (C CN:Addr) (n:Nat):Sp:=fun vs H Q E=>∃ (sc:Addr) (wi:Int) (T:Str) (k:Int) (p m:Nat),vs=[.ref sc,.int wi]∧ScanAt C H sc T k p m∧KOk k∧T.length≤60000∧p≤T.length∧wi+(n:Int)=11∧m≤30∧WishR C CN sc T k m 30 (pN n (dr T p)) H Q E
def spJoinR (C CN:Addr) (n:Nat):Sp:=fun vs H Q E=>∃ (sc:Addr) (wi:Int) (T:Str) (k:Int) (p m:Nat),vs=[.ref sc,.int wi]∧ScanAt C H sc T k p m∧KOk k∧T.length≤60000∧p≤T.length∧wi+(n:Int)=10∧m≤30∧(dr T p).head?=some 40∧WishR C CN sc T k m 31 (pJ (pN n) (dr T p)) H Q E
theorem dr_tail {T:Str} {p c:Nat} (h:(dr T p).head?=some c):dr T (p+1)=(dr T p).tail∧p+1≤T.length:=by
  have L:=len_list T
  constructor
  · unfold dr
    rw [List.tail_drop]
  · have:p < T.cps.toList.length:=by
      by_cases z:p < T.cps.toList.length
      · exact z
      · unfold dr at h
        rw [List.drop_eq_nil_of_le (by omega)] at h
        cases h
    omega
section
variable {C CN CA f0 fE fS fT fW fF:Addr} {fd0 dE dS dT dW dF:FuncData}
theorem sc_joined_tree:FnScope ["scan", "within", "left", "word", "right"] ["scan", "within"] (defScope s_joined_tree):=⟨rfl,rfl,rfl,by decide +kernel,rfl,by decide +kernel,by decide +kernel⟩
theorem lit1:(("(" : Str)).cps.toList=[40]∧((" " : Str)).cps.toList=[32]∧((")" : Str)).cps.toList=[41]:=⟨lit_po,lit_sp,lit_pc⟩
theorem jt_step {n:Nat} {f:Addr} {fd:FuncData} (F:Fun K "joined_tree" "joined_tree" s_joined_tree f fd) (X:Tx K mg) (T:STxt K mg C) (g0:mg "NoText" = some (.ref CN)) (cl:ClsX K CN CA) (M0:Mkr P w K mg base CN "row" f0 fd0) (M:MthsR P w K mg base C CN fE fS fT fW fF dE dS dT dW dF) (C_next_tree:CalR P w K mg base (2*n+6) "next_tree" ["scan", "within"] (spNextR C CN n)):FnOk P w K mg base (CXr P w) (2*n+7) f fd ["scan", "within"] (spJoinR C CN n):=by
  refine F.okX sc_joined_tree (fun vs H Q E h=>?_) (fun cdv A outer s H vs Q E hr h=>?_)
  · obtain ⟨sc,wi,Tx,k,p,m,rfl,_⟩:=h
    rfl
  obtain ⟨sc,wi,Tx,k,p,m,rfl,S0,kk,tl,pl,wn,m30,h40,qs,qr⟩:=h
  obtain ⟨ja,gj,hj⟩:=X.joining
  have hr1:Room 1 _:=hr.mono (by omega)
  have hr3:Room 3 _:=hr.mono (by omega)
  have hr4:Room 4 _:=hr.mono (by omega)
  refine ⟨_,(pss_cons (ps_expr (pe_meth (pv 0) T.cl M.mT M.gT hr4 M.bT .nil passX (pa_cons pe_str pa_nil)))
      (pss_cons (ps_set (i:=2) sc_joined_tree.nd rfl (Or.inl rfl) (pe_calR C_next_tree hr (by omega) rfl passX (pa_cons (pv 0) (pa_cons (pe_op op_add (pv 1) pe_int) pa_nil))))
      (pss_cons (ps_expr (pe_meth (pv 0) T.cl M.mT M.gT hr4 M.bT .nil passX (pa_cons pe_str pa_nil)))
      (pss_cons (ps_set (i:=3) sc_joined_tree.nd rfl (Or.inl rfl) (pe_meth0 (pv 0) T.cl M.mW M.gW hr1 M.bW .nil pass0))
      (pss_cons (ps_if (pt_cmpR op_notIn_seq (pv 3) (pe_glob (v:=.ref ja) rfl gj rfl) (by with_unfolding_all rfl)) (pss_one (ps_raise (pe_makeX M0.made M0.ok hr3 rfl g0 M0.b .nil pass0 (pa_cons (pe_fld (pv 0) rfl) pa_nil)))) pss_nil)
      (pss_cons (ps_expr (pe_meth (pv 0) T.cl M.mT M.gT hr4 M.bT .nil passX (pa_cons pe_str pa_nil)))
      (pss_cons (ps_set (i:=4) sc_joined_tree.nd rfl (Or.inl rfl) (pe_calR C_next_tree hr (by omega) rfl passX (pa_cons (pv 0) (pa_cons (pe_op op_add (pv 1) pe_int) pa_nil))))
      (pss_cons (ps_expr (pe_meth (pv 0) T.cl M.mT M.gT hr4 M.bT .nil passX (pa_cons pe_str pa_nil)))
      (pss_one (ps_ret (pe_tup (pa_cons (pv 3) (pa_cons (pv 2) (pa_cons (pv 4) pa_nil)))))))))))))),?_⟩
  obtain ⟨dx0,fs0,hs0,sf0⟩:=id S0
  refine ⟨_,rfl,sc,dx0,fs0,rfl,hs0,sf0.no3,sc,Tx,_,k,p,m,40,rfl,S0,kk,lit1.1,pl,.inl ⟨h40,fun H1 S1 B1=>?_⟩⟩
  obtain ⟨d1,p1⟩:=dr_tail h40
  refine ⟨_,rfl,_,rfl,_,_,rfl,rfl,sc,_,Tx,k,p+1,m,rfl,S1,kk,tl,p1,by omega,m30,⟨fun a r1 p2 v1 H2 e1 s1 T1 S2 d2 pl2 B2=>?_,fun bad=>?_⟩⟩
  rotate_left
  · refine (qr fun t r' e=>?_).but B1
    unfold pJ at e
    rw [← d1] at e
    cases ea:pN n (dr Tx (p+1)) with
    | none=>rw [ea] at e; cases e
    | some z =>
      obtain ⟨a,r1⟩:=z
      rw [ea] at e
      obtain ⟨b,r3,_,_,_,_,_,rfl,_⟩:=jR_some e
      have:=bad a r1 ea
      have:=b.size_pos
      show 31 < m+(a.size+b.size+1)
      omega
  have eJ:pJ (pN n) (dr Tx p)=jR (pN n) a r1:=by
    unfold pJ
    rw [← d1,e1]
  rw [eJ] at qs qr
  have B02:=B1.trans B2
  have S2':ScanAt C H2 sc Tx k p2 (m+a.size):=by
    have e:m+a.size+30 - 30=m+a.size:=by omega
    rw [e] at S2
    exact S2
  obtain ⟨dx2,fs2,hs2,sf2⟩:=id S2'
  by_cases c1:r1.head?=some 32
  rotate_left
  · refine ⟨_,rfl,sc,dx2,fs2,rfl,hs2,sf2.no3,sc,Tx,_,k,p2,_,32,rfl,S2',kk,lit1.2.1,pl2,.inr ⟨by rw [d2]; exact c1,?_⟩⟩
    refine (qr fun t r' e=>?_).but B02
    obtain ⟨b,r3,h1,_⟩:=jR_some e
    exact absurd h1 c1
  refine ⟨_,rfl,sc,dx2,fs2,rfl,hs2,sf2.no3,sc,Tx,_,k,p2,_,32,rfl,S2',kk,lit1.2.1,pl2,.inl ⟨by rw [d2]; exact c1,fun H3 S3 B3=>?_⟩⟩
  obtain ⟨d3,p3⟩:=dr_tail (T:=Tx) (p:=p2) (by rw [d2]; exact c1)
  rw [d2] at d3
  have B03:=B02.trans B3
  obtain ⟨dx3,fs3,hs3,sf3⟩:=id S3
  refine ⟨_,rfl,sc,dx3,fs3,rfl,hs3,sf3.no4,sc,Tx,k,p2+1,_,rfl,S3,tl,p3,fun H4 p4 S4 d4 pl4 B4=>?_⟩
  rw [d3] at d4 ⊢
  have B04:=B03.trans B4
  obtain ⟨dx4,fs4,hs4,sf4⟩:=id S4
  refine ⟨_,rfl,ja,_,rfl,.inr (hj _),rfl,(by decide),_,rfl,?_⟩
  have ej:inV (.str (stl (wL r1.tail))) (joinW.map V.str)=decide (stl (wL r1.tail) ∈ joinW):=in_strs _ _
  by_cases c2:stl (wL r1.tail) ∈ joinW
  rotate_left
  · show if (!inV (.str (stl (wL r1.tail))) (joinW.map V.str))=true then _ else _
    rw [ej,decide_eq_false c2]
    refine iteT ?_
    have rr:=qr fun t r' e=>by
      obtain ⟨b,r3,_,h2,_⟩:=jR_some e
      exact absurd h2 c2
    exact ⟨_,rfl,sc,C,dx4,_,_,rfl,hs4,T.cl,T.nR,sf4.row,(by show 1≤sizeLine; decide),fun e ze=>mk_sp kk.fm ze fun G4 s4 x4=>⟨rfl,raise_but cl rr B04 ze s4 x4⟩⟩
  show if (!inV (.str (stl (wL r1.tail))) (joinW.map V.str))=true then _ else _
  rw [ej,decide_eq_true c2]
  refine iteF ?_
  by_cases c3:(wR r1.tail).head?=some 32
  rotate_left
  · refine ⟨_,rfl,sc,dx4,fs4,rfl,hs4,sf4.no3,sc,Tx,_,k,p4,_,32,rfl,S4,kk,lit1.2.1,pl4,.inr ⟨by rw [d4]; exact c3,?_⟩⟩
    refine (qr fun t r' e=>?_).but B04
    obtain ⟨b,r3,_,_,h3,_⟩:=jR_some e
    exact absurd h3 c3
  refine ⟨_,rfl,sc,dx4,fs4,rfl,hs4,sf4.no3,sc,Tx,_,k,p4,_,32,rfl,S4,kk,lit1.2.1,pl4,.inl ⟨by rw [d4]; exact c3,fun H5 S5 B5=>?_⟩⟩
  obtain ⟨d5,p5⟩:=dr_tail (T:=Tx) (p:=p4) (by rw [d4]; exact c3)
  rw [d4] at d5
  have B05:=B04.trans B5
  have jR':jR (pN n) a r1=match pN n (wR r1.tail).tail with | none=>none | some (b,r3)=>if r3.head?=some 41 then some (Tr.bin (stl (wL r1.tail)) a b,r3.tail) else none:=by
    unfold jR
    rw [if_pos ⟨c1,c2,c3⟩]
    all_goals rfl
  refine ⟨_,rfl,_,rfl,_,_,rfl,rfl,sc,_,Tx,k,p4+1,m+a.size,rfl,S5,kk,tl,p5,by omega,s1,⟨fun b r3 p6 v2 H6 e2 s2 T2 S6 d6 pl6 B6=>?_,fun bad=>?_⟩⟩
  rotate_left
  · refine (qr fun t r' e=>?_).but B05
    obtain ⟨b,r3,_,_,_,h4,_,rfl,_⟩:=jR_some e
    rw [← d5] at h4
    have:=bad b r3 h4
    show 31 < m+(a.size+b.size+1)
    omega
  rw [d5] at e2
  rw [e2] at jR'
  have S6':ScanAt C H6 sc Tx k p6 (m+a.size+b.size):=by
    have e:m+a.size+b.size+30 - 30=m+a.size+b.size:=by omega
    rw [e] at S6
    exact S6
  have B06:=B05.trans B6
  obtain ⟨dx6,fs6,hs6,sf6⟩:=id S6'
  by_cases c4:r3.head?=some 41
  rotate_left
  · refine ⟨_,rfl,sc,dx6,fs6,rfl,hs6,sf6.no3,sc,Tx,_,k,p6,_,41,rfl,S6',kk,lit1.2.2,pl6,.inr ⟨by rw [d6]; exact c4,?_⟩⟩
    refine (qr fun t r' e=>?_).but B06
    rw [jR'] at e
    dsimp only at e
    rw [if_neg c4] at e
    cases e
  refine ⟨_,rfl,sc,dx6,fs6,rfl,hs6,sf6.no3,sc,Tx,_,k,p6,_,41,rfl,S6',kk,lit1.2.2,pl6,.inl ⟨by rw [d6]; exact c4,fun H7 S7 B7=>?_⟩⟩
  obtain ⟨d7,p7⟩:=dr_tail (T:=Tx) (p:=p6) (by rw [d6]; exact c4)
  rw [d6] at d7
  refine ⟨_,rfl,_,rfl,_,rfl,(by show 3≤sizeLine; decide),fun q hq=>?_⟩
  have G7:=Same.new hq (.tup [.str (stl (wL r1.tail)),v1,v2])
  have k27:KeepT H2 H7:=keepT_scan S2' (B3.trans (B4.trans (B5.trans (B6.trans B7))))
  have k67:KeepT H6 H7:=keepT_scan S6' B7
  refine qs (.bin (stl (wL r1.tail)) a b) r3.tail (p6+1) (.ref q) _ ?_ ?_ (.bin upd_same ((T1.mono k27).mono (keepT_same G7)) ((T2.mono k67).mono (keepT_same G7))) ?_ d7 p7 (B06.trans (B7.trans (SameBut.of G7)))
  · rw [jR']
    dsimp only
    rw [if_pos c4]
  · show m+(a.size+b.size+1)≤31
    omega
  · have e:m+(Tr.bin (stl (wL r1.tail)) a b).size+30 - 31=m+a.size+b.size:=by
      show m+(a.size+b.size+1)+30 - 31=m+a.size+b.size
      omega
    rw [e]
    exact S7.same G7
theorem sc_next_tree:FnScope ["scan", "within", "word"] ["scan", "within"] (defScope s_next_tree):=⟨rfl,rfl,rfl,by decide +kernel,rfl,by decide +kernel,by decide +kernel⟩
theorem lit2:(("not" : Str)).cps.toList=[110,111,116]∧(("yes" : Str)).cps.toList=[121,101,115]∧(("no" : Str)).cps.toList=[110,111]:=⟨lit_n,lit_y,lit_o⟩
theorem eq_lit {x:List Nat} {z:Str}:V.str (stl x)=V.str z↔x=z.cps.toList:=⟨fun h=>stl_inj (V.str.inj h),fun h=>by rw [h]; rfl⟩
theorem nt_step {n:Nat} {f:Addr} {fd:FuncData} (F:Fun K "next_tree" "next_tree" s_next_tree f fd) (T:STxt K mg C) (g0:mg "NoText" = some (.ref CN)) (cl:ClsX K CN CA) (M0:Mkr P w K mg base CN "row" f0 fd0) (M:MthsR P w K mg base C CN fE fS fT fW fF dE dS dT dW dF) (C_is_name:Cal P w K mg base 1 "is_name" ["text"] (spTxt nameB)) (C_next_tree:CalR P w K mg base (2*n+6) "next_tree" ["scan", "within"] (spNextR C CN n)) (C_joined_tree:CalR P w K mg base (2*n+7) "joined_tree" ["scan", "within"] (spJoinR C CN n)):FnOk P w K mg base (CXr P w) (2*n+8) f fd ["scan", "within"] (spNextR C CN (n+1)):=by
  refine F.okX sc_next_tree (fun vs H Q E h=>?_) (fun cdv A outer s H vs Q E hr h=>?_)
  · obtain ⟨sc,wi,Tx,k,p,m,rfl,_⟩:=h
    rfl
  obtain ⟨sc,wi,Tx,k,p,m,rfl,S0,kk,tl,pl,wn,m30,qs,qr⟩:=h
  have hr1:Room 1 _:=hr.mono (by omega)
  have hr3:Room 3 _:=hr.mono (by omega)
  have hr4:Room 4 _:=hr.mono (by omega)
  refine ⟨_,(pss_cons (ps_expr (pe_meth (pv 0) T.cl M.mE M.gE hr4 M.bE .nil passX (pa_cons (pv 1) pa_nil)))
      (pss_cons (ps_if (pt_val (pe_meth (pv 0) T.cl M.mS M.gS hr1 M.bS .nil pass0 (pa_cons pe_str pa_nil))) (pss_one (ps_ret (pe_calR C_joined_tree hr (by omega) rfl passX (pa_cons (pv 0) (pa_cons (pv 1) pa_nil))))) pss_nil)
      (pss_cons (ps_set (i:=2) sc_next_tree.nd rfl (Or.inl rfl) (pe_meth0 (pv 0) T.cl M.mW M.gW hr1 M.bW .nil pass0))
      (pss_cons (ps_if (pt_cmpR op_eq (pv 2) pe_str (nomark _)) (pss_cons (ps_expr (pe_meth (pv 0) T.cl M.mT M.gT hr4 M.bT .nil passX (pa_cons pe_str pa_nil)))
        (pss_one (ps_ret (pe_tup (pa_cons pe_str (pa_cons (pe_calR C_next_tree hr (by omega) rfl passX (pa_cons (pv 0) (pa_cons (pe_op op_add (pv 1) pe_int) pa_nil))) pa_nil)))))) pss_nil)
      (pss_cons (ps_if (PW.pt (pw_or (pt_cmpR op_eq (pv 2) pe_str (nomark _)) (pw_or1 (pt_cmpR op_eq (pv 2) pe_str (nomark _))))) (pss_one (ps_ret (pe_tup (pa_cons (pv 2) pa_nil)))) pss_nil)
      (pss_cons (ps_if (pt_not (pt_val (pe_cal C_is_name hr (by omega) rfl (pa_cons (pv 2) pa_nil)))) (pss_one (ps_raise (pe_makeX M0.made M0.ok hr3 rfl g0 M0.b .nil pass0 (pa_cons (pe_fld (pv 0) rfl) pa_nil)))) pss_nil)
      (pss_one (ps_ret (pe_tup (pa_cons pe_str (pa_cons (pv 2) pa_nil))))))))))),?_⟩
  obtain ⟨dx0,fs0,hs0,sf0⟩:=id S0
  by_cases cE:wi≤10∧m+1≤30
  rotate_left
  · refine ⟨_,rfl,sc,dx0,fs0,rfl,hs0,sf0.no1,_,rfl,sc,Tx,k,p,m,wi,rfl,S0,kk,.inr ⟨cE,qr fun t r' _=>?_⟩⟩
    have:=t.size_pos
    omega
  refine ⟨_,rfl,sc,dx0,fs0,rfl,hs0,sf0.no1,_,rfl,sc,Tx,k,p,m,wi,rfl,S0,kk,.inl ⟨cE.1,cE.2,fun H1 S1 B1=>?_⟩⟩
  obtain ⟨dx1,fs1,hs1,sf1⟩:=id S1
  refine ⟨_,rfl,sc,dx1,fs1,rfl,hs1,sf1.no2,sc,Tx,_,k,p,_,rfl,S1,_,rfl,?_⟩
  rw [starts_hd lit1.1 pl]
  by_cases c1:(dr Tx p).head?=some 40
  · rw [decide_eq_true c1]
    refine iteT ?_
    have e0:pN (n+1) (dr Tx p)=pJ (pN n) (dr Tx p):=by
      show (if (dr Tx p).head?=some 40 then _ else _)=_
      rw [if_pos c1]
    rw [e0] at qs qr
    refine ⟨_,rfl,_,rfl,sc,wi,Tx,k,p,m+1,rfl,S1,kk,tl,pl,by omega,cE.2,c1,⟨fun t r' p' v H' e hm TT SS dd pp BB=>?_,fun bad=>?_⟩⟩
    · refine qs t r' p' v H' e (by omega) TT ?_ dd pp (B1.trans BB)
      have ee:m+1+t.size+30 - 31=m+t.size+30 - 30:=by omega
      rw [ee] at SS
      exact SS
    · refine (qr fun t r' e=>?_).but B1
      have:=bad t r' e
      omega
  rw [decide_eq_false c1]
  refine iteF ?_
  have e0:pN (n+1) (dr Tx p)=pW (pN n) (dr Tx p):=by
    show (if (dr Tx p).head?=some 40 then _ else _)=_
    rw [if_neg c1]
  rw [e0] at qs qr
  refine ⟨_,rfl,sc,dx1,fs1,rfl,hs1,sf1.no4,sc,Tx,k,p,_,rfl,S1,tl,pl,fun H2 p2 S2 d2 pl2 B2=>?_⟩
  have B02:=B1.trans B2
  obtain ⟨dx2,fs2,hs2,sf2⟩:=id S2
  have wl:(stl (wL (dr Tx p))).length≤60000:=by
    rw [stl_len]
    have h1:(wL (dr Tx p)).length≤(dr Tx p).length:=by
      have:=congrArg List.length (wLR (dr Tx p))
      rw [List.length_append] at this
      omega
    have h2:(dr Tx p).length≤Tx.cps.toList.length:=by unfold dr; rw [List.length_drop]; omega
    have:=len_list Tx
    omega
  have S2b:∀ {t:Tr},t.size=1→ScanAt C H2 sc Tx k p2 (m+t.size+30 - 30):=fun {t} ht=>by
    have e:m+t.size+30 - 30=m+1:=by omega
    rw [e]
    exact S2
  refine ⟨_,rfl,rfl,_,rfl,?_⟩
  by_cases cn:wL (dr Tx p)=[110,111,116]
  · refine iteD (eq_lit.mpr (by rw [lit2.1]; exact cn)) ?_
    have eW:pW (pN n) (dr Tx p)=if (wR (dr Tx p)).head?=some 32 then (match pN n (wR (dr Tx p)).tail with | none=>none | some (a,r2)=>some (Tr.not a,r2)) else none:=by
      unfold pW
      rw [if_pos cn]
      all_goals rfl
    rw [eW] at qs qr
    by_cases c3:(wR (dr Tx p)).head?=some 32
    rotate_left
    · refine ⟨_,rfl,sc,dx2,fs2,rfl,hs2,sf2.no3,sc,Tx,_,k,p2,_,32,rfl,S2,kk,lit1.2.1,pl2,.inr ⟨by rw [d2]; exact c3,?_⟩⟩
      refine (qr fun t r' e=>?_).but B02
      rw [if_neg c3] at e
      cases e
    refine ⟨_,rfl,sc,dx2,fs2,rfl,hs2,sf2.no3,sc,Tx,_,k,p2,_,32,rfl,S2,kk,lit1.2.1,pl2,.inl ⟨by rw [d2]; exact c3,fun H3 S3 B3=>?_⟩⟩
    obtain ⟨d3,p3⟩:=dr_tail (T:=Tx) (p:=p2) (by rw [d2]; exact c3)
    rw [d2] at d3
    rw [if_pos c3] at qs qr
    have B03:=B02.trans B3
    refine ⟨_,rfl,_,rfl,_,_,rfl,rfl,sc,_,Tx,k,p2+1,m+1,rfl,S3,kk,tl,p3,by omega,cE.2,⟨fun a r2 p4 v1 H4 e1 s1 T1 S4 d4 pl4 B4=>?_,fun bad=>?_⟩⟩
    rotate_left
    · refine (qr fun t r' e=>?_).but B03
      rw [← d3] at e
      cases ea:pN n (dr Tx (p2+1)) with
      | none=>rw [ea] at e; cases e
      | some z =>
        obtain ⟨a,r2⟩:=z
        rw [ea] at e
        have h':=Option.some.inj e
        have ht:Tr.not a=t:=congrArg Prod.fst h'
        have:=bad a r2 ea
        rw [← ht]
        show 30 < m+(a.size+1)
        omega
    rw [d3] at e1
    refine ⟨(by show 2≤sizeLine; decide),fun q hq=>?_⟩
    have G4:=Same.new hq (.tup [.str "not", v1])
    refine qs (.not a) r2 p4 (.ref q) _ (by rw [e1]) ?_ (.not upd_same (T1.mono (keepT_same G4))) ?_ d4 pl4 (B03.trans (B4.trans (SameBut.of G4)))
    · show m+(a.size+1)≤30
      omega
    · have e:m+(Tr.not a).size+30 - 30=m+1+a.size+30 - 30:=by
        show m+(a.size+1)+30 - 30=m+1+a.size+30 - 30
        omega
      rw [e]
      exact S4.same G4
  refine iteDF (fun z=>cn (by have:=eq_lit.mp z; rw [lit2.1] at this; exact this)) ?_
  have eW:pW (pN n) (dr Tx p)=if wL (dr Tx p)=[121,101,115] then some (.yes,wR (dr Tx p)) else if wL (dr Tx p)=[110,111] then some (.no,wR (dr Tx p)) else if nameB (stl (wL (dr Tx p)))=true then some (.is (stl (wL (dr Tx p))),wR (dr Tx p)) else none:=by
    unfold pW
    rw [if_neg cn]
  rw [eW] at qs qr
  refine ⟨_,rfl,rfl,_,rfl,?_⟩
  by_cases cy:wL (dr Tx p)=[121,101,115]
  · refine iteD (eq_lit.mpr (by rw [lit2.2.1]; exact cy)) (iteT ?_)
    rw [if_pos cy] at qs
    refine ⟨_,rfl,(by show 1≤sizeLine; decide),fun q hq=>?_⟩
    have G4:=Same.new hq (.tup [.str (stl (wL (dr Tx p)))])
    have ey:stl (wL (dr Tx p)) = "yes" := by rw [cy]; exact txt_yes
    refine qs .yes _ p2 (.ref q) _ rfl (by show m+1≤30; omega) (.yes (by rw [upd_same,ey])) ((S2b (t:=.yes) rfl).same G4) d2 pl2 (B02.trans (SameBut.of G4))
  refine iteDF (fun z=>cy (by have:=eq_lit.mp z; rw [lit2.2.1] at this; exact this)) ?_
  rw [if_neg cy] at qs qr
  refine ⟨_,rfl,rfl,_,rfl,?_⟩
  by_cases co:wL (dr Tx p)=[110,111]
  · refine iteD (eq_lit.mpr (by rw [lit2.2.2]; exact co)) ?_
    rw [if_pos co] at qs
    refine ⟨_,rfl,(by show 1≤sizeLine; decide),fun q hq=>?_⟩
    have G4:=Same.new hq (.tup [.str (stl (wL (dr Tx p)))])
    have ey:stl (wL (dr Tx p)) = "no" := by rw [co]; exact txt_no
    refine qs .no _ p2 (.ref q) _ rfl (by show m+1≤30; omega) (.no (by rw [upd_same,ey])) ((S2b (t:=.no) rfl).same G4) d2 pl2 (B02.trans (SameBut.of G4))
  refine iteDF (fun z=>co (by have:=eq_lit.mp z; rw [lit2.2.2] at this; exact this)) ?_
  rw [if_neg co] at qs qr
  refine ⟨_,rfl,_,rfl,wl,fun H3 S3=>⟨_,rfl,?_⟩⟩
  cases cm:nameB (stl (wL (dr Tx p))) with
  | false =>
    refine iteT ?_
    have rr:=qr fun t r' e=>by
      rw [cm] at e
      cases e
    exact ⟨_,rfl,sc,C,dx2,_,_,rfl,S3 _ _ hs2,T.cl,T.nR,sf2.row,(by show 1≤sizeLine; decide),fun e ze=>mk_sp kk.fm ze fun G4 s4 x4=>⟨rfl,raise_but cl rr (B02.trans (SameBut.of S3)) ze s4 x4⟩⟩
  | true =>
    refine iteF ?_
    rw [cm,if_pos rfl] at qs
    refine ⟨_,rfl,(by show 2≤sizeLine; decide),fun q hq=>?_⟩
    have G4:=Same.new hq (.tup [.str "is", .str (stl (wL (dr Tx p)))])
    refine qs (.is (stl (wL (dr Tx p)))) _ p2 (.ref q) _ rfl (by show m+1≤30; omega) (.is upd_same) (((S2b (t:=.is (stl (wL (dr Tx p)))) rfl).same S3).same G4) d2 pl2 (B02.trans (SameBut.of (S3.trans G4)))
theorem nt_zero {f:Addr} {fd:FuncData} (F:Fun K "next_tree" "next_tree" s_next_tree f fd) (T:STxt K mg C) (g0:mg "NoText" = some (.ref CN)) (cl:ClsX K CN CA) (M0:Mkr P w K mg base CN "row" f0 fd0) (M:MthsR P w K mg base C CN fE fS fT fW fF dE dS dT dW dF):FnOk P w K mg base (CXr P w) 6 f fd ["scan", "within"] (spNextR C CN 0):=by
  refine F.okX sc_next_tree (fun vs H Q E h=>?_) (fun cdv A outer s H vs Q E hr h=>?_)
  · obtain ⟨sc,wi,Tx,k,p,m,rfl,_⟩:=h
    rfl
  obtain ⟨sc,wi,Tx,k,p,m,rfl,S0,kk,tl,pl,wn,m30,qs,qr⟩:=h
  have hr4:Room 4 _:=hr.mono (by omega)
  refine ⟨_,(pss_cons (ps_expr (pe_meth (pv 0) T.cl M.mE M.gE hr4 M.bE .nil passX (pa_cons (pv 1) pa_nil))) pss_never),?_⟩
  obtain ⟨dx0,fs0,hs0,sf0⟩:=id S0
  exact ⟨_,rfl,sc,dx0,fs0,rfl,hs0,sf0.no1,_,rfl,sc,Tx,k,p,m,wi,rfl,S0,kk,.inr ⟨fun z=>by have:=z.1; omega,qr fun t r' e=>by cases e⟩⟩
theorem ok_next_tree {f fj:Addr} {fd fdj:FuncData} (F:Fun K "next_tree" "next_tree" s_next_tree f fd) (m:mg "next_tree" = some (.ref f)) (Fj:Fun K "joined_tree" "joined_tree" s_joined_tree fj fdj) (mj:mg "joined_tree" = some (.ref fj)) (X:Tx K mg) (T:STxt K mg C) (g0:mg "NoText" = some (.ref CN)) (cl:ClsX K CN CA) (M0:Mkr P w K mg base CN "row" f0 fd0) (M:MthsR P w K mg base C CN fE fS fT fW fF dE dS dT dW dF) (C_is_name:Cal P w K mg base 1 "is_name" ["text"] (spTxt nameB)) :
    ∀ n:Nat,FnOk P w K mg base (CXr P w) (2*n+6) f fd ["scan", "within"] (spNextR C CN n)
  | 0=>nt_zero F T g0 cl M0 M
  | n+1=>by
    have b:=ok_next_tree F m Fj mj X T g0 cl M0 M C_is_name n
    have CN':=CalR.of F b m (fun _ _ _ _ _ _ us hl=>by obtain ⟨u0,u1,rfl⟩:=len2 hl; rfl)
    have CJ':=CalR.of Fj (jt_step Fj X T g0 cl M0 M CN') mj (fun _ _ _ _ _ _ us hl=>by obtain ⟨u0,u1,rfl⟩:=len2 hl; rfl)
    exact nt_step F T g0 cl M0 M C_is_name CN' CJ'
def spTreeR (CN:Addr):Sp:=fun vs H Q E=>∃ (z:Str) (k:Int),vs=[.str z,.int k]∧KOk k∧z.length≤60000∧(∀ (t:Tr) (v:V) (H':Hp),treeP z.cps.toList=some t→TreeAt H' v t→Same H H'→Q v H')∧(treeP z.cps.toList=none→RaisesRow CN k H E)
theorem sc_tree_in_row:FnScope ["text", "row", "scan", "tree"] ["text", "row"] (defScope s_tree_in_row):=⟨rfl,rfl,rfl,by decide +kernel,rfl,by decide +kernel,by decide +kernel⟩
theorem ok_tree_in_row {f fI:Addr} {fd fdI:FuncData} (F:Fun K "tree_in_row" "tree_in_row" s_tree_in_row f fd) (X:Tx K mg) (T:STxt K mg C) (M:MthsR P w K mg base C CN fE fS fT fW fF dE dS dT dW dF) (MK:Mk K C fI) (GI:FnOk P w K mg base CX0 1 fI fdI ["self", "text", "row", "most_within", "most_parts"] (spSInit C)) (bI:Binds K fdI ["self", "text", "row", "most_within", "most_parts"] [])
    (C_next_tree:CalR P w K mg base 26 "next_tree" ["scan", "within"] (spNextR C CN 10)):FnOk P w K mg base (CXr P w) 27 f fd ["text", "row"] (spTreeR CN):=by
  refine F.okX sc_tree_in_row (fun vs H Q E h=>?_) (fun cdv A outer s H vs Q E hr h=>?_)
  · obtain ⟨z,k,rfl,_⟩:=h
    rfl
  obtain ⟨z,k,rfl,kk,zl,qs,qr⟩:=h
  obtain ⟨t5,e5⟩:=X.within
  obtain ⟨t6,e6⟩:=X.parts
  have hr2:Room 2 _:=hr.mono (by decide)
  have hr4:Room 4 _:=hr.mono (by decide)
  refine ⟨_,(pss_cons (ps_set (i:=2) sc_tree_in_row.nd rfl (Or.inl rfl) (pe_make MK GI hr2 rfl T.mgC bI .nil pass0 (pa_cons (pv 0) (pa_cons (pv 1) (pa_cons (pe_glob (v:=.int 10) rfl e5 ⟨_,rfl⟩) (pa_cons (pe_glob (v:=.int 30) rfl e6 ⟨_,rfl⟩) pa_nil))))))
      (pss_cons (ps_set (i:=3) sc_tree_in_row.nd rfl (Or.inl rfl) (pe_calR C_next_tree hr (by decide) rfl passX (pa_cons (pv 2) (pa_cons pe_int pa_nil))))
      (pss_cons (ps_expr (pe_meth0 (pv 2) T.cl M.mF M.gF hr4 M.bF .nil passX))
      (pss_one (ps_ret (pv 3)))))),?_⟩
  refine ⟨_,rfl,_,rfl,fun sc dx nsc ndx nne=>?_⟩
  refine ⟨sc,dx,z,k,rfl,upd_same,fun H1 S1 B1=>⟨rfl,?_⟩⟩
  have G1:Same H H1:=fun b o e=>B1 b o (ne_of_none e nsc) (by rw [upd_ne (ne_of_none e nsc),upd_ne (ne_of_none e ndx)]; exact e)
  have lift:∀ {H':Hp},SameBut sc H1 H'→Same H H':=fun {H'} B=>G1.but nsc B
  have rais:treeP z.cps.toList=none→RaisesBut sc CN k H1 E:=fun e e' dx' H' B h1 h2=>qr e e' dx' H' (lift B) h1 h2
  have d0:dr z 0=z.cps.toList:=rfl
  refine ⟨_,rfl,sc,1,z,k,0,0,rfl,S1,kk,zl,Nat.zero_le _,by decide,by decide,⟨fun t r' p' v H2 e hm TT SS dd pp BB=>?_,fun bad=>?_⟩⟩
  rotate_left
  · refine rais ?_
    unfold treeP
    rw [d0] at bad
    cases e:pN 10 z.cps.toList with
    | none=>rfl
    | some q =>
      obtain ⟨t,r'⟩:=q
      have:=bad t r' e
      dsimp only
      rw [if_neg (fun z=>by have:=z.2; omega)]
  rw [d0] at e
  obtain ⟨dx2,fs2,hs2,sf2⟩:=id SS
  refine ⟨_,rfl,sc,dx2,fs2,rfl,hs2,sf2.no5,sc,z,k,p',_,rfl,SS,kk,zl,pp,?_⟩
  have eP:treeP z.cps.toList=if r'=[]∧t.size≤30 then some t else none:=by
    unfold treeP
    rw [e]
  by_cases c:r'=[]
  · rw [if_pos ⟨c,by omega⟩] at eP
    exact .inl ⟨by rw [dd]; exact c,_,rfl,qs t v H2 eP TT (lift BB)⟩
  · rw [if_neg (fun z=>c z.1)] at eP
    exact .inr ⟨by rw [dd]; exact c,(rais eP).but BB⟩
end
@[irreducible] def nameL:List Expr:=eltsOf (valOf (stm s_l_is_name 2))
theorem nameL_kept:Consts nameL kept:=by
  unfold nameL
  exact .cons (.cons (.cons (.cons (.cons (.cons (.cons (.cons (.cons (.cons (.cons (.cons .nil)))))))))))
theorem name_body:∃ p1 p2 p3,defBody s_l_is_name=[stm s_l_is_name 0,stm s_l_is_name 1,.Assign [.Name "_law_kept" p1] (.List nameL p2) p3,stm s_l_is_name 3]:=⟨_,_,_,by with_unfolding_all rfl⟩
theorem sc_l_is_name:FnScope ["_law_word", "_law_sign", "_law_kept"] ["_law_word"] (defScope s_l_is_name):=⟨rfl,rfl,rfl,by decide +kernel,rfl,by decide +kernel,by decide +kernel⟩
theorem ok_l_is_name {f:Addr} {fd:FuncData} (F:Fun K "_law_is_name" "_law_is_name" s_l_is_name f fd) (B:Bl mg):FnOk P w K mg base CX0 2 f fd ["_law_word"] (spTxt nameB):=by
  refine F.ok sc_l_is_name (fun vs H Q E h=>?_) (fun cdv A outer s H vs Q E hr h=>?_)
  · obtain ⟨z,rfl,_⟩:=h
    rfl
  obtain ⟨z,rfl,hz,q⟩:=h
  obtain ⟨p1,p2,p3,ebody⟩:=name_body
  rw [ebody]
  refine ⟨_,(pss_cons (ps_if (pt_not (pt_chain op_le op_le pe_int (pe_callB call_len_str rfl B.len PySem.boot_len (pa_cons (pv 0) pa_nil)) pe_int)) (pss_one (ps_ret pe_bl)) pss_nil)
      (pss_cons (ps_for PassesOwn.never rfl (pi_str (pv 0)) (pg_name (i:=1) sc_l_is_name.nd rfl (Or.inl rfl)) (pss_one (ps_if (pt_cmpR op_notin_str (pv 1) pe_str (by with_unfolding_all rfl)) (pss_one (ps_ret pe_bl)) pss_nil)))
      (pss_cons (ps_set (i:=2) sc_l_is_name.nd rfl (Or.inl rfl) (pe_lst (pa_consts nameL_kept)))
      (pss_one (ps_ret (pe_cmpR op_notIn_seq (pv 0) (pv 2) (by with_unfolding_all rfl))))))),?_⟩
  have fls:nameB z=false→Q (.bl false) H:=fun e=>by
    have:=q H (Same.refl H)
    rw [e] at this
    exact this
  refine ⟨_,rfl,z,rfl,smallT hz,_,_,rfl,rfl,_,rfl,?_⟩
  by_cases c1:(1:Int)≤(z.length:Int)
  case neg =>
    refine iteDF c1 ?_
    refine ⟨_,rfl,iteT ?_⟩
    exact fls (by unfold nameB; rw [decide_eq_false (show ¬ 1≤z.length by omega)]; rfl)
  refine iteD c1 ?_
  refine ⟨_,_,rfl,rfl,_,rfl,?_⟩
  by_cases c2:(z.length:Int)≤(6:Int)
  case neg =>
    refine iteN c2 ?_
    exact fls (by unfold nameB; rw [decide_eq_false (show ¬ z.length≤6 by omega)]; simp)
  refine iteNS c2 ?_
  refine ⟨_,rfl,z,rfl,for_str (z:=z) (fun i σ H'=>∃ x1 x2,σ=[some (.str z),x1,x2]∧H'=H∧(z.cps.toList.take i).all (isIn LET)=true) ⟨_,_,rfl,rfl,rfl⟩ ?_ ?_⟩
  · rintro i c σ H' hc ⟨x1,x2,rfl,rfl,al⟩
    have ec:z.cps.toList[i]?=some c:=by simpa using hc
    refine ⟨_,rfl,_,_,rfl,rfl,_,rfl,?_⟩
    show if (!(isIn LET c))=true then _ else _
    cases hb:isIn LET c with
    | false =>
      refine iteT ?_
      refine fls ?_
      have:z.cps.toList.all (isIn LET)=false:=by
        rw [Bool.eq_false_iff]
        intro e
        have:=List.all_eq_true.mp e c (List.mem_of_getElem? ec)
        rw [hb] at this
        cases this
      unfold nameB
      rw [this]
      simp
    | true =>
      refine iteF ?_
      refine ⟨_,_,rfl,rfl,?_⟩
      rw [List.take_add_one,ec,List.all_append,al]
      simpa using hb
  · rintro σ H' ⟨x1,x2,rfl,rfl,al⟩
    rw [show z.cps.toList.take z.cps.size=z.cps.toList by rw [← Array.length_toList]; exact List.take_length] at al
    refine ⟨(by show 12≤sizeLine; decide),fun l hl=>?_⟩
    refine ⟨_,rfl,_,rfl,l,_,rfl,.inl (SqL.of upd_same),rfl,(by decide),?_⟩
    have e:nameB z=!inV (.str z) (kept.map V.str):=by
      unfold nameB
      rw [al,decide_eq_true (show 1≤z.length by omega),decide_eq_true (show z.length≤6 by omega)]
      simp
    have:=q (upd H' l (.lst (kept.map V.str))) (Same.new hl _)
    rw [e] at this
    exact this
theorem slice_cl (x:Str) (l:Option Int) (b:Nat):Txt.slice x l (some (b:Int))=Txt.slice x l (some ((min b x.length:Nat):Int)):=by
  have e:Builtin.Str.strSliceIndices l (some (b:Int)) 1 x.length=Builtin.Str.strSliceIndices l (some ((min b x.length:Nat):Int)) 1 x.length:=by
    unfold Builtin.Str.strSliceIndices
    dsimp only
    have h1:(if (b:Int) < 0 then (b:Int)+(x.length:Int) else (b:Int))=b:=if_neg (by omega)
    have h2:(if ((min b x.length:Nat):Int) < 0 then ((min b x.length:Nat):Int)+(x.length:Int) else ((min b x.length:Nat):Int))=((min b x.length:Nat):Int):=if_neg (by omega)
    rw [h1,h2]
    simp only [show ((1:Int) > 0)=True by simp,if_true]
    have h3:min (b:Int) (x.length:Int)=min (((min b x.length:Nat):Int)) (x.length:Int):=by omega
    rw [h3]
  unfold Txt.slice
  rw [e]
theorem slice_dr {T:Str} {p:Nat} (j:Nat) (hp:p≤T.length):Txt.slice T (some (p:Int)) (some ((p+j:Nat):Int))=stl ((dr T p).take j):=by
  rw [slice_cl]
  have e:Txt.slice T (some (p:Int)) (some ((min (p+j) T.length:Nat):Int))=_:=StrLaws.sliceText_nat T (a:=p) (b:=min (p+j) T.length) (by omega) (by omega)
  rw [e]
  refine str_ext ?_
  show (T.cps.toList.drop p).take (min (p+j) T.length - p)=(dr T p).take j
  have L:=len_list T
  unfold dr
  by_cases c:p+j≤T.length
  · rw [Nat.min_eq_left c,Nat.add_sub_cancel_left]
  · rw [Nat.min_eq_right (by omega),List.take_of_length_le (by rw [List.length_drop]; omega),List.take_of_length_le (by rw [List.length_drop]; omega)]
theorem dr_len {T:Str} {p:Nat} (hp:p≤T.length):(dr T p).length+p=T.length:=by
  have L:=len_list T
  unfold dr
  rw [List.length_drop]
  omega
theorem dr_add (T:Str) (p j:Nat):dr T (p+j)=(dr T p).drop j:=by
  unfold dr
  rw [List.drop_drop]
def spNameEnds:Sp:=fun vs H Q _=>∃ (T:Str) (p:Nat),vs=[.str T,.int (p:Int)]∧T.length≤60000∧p≤T.length∧Q (.int ((p+(lLet (dr T p)).length:Nat):Int)) H
theorem sc_l_name_ends:FnScope ["_law_text_here", "_law_at", "_law_upto"] ["_law_text_here", "_law_at"] (defScope s_l_name_ends):=⟨rfl,rfl,rfl,by decide +kernel,rfl,by decide +kernel,by decide +kernel⟩
theorem ok_l_name_ends {f:Addr} {fd:FuncData} (F:Fun K "_law_name_ends" "_law_name_ends" s_l_name_ends f fd) (B:Bl mg):FnOk P w K mg base CX0 1 f fd ["_law_text_here", "_law_at"] spNameEnds:=by
  refine F.ok sc_l_name_ends (fun vs H Q E h=>?_) (fun cdv A outer s H vs Q E hr h=>?_)
  · obtain ⟨T,p,rfl,_⟩:=h
    rfl
  obtain ⟨T,p,rfl,tl,pl,q⟩:=h
  refine ⟨_,(pss_cons (ps_set (i:=2) sc_l_name_ends.nd rfl (Or.inl rfl) (pv 1))
      (pss_cons (ps_while PassesOwn.never (PW.pt (pw_and (pt_cmpR op_lt (pv 2) (pe_callB call_len_str rfl B.len PySem.boot_len (pa_cons (pv 0) pa_nil)) (nomark _)) (pw_and1 (pt_cmpR op_in_str (pe_ix ix_str (pv 0) (pv 2) (fun _ _=>rfl)) pe_str (by with_unfolding_all rfl))))) (pss_one (ps_set (i:=2) sc_l_name_ends.nd rfl (Or.inl rfl) (pe_op op_add (pv 2) pe_int))))
      (pss_one (ps_ret (pv 2))))),?_⟩
  have L:=len_list T
  have hd:dr T p=lLet (dr T p)++rLet (dr T p):=(lLR _).symm
  have hlen:=dr_len pl
  have xl:=lLet_in (r:=dr T p)
  have er:∀ c,(rLet (dr T p)).head?=some c→isIn LET c=false:=fun c hc=>rLet_hd _ hc
  generalize lLet (dr T p)=x at hd xl q
  generalize rLet (dr T p)=r at hd er
  rw [hd,List.length_append] at hlen
  refine ⟨_,rfl,?_⟩
  refine ⟨fun m σ H'=>∃ j:Nat,j≤x.length∧σ=[some (.str T),some (.int (p:Int)),some (.int ((p+j:Nat):Int))]∧H'=H∧m=x.length - j,⟨_,0,Nat.zero_le _,rfl,rfl,rfl⟩,?_⟩
  rintro m σ H1 ⟨j,hj,rfl,rfl,rfl⟩
  refine ⟨_,rfl,_,rfl,T,rfl,smallT tl,_,_,rfl,rfl,_,rfl,?_⟩
  by_cases c1:((p+j:Nat):Int) < (T.length:Int)
  · refine iteD c1 ?_
    have hk:p+j < T.cps.toList.length:=by omega
    have ha:atI T.cps.toList ((p+j:Nat):Int)=some T.cps.toList[p+j]:=atI_nat (List.getElem?_eq_getElem hk)
    have hx:T.cps.toList[p+j]?=(x++r)[j]?:=by
      rw [← hd]
      unfold dr
      rw [List.getElem?_drop]
    refine ⟨_,rfl,_,rfl,T,_,_,rfl,rfl,smallT tl,ha,_,_,rfl,rfl,_,rfl,?_⟩
    by_cases c2:j < x.length
    · have ec:T.cps.toList[p+j]=x[j]:=by
        rw [List.getElem?_eq_getElem hk,List.getElem?_append_left c2,List.getElem?_eq_getElem c2] at hx
        exact Option.some.inj hx
      have en:isIn LET T.cps.toList[p+j]=true:=by rw [ec]; exact xl _ (List.getElem_mem c2)
      have en':(!(Builtin.Str.occurrences LET ⟨#[T.cps.toList[p+j]]⟩ 0 LET.length 1).isEmpty)=true:=en
      show if (!(Builtin.Str.occurrences LET ⟨#[T.cps.toList[p+j]]⟩ 0 LET.length 1).isEmpty)=true then _ else _
      rw [en']
      refine ⟨_,fun _ _ h=>h,?_⟩
      refine ⟨_,rfl,_,_,rfl,rfl,?_⟩
      refine ⟨_,by omega,j+1,by omega,?_,rfl,rfl⟩
      show List.set _ 2 (some (V.int (((p+j:Nat):Int)+1)))=_
      rw [show ((p+j:Nat):Int)+1=((p+(j+1):Nat):Int) by omega]
      rfl
    · have ej:j=x.length:=by omega
      have en:isIn LET T.cps.toList[p+j]=false:=by
        cases r with
        | nil =>
          rw [List.length_nil] at hlen
          omega
        | cons c r' =>
          rw [List.getElem?_eq_getElem hk,List.getElem?_append_right (by omega),show j - x.length=0 by omega] at hx
          have ec:T.cps.toList[p+j]=c:=Option.some.inj hx
          rw [ec]
          exact er c rfl
      have en':(!(Builtin.Str.occurrences LET ⟨#[T.cps.toList[p+j]]⟩ 0 LET.length 1).isEmpty)=false:=en
      show if (!(Builtin.Str.occurrences LET ⟨#[T.cps.toList[p+j]]⟩ 0 LET.length 1).isEmpty)=true then _ else _
      rw [en',ej]
      exact ⟨_,rfl,q⟩
  · refine iteDF c1 ?_
    have ej:j=x.length:=by omega
    rw [ej]
    exact ⟨_,rfl,q⟩
def spParse (n:Nat):Sp:=fun vs H Q _=>∃ (T:Str) (p:Nat) (d:Int),vs=[.str T,.int (p:Int),.int d]∧T.length≤60000∧p≤T.length∧d+(n:Int)=11∧(pL n (dr T p)=none→∀ H',Same H H'→Q .non H') ∧
  (∀ (t:Tr) (r':List Nat) (p':Nat) (v:V) (g:Addr) (H':Hp),pL n (dr T p)=some (t,r')→TreeAt H' v t→dr T p'=r'→p'≤T.length→H' g=some (.tup [v,.int (p':Int)])→Same H H'→Q (.ref g) H')
theorem sc_l_parse:FnScope ["_law_text_here", "_law_at", "_law_deep", "_law_one", "_law_word", "_law_other", "_law_upto"] ["_law_text_here", "_law_at", "_law_deep"] (defScope s_l_parse):=⟨rfl,rfl,rfl,by decide +kernel,rfl,by decide +kernel,by decide +kernel⟩
theorem take1 {r:List Nat} {c:Nat}:r.take 1=[c]↔r.head?=some c:=by
  cases r with
  | nil=>simp
  | cons a t=>simp
theorem dr_le {T:Str} {p j:Nat} {x:List Nat} (hp:p≤T.length) (h:(dr T p).take j=x) (hx:x.length=j):p+j≤T.length:=by
  have h1:=dr_len hp
  have h2:=congrArg List.length h
  rw [List.length_take] at h2
  omega
theorem lit_nb:(("not " : Str)).cps.toList=[110,111,116,32]:=lit_not
theorem lp_step {n:Nat} {f:Addr} {fd:FuncData} (F:Fun K "_law_parse" "_law_parse" s_l_parse f fd) (B:Bl mg) (C_l_is_name:Cal P w K mg base 2 "_law_is_name" ["_law_word"] (spTxt nameB)) (C_l_name_ends:Cal P w K mg base 1 "_law_name_ends" ["_law_text_here", "_law_at"] spNameEnds) (C_l_parse:Cal P w K mg base (n+3) "_law_parse" ["_law_text_here", "_law_at", "_law_deep"] (spParse n)):FnOk P w K mg base CX0 (n+4) f fd ["_law_text_here", "_law_at", "_law_deep"] (spParse (n+1)):=by
  refine F.ok sc_l_parse (fun vs H Q E h=>?_) (fun cdv A outer s H vs Q E hr h=>?_)
  · obtain ⟨T,p,d,rfl,_⟩:=h
    rfl
  obtain ⟨T,p,d,rfl,tl,pl,dn,qn,qs⟩:=h
  refine ⟨_,(pss_cons (ps_if (pt_cmpR op_gt (pv 2) pe_int (nomark _)) (pss_one (ps_ret pe_non)) pss_nil)
      (pss_cons (ps_if (pt_cmpR op_eq (pe_slice sl_str (pv 0) (po_some (pv 1)) (po_some (pe_op op_add (pv 1) pe_int))) pe_str (nomark _)) (pss_cons (ps_set (i:=3) sc_l_parse.nd rfl (Or.inl rfl) (pe_cal C_l_parse hr (Nat.le_refl _) rfl (pa_cons (pv 0) (pa_cons (pe_op op_add (pv 1) pe_int) (pa_cons (pe_op op_add (pv 2) pe_int) pa_nil)))))
        (pss_cons (ps_for PassesOwn.never rfl (pi_tup (pe_tup (pa_cons pe_str (pa_cons pe_str (pa_cons pe_str (pa_cons pe_str pa_nil)))))) (pg_name (i:=4) sc_l_parse.nd rfl (Or.inl rfl)) (pss_one (ps_if (PW.pt (pw_and (pt_cmpR op_notN (pv 3) pe_non (nomark _)) (pw_and1 (pt_cmpR op_eq (pe_slice sl_str (pv 0) (po_some (pe_ix ix_tup (pv 3) pe_int (fun _ _=>rfl))) (po_some (pe_op op_add (pe_op op_add (pe_ix ix_tup (pv 3) pe_int (fun _ _=>rfl)) (pe_callB call_len_str rfl B.len PySem.boot_len (pa_cons (pv 4) pa_nil))) pe_int))) (pe_op op_add_str (pe_op op_add_str pe_str (pv 4)) pe_str) (nomark _))))) (pss_cons (ps_set (i:=5) sc_l_parse.nd rfl (Or.inl rfl) (pe_cal C_l_parse hr (Nat.le_refl _) rfl (pa_cons (pv 0) (pa_cons (pe_op op_add (pe_op op_add (pe_ix ix_tup (pv 3) pe_int (fun _ _=>rfl)) (pe_callB call_len_str rfl B.len PySem.boot_len (pa_cons (pv 4) pa_nil))) pe_int) (pa_cons (pe_op op_add (pv 2) pe_int) pa_nil)))))
            (pss_one (ps_if (PW.pt (pw_and (pt_cmpR op_notN (pv 5) pe_non (nomark _)) (pw_and1 (pt_cmpR op_eq (pe_slice sl_str (pv 0) (po_some (pe_ix ix_tup (pv 5) pe_int (fun _ _=>rfl))) (po_some (pe_op op_add (pe_ix ix_tup (pv 5) pe_int (fun _ _=>rfl)) pe_int))) pe_str (nomark _))))) (pss_one (ps_ret (pe_tup (pa_cons (pe_tup (pa_cons (pv 4) (pa_cons (pe_ix ix_tup (pv 3) pe_int (fun _ _=>rfl)) (pa_cons (pe_ix ix_tup (pv 5) pe_int (fun _ _=>rfl)) pa_nil)))) (pa_cons (pe_op op_add (pe_ix ix_tup (pv 5) pe_int (fun _ _=>rfl)) pe_int) pa_nil))))) pss_nil))) pss_nil)))
        (pss_one (ps_ret pe_non)))) pss_nil)
      (pss_cons (ps_if (pt_cmpR op_eq (pe_slice sl_str (pv 0) (po_some (pv 1)) (po_some (pe_op op_add (pv 1) pe_int))) pe_str (nomark _)) (pss_cons (ps_set (i:=3) sc_l_parse.nd rfl (Or.inl rfl) (pe_cal C_l_parse hr (Nat.le_refl _) rfl (pa_cons (pv 0) (pa_cons (pe_op op_add (pv 1) pe_int) (pa_cons (pe_op op_add (pv 2) pe_int) pa_nil)))))
        (pss_cons (ps_if (pt_cmpR op_isN (pv 3) pe_non (nomark _)) (pss_one (ps_ret pe_non)) pss_nil)
        (pss_one (ps_ret (pe_tup (pa_cons (pe_tup (pa_cons pe_str (pa_cons (pe_ix ix_tup (pv 3) pe_int (fun _ _=>rfl)) pa_nil))) (pa_cons (pe_ix ix_tup (pv 3) pe_int (fun _ _=>rfl)) pa_nil))))))) pss_nil)
      (pss_cons (ps_set (i:=6) sc_l_parse.nd rfl (Or.inl rfl) (pe_cal C_l_name_ends hr (by omega) rfl (pa_cons (pv 0) (pa_cons (pv 1) pa_nil))))
      (pss_cons (ps_set (i:=4) sc_l_parse.nd rfl (Or.inl rfl) (pe_slice sl_str (pv 0) (po_some (pv 1)) (po_some (pv 6))))
      (pss_cons (ps_if (PW.pt (pw_or (pt_cmpR op_eq (pv 4) pe_str (nomark _)) (pw_or1 (pt_cmpR op_eq (pv 4) pe_str (nomark _))))) (pss_one (ps_ret (pe_tup (pa_cons (pe_tup (pa_cons (pv 4) pa_nil)) (pa_cons (pv 6) pa_nil))))) pss_nil)
      (pss_cons (ps_if (pt_not (pt_val (pe_cal C_l_is_name hr (by omega) rfl (pa_cons (pv 4) pa_nil)))) (pss_one (ps_ret pe_non)) pss_nil)
      (pss_one (ps_ret (pe_tup (pa_cons (pe_tup (pa_cons pe_str (pa_cons (pv 4) pa_nil))) (pa_cons (pv 6) pa_nil)))))))))))),?_⟩
  refine ⟨_,rfl,_,_,rfl,rfl,_,rfl,?_⟩
  refine iteDF (by omega) ?_
  refine ⟨_,rfl,_,rfl,_,rfl,_,rfl,_,_,rfl,rfl,_,rfl,T,rfl,smallT tl,rfl,_,rfl,?_⟩
  have s1:Txt.slice T (some (p:Int)) (some ((p:Int)+1))=stl ((dr T p).take 1):=slice_dr 1 pl
  rw [s1]
  by_cases c1:(dr T p).head?=some 40
  · refine iteD (eq_lit.mpr (by rw [lit1.1]; exact take1.mpr c1)) ?_
    obtain ⟨d1,p1⟩:=dr_tail c1
    have e0:pL (n+1) (dr T p)=match pL n (dr T p).tail with | none=>none | some (a,r1)=>lJ (pL n) a r1 joinW:=by
      show (if (dr T p).head?=some 40 then _ else _)=_
      rw [if_pos c1]
      all_goals rfl
    rw [e0,← d1] at qn qs
    refine ⟨_,rfl,_,rfl,_,_,rfl,rfl,_,rfl,_,_,rfl,rfl,T,p+1,_,rfl,tl,p1,by omega,⟨fun en H1 S1=>?_,fun a r1 p2 v1 g1 H1 e1 T1 d2 pl2 hg1 S1=>?_⟩⟩
    · rw [en] at qn
      refine ⟨(by show 4≤sizeLine; decide),fun t0 ht0=>?_⟩
      have G:=Same.new ht0 (.tup [.str "and", .str "or", .str "odd", .str "same"])
      refine ⟨t0,rfl,⟨_,SqT.of upd_same⟩,for_tup (K:=K) (xs:=[.str "and", .str "or", .str "odd", .str "same"]) (fun i σ H'=>∃ x4:Option V,σ=[some (.str T),some (.int (p:Int)),some (.int d),some .non,x4,none,none]∧Same H H'∧SqT K H' t0 [.str "and", .str "or", .str "odd", .str "same"]) ⟨_,rfl,S1.trans G,SqT.of upd_same⟩ (fun i σ H' _ h=>by obtain ⟨_,_,_,h3⟩:=h; exact h3) ?_ ?_⟩
      · rintro i z σ H2 hz ⟨x4,rfl,S2,sq⟩
        refine ⟨_,rfl,rfl,_,rfl,?_⟩
        refine iteF (iteF ?_)
        exact ⟨_,rfl,S2,sq⟩
      · rintro σ H2 ⟨x4,rfl,S2,_⟩
        exact qn rfl H2 S2
    · rw [e1] at qn qs
      dsimp only at qn qs
      refine ⟨(by show 4≤sizeLine; decide),fun t0 ht0=>?_⟩
      have G:=Same.new ht0 (.tup [.str "and", .str "or", .str "odd", .str "same"])
      have S01:=S1.trans G
      refine ⟨t0,rfl,⟨_,SqT.of upd_same⟩,for_tup (K:=K) (xs:=joinW.map V.str) (fun i σ H'=>∃ x4 x5:Option V,σ=[some (.str T),some (.int (p:Int)),some (.int d),some (.ref g1),x4,x5,none]∧Same (upd H1 t0 (.tup [.str "and", .str "or", .str "odd", .str "same"])) H'∧lJ (pL n) a r1 (joinW.drop i)=lJ (pL n) a r1 joinW) ⟨_,_,rfl,Same.refl _,rfl⟩ (fun i σ H' _ h=>by obtain ⟨_,_,_,h3,_⟩:=h; exact SqT.of (h3 _ _ upd_same)) ?_ ?_⟩
      · rintro i z σ H2 hz ⟨x4,x5,rfl,S2,hl⟩
        rw [List.getElem?_map] at hz
        obtain ⟨o,ho,rfl⟩:=Option.map_eq_some_iff.mp hz
        have om:=List.mem_of_getElem? ho
        have ol:=(join_letters o om).1
        have oc:=len_list o
        have hdr:joinW.drop i=o::joinW.drop (i+1):=by
          obtain ⟨hi,e⟩:=List.getElem?_eq_some_iff.mp ho
          rw [List.drop_eq_getElem_cons hi,e]
        rw [hdr] at hl
        have hg2:=S2 _ _ (G _ _ hg1)
        refine ⟨_,rfl,rfl,_,rfl,?_⟩
        refine iteT ?_
        refine ⟨_,rfl,_,rfl,g1,_,1,_,rfl,rfl,SqT.of hg2,at1 ..,_,rfl,_,rfl,g1,_,1,_,rfl,rfl,SqT.of hg2,at1 ..,_,rfl,o,rfl,small (by omega),_,_,rfl,rfl,_,_,rfl,rfl,_,rfl,T,rfl,smallT tl,?_⟩
        have l1:((" " : Str)).length=1:=by decide +kernel
        refine ⟨_,rfl,_,_,rfl,rfl,small (by omega),_,_,rfl,rfl,small (by rw [Str.length_append]; omega),rfl,_,rfl,?_⟩
        have s2:Txt.slice T (some (p2:Int)) (some ((p2:Int)+(o.length:Int)+2))=stl ((dr T p2).take (o.length+2)):=by
          have e:(p2:Int)+(o.length:Int)+2=((p2+(o.length+2):Nat):Int):=by omega
          rw [e]
          exact slice_dr _ pl2
        rw [s2,d2]
        have e2:V.str (stl (r1.take (o.length+2)))=V.str ((((" " : Str))++o)++(" " : Str))↔r1.take (o.length+2)=32::(o.cps.toList++[32]):=by
          rw [eq_lit,cat_list,cat_list,lit_sp]
          simp
        have next:∀ (x5':Option V) (H':Hp),Same H2 H'→lJ (pL n) a r1 joinW=lJ (pL n) a r1 (joinW.drop (i+1))→∃ x4 x5:Option V,[some (.str T),some (.int (p:Int)),some (.int d),some (.ref g1),some (.str o),x5',none]=[some (.str T),some (.int (p:Int)),some (.int d),some (.ref g1),x4,x5,none]∧Same (upd H1 t0 (.tup [.str "and", .str "or", .str "odd", .str "same"])) H'∧lJ (pL n) a r1 (joinW.drop (i+1))=lJ (pL n) a r1 joinW:=fun x5' H' S' e=>⟨_,_,rfl,S2.trans S',e.symm⟩
        have ul:lJ (pL n) a r1 (o::joinW.drop (i+1))=if r1.take (o.length+2)=32::(o.cps.toList++[32]) then (match pL n (r1.drop (o.length+2)) with | some (b,r3)=>if r3.head?=some 41 then some (Tr.bin o a b,r3.tail) else lJ (pL n) a r1 (joinW.drop (i+1)) | none=>lJ (pL n) a r1 (joinW.drop (i+1))) else lJ (pL n) a r1 (joinW.drop (i+1)):=by
          conv=>lhs; unfold lJ
          all_goals rfl
        by_cases c2:r1.take (o.length+2)=32::(o.cps.toList++[32])
        rotate_left
        · refine iteDF (fun z=>c2 (e2.mp z)) ?_
          refine next _ H2 (Same.refl _) ?_
          rw [if_neg c2] at ul
          rw [← hl,ul]
        refine iteD (e2.mpr c2) ?_
        rw [if_pos c2] at ul
        have p3:p2+(o.length+2)≤T.length:=dr_le (x:=32::(o.cps.toList++[32])) pl2 (by rw [d2]; exact c2) (by simp only [List.length_cons,List.length_append,List.length_nil]; omega)
        have d3:dr T (p2+(o.length+2))=r1.drop (o.length+2):=by rw [dr_add,d2]
        have ei:(p2:Int)+(o.length:Int)+2=((p2+(o.length+2):Nat):Int):=by omega
        refine ⟨_,rfl,_,rfl,g1,_,1,_,rfl,rfl,SqT.of hg2,at1 ..,_,rfl,o,rfl,small (by omega),_,_,rfl,rfl,_,_,rfl,rfl,_,rfl,_,_,rfl,rfl,T,p2+(o.length+2),d+1,?_,tl,p3,by omega,⟨fun en H3 S3=>?_,fun b r3 p4 v2 g2 H3 e3 T3 d4 pl4 hg3 S3=>?_⟩⟩
        · show [V.str T,V.int ((p2:Int)+(o.length:Int)+2),V.int (d+1)]=_
          rw [ei]
        · rw [d3] at en
          rw [en] at ul
          refine ⟨_,rfl,rfl,_,rfl,?_⟩
          refine iteF (iteF ?_)
          refine next _ H3 S3 ?_
          rw [← hl,ul]
        · rw [d3] at e3
          rw [e3] at ul
          dsimp only at ul
          refine ⟨_,rfl,rfl,_,rfl,?_⟩
          refine iteT ?_
          refine ⟨_,rfl,_,rfl,g2,_,1,_,rfl,rfl,SqT.of hg3,at1 ..,_,rfl,_,rfl,g2,_,1,_,rfl,rfl,SqT.of hg3,at1 ..,_,_,rfl,rfl,_,rfl,T,rfl,smallT tl,rfl,_,rfl,?_⟩
          have s3:Txt.slice T (some (p4:Int)) (some ((p4:Int)+1))=stl ((dr T p4).take 1):=slice_dr 1 pl4
          rw [s3,d4]
          by_cases c3:r3.head?=some 41
          rotate_left
          · refine iteDF (fun z=>c3 (by have:=eq_lit.mp z; rw [lit1.2.2] at this; exact take1.mp this)) ?_
            refine next _ H3 S3 ?_
            rw [if_neg c3] at ul
            rw [← hl,ul]
          refine iteD (eq_lit.mpr (by rw [lit1.2.2]; exact take1.mpr c3)) ?_
          rw [if_pos c3] at ul
          have hg13:=S3 _ _ hg2
          refine ⟨_,rfl,_,rfl,g1,_,0,_,rfl,rfl,SqT.of hg13,at0 ..,_,rfl,g2,_,0,_,rfl,rfl,SqT.of hg3,at0 ..,(by show 3≤sizeLine; decide),fun t1 ht1=>?_⟩
          have G4:=Same.new ht1 (.tup [.str o,v1,v2])
          refine ⟨_,rfl,g2,_,1,_,rfl,rfl,SqT.of (G4 _ _ hg3),at1 ..,_,_,rfl,rfl,(by show 2≤sizeLine; decide),fun t2 ht2=>?_⟩
          have G5:=Same.new ht2 (.tup [.ref t1,.int ((p4:Int)+1)])
          obtain ⟨d5,p5⟩:=dr_tail (T:=T) (p:=p4) (by rw [d4]; exact c3)
          rw [d4] at d5
          have S03:=S01.trans (S2.trans S3)
          refine qs (.bin o a b) r3.tail (p4+1) (.ref t1) t2 _ (by rw [← hl,ul]) (.bin (G5 _ _ upd_same) (T1.mono (keepT_same (G.trans (S2.trans (S3.trans (G4.trans G5)))))) (T3.mono (keepT_same (G4.trans G5)))) d5 p5 ?_ (S03.trans (G4.trans G5))
          rw [upd_same]
          rfl
      · rintro σ H2 ⟨x4,x5,rfl,S2,hl⟩
        have hl':lJ (pL n) a r1 joinW=none:=by rw [← hl]; rfl
        exact qn hl' H2 (S01.trans S2)
  · refine iteDF (fun z=>c1 (by have:=eq_lit.mp z; rw [lit1.1] at this; exact take1.mp this)) ?_
    have e0:pL (n+1) (dr T p)=if (dr T p).take 4=[110,111,116,32] then (match pL n ((dr T p).drop 4) with | none=>none | some (a,r1)=>some (Tr.not a,r1))
        else if lLet (dr T p)=[121,101,115] then some (Tr.yes,rLet (dr T p)) else if lLet (dr T p)=[110,111] then some (Tr.no,rLet (dr T p)) else if nameB (stl (lLet (dr T p)))=true then some (Tr.is (stl (lLet (dr T p))),rLet (dr T p)) else none:=by
      show (if (dr T p).head?=some 40 then _ else _)=_
      rw [if_neg c1]
      all_goals rfl
    rw [e0] at qn qs
    refine ⟨_,rfl,_,rfl,_,rfl,_,rfl,_,_,rfl,rfl,_,rfl,T,rfl,smallT tl,rfl,_,rfl,?_⟩
    have s4:Txt.slice T (some (p:Int)) (some ((p:Int)+4))=stl ((dr T p).take 4):=slice_dr 4 pl
    rw [s4]
    by_cases c2:(dr T p).take 4=[110,111,116,32]
    · refine iteD (eq_lit.mpr (by rw [lit_nb]; exact c2)) ?_
      rw [if_pos c2] at qn qs
      have p4:p+4≤T.length:=dr_le pl c2 rfl
      rw [← dr_add] at qn qs
      refine ⟨_,rfl,_,rfl,_,_,rfl,rfl,_,rfl,_,_,rfl,rfl,T,p+4,_,rfl,tl,p4,by omega,⟨fun en H1 S1=>?_,fun a r1 p2 v1 g1 H1 e1 T1 d2 pl2 hg1 S1=>?_⟩⟩
      · rw [en] at qn
        refine ⟨_,rfl,rfl,_,rfl,?_⟩
        refine iteT ?_
        exact qn rfl H1 S1
      · rw [e1] at qs
        refine ⟨_,rfl,rfl,_,rfl,?_⟩
        refine iteF ?_
        refine ⟨_,rfl,g1,_,0,_,rfl,rfl,SqT.of hg1,at0 ..,(by show 2≤sizeLine; decide),fun t1 ht1=>?_⟩
        have G1:=Same.new ht1 (.tup [.str "not", v1])
        refine ⟨_,rfl,g1,_,1,_,rfl,rfl,SqT.of (G1 _ _ hg1),at1 ..,(by show 2≤sizeLine; decide),fun t2 ht2=>?_⟩
        have G2:=Same.new ht2 (.tup [.ref t1,.int (p2:Int)])
        exact qs (.not a) r1 p2 (.ref t1) t2 _ rfl (.not (G2 _ _ upd_same) (T1.mono (keepT_same (G1.trans G2)))) d2 pl2 upd_same (S1.trans (G1.trans G2))
    refine iteDF (fun z=>c2 (by have:=eq_lit.mp z; rw [lit_nb] at this; exact this)) ?_
    rw [if_neg c2] at qn qs
    refine ⟨_,rfl,_,rfl,T,p,rfl,tl,pl,?_⟩
    have xl:p+(lLet (dr T p)).length≤T.length:=by
      have h1:=dr_len pl
      have h2:=congrArg List.length (lLR (dr T p))
      rw [List.length_append] at h2
      omega
    have s5:Txt.slice T (some (p:Int)) (some ((p+(lLet (dr T p)).length:Nat):Int))=stl (lLet (dr T p)):=by
      rw [slice_dr _ pl]
      have:=congrArg (List.take (lLet (dr T p)).length) (lLR (dr T p))
      rw [List.take_left] at this
      rw [← this]
    have d5:dr T (p+(lLet (dr T p)).length)=rLet (dr T p):=by
      rw [dr_add]
      have:=congrArg (List.drop (lLet (dr T p)).length) (lLR (dr T p))
      rw [List.drop_left] at this
      exact this.symm
    refine ⟨_,rfl,_,rfl,_,rfl,_,rfl,_,rfl,T,rfl,smallT tl,?_⟩
    rw [s5]
    have wl:(stl (lLet (dr T p))).length≤60000:=by
      rw [stl_len]
      omega
    refine ⟨_,rfl,rfl,_,rfl,?_⟩
    by_cases cy:lLet (dr T p)=[121,101,115]
    · refine iteD (eq_lit.mpr (by rw [lit2.2.1]; exact cy)) (iteT ?_)
      rw [if_pos cy] at qs
      refine ⟨_,rfl,(by show 1≤sizeLine; decide),fun t1 ht1=>?_⟩
      refine ⟨_,rfl,(by show 2≤sizeLine; decide),fun t2 ht2=>?_⟩
      have G1:=Same.new ht1 (.tup [.str (stl (lLet (dr T p)))])
      have G2:=Same.new ht2 (.tup [.ref t1,.int ((p+(lLet (dr T p)).length:Nat):Int)])
      have ey:stl (lLet (dr T p)) = "yes" := by rw [cy]; exact txt_yes
      exact qs .yes _ _ (.ref t1) t2 _ rfl (.yes (G2 _ _ (by rw [upd_same,ey]))) d5 xl upd_same (G1.trans G2)
    refine iteDF (fun z=>cy (by have:=eq_lit.mp z; rw [lit2.2.1] at this; exact this)) ?_
    rw [if_neg cy] at qn qs
    refine ⟨_,rfl,rfl,_,rfl,?_⟩
    by_cases co:lLet (dr T p)=[110,111]
    · refine iteD (eq_lit.mpr (by rw [lit2.2.2]; exact co)) ?_
      rw [if_pos co] at qs
      refine ⟨_,rfl,(by show 1≤sizeLine; decide),fun t1 ht1=>?_⟩
      refine ⟨_,rfl,(by show 2≤sizeLine; decide),fun t2 ht2=>?_⟩
      have G1:=Same.new ht1 (.tup [.str (stl (lLet (dr T p)))])
      have G2:=Same.new ht2 (.tup [.ref t1,.int ((p+(lLet (dr T p)).length:Nat):Int)])
      have ey:stl (lLet (dr T p)) = "no" := by rw [co]; exact txt_no
      exact qs .no _ _ (.ref t1) t2 _ rfl (.no (G2 _ _ (by rw [upd_same,ey]))) d5 xl upd_same (G1.trans G2)
    refine iteDF (fun z=>co (by have:=eq_lit.mp z; rw [lit2.2.2] at this; exact this)) ?_
    rw [if_neg co] at qn qs
    refine ⟨_,rfl,_,rfl,wl,fun H3 S3=>⟨_,rfl,?_⟩⟩
    cases cm:nameB (stl (lLet (dr T p))) with
    | false =>
      rw [cm] at qn
      refine iteT ?_
      exact qn rfl H3 S3
    | true =>
      rw [cm,if_pos rfl] at qs
      refine iteF ?_
      refine ⟨_,rfl,(by show 2≤sizeLine; decide),fun t1 ht1=>?_⟩
      refine ⟨_,rfl,(by show 2≤sizeLine; decide),fun t2 ht2=>?_⟩
      have G1:=Same.new ht1 (.tup [.str "is", .str (stl (lLet (dr T p)))])
      have G2:=Same.new ht2 (.tup [.ref t1,.int ((p+(lLet (dr T p)).length:Nat):Int)])
      exact qs (.is _) _ _ (.ref t1) t2 _ rfl (.is (G2 _ _ upd_same)) d5 xl upd_same (S3.trans (G1.trans G2))
theorem lp_zero {f:Addr} {fd:FuncData} (F:Fun K "_law_parse" "_law_parse" s_l_parse f fd):FnOk P w K mg base CX0 3 f fd ["_law_text_here", "_law_at", "_law_deep"] (spParse 0):=by
  refine F.ok sc_l_parse (fun vs H Q E h=>?_) (fun cdv A outer s H vs Q E hr h=>?_)
  · obtain ⟨T,p,d,rfl,_⟩:=h
    rfl
  obtain ⟨T,p,d,rfl,tl,pl,dn,qn,qs⟩:=h
  refine ⟨_,(pss_cons (ps_if (pt_cmpR op_gt (pv 2) pe_int (nomark _)) (pss_one (ps_ret pe_non)) pss_nil) pss_never),?_⟩
  refine ⟨_,rfl,_,_,rfl,rfl,_,rfl,?_⟩
  refine iteD (by omega) ?_
  exact qn rfl H (Same.refl _)
theorem ok_l_parse {f:Addr} {fd:FuncData} (F:Fun K "_law_parse" "_law_parse" s_l_parse f fd) (B:Bl mg) (m:mg "_law_parse" = some (.ref f)) (C_l_is_name:Cal P w K mg base 2 "_law_is_name" ["_law_word"] (spTxt nameB)) (C_l_name_ends:Cal P w K mg base 1 "_law_name_ends" ["_law_text_here", "_law_at"] spNameEnds) :
    ∀ n:Nat,FnOk P w K mg base CX0 (n+3) f fd ["_law_text_here", "_law_at", "_law_deep"] (spParse n)
  | 0=>lp_zero F
  | n+1=>lp_step F B C_l_is_name C_l_name_ends (Cal.of F (ok_l_parse F B m C_l_is_name C_l_name_ends n) m (fun _ _ _ _ _ _ us hl=>by obtain ⟨u0,u1,u2,rfl⟩:=len3 hl; rfl))
def Tr.jw:Tr→Prop
  | .is _=>True | .yes=>True | .no=>True | .not a=>a.jw | .bin o a b=>o ∈ joinW∧a.jw∧b.jw
theorem TreeAt.opn {H:Hp} {v:V} {t:Tr} (T:TreeAt H v t) (jw:t.jw):∃ a o xs,v=.ref a∧H a=some (.tup (.str o::xs))∧((o = "is" ∧ t.size=1)∨(o ≠ "is" ∧ TreesAt H xs t.parts)):=by
  cases T with
  | is e=>exact ⟨_,_,_,rfl,e,.inl ⟨rfl,rfl⟩⟩
  | yes e=>exact ⟨_,_,_,rfl,e,.inr ⟨by decide +kernel,.nil⟩⟩
  | no e=>exact ⟨_,_,_,rfl,e,.inr ⟨by decide +kernel,.nil⟩⟩
  | not e T1=>exact ⟨_,_,_,rfl,e,.inr ⟨by decide +kernel,.cons T1 .nil⟩⟩
  | bin e T1 T2=>exact ⟨_,_,_,rfl,e,.inr ⟨(join_ne _ jw.1).1,.cons T1 (.cons T2 .nil)⟩⟩
theorem Tr.parts_jw {t u:Tr} (h:u ∈ t.parts) (jw:t.jw):u.jw∧u.depth+1≤t.depth∧u.size+1≤t.size:=by
  cases t with
  | is x=>cases h
  | yes=>cases h
  | no=>cases h
  | not a =>
    have:u=a:=by simpa [Tr.parts] using h
    subst this
    exact ⟨jw,Nat.le_refl _,Nat.le_refl _⟩
  | bin o a b =>
    have:u=a∨u=b:=by simpa [Tr.parts] using h
    rcases this with rfl | rfl
    · exact ⟨jw.2.1,by show u.depth+1≤max u.depth b.depth+1; omega,by show u.size+1≤u.size+b.size+1; omega⟩
    · exact ⟨jw.2.2,by show u.depth+1≤max a.depth u.depth+1; omega,by show u.size+1≤a.size+u.size+1; omega⟩
def sumS (us:List Tr):Int:=(us.map fun u=>(u.size:Int)).sum
theorem sumS_size (t:Tr) (h:t.size ≠ 1∨t.parts=[]∨True):t.parts=[]∨(1:Int)+sumS t.parts=(t.size:Int):=by
  cases t with
  | is x=>exact .inl rfl
  | yes=>exact .inl rfl
  | no=>exact .inl rfl
  | not a=>exact .inr (by show (1:Int)+((a.size:Int)+0)=((a.size+1:Nat):Int); omega)
  | bin o a b=>exact .inr (by show (1:Int)+((a.size:Int)+((b.size:Int)+0))=((a.size+b.size+1:Nat):Int); omega)
def spSizeL (n:Nat):Sp:=fun vs H Q _=>∃ (v:V) (t:Tr),vs=[v]∧TreeAt H v t∧t.jw∧t.depth≤n∧t.size≤70000∧∀ H',Same H H'→Q (.int (t.size:Int)) H'
theorem sc_l_size:FnScope ["_law_tree_here"] ["_law_tree_here"] (defScope s_l_size):=⟨rfl,rfl,rfl,by decide +kernel,rfl,by decide +kernel,by decide +kernel⟩
theorem lsize_step {n:Nat} {f:Addr} {fd:FuncData} (F:Fun K "_law_size" "_law_size" s_l_size f fd) (B:Bl mg) (C_l_size:Cal P w K mg base (n+2) "_law_size" ["_law_tree_here"] (spSizeL n)):FnOk P w K mg base CX0 (n+3) f fd ["_law_tree_here"] (spSizeL (n+1)):=by
  refine F.ok sc_l_size (fun vs H Q E h=>?_) (fun cdv A outer s H vs Q E hr h=>?_)
  · obtain ⟨v,t,rfl,_⟩:=h
    rfl
  obtain ⟨v,t,rfl,T,jw,dn,sz,q⟩:=h
  refine ⟨_,(pss_cons (ps_if (pt_cmpR op_eq (pe_ix ix_tup (pv 0) pe_int (fun _ _=>rfl)) pe_str (nomark _)) (pss_one (ps_ret pe_int)) pss_nil)
      (pss_one (ps_ret (pe_op op_add pe_int (pe_callB (call_sum rfl) rfl B.sum PyProof.Rows.boot_sum (pa_cons (pe_comp (N:=[]) (ix:=[]) (cl:=[]) rfl (CompScope.closed (by with_unfolding_all rfl) (by decide) rfl (by decide) rfl (by with_unfolding_all rfl)) rfl
        (pi_tup (pe_slice sl_tupA (pv 0) (po_some pe_int) po_none)) (fun _ _ _=>pb_all (pe_cal C_l_size hr (Nat.le_refl _) rfl (pa_cons (pv 0) pa_nil)))) pa_nil)))))),?_⟩
  obtain ⟨a,o,xs,rfl,ha,op⟩:=T.opn jw
  refine ⟨_,rfl,a,_,0,_,rfl,rfl,SqT.of ha,at0 ..,rfl,_,rfl,?_⟩
  rcases op with ⟨rfl,t1⟩ | ⟨no,TS⟩
  · refine iteD rfl ?_
    have:=q H (Same.refl _)
    rw [t1] at this
    exact this
  refine iteDF (fun z=>no (V.str.inj z)) ?_
  have ec:cutV (V.str o::xs) (some 1) none=xs:=by
    have:=cut_from (xs:=V.str o::xs) (k:=1) (by simp)
    exact this
  refine ⟨_,rfl,1,rfl,a,_,rfl,SqT.of ha,ha,fun c H1 S1 hc=>?_⟩
  rw [ec] at hc
  have TS1:=TS.mono (keepT_same S1)
  have xl:=TS1.length
  refine ⟨c,rfl,⟨_,SqT.of hc⟩,fun D hD=>?_⟩
  refine comp_tup (K:=K) (xs:=xs) (fun i H'=>H' D=some (.lst (((t.parts.take i).map fun u=>(u.size:Int)).map V.int))∧Same H1 H') ⟨by rw [upd_same]; rfl,Same.new hD _⟩ (fun i H' _ h=>SqT.of (h.2 _ _ hc)) ?_ ?_
  · rintro i x H2 hx ⟨hl,S2⟩
    obtain ⟨u,hu,Tu⟩:=TS1.get hx
    have um:=List.mem_of_getElem? hu
    obtain ⟨uw,ud,us⟩:=Tr.parts_jw um jw
    have hi:i < xs.length:=(List.getElem?_eq_some_iff.mp hx).1
    refine ⟨_,rfl,x,u,rfl,Tu.mono (keepT_same S2),uw,by omega,by omega,fun H3 S3=>?_⟩
    refine ⟨_,S3 _ _ hl,?_,Nx.of hi ⟨?_,fun b o e=>?_⟩⟩
    · have:t.parts.length≤2:=by cases t <;> simp [Tr.parts]
      rw [List.length_map,List.length_map,List.length_take]
      exact small1000 (by omega)
    · rw [upd_same,List.take_add_one,hu,List.map_append,List.map_append]
      rfl
    · rw [upd_ne (ne_of_none e hD)]
      exact S3 _ _ (S2 _ _ e)
  · rintro H2 ⟨hl,S2⟩
    rw [xl,List.take_length] at hl
    have e1:(1:Int)+sumS t.parts=(t.size:Int):=by
      rcases sumS_size t (.inr (.inr trivial)) with h | h
      · cases T with
        | is e=>rw [ha] at e; cases e; exact absurd rfl no
        | yes _=>rfl
        | no _=>rfl
        | not _ _=>cases h
        | bin _ _ _=>cases h
      · exact h
    refine ⟨D,_,rfl,SqL.of hl,?_,?_,?_⟩
    · intro n hn
      obtain ⟨u,_,rfl⟩:=List.mem_map.mp hn
      omega
    · show sumS t.parts < 2 ^ 63
      omega
    · refine ⟨_,_,rfl,rfl,?_⟩
      show Q (.int (1+sumS t.parts)) H2
      rw [e1]
      exact q H2 (S1.trans S2)
theorem lsize_zero {f:Addr} {fd:FuncData}:FnOk P w K mg base CX0 2 f fd ["_law_tree_here"] (spSizeL 0):=by
  have no:∀ vs H Q E,¬ spSizeL 0 vs H Q E:=fun vs H Q E h=>by
    obtain ⟨v,t,_,_,_,h1,_⟩:=h
    have:=t.depth_pos
    omega
  exact ⟨fun vs H Q E h=>absurd h (no vs H Q E),fun A outer s H args us vs Q E _ _ _ _ h=>absurd h (no vs H Q E)⟩
theorem ok_l_size {f:Addr} {fd:FuncData} (F:Fun K "_law_size" "_law_size" s_l_size f fd) (B:Bl mg) (m:mg "_law_size" = some (.ref f)) :
    ∀ n:Nat,FnOk P w K mg base CX0 (n+2) f fd ["_law_tree_here"] (spSizeL n)
  | 0=>lsize_zero
  | n+1=>lsize_step F B (Cal.of F (ok_l_size F B m n) m (fun _ _ _ _ _ _ us hl=>by obtain ⟨u0,rfl⟩:=len1 hl; rfl))
theorem pL_told:∀ (n:Nat) {r r':List Nat} {t:Tr},pL n r=some (t,r')→t.jw∧t.depth≤n∧t.size+r'.length≤r.length
  | 0,r,r',t,h=>by cases h
  | n+1,r,r',t,h=>by
    unfold pL at h
    by_cases c:r.head?=some 40
    · rw [if_pos c] at h
      have er:=head_cons c
      have el:r.length=r.tail.length+1:=by rw [er]; rfl
      cases e:pL n r.tail with
      | none=>rw [e] at h; cases h
      | some q =>
        obtain ⟨a,r1⟩:=q
        rw [e] at h
        dsimp only at h
        obtain ⟨o,b,r2,r3,ho,e1,h4,h5,rfl,rfl⟩:=lJ_some joinW h
        obtain ⟨ja,da,sa⟩:=pL_told n e
        obtain ⟨jb,db,sb⟩:=pL_told n h4
        have l3:r3.length=r3.tail.length+1:=by rw [head_cons h5]; rfl
        have l1:r1.length=o.cps.toList.length+r2.length+2:=by rw [e1]; simp; omega
        refine ⟨⟨ho,ja,jb⟩,?_,?_⟩
        · show max a.depth b.depth+1≤n+1
          omega
        · show a.size+b.size+1+_≤_
          omega
    · rw [if_neg c] at h
      by_cases c1:r.take 4=[110,111,116,32]
      · rw [if_pos c1] at h
        cases e:pL n (r.drop 4) with
        | none=>rw [e] at h; cases h
        | some q =>
          obtain ⟨a,r2⟩:=q
          rw [e] at h
          have h':=Option.some.inj h
          obtain ⟨ja,da,sa⟩:=pL_told n e
          have e1:Tr.not a=t:=congrArg Prod.fst h'
          have e2:r2=r':=congrArg Prod.snd h'
          subst e1; subst e2
          have l4:4≤r.length:=by
            have:=congrArg List.length c1
            rw [List.length_take] at this
            have h4:([110,111,116,32]:List Nat).length=4:=rfl
            omega
          rw [List.length_drop] at sa
          refine ⟨ja,?_,?_⟩
          · show a.depth+1≤n+1
            omega
          · show a.size+1+_≤_
            omega
      · rw [if_neg c1] at h
        have key:∀ {t0:Tr},1≤(lLet r).length→t0.jw→t0.depth=1→t0.size=1→some (t0,rLet r)=some (t,r')→t.jw∧t.depth≤n+1∧t.size+r'.length≤r.length:=fun {t0} l1 j d1 s1 h=>by
          have h':=Option.some.inj h
          have e1:t0=t:=congrArg Prod.fst h'
          have e2:rLet r=r':=congrArg Prod.snd h'
          subst e1; subst e2
          have:=congrArg List.length (lLR r)
          rw [List.length_append] at this
          exact ⟨j,by omega,by omega⟩
        by_cases c2:lLet r=[121,101,115]
        · rw [if_pos c2] at h
          exact key (t0:=.yes) (by rw [c2]; decide) trivial rfl rfl h
        · rw [if_neg c2] at h
          by_cases c3:lLet r=[110,111]
          · rw [if_pos c3] at h
            exact key (t0:=.no) (by rw [c3]; decide) trivial rfl rfl h
          · rw [if_neg c3] at h
            by_cases c4:nameB (stl (lLet r))=true
            · rw [if_pos c4] at h
              refine key (t0:=.is (stl (lLet r))) ?_ trivial rfl rfl h
              unfold nameB at c4
              simp only [Bool.and_eq_true,decide_eq_true_eq] at c4
              have:=c4.1.1.1
              rw [stl_len] at this
              exact this
            · rw [if_neg c4] at h
              cases h
def spTreeOf:Sp:=fun vs H Q _=>∃ (T:Str),vs=[.str T]∧T.length≤60000∧(treeP T.cps.toList=none→∀ H',Same H H'→Q .non H')∧(∀ (t:Tr) (v:V) (H':Hp),treeP T.cps.toList=some t→TreeAt H' v t→Same H H'→Q v H')
theorem sc_l_tree_of:FnScope ["_law_text_here", "_law_found"] ["_law_text_here"] (defScope s_l_tree_of):=⟨rfl,rfl,rfl,by decide +kernel,rfl,by decide +kernel,by decide +kernel⟩
theorem ok_l_tree_of {f:Addr} {fd:FuncData} (F:Fun K "_law_tree_of" "_law_tree_of" s_l_tree_of f fd) (B:Bl mg) (C_l_parse:Cal P w K mg base 13 "_law_parse" ["_law_text_here", "_law_at", "_law_deep"] (spParse 10)) (C_l_size:Cal P w K mg base 12 "_law_size" ["_law_tree_here"] (spSizeL 10)):FnOk P w K mg base CX0 14 f fd ["_law_text_here"] spTreeOf:=by
  refine F.ok sc_l_tree_of (fun vs H Q E h=>?_) (fun cdv A outer s H vs Q E hr h=>?_)
  · obtain ⟨T,rfl,_⟩:=h
    rfl
  obtain ⟨T,rfl,tl,qn,qs⟩:=h
  refine ⟨_,(pss_cons (ps_set (i:=1) sc_l_tree_of.nd rfl (Or.inl rfl) (pe_cal C_l_parse hr (by decide) rfl (pa_cons (pv 0) (pa_cons pe_int (pa_cons pe_int pa_nil)))))
      (pss_cons (ps_if (PW.pt (pw_or (pt_cmpR op_isN (pv 1) pe_non (nomark _)) (pw_or (pt_cmpR op_ne (pe_ix ix_tup (pv 1) pe_int (fun _ _=>rfl)) (pe_callB call_len_str rfl B.len PySem.boot_len (pa_cons (pv 0) pa_nil)) (nomark _)) (pw_or1 (pt_cmpR op_gt (pe_cal C_l_size hr (by decide) rfl (pa_cons (pe_ix ix_tup (pv 1) pe_int (fun _ _=>rfl)) pa_nil)) pe_int (nomark _)))))) (pss_one (ps_ret pe_non)) pss_nil)
      (pss_one (ps_ret (pe_ix ix_tup (pv 1) pe_int (fun _ _=>rfl)))))),?_⟩
  have eL:=treeL T.cps.toList
  have L:=len_list T
  refine ⟨_,rfl,T,0,1,rfl,tl,Nat.zero_le _,by decide,⟨fun en H1 S1=>?_,fun t r' p' v g H1 e1 T1 d1 pl1 hg S1=>?_⟩⟩
  · have en':pL 10 T.cps.toList=none:=en
    rw [en'] at eL
    refine ⟨_,rfl,rfl,_,rfl,?_⟩
    refine iteT (iteT ?_)
    exact qn eL H1 S1
  · have e1':pL 10 T.cps.toList=some (t,r'):=e1
    rw [e1'] at eL
    dsimp only at eL
    obtain ⟨jw,td,ts⟩:=pL_told 10 e1'
    refine ⟨_,rfl,rfl,_,rfl,?_⟩
    refine iteF ?_
    refine ⟨_,rfl,g,_,1,_,rfl,rfl,SqT.of hg,at1 ..,_,rfl,T,rfl,smallT tl,rfl,_,rfl,?_⟩
    show if (!decide (V.int (p':Int)=V.int (T.length:Int)))=true then _ else _
    have dn:=dr_nil pl1
    rw [d1] at dn
    by_cases c1:r'=[]
    rotate_left
    · have ne:¬ V.int (p':Int)=V.int (T.length:Int):=fun z=>c1 (dn.mpr (by have:=V.int.inj z; omega))
      rw [decide_eq_false ne]
      refine iteT (iteT ?_)
      rw [if_neg (fun z=>c1 z.1)] at eL
      exact qn eL H1 S1
    rw [dn.mp c1,decide_eq_true rfl]
    refine iteF ?_
    refine ⟨_,rfl,g,_,0,_,rfl,rfl,SqT.of hg,at0 ..,v,t,rfl,T1,jw,td,by omega,fun H2 S2=>?_⟩
    refine ⟨_,_,rfl,rfl,_,rfl,?_⟩
    by_cases c2:(30:Int) < (t.size:Int)
    · refine iteD c2 ?_
      rw [if_neg (fun z=>by have:=z.2; omega)] at eL
      exact qn eL H2 (S1.trans S2)
    · refine iteDF c2 ?_
      rw [if_pos ⟨c1,by omega⟩] at eL
      exact ⟨_,rfl,g,_,0,_,rfl,rfl,SqT.of (S2 _ _ hg),at0 ..,qs t v H2 eL (T1.mono (keepT_same S2)) (S1.trans S2)⟩
def tot (rs:List Str):Nat:=(rs.map (·.length)).sum+rs.length
theorem cutTo {xs:List V} {k:Nat}:cutV xs none (some (k:Int))=xs.take k:=by
  unfold cutV
  rw [HT.sIx_none,HT.sIx_nat,List.drop_zero,Nat.sub_zero]
  by_cases c:k≤xs.length
  · rw [Nat.min_eq_left c]
  · rw [Nat.min_eq_right (by omega),List.take_length,List.take_of_length_le (by omega)]
theorem cutFrom {xs:List V} {k:Nat}:cutV xs (some (k:Int)) none=xs.drop k:=by
  unfold cutV
  rw [HT.sIx_none,HT.sIx_nat]
  by_cases c:k≤xs.length
  · rw [Nat.min_eq_left c]
    exact List.take_of_length_le (by rw [List.length_drop]; exact Nat.le_refl _)
  · rw [Nat.min_eq_right (by omega),List.drop_length,List.drop_of_length_le (by omega),List.take_nil]
def SG1:Str := " !\"#$&'()*+,-./0123456789:;<=>?@\x5b\\]^_`{|}~abcdefghijklmnopqrstuvwxyz"
def SG2:Str := "ABCDEFGHIJKLMNOPQRSTUVWXYZ"
theorem sg_len:SG1.length=68∧SG2.length=26:=by decide +kernel
def spSigns:Sp:=fun vs H Q _=>vs=[]∧∀ z:Str,z.length=94→Q (.str z) H
theorem sc_l_signs:FnScope ["_law_signs_here"] [] (defScope s_l_signs):=⟨rfl,rfl,rfl,by decide +kernel,rfl,by decide +kernel,by decide +kernel⟩
theorem ok_l_signs {f:Addr} {fd:FuncData} (F:Fun K "_law_signs" "_law_signs" s_l_signs f fd):FnOk P w K mg base CX0 1 f fd [] spSigns:=by
  refine F.ok sc_l_signs (fun vs H Q E h=>?_) (fun cdv A outer s H vs Q E hr h=>?_)
  · obtain ⟨rfl,_⟩:=h
    rfl
  obtain ⟨rfl,q⟩:=h
  refine ⟨_,(pss_cons (ps_set (i:=0) sc_l_signs.nd rfl (Or.inl rfl) pe_str)
      (pss_one (ps_ret (pe_op op_add_str (pv 0) pe_str)))),?_⟩
  refine ⟨_,rfl,SG1,SG2,rfl,rfl,small (by rw [sg_len.1,sg_len.2]; decide),?_⟩
  exact q _ (by rw [Str.length_append,sg_len.1,sg_len.2])
def spWide:Sp:=fun vs H Q _=>∃ m:Int,vs=[.int m]∧1≤m∧m≤20∧∀ (z:Str) (H':Hp),z.length≤300→Same H H'→Q (.str z) H'
theorem sc_l_wide:FnScope ["_law_many", "_law_some"] ["_law_many"] (defScope s_l_wide):=⟨rfl,rfl,rfl,by decide +kernel,rfl,by decide +kernel,by decide +kernel⟩
theorem rep_sum (k:Nat):∀ n:Nat,(List.replicate n k).sum=n*k
  | 0=>by simp
  | n+1=>by rw [List.replicate_succ,List.sum_cons,rep_sum k n,Nat.add_mul]; omega
theorem rep_one (v:V):∀ n:Nat,(List.replicate n [v]).flatten=List.replicate n v
  | 0=>rfl
  | n+1=>by rw [List.replicate_succ,List.flatten_cons,rep_one v n]; rfl
theorem ok_l_wide {f:Addr} {fd:FuncData} (F:Fun K "_law_wide" "_law_wide" s_l_wide f fd) (B:Bl mg):FnOk P w K mg base CX0 1 f fd ["_law_many"] spWide:=by
  refine F.ok sc_l_wide (fun vs H Q E h=>?_) (fun cdv A outer s H vs Q E hr h=>?_)
  · obtain ⟨m,rfl,_⟩:=h
    rfl
  obtain ⟨m,rfl,m1,m20,q⟩:=h
  refine ⟨_,(pss_cons (ps_set (i:=1) sc_l_wide.nd rfl (Or.inl rfl) (pe_op op_rep (pe_lst (pa_cons pe_str pa_nil)) (pv 0)))
      (pss_cons (ps_while PassesOwn.never (pt_cmpR op_gt (pe_callB call_len_seq rfl B.len PySem.boot_len (pa_cons (pv 1) pa_nil)) pe_int (nomark _)) (pss_one (ps_set (i:=1) sc_l_wide.nd rfl (Or.inl rfl) (pe_op op_cat (pe_slice sl_list (pv 1) (po_some pe_int) po_none) (pe_lst (pa_cons (pe_op op_add_str (pe_op op_add_str pe_str (pe_bm PySem.F.plainAttrs_str PySem.F.slot_str_join PySem.F.type_str_join mt_join pe_str (pa_cons (pe_slice sl_list (pv 1) po_none (po_some pe_int)) pa_nil))) pe_str) pa_nil))))))
      (pss_one (ps_ret (pe_ix ix_list (pv 1) pe_int (fun _ _=>rfl)))))),?_⟩
  have l3:((" odd " : Str)).length=5:=by decide +kernel
  have lp:(("(" : Str)).length=1∧((")" : Str)).length=1∧(("yes" : Str)).length=3:=by decide +kernel
  refine ⟨(by show 1≤sizeLine; decide),fun l0 hl0=>?_⟩
  refine ⟨_,rfl,l0,m,_,rfl,rfl,upd_same,by omega,by omega,?_,fun L hL=>?_⟩
  · have:([V.str "yes"]:List V).length*m.toNat≤20:=by rw [List.length_singleton]; omega
    exact small (by omega)
  rw [rep_one]
  have er:List.replicate m.toNat (V.str "yes")=(List.replicate m.toNat ("yes" : Str)).map V.str:=by rw [List.map_replicate]
  rw [er]
  have S0:Same H (upd (upd H l0 (.lst [.str "yes"])) L (.lst ((List.replicate m.toNat ("yes" : Str)).map V.str))):=(Same.new hl0 _).trans (Same.new hL _)
  refine ⟨fun k σ H'=>∃ (L:Addr) (ws:List Str),σ=[some (.int m),some (.ref L)]∧H' L=some (.lst (ws.map V.str))∧1≤ws.length∧ws.length≤20∧(ws.map (·.length)).sum+10*ws.length≤260∧Same H H'∧k=ws.length,⟨_,L,List.replicate m.toNat ("yes" : Str),rfl,upd_same,by rw [List.length_replicate]; omega,by rw [List.length_replicate]; omega,?_,S0,rfl⟩,?_⟩
  · rw [List.map_replicate,rep_sum,List.length_replicate,lp.2.2]
    omega
  rintro k σ H1 ⟨L1,ws,rfl,hL1,w1,w20,wt,S1,rfl⟩
  refine ⟨_,rfl,L1,_,rfl,.inl (SqL.of hL1),_,_,rfl,rfl,_,rfl,?_⟩
  rw [List.length_map]
  cases ws with
  | nil=>cases w1
  | cons a r =>
    cases r with
    | nil =>
      refine iteDF (by show ¬ (1:Int) < ((1:Nat):Int); decide) ?_
      have al:a.length≤300:=by simp at wt; omega
      exact ⟨_,rfl,L1,_,0,_,rfl,rfl,SqL.of hL1,at0 ..,q a H1 al S1⟩
    | cons b r =>
      have len2:(a::b::r).length=r.length+2:=rfl
      refine iteD (by rw [len2]; omega) ?_
      refine ⟨_,fun _ _ h=>h,?_⟩
      simp only [List.map_cons,List.sum_cons] at wt
      rw [len2] at wt w20
      refine ⟨_,rfl,2,rfl,L1,_,rfl,SqL.of hL1,fun L2 hL2=>?_⟩
      have e2:cutV ((a::b::r).map V.str) (some 2) none=r.map V.str:=cutFrom (xs:=(a::b::r).map V.str) (k:=2)
      rw [e2]
      have G2:=Same.new hL2 (.lst (r.map V.str))
      refine ⟨rfl,?_⟩
      refine ⟨_,rfl,2,rfl,L1,_,rfl,SqL.of (G2 _ _ hL1),fun L3 hL3=>?_⟩
      have e3:cutV ((a::b::r).map V.str) none (some 2)=[a,b].map V.str:=cutTo (xs:=(a::b::r).map V.str) (k:=2)
      rw [e3]
      have G3:=Same.new hL3 (.lst ([a,b].map V.str))
      refine ⟨_,L3,[a,b],rfl,rfl,SqL.of upd_same,(by decide +kernel),by simp; omega,?_⟩
      have jl:(Txt.join (" odd " : Str) [a,b]).length=a.length+5+b.length:=by
        show ((a++(" odd " : Str))++b).length=_
        rw [Str.length_append,Str.length_append,l3]
      refine ⟨_,_,rfl,rfl,small (by rw [lp.1,jl]; omega),_,_,rfl,rfl,small (by rw [Str.length_append,lp.1,jl,lp.2.1]; omega),(by show 1≤sizeLine; decide),fun L4 hL4=>?_⟩
      have G4:=Same.new hL4 (.lst [.str ((("(" : Str)++Txt.join (" odd " : Str) [a,b])++(")" : Str))])
      refine ⟨L2,L4,_,_,rfl,rfl,(G3.trans G4) _ _ upd_same,upd_same,?_,fun L5 hL5=>?_⟩
      · rw [List.length_map]
        exact small (by show r.length+1≤1000; omega)
      have nl:((("(" : Str)++Txt.join (" odd " : Str) [a,b])++(")" : Str)).length=a.length+b.length+5+2:=by
        rw [Str.length_append,Str.length_append,lp.1,jl,lp.2.1]
        omega
      generalize (("(" : Str)++Txt.join (" odd " : Str) [a,b])++(")" : Str)=y at nl G4 hL5
      refine ⟨r.length+1,by rw [len2]; omega,L5,r++[y],rfl,?_,by simp,by simp; omega,?_,S1.trans (G2.trans (G3.trans (G4.trans (Same.new hL5 _)))),by simp⟩
      · rw [upd_same,List.map_append]
        rfl
      · rw [List.map_append,List.sum_append,List.length_append]
        simp only [List.map_cons,List.map_nil,List.sum_cons,List.sum_nil,List.length_cons,List.length_nil]
        omega
theorem smallB {n:Nat} (h:n≤200000):n≤sizeLine:=Nat.le_trans h (by decide)
theorem pss_cut {X:Cx} {ss:List Stmt} {t t':TS} (h:PSs X ss t) (hw:∀ D σ H,t' D σ H→t D σ H):PSs X ss t':=fun pins s σ H D I k=>h pins s σ H D I (hw _ _ _ k)
def spChg3:Sp:=fun vs H Q _=>∃ (f:Addr) (z:Str),vs=[.ref f,.str z]∧FeedAt H f∧z.length≤20000∧∀ (y:Str) (H':Hp),y.length≤4*z.length+10→FeedAt H' f→SameBut f H H'→Q (.str y) H'
theorem sc_l_changed:FnScope ["_law_feed_here", "_law_text_here", "_law_at", "_law_form", "_law_sign", "_law_left", "_law_two", "_law_some"] ["_law_feed_here", "_law_text_here"] (defScope s_l_changed):=⟨rfl,rfl,rfl,by decide +kernel,rfl,by decide +kernel,by decide +kernel⟩
theorem ok_l_changed {f:Addr} {fd:FuncData} (F:Fun K "_law_changed" "_law_changed" s_l_changed f fd) (B:Bl mg) (C_l_take:Cal P w K mg base 1 "_law_take" ["_law_feed_here", "_law_many"] spTake) (C_l_signs:Cal P w K mg base 1 "_law_signs" [] spSigns):FnOk P w K mg base CX0 2 f fd ["_law_feed_here", "_law_text_here"] spChg3:=by
  refine F.ok sc_l_changed (fun vs H Q E h=>?_) (fun cdv A outer s H vs Q E hr h=>?_)
  · obtain ⟨f,z,rfl,_⟩:=h
    rfl
  obtain ⟨f,z,rfl,hF,zl,q⟩:=h
  refine ⟨_,(pss_cons (ps_set (i:=2) sc_l_changed.nd rfl (Or.inl rfl) (pe_cal C_l_take hr (by decide) rfl (pa_cons (pv 0) (pa_cons (pe_op op_add (pe_callB call_len_str rfl B.len PySem.boot_len (pa_cons (pv 1) pa_nil)) pe_int) pa_nil))))
      (pss_cons (ps_set (i:=3) sc_l_changed.nd rfl (Or.inl rfl) (pe_cal C_l_take hr (by decide) rfl (pa_cons (pv 0) (pa_cons pe_int pa_nil))))
      (pss_cons (ps_set (i:=4) sc_l_changed.nd rfl (Or.inl rfl) (pe_ix ix_str (pe_cal0 C_l_signs hr (by decide) rfl) (pe_cal C_l_take hr (by decide) rfl (pa_cons (pv 0) (pa_cons pe_int pa_nil))) (fun _ _=>rfl)))
      (pss_cons (ps_if (pt_cmpR op_eq (pe_op op_mod (pv 3) pe_int) pe_int (nomark _)) (pss_one (ps_set (i:=4) sc_l_changed.nd rfl (Or.inl rfl) (pe_ix ix_str pe_str (pe_cal C_l_take hr (by decide) rfl (pa_cons (pv 0) (pa_cons pe_int pa_nil))) (fun _ _=>rfl)))) pss_nil)
      (pss_cut (t':=fun D σ H'=>∃ (k fm:Int) (sg:Str),σ=[some (.ref f),some (.str z),some (.int k),some (.int fm),some (.str sg),none,none,none]∧sg.length=1∧FeedAt H' f∧SameBut f H H'∧∀ (y:Str) (H'':Hp),y.length≤4*z.length+10→FeedAt H'' f→SameBut f H H''→D.rt (.str y) H'')
      (pss_cons (ps_if (pt_cmpR op_lt (pv 3) pe_int (nomark _)) (pss_one (ps_ret (pe_op op_add_str (pe_slice sl_str (pv 1) po_none (po_some (pv 2))) (pe_slice sl_str (pv 1) (po_some (pe_op op_add (pv 2) pe_int)) po_none)))) pss_nil)
      (pss_cons (ps_if (pt_cmpR op_lt (pv 3) pe_int (nomark _)) (pss_one (ps_ret (pe_op op_add_str (pe_op op_add_str (pe_slice sl_str (pv 1) po_none (po_some (pv 2))) (pv 4)) (pe_slice sl_str (pv 1) (po_some (pv 2)) po_none)))) pss_nil)
      (pss_cons (ps_if (pt_cmpR op_lt (pv 3) pe_int (nomark _)) (pss_one (ps_ret (pe_op op_add_str (pe_op op_add_str (pe_slice sl_str (pv 1) po_none (po_some (pv 2))) (pv 4)) (pe_slice sl_str (pv 1) (po_some (pe_op op_add (pv 2) pe_int)) po_none)))) pss_nil)
      (pss_eqT (i:=3) rfl (Or.inl rfl) (pss_cons (ps_set (i:=5) sc_l_changed.nd rfl (Or.inl rfl) (pe_slice sl_str (pv 1) po_none (po_some (pv 2))))
        (pss_cons (ps_set (i:=6) sc_l_changed.nd rfl (Or.inl rfl) (pe_slice sl_str (pv 1) (po_some (pv 2)) (po_some (pe_op op_add (pv 2) pe_int))))
        (pss_one (ps_ret (pe_op op_add_str (pe_op op_add_str (pe_op op_add_str (pv 5) (pe_slice sl_str (pv 6) (po_some pe_int) po_none)) (pe_slice sl_str (pv 6) po_none (po_some pe_int))) (pe_slice sl_str (pv 1) (po_some (pe_op op_add (pv 2) pe_int)) po_none))))))
      (psst_cons (pst_set (i:=7) sc_l_changed.nd rfl (Or.inl rfl) (pet_lst (pat_cons (pet_rep1 (i:=1) rfl (Or.inl rfl)) (pa_cons (pe_op op_add_str (pv 1) pe_str) pa_nil))))
      (pss_cons (ps_set (i:=7) sc_l_changed.nd rfl (Or.inl rfl) (pe_op op_cat (pv 7) (pe_lst (pa_cons (pe_op op_add_str (pv 1) pe_str) (pa_cons (pe_op op_add_str (pe_op op_add_str pe_str (pv 1)) pe_str) pa_nil)))))
      (pss_one (ps_ret (pe_ix ix_list (pv 7) (pe_cal C_l_take hr (by decide) rfl (pa_cons (pv 0) (pa_cons pe_int pa_nil))) (fun _ _=>rfl))))))))))  ?cut))))),?_⟩
  case cut =>
    rintro D σ H1 ⟨k,fm,sg,rfl,sgl,F1,S1,qd⟩
    have sl:∀ a b,(Txt.slice z a b).length≤z.length:=fun a b=>Txt.slice_le z a b
    refine ⟨_,rfl,_,_,rfl,rfl,_,rfl,?_⟩
    by_cases c2:fm < 2
    · refine iteD c2 ?_
      have a1:=sl none (some k)
      have a2:=sl (some (k+1)) none
      refine ⟨_,rfl,_,rfl,_,rfl,_,rfl,smallB (by omega),_,rfl,_,rfl,_,_,rfl,rfl,_,rfl,_,rfl,smallB (by omega),_,_,rfl,rfl,smallB (by omega),?_⟩
      exact qd _ H1 (by rw [Str.length_append]; omega) F1 S1
    refine iteDF c2 ?_
    refine ⟨_,rfl,_,_,rfl,rfl,_,rfl,?_⟩
    by_cases c4:fm < 4
    · refine iteD c4 ?_
      have a1:=sl none (some k)
      have a2:=sl (some k) none
      refine ⟨_,rfl,_,rfl,_,rfl,_,rfl,smallB (by omega),_,rfl,_,_,rfl,rfl,smallB (by omega),_,rfl,_,rfl,_,rfl,_,rfl,smallB (by omega),_,_,rfl,rfl,smallB (by rw [Str.length_append]; omega),?_⟩
      exact qd _ H1 (by rw [Str.length_append,Str.length_append]; omega) F1 S1
    refine iteDF c4 ?_
    refine ⟨_,rfl,_,_,rfl,rfl,_,rfl,?_⟩
    by_cases c6:fm < 6
    · refine iteD c6 ?_
      have a1:=sl none (some k)
      have a2:=sl (some (k+1)) none
      refine ⟨_,rfl,_,rfl,_,rfl,_,rfl,smallB (by omega),_,rfl,_,_,rfl,rfl,smallB (by omega),_,rfl,_,rfl,_,_,rfl,rfl,_,rfl,_,rfl,smallB (by omega),_,_,rfl,rfl,smallB (by rw [Str.length_append]; omega),?_⟩
      exact qd _ H1 (by rw [Str.length_append,Str.length_append]; omega) F1 S1
    refine iteDF c6 ?_
    refine ⟨fm,rfl,fun _=>?_,fun _=>?_⟩
    · have a1:=sl none (some k)
      have a2:=sl (some k) (some (k+2))
      have a3:=sl (some (k+2)) none
      refine ⟨_,rfl,_,rfl,_,rfl,_,rfl,smallB (by omega),?_⟩
      refine ⟨_,rfl,_,rfl,_,rfl,_,rfl,_,_,rfl,rfl,_,rfl,_,rfl,smallB (by omega),?_⟩
      generalize Txt.slice z none (some k)=lf at a1
      generalize Txt.slice z (some k) (some (k+2))=tw at a2
      have b1:(Txt.slice tw (some 1) none).length≤tw.length:=Txt.slice_le tw _ _
      have b2:(Txt.slice tw none (some 1)).length≤tw.length:=Txt.slice_le tw _ _
      refine ⟨_,rfl,_,rfl,1,rfl,_,rfl,smallB (by omega),_,_,rfl,rfl,smallB (by omega),_,rfl,1,rfl,_,rfl,smallB (by omega),_,_,rfl,rfl,smallB (by rw [Str.length_append]; omega),?_⟩
      refine ⟨_,rfl,_,rfl,_,_,rfl,rfl,_,rfl,_,rfl,smallB (by omega),_,_,rfl,rfl,smallB (by rw [Str.length_append,Str.length_append]; omega),?_⟩
      exact qd _ H1 (by rw [Str.length_append,Str.length_append,Str.length_append]; omega) F1 S1
    · have ll:(("\n" : Str)).length=1∧((" " : Str)).length=1∧(("(" : Str)).length=1∧((")" : Str)).length=1:=by decide +kernel
      refine ⟨z,rfl,by omega,fun y yl=>?_⟩
      refine ⟨_,rfl,_,_,rfl,rfl,smallB (by omega),(by show 2≤sizeLine; decide),fun L hL=>?_⟩
      have GL:=Same.new hL (.lst [.str y,.str (z++("\n" : Str))])
      refine ⟨_,rfl,_,rfl,_,_,rfl,rfl,smallB (by omega),_,rfl,_,_,rfl,rfl,smallB (by omega),_,_,rfl,rfl,smallB (by rw [Str.length_append]; omega),(by show 2≤sizeLine; decide),fun L2 hL2=>?_⟩
      have GL2:=Same.new hL2 (.lst [.str (z++(" " : Str)),.str ((("(" : Str)++z)++(")" : Str))])
      refine ⟨L,L2,_,_,rfl,rfl,GL2 _ _ upd_same,upd_same,(by show 4≤sizeLine; decide),fun L3 hL3=>?_⟩
      have GL3:=Same.new hL3 (.lst ([.str y,.str (z++("\n" : Str))]++[.str (z++(" " : Str)),.str ((("(" : Str)++z)++(")" : Str))]))
      have G:=GL.trans (GL2.trans GL3)
      have F3:=(F1.same (GL.trans GL2))
      have L3f:=F3.ne hL3
      refine ⟨_,rfl,_,rfl,f,4,rfl,F1.same G,by decide,by decide,fun d H2 d0 d4 F2 S2=>?_⟩
      obtain ⟨u,hu,ul⟩:∃ u:Str,atI ([V.str y,V.str (z++("\n" : Str))]++[V.str (z++(" " : Str)),V.str ((("(" : Str)++z)++(")" : Str))]) d=some (.str u)∧u.length≤4*z.length+10:=by
        have:d=0∨d=1∨d=2∨d=3:=by omega
        rcases this with rfl | rfl | rfl | rfl
        · exact ⟨_,rfl,by omega⟩
        · exact ⟨_,rfl,by rw [Str.length_append]; omega⟩
        · exact ⟨_,rfl,by rw [Str.length_append]; omega⟩
        · exact ⟨_,rfl,by rw [Str.length_append,Str.length_append]; omega⟩
      exact ⟨L3,_,_,_,rfl,rfl,SqL.of (S2 _ _ L3f upd_same),hu,qd u H2 ul F2 (S1.trans ((SameBut.of G).trans S2))⟩
  refine ⟨_,rfl,_,rfl,z,rfl,smallB (by omega),_,_,rfl,rfl,f,_,rfl,hF,by omega,by omega,fun k H1 k0 k1 F1 S1=>?_⟩
  refine ⟨_,rfl,f,8,rfl,F1,by decide,by decide,fun fm H2 f0 f8 F2 S2=>?_⟩
  refine ⟨rfl,fun sg sgl=>?_⟩
  refine ⟨_,rfl,f,94,rfl,F2,by decide,by decide,fun d H3 d0 d94 F3 S3=>?_⟩
  obtain ⟨c,hc,_⟩:=at_in (l:=sg.cps.toList) (i:=d) d0 (by rw [len_list,sgl]; exact d94)
  refine ⟨_,_,c,rfl,rfl,small (by omega),hc,?_⟩
  have S03:=S1.trans (S2.trans S3)
  refine ⟨_,rfl,_,_,rfl,rfl,(by show (0:Int) < _; decide),rfl,_,rfl,?_⟩
  by_cases cm:V.int (fm % 2)=V.int 1
  · refine iteD cm ?_
    refine ⟨_,rfl,f,9,rfl,F3,by decide,by decide,fun d2 H4 e0 e9 F4 S4=>?_⟩
    have l9:(("() andors" : Str)).length=9:=by decide +kernel
    obtain ⟨c2,hc2,_⟩:=at_in (l:=(("() andors" : Str)).cps.toList) (i:=d2) e0 (by rw [len_list,l9]; exact e9)
    refine ⟨_,_,c2,rfl,rfl,small (by rw [l9]; decide),hc2,?_⟩
    exact ⟨k,fm,⟨#[c2]⟩,rfl,rfl,F4,S03.trans S4,q⟩
  · refine iteDF cm ?_
    exact ⟨k,fm,⟨#[c]⟩,rfl,rfl,F3,S03,q⟩
def dk10:List Str:=["not", "and", "or", "odd", "same", "round", "due", "asked", "true", "coin"]
def dk4:List Str:=["", "(yes)", "not not", "nota"]
@[irreducible] def dkE:List Expr:=eltsOf (valOf (stmI s_l_drawn 2 0))
theorem dkE_w:Consts dkE dk10:=by
  unfold dkE
  exact .cons (.cons (.cons (.cons (.cons (.cons (.cons (.cons (.cons (.cons .nil)))))))))
theorem drawn_body:∃ p1 p2 p3 p4,defBody s_l_drawn=[stm s_l_drawn 0,stm s_l_drawn 1,.If (ifTest (stm s_l_drawn 2)) [.Assign [.Name "_law_kept" p1] (.List dkE p2) p3,stmI s_l_drawn 2 1] [] p4,stm s_l_drawn 3,stm s_l_drawn 4,stm s_l_drawn 5] :=
  ⟨_,_,_,_,by with_unfolding_all rfl⟩
def spDrawn3:Sp:=fun vs H Q _=>∃ (f l:Addr) (ns:List Str),vs=[.ref f,.ref l]∧FeedAt H f∧H l=some (.lst (ns.map V.str))∧l ≠ f∧ns.length≤7∧(∀ x ∈ ns,NmK x)∧∀ (z:Str) (H':Hp),z.length≤60000→FeedAt H' f→SameBut f H H'→Q (.str z) H'
theorem sc_l_drawn:FnScope ["_law_feed_here", "_law_names_here", "_law_form", "_law_many", "_law_nested", "_law_wide_here", "_law_kept", "_law_text_here", "_law_k"] ["_law_feed_here", "_law_names_here"] (defScope s_l_drawn):=⟨rfl,rfl,rfl,by decide +kernel,rfl,by decide +kernel,by decide +kernel⟩
theorem at_strs {zs:List Str} {d:Int} {b:Nat} (h:∀ z ∈ zs,z.length≤b) (h0:0≤d) (h1:d < (zs.length:Int)):∃ z:Str,atI (zs.map V.str) d=some (.str z)∧z.length≤b:=by
  obtain ⟨v,hv,vm⟩:=at_in (l:=zs.map V.str) (i:=d) h0 (by rw [List.length_map]; exact h1)
  obtain ⟨z,hz,rfl⟩:=List.mem_map.mp vm
  exact ⟨z,hv,h z hz⟩
theorem at_ints {zs:List Int} {d b:Int} (h:∀ z ∈ zs,0≤z∧z≤b) (h0:0≤d) (h1:d < (zs.length:Int)):∃ z:Int,atI (zs.map V.int) d=some (.int z)∧0≤z∧z≤b:=by
  obtain ⟨v,hv,vm⟩:=at_in (l:=zs.map V.int) (i:=d) h0 (by rw [List.length_map]; exact h1)
  obtain ⟨z,hz,rfl⟩:=List.mem_map.mp vm
  exact ⟨z,hv,h z hz⟩
theorem ok_l_drawn {f:Addr} {fd:FuncData} (F:Fun K "_law_drawn" "_law_drawn" s_l_drawn f fd) (B:Bl mg) (C_l_take:Cal P w K mg base 1 "_law_take" ["_law_feed_here", "_law_many"] spTake) (C_l_wide:Cal P w K mg base 1 "_law_wide" ["_law_many"] spWide) (C_l_changed:Cal P w K mg base 2 "_law_changed" ["_law_feed_here", "_law_text_here"] spChg3) (C_l_text:Cal P w K mg base 13 "_law_text" ["_law_tree_here"] (spTT 12)) (C_l_tree:Cal P w K mg base 14 "_law_tree" ["_law_feed_here", "_law_names_here", "_law_room", "_law_deep"] (spTreeS 12)):FnOk P w K mg base CX0 15 f fd ["_law_feed_here", "_law_names_here"] spDrawn3:=by
  refine F.ok sc_l_drawn (fun vs H Q E h=>?_) (fun cdv A outer s H vs Q E hr h=>?_)
  · obtain ⟨f,l,ns,rfl,_⟩:=h
    rfl
  obtain ⟨f,l,ns,rfl,hF,hl,lf,nl,nk,q⟩:=h
  obtain ⟨p1,p2,p3,p4,ebody⟩:=drawn_body
  rw [ebody]
  refine ⟨_,(pss_cons (ps_set (i:=2) sc_l_drawn.nd rfl (Or.inl rfl) (pe_cal C_l_take hr (by decide) rfl (pa_cons (pv 0) (pa_cons pe_int pa_nil))))
      (pss_cons (ps_if (pt_cmpR op_eq (pv 2) pe_int (nomark _)) (pss_cons (ps_set (i:=3) sc_l_drawn.nd rfl (Or.inl rfl) (pe_cal C_l_take hr (by decide) rfl (pa_cons (pv 0) (pa_cons pe_int pa_nil))))
        (pss_cons (ps_set (i:=4) sc_l_drawn.nd rfl (Or.inl rfl) (pe_op op_add_str (pe_op op_add_str (pe_op op_mulS pe_str (pv 3)) pe_str) (pe_op op_mulS pe_str (pv 3))))
        (pss_cons (ps_set (i:=5) sc_l_drawn.nd rfl (Or.inl rfl) (pe_op op_add_str (pe_op op_mulS pe_str (pe_op op_mod (pv 3) pe_int)) (pe_cal C_l_wide hr (by decide) rfl (pa_cons (pe_op op_add pe_int (pe_op op_fdiv (pv 3) pe_int)) pa_nil))))
        (pss_one (ps_ret (pe_ix ix_list (pe_lst (pa_cons (pe_op op_add_str (pe_op op_mulS pe_str (pv 3)) pe_str) (pa_cons (pv 4) (pa_cons (pv 5) pa_nil)))) (pe_cal C_l_take hr (by decide) rfl (pa_cons (pv 0) (pa_cons pe_int pa_nil))) (fun _ _=>rfl))))))) pss_nil)
      (pss_cons (ps_if (pt_cmpR op_eq (pv 2) pe_int (nomark _)) (pss_cons (ps_set (i:=6) sc_l_drawn.nd rfl (Or.inl rfl) (pe_lst (pa_consts dkE_w)))
        (pss_one (ps_ret (pe_ix ix_list (pe_op op_cat (pv 6) (pe_lst (pa_cons pe_str (pa_cons pe_str (pa_cons pe_str (pa_cons pe_str pa_nil)))))) (pe_cal C_l_take hr (by decide) rfl (pa_cons (pv 0) (pa_cons pe_int pa_nil))) (fun _ _=>rfl))))) pss_nil)
      (pss_cons (ps_set (i:=7) sc_l_drawn.nd rfl (Or.inl rfl) (pe_cal C_l_text hr (by decide) rfl (pa_cons (pe_cal C_l_tree hr (by decide) rfl (pa_cons (pv 0) (pa_cons (pv 1) (pa_cons (pe_op op_add pe_int (pe_cal C_l_take hr (by decide) rfl (pa_cons (pv 0) (pa_cons pe_int pa_nil)))) (pa_cons (pe_op op_add pe_int (pe_cal C_l_take hr (by decide) rfl (pa_cons (pv 0) (pa_cons pe_int pa_nil)))) pa_nil))))) pa_nil)))
      (pss_cons (ps_for PassesOwn.never rfl (pi_range1 rfl B.range (pa_cons (pe_ix ix_list (pe_lst (pa_cons pe_int (pa_cons pe_int (pa_cons pe_int (pa_cons pe_int (pa_cons pe_int (pa_cons pe_int pa_nil))))))) (pv 2) (fun _ _=>rfl)) pa_nil)) (pg_name (i:=8) sc_l_drawn.nd rfl (Or.inl rfl)) (pss_one (ps_set (i:=7) sc_l_drawn.nd rfl (Or.inl rfl) (pe_cal C_l_changed hr (by decide) rfl (pa_cons (pv 0) (pa_cons (pv 7) pa_nil))))))
      (pss_one (ps_ret (pv 7)))))))),?_⟩
  have ll:(("not " : Str)).length=4∧(("no" : Str)).length=2∧(("(" : Str)).length=1∧((" or no)" : Str)).length=7∧(("yes" : Str)).length=3:=by decide +kernel
  have fi:∀ {a b:Int},a ≠ b→¬ V.int a=V.int b:=fun {a b} h e=>h (V.int.inj e)
  refine ⟨_,rfl,f,8,rfl,hF,by decide,by decide,fun fm H1 f0 f8 F1 S1=>?_⟩
  refine ⟨_,rfl,rfl,_,rfl,?_⟩
  by_cases c6:fm=6
  · refine iteD (by rw [c6]) ?_
    refine ⟨_,rfl,f,13,rfl,F1,by decide,by decide,fun m H2 m0 m13 F2 S2=>?_⟩
    have ml:=mul_len ("(" : Str) m
    have ml2:=mul_len (" or no)" : Str) m
    have ml3:=mul_len ("not " : Str) (m % 2)
    have ml4:=mul_len ("not " : Str) m
    rw [ll.2.2.1] at ml
    rw [ll.2.2.2.1] at ml2
    rw [ll.1] at ml3 ml4
    have r0:=Int.emod_nonneg m (b:=2) (by decide)
    have r1:=Int.emod_lt_of_pos m (b:=2) (by decide)
    have mn:m.toNat≤12:=by omega
    have mn2:(m % 2).toNat≤1:=by omega
    refine ⟨_,rfl,_,_,rfl,rfl,mul_ok (by rw [ll.2.2.1]; decide) m0 (by omega),_,_,rfl,rfl,small (by rw [ll.2.1]; omega),_,rfl,_,_,rfl,rfl,mul_ok (by rw [ll.2.2.2.1]; decide) m0 (by omega),_,_,rfl,rfl,small (by rw [Str.length_append,ll.2.1]; omega),?_⟩
    generalize hn:(Txt.mul ("(" : Str) m++("no" : Str))++Txt.mul (" or no)" : Str) m=nest
    have nestl:nest.length≤200:=by
      rw [← hn,Str.length_append,Str.length_append,ll.2.1]
      omega
    refine ⟨_,rfl,_,_,rfl,rfl,(by show (0:Int) < _; decide),_,_,rfl,rfl,mul_ok (by rw [ll.1]; decide) r0 (by omega),?_⟩
    refine ⟨_,rfl,_,_,rfl,rfl,⟨by decide,by decide⟩,_,_,rfl,rfl,_,rfl,by omega,by omega,fun wd H3 wl S3=>?_⟩
    refine ⟨_,_,rfl,rfl,small (by omega),?_⟩
    generalize hw:Txt.mul ("not " : Str) (m % 2)++wd=wide
    have widel:wide.length≤320:=by
      rw [← hw,Str.length_append]
      omega
    refine ⟨_,rfl,_,_,rfl,rfl,mul_ok (by rw [ll.1]; decide) m0 (by omega),_,_,rfl,rfl,small (by rw [ll.2.2.2.2]; omega),?_⟩
    generalize hy:Txt.mul ("not " : Str) m++("yes" : Str)=nots
    have notsl:nots.length≤200:=by
      rw [← hy,Str.length_append,ll.2.2.2.2]
      omega
    refine ⟨_,rfl,_,rfl,(by show 3≤sizeLine; decide),fun L hL=>?_⟩
    have GL:=Same.new hL (.lst [.str nots,.str nest,.str wide])
    have F3:=F2.same S3
    have Lf:=F3.ne hL
    refine ⟨_,rfl,f,3,rfl,F3.same GL,by decide,by decide,fun d H4 d0 d3 F4 S4=>?_⟩
    obtain ⟨u,hu,ul⟩:=at_strs (zs:=[nots,nest,wide]) (b:=320) (fun z hz=>by
      rcases List.mem_cons.mp hz with rfl | hz
      · omega
      · rcases List.mem_cons.mp hz with rfl | hz
        · omega
        · rw [List.mem_singleton.mp hz]; exact widel) d0 (by show d < 3; exact d3)
    exact ⟨L,_,_,_,rfl,rfl,SqL.of (S4 _ _ Lf upd_same),hu,q u H4 (by omega) F4 (S1.trans (S2.trans ((SameBut.of (S3.trans GL)).trans S4)))⟩
  refine iteDF (fi c6) ?_
  refine ⟨_,rfl,rfl,_,rfl,?_⟩
  by_cases c7:fm=7
  · refine iteD (by rw [c7]) ?_
    refine ⟨(by show 10≤sizeLine; decide),fun L hL=>?_⟩
    have GL:=Same.new hL (.lst (dk10.map V.str))
    have hL1:upd H1 L (.lst (dk10.map V.str)) L=some (.lst (dk10.map V.str)):=upd_same
    refine ⟨_,rfl,(by show 4≤sizeLine; decide),fun L2 hL2=>?_⟩
    have GL2:=Same.new hL2 (.lst [.str "", .str "(yes)", .str "not not", .str "nota"])
    refine ⟨L,L2,_,_,rfl,rfl,GL2 _ _ hL1,upd_same,(by show 14≤sizeLine; decide),fun L3 hL3=>?_⟩
    have GL3:=Same.new hL3 (.lst (dk10.map V.str++[.str "", .str "(yes)", .str "not not", .str "nota"]))
    have G:=GL.trans (GL2.trans GL3)
    have L3f:=(F1.same (GL.trans GL2)).ne hL3
    refine ⟨_,rfl,f,14,rfl,F1.same G,by decide,by decide,fun d H4 d0 d3 F4 S4=>?_⟩
    have e14:dk10.map V.str++[V.str "", V.str "(yes)", V.str "not not", V.str "nota"]=(dk10++dk4).map V.str:=by rw [List.map_append]; rfl
    obtain ⟨u,hu,ul⟩:=at_strs (zs:=dk10++dk4) (b:=10) (by decide +kernel) d0 (by show d < 14; exact d3)
    rw [← e14] at hu
    exact ⟨L3,_,_,_,rfl,rfl,SqL.of (S4 _ _ L3f upd_same),hu,q u H4 (by omega) F4 (S1.trans ((SameBut.of G).trans S4))⟩
  refine iteDF (fi c7) ?_
  have hl1:=S1 _ _ lf hl
  refine ⟨_,rfl,_,rfl,_,rfl,f,40,rfl,F1,by decide,by decide,fun e H2 e0 e40 F2 S2=>?_⟩
  have hl2:=S2 _ _ lf hl1
  refine ⟨_,_,rfl,rfl,_,rfl,f,12,rfl,F2,by decide,by decide,fun e' H3 e0' e12 F3 S3=>?_⟩
  have hl3:=S3 _ _ lf hl2
  refine ⟨_,_,rfl,rfl,f,l,1+e,1+e',ns,rfl,F3,.inl hl3,by omega,by omega,by omega,by omega,by omega,fun v t H4 F4 S4 T4 ok4 sz4 dp4=>?_⟩
  have nm:=Tr.ok_nm nk t ok4
  have s40:t.size≤40:=by
    have:(t.size:Int)≤1+e:=sz4
    omega
  have d12:t.depth≤12:=by
    have:(t.depth:Int)≤1+e':=dp4
    omega
  refine ⟨v,t,rfl,T4,nm,d12,by omega,fun H5 S5=>?_⟩
  have tl:=Tr.str_len nm
  have F5:=F4.same S5
  have S05:=S1.trans (S2.trans (S3.trans (S4.trans (SameBut.of S5))))
  refine ⟨(by show 6≤sizeLine; decide),fun b hb=>?_⟩
  have Gb:=Same.new hb (.lst [.int 0,.int 1,.int 1,.int 2,.int 3,.int 0])
  obtain ⟨w,hw,w0,w3⟩:=at_ints (zs:=[0,1,1,2,3,0]) (d:=fm) (b:=3) (by decide) f0 (by show fm < 6; omega)
  have hw':atI [V.int 0,V.int 1,V.int 1,V.int 2,V.int 3,V.int 0] fm=some (.int w):=hw
  refine ⟨_,rfl,b,_,_,_,rfl,rfl,SqL.of upd_same,hw',_,rfl,by omega,by omega,?_⟩
  refine for_range (n:=w.toNat) (fun j σ H'=>∃ (y:Str) (x8:Option V),σ=[some (.ref f),some (.ref l),some (.int fm),none,none,none,none,some (.str y),x8]∧y.length+10≤330*4 ^ j∧FeedAt H' f∧SameBut f H H') ⟨t.str,_,rfl,by rw [Nat.pow_zero]; omega,F5.same Gb,S05.trans (SameBut.of Gb)⟩ ?_ ?_
  · rintro j σ H8 hj ⟨y,x8,rfl,yl,F8,S8⟩
    have p2:4 ^ j≤16:=by
      have:j=0∨j=1∨j=2:=by omega
      rcases this with rfl | rfl | rfl <;> decide
    refine ⟨_,rfl,_,rfl,f,y,rfl,F8,by omega,fun y2 H9 yl2 F9 S9=>?_⟩
    exact ⟨y2,_,rfl,by rw [Nat.pow_succ]; omega,F9,S8.trans S9⟩
  · rintro σ H8 ⟨y,x8,rfl,yl,F8,S8⟩
    have p3:4 ^ w.toNat≤64:=by
      have:w=0∨w=1∨w=2∨w=3:=by omega
      rcases this with rfl | rfl | rfl | rfl <;> decide
    exact ⟨_,rfl,q y H8 (by omega) F8 S8⟩
def Tr.lw:Tr→Prop
  | .is x=>∀ c ∈ x.cps.toList,97≤c∧c≤122
  | .yes=>True | .no=>True | .not a=>a.lw | .bin o a b=>o ∈ joinW∧a.lw∧b.lw
theorem let_rng {c:Nat} (h:isIn LET c=true):97≤c∧c≤122 :=
  (by decide +kernel:∀ c ∈ LET.cps.toList,97≤c∧c≤122) c ((isIn_iff LET c).mp h)
theorem nameB_lets {x:Str} (h:nameB x=true):∀ c ∈ x.cps.toList,97≤c∧c≤122:=fun c hc=>let_rng (name_lets (x:=x.cps.toList) h c hc)
theorem pL_lw:∀ (n:Nat) {r r':List Nat} {t:Tr},pL n r=some (t,r')→t.lw
  | 0,r,r',t,h=>by cases h
  | n+1,r,r',t,h=>by
    unfold pL at h
    by_cases c:r.head?=some 40
    · rw [if_pos c] at h
      cases e:pL n r.tail with
      | none=>rw [e] at h; cases h
      | some q =>
        obtain ⟨a,r1⟩:=q
        rw [e] at h
        dsimp only at h
        obtain ⟨o,b,r2,r3,ho,e1,h4,h5,rfl,rfl⟩:=lJ_some joinW h
        exact ⟨ho,pL_lw n e,pL_lw n h4⟩
    · rw [if_neg c] at h
      by_cases c1:r.take 4=[110,111,116,32]
      · rw [if_pos c1] at h
        cases e:pL n (r.drop 4) with
        | none=>rw [e] at h; cases h
        | some q =>
          obtain ⟨a,r2⟩:=q
          rw [e] at h
          have e1:Tr.not a=t:=congrArg Prod.fst (Option.some.inj h)
          subst e1
          show a.lw
          exact pL_lw n e
      · rw [if_neg c1] at h
        by_cases c2:lLet r=[121,101,115]
        · rw [if_pos c2] at h
          have e1:Tr.yes=t:=congrArg Prod.fst (Option.some.inj h)
          subst e1
          trivial
        · rw [if_neg c2] at h
          by_cases c3:lLet r=[110,111]
          · rw [if_pos c3] at h
            have e1:Tr.no=t:=congrArg Prod.fst (Option.some.inj h)
            subst e1
            trivial
          · rw [if_neg c3] at h
            by_cases c4:nameB (stl (lLet r))=true
            · rw [if_pos c4] at h
              have e1:Tr.is (stl (lLet r))=t:=congrArg Prod.fst (Option.some.inj h)
              subst e1
              exact nameB_lets c4
            · rw [if_neg c4] at h
              cases h
theorem treeP_told {z:List Nat} {t:Tr} (h:treeP z=some t):t.lw∧t.depth≤10:=by
  rw [treeL] at h
  cases e:pL 10 z with
  | none=>rw [e] at h; cases h
  | some q =>
    obtain ⟨t',r'⟩:=q
    rw [e] at h
    dsimp only at h
    by_cases c:r'=[]∧t'.size≤30
    · rw [if_pos c] at h
      cases h
      exact ⟨pL_lw 10 e,(pL_told 10 e).2.1⟩
    · rw [if_neg c] at h
      cases h
theorem strOk_let {x:Str} (h:∀ c ∈ x.cps.toList,97≤c∧c≤122):PyData.strOk x=true:=by
  unfold PyData.strOk
  rw [← Array.all_toList,List.all_eq_true]
  intro c hc
  have:=h c hc
  exact decide_eq_true (by omega)
theorem data_okL:∀ t:Tr,t.lw→PyData.canLay0 t.data=true∧PyData.depth t.data≤t.depth+1
  | .is x,h=>by
    have:=strOk_let h
    simp [Tr.data,PyData.canLay0,PyData.canLayAll0,PyData.depth,PyData.depthAll,Tr.depth,this]
    decide +kernel
  | .yes,_=>by
    simp [Tr.data,PyData.canLay0,PyData.canLayAll0,PyData.depth,PyData.depthAll,Tr.depth]
    decide +kernel
  | .no,_=>by
    simp [Tr.data,PyData.canLay0,PyData.canLayAll0,PyData.depth,PyData.depthAll,Tr.depth]
    decide +kernel
  | .not a,h=>by
    have ih:=data_okL a h
    have w0:PyData.strOk "not" = true:=by decide +kernel
    simp [Tr.data,PyData.canLay0,PyData.canLayAll0,PyData.depth,PyData.depthAll,Tr.depth,ih.1,w0]
    omega
  | .bin w a b,⟨hw,h1,h2⟩=>by
    have i1:=data_okL a h1
    have i2:=data_okL b h2
    have w0:PyData.strOk w=true:=(by decide +kernel:∀ w ∈ joinW,PyData.strOk w=true) w hw
    simp [Tr.data,PyData.canLay0,PyData.canLayAll0,PyData.depth,PyData.depthAll,Tr.depth,i1.1,i2.1,w0]
    omega
def spReadT (CN:Addr):Sp:=fun vs H Q E=>∃ (z:Str),vs=[.str z]∧z.length≤60000∧(∀ (t:Tr) (v:V) (H':Hp),treeP z.cps.toList=some t→TreeAt H' v t→Same H H'→Q v H')∧(treeP z.cps.toList=none→RaisesRow CN 0 H E)
theorem sc_read_tree:FnScope ["text"] ["text"] (defScope s_read_tree):=⟨rfl,rfl,rfl,by decide +kernel,rfl,by decide +kernel,by decide +kernel⟩
theorem ok_read_tree {f CN:Addr} {fd:FuncData} (F:Fun K "read_tree" "read_tree" s_read_tree f fd) (C_tree_in_row:CalR P w K mg base 27 "tree_in_row" ["text", "row"] (spTreeR CN)):FnOk P w K mg base (CXr P w) 28 f fd ["text"] (spReadT CN):=by
  refine F.okX sc_read_tree (fun vs H Q E h=>?_) (fun cdv A outer s H vs Q E hr h=>?_)
  · obtain ⟨z,rfl,_⟩:=h
    rfl
  obtain ⟨z,rfl,zl,qs,qr⟩:=h
  refine ⟨_,(pss_one (ps_ret (pe_calR C_tree_in_row hr (by decide) rfl passX (pa_cons (pv 0) (pa_cons pe_int pa_nil))))),?_⟩
  exact ⟨_,rfl,z,0,rfl,⟨by decide,by decide⟩,zl,qs,qr⟩
theorem shaped_t {t:Tr} (h:t.lw∧t.depth≤10):SeqAt.shaped t.data=true:=by
  have:=data_okL t h.1
  simp [SeqAt.shaped,this.1]
  omega
def spRight3:Sp:=fun vs H Q _=>∃ T:Str,vs=[.str T]∧T.length≤60000∧∀ H',Same H H'→Q (.bl true) H'
theorem sc_l_right:FnScope ["_law_text_here", "_law_due", "_law_found", "_law_row", "e"] ["_law_text_here"] (defScope s_l_right):=⟨rfl,rfl,rfl,by decide +kernel,rfl,by decide +kernel,by decide +kernel⟩
theorem ok_l_right {f CN CA f0:Addr} {fd fd0:FuncData} (F:Fun K "_law_right" "_law_right" s_l_right f fd) (B:Bl mg) (g0:mg "NoText" = some (.ref CN)) (cl:ClsX K CN CA) (M0:Mkr P w K mg base CN "row" f0 fd0) (C_read_tree:CalR P w K mg base 28 "read_tree" ["text"] (spReadT CN)) (C_l_tree_of:Cal P w K mg base 14 "_law_tree_of" ["_law_text_here"] spTreeOf):FnOk P w K mg base CX0 29 f fd ["_law_text_here"] spRight3:=by
  refine F.ok sc_l_right (fun vs H Q E h=>?_) (fun cdv A outer s H vs Q E hr h=>?_)
  · obtain ⟨T,rfl,_⟩:=h
    rfl
  obtain ⟨T,rfl,tl,q⟩:=h
  refine ⟨_,(pss_cons (ps_set (i:=1) sc_l_right.nd rfl (Or.inl rfl) (pe_cal C_l_tree_of hr (by decide) rfl (pa_cons (pv 0) pa_nil)))
      (pss_cons (ps_set (i:=2) sc_l_right.nd rfl (Or.inl rfl) pe_non)
      (pss_cons (ps_set (i:=3) sc_l_right.nd rfl (Or.inl rfl) pe_non)
      (pss_cons (ps_tryNM (i:=4) (C0:=CN) (CA:=CA) sc_l_right.nd rfl rfl rfl g0 cl (psw_set (i:=2) sc_l_right.nd rfl (Or.inl rfl) C_read_tree hr (by decide) rfl (fun W=>pa_cons (pv 0) pa_nil)) (fun e=>pss_one (ps_set (i:=3) sc_l_right.nd rfl (Or.inl rfl) (pe_fldXK K (pv 4) rfl))))
      (pss_cons (ps_if (pt_cmpR op_isN (pv 1) pe_non (nomark _)) (pss_one (ps_ret (pe_and (pe_cmpR op_isN (pv 2) pe_non (nomark _)) (pe_and (pe_cmpR op_eq (pv 3) pe_int (nomark _)) (pe_one (pe_not (pe_callB call_isinst rfl B.isinstance PyProof.Rows.boot_isinstance (pa_cons (pv 3) (pa_cons (pe_bltn (v:=V.ty "bool") rfl B.bool boot_bool' rfl) pa_nil))))))))) pss_nil)
      (pss_one (ps_ret (pe_and (pe_cmpR op_isN (pv 3) pe_non (nomark _)) (pe_one (pe_cmpR (op_eqD hr.units) (pv 2) (pv 1) (nomark _))))))))))),?_⟩
  refine ⟨_,rfl,T,rfl,tl,fun en H1 S1=>?_,fun t v H1 et T1 S1=>?_⟩
  · refine ⟨_,rfl,T,rfl,tl,fun t' v' H2 et'=>?_,fun _ e dx H2 S2 he hd=>?_⟩
    · rw [en] at et'
      cases et'
    · refine ⟨e,dx,rfl,rfl,he,?_⟩
      refine ⟨_,rfl,e,CN,CA,dx,_,_,rfl,.inr he,hd,lk1 _ _,cl,M0.na,?_⟩
      refine ⟨_,rfl,rfl,_,rfl,iteT ?_⟩
      refine ⟨_,rfl,rfl,true,rfl,iteT ?_⟩
      refine ⟨_,rfl,rfl,true,rfl,iteT ?_⟩
      exact ⟨_,rfl,_,_, "bool", false,rfl,TyOf.int _,kit_int_bool _,false,rfl,q H2 (S1.trans S2)⟩
  · refine ⟨_,rfl,T,rfl,tl,fun t' v' H2 et' T2 S2=>?_,fun en e dx H2 S2 he hd=>?_⟩
    · rw [et] at et'
      cases et'
      have T1':=T1.mono (keepT_same S2)
      have sh:=shaped_t (treeP_told et)
      obtain ⟨jw,_⟩:=treeP_told et
      obtain ⟨a,rfl⟩:∃ a,v=.ref a:=by cases T1 <;> exact ⟨_,rfl⟩
      refine ⟨_,rfl,rfl,_,rfl,iteF ?_⟩
      refine ⟨_,rfl,rfl,true,rfl,iteT ?_⟩
      refine ⟨_,rfl,_,rfl,_,_,rep_tree T2,rep_tree T1',sh,sh,?_⟩
      rw [SeqAt.eqv_refl _ (SeqAt.canLay_of_shaped sh)]
      exact q H2 (S1.trans S2)
    · rw [et] at en
      cases en
theorem cat_map (a b:List Str):a.map V.str++b.map V.str=(a++b).map V.str:=List.map_append.symm
theorem all_true5:∀ n:Nat,(List.replicate n true).all id=true
  | 0=>rfl
  | n+1=>by rw [List.replicate_succ,List.all_cons,all_true5 n]; rfl
theorem sc_law:FnScope ["_law_script", "_law_names_here", "_law_upto", "_law_texts"] ["_law_script"] (defScope s_law):=⟨rfl,rfl,rfl,by decide +kernel,rfl,by decide +kernel,by decide +kernel⟩
theorem ok_law {f:Addr} {fd:FuncData} (F:Fun K "law" "law" s_law f fd) (B:Bl mg) (C_l_feed:Cal P w K mg base 1 "_law_feed" ["_law_script", "_law_k"] (spFeed K)) (C_l_take:Cal P w K mg base 1 "_law_take" ["_law_feed_here", "_law_many"] spTake) (C_l_names:Cal P w K mg base 2 "_law_names" ["_law_feed_here", "_law_many"] spNamesN) (C_l_drawn:Cal P w K mg base 15 "_law_drawn" ["_law_feed_here", "_law_names_here"] spDrawn3) (C_l_right:Cal P w K mg base 29 "_law_right" ["_law_text_here"] spRight3):FnOk P w K mg base CX0 30 f fd ["_law_script"] (spLaw K):=by
  refine F.ok sc_law (fun vs H Q E h=>?_) (fun cdv A outer s H vs Q E hr h=>?_)
  · obtain ⟨a,ns,rfl,_⟩:=h
    rfl
  obtain ⟨a,ns,rfl,hS,h63,q⟩:=h
  refine ⟨_,(pss_cons (ps_set (i:=1) sc_law.nd rfl (by first | exact Or.inl rfl | exact Or.inr rfl) (pe_cal C_l_names hr (by decide) rfl (pa_cons (pe_cal C_l_feed hr (by decide) rfl (pa_cons (pv 0) (pa_cons pe_int pa_nil))) (pa_cons (pe_op op_add pe_int (pe_cal C_l_take hr (by decide) rfl (pa_cons (pe_cal C_l_feed hr (by decide) rfl (pa_cons (pv 0) (pa_cons pe_int pa_nil))) (pa_cons pe_int pa_nil)))) pa_nil))))
      (pss_cons (ps_set (i:=2) sc_law.nd rfl (Or.inl rfl) (pe_callB (call_max2 rfl) rfl B.max PyProof.Rows.boot_max (pa_cons pe_int (pa_cons (pe_callB (call_min2 rfl) rfl B.min PyProof.Rows.boot_min (pa_cons pe_int (pa_cons (pe_callB call_len_seq rfl B.len PySem.boot_len (pa_cons (pv 0) pa_nil)) pa_nil))) pa_nil))))
      (pss_cons (ps_comp (i:=3) (N:=["_law_script", "_law_names_here"]) (ix:=[0,1]) sc_law.nd rfl (Or.inl rfl) rfl
          (CompScope.two (by with_unfolding_all rfl) (by decide) rfl (by decide) rfl (by decide +kernel) (by first | exact Or.inl rfl | exact Or.inr rfl) (by with_unfolding_all rfl) (by with_unfolding_all rfl) (by with_unfolding_all rfl) (by with_unfolding_all rfl) rfl rfl (by with_unfolding_all rfl) rfl rfl) rfl
          (pi_range2 rfl B.range (pa_cons pe_int (pa_cons (pv 2) pa_nil)))
          (fun _ _ _=>pb_all (pe_cal C_l_drawn hr (by decide) rfl (pa_cons (pe_cal C_l_feed hr (by decide) rfl (pa_cons (pv 1) (pa_cons (pv 0) pa_nil))) (pa_cons (pv 2) pa_nil)))))
      (pss_one (ps_ret (pe_callB (call_all rfl) rfl B.all PyProof.Rows.boot_all (pa_cons (pe_comp (N:=[]) (ix:=[]) (cl:=[]) rfl (CompScope.closed (by with_unfolding_all rfl) (by decide) rfl (by decide) rfl (by with_unfolding_all rfl)) rfl
        (pi_list (pe_op op_cat (pv 3) (pe_slice sl_list (pv 3) po_none (po_some pe_int)))) (fun _ _ _=>pb_all (pe_cal C_l_right hr (by decide) rfl (pa_cons (pv 0) pa_nil)))) pa_nil))))))),?_⟩
  have hl:(ns.map V.int).length=ns.length:=List.length_map _
  refine ⟨_,rfl,a,ns,1,rfl,hS,h63,by decide,by decide,fun f1 H1 f10 s1 F1=>?_⟩
  refine ⟨_,rfl,a,ns,0,rfl,s1.seq hS,h63,by decide,by decide,fun f0 H2 f00 s2 F2=>?_⟩
  refine ⟨f0,6,rfl,F2,by decide,by decide,fun d H3 d0 d6 F3 S3=>?_⟩
  have f01:f1 ≠ f0:=by
    obtain ⟨o,s,h,_⟩:=F1
    exact ne_of_none h f00
  have F13:FeedAt H3 f1:=by
    obtain ⟨o,s,h,r⟩:=F1
    exact ⟨o,s,S3 _ _ f01 (s2 _ _ h),r⟩
  have s13:Same H1 H3:=s2.but f00 S3
  refine ⟨_,_,rfl,rfl,f1,1+d,rfl,F13,by omega,by omega,fun nl nm H4 nl0 nlf hnl nml nk nd F4 S4=>?_⟩
  have S04:Same H H4:=(s1.trans s13).but f10 S4
  have nm7:nm.length≤7:=by
    have:nm.length=(1+d).toNat:=nml
    omega
  refine ⟨_,rfl,a,_,rfl,.inl (S04.seq hS),_,_,rfl,_,_,rfl,?_⟩
  refine ⟨_,rfl,_,_,rfl,⟨by decide,by decide,by (repeat' split) <;> omega,by (repeat' split) <;> omega⟩,fun D hD=>?_⟩
  refine comp_range (fun i H'=>∃ (tx:List Str),H' D=some (.lst (tx.map V.str))∧tx.length=i∧(∀ t ∈ tx,t.length≤60000)∧Same H4 H') ⟨[],upd_same,rfl,(fun t ht=>by cases ht),Same.new hD _⟩ ?_ ?_
  · rintro i H5 hi ⟨tx,hD5,txl,txb,S5⟩
    have i100:i≤100:=by
      revert hi
      (repeat' split) <;> omega
    refine ⟨_,rfl,_,rfl,a,ns,_,rfl,(S04.trans S5).seq hS,h63,by omega,by omega,fun f2 H6 f20 s6 F6=>?_⟩
    have nlf2:nl ≠ f2:=ne_of_none (S5 _ _ hnl) f20
    have Df2:D ≠ f2:=ne_of_none hD5 f20
    refine ⟨_,rfl,f2,nl,nm,rfl,F6,(S5.trans s6) _ _ hnl,nlf2,nm7,nk,fun z H7 zl F7 S7=>?_⟩
    have hD7:=S7 _ _ Df2 (s6 _ _ hD5)
    refine ⟨_,hD7,small1000 (by rw [List.length_map]; omega),Nx.of hi ⟨tx++[z],by rw [upd_same,List.map_append]; rfl,by rw [List.length_append,List.length_singleton,txl],?_,fun b o e=>?_⟩⟩
    · intro t ht
      rcases List.mem_append.mp ht with h | h
      · exact txb t h
      · rw [List.mem_singleton.mp h]
        exact zl
    · have nb:b ≠ f2:=ne_of_none (S5 _ _ e) f20
      rw [upd_ne (ne_of_none e hD)]
      exact S7 b o nb (s6 b o (S5 b o e))
  · rintro H5 ⟨tx,hD5,txl,txb,S5⟩
    have tx100:tx.length≤100:=by
      rw [txl]
      (repeat' split) <;> omega
    refine ⟨_,rfl,_,rfl,1,rfl,D,_,rfl,SqL.of hD5,fun c hc=>?_⟩
    rw [show cutV (tx.map V.str) none (some 1)=(tx.map V.str).take 1 from cutTo (k:=1),← List.map_take]
    have Gc:=Same.new hc (.lst ((tx.take 1).map V.str))
    refine ⟨D,c,_,_,rfl,rfl,Gc _ _ hD5,upd_same,small (by rw [List.length_map,List.length_map,List.length_take]; omega),fun d' hd=>?_⟩
    rw [cat_map]
    have hd5:upd (upd H5 c (.lst ((tx.take 1).map V.str))) d' (.lst ((tx++tx.take 1).map V.str)) d'=some (.lst ((tx++tx.take 1).map V.str)):=upd_same
    generalize upd (upd H5 c (.lst ((tx.take 1).map V.str))) d' (.lst ((tx++tx.take 1).map V.str))=H8 at hd5
    have al:∀ t ∈ tx++tx.take 1,t.length≤60000:=fun t ht=>by
      rcases List.mem_append.mp ht with h | h
      · exact txb t h
      · exact txb t (List.mem_of_mem_take h)
    have ll:(tx++tx.take 1).length≤200:=by rw [List.length_append,List.length_take]; omega
    generalize tx++tx.take 1=ty at hd5 al ll
    refine ⟨d',rfl,⟨_,SqL.of hd5⟩,fun D2 hD2=>?_⟩
    refine comp_list (K:=K) (xs:=ty.map V.str) (fun i H'=>H' D2=some (.lst ((List.replicate i true).map V.bl))∧Same H8 H') ⟨by rw [upd_same]; rfl,Same.new hD2 _⟩ (fun i H' _ h=>SqL.of (h.2 _ _ hd5)) ?_ ?_
    · rintro i z H6 hz ⟨hD6,S6⟩
      have hi:=(List.getElem?_eq_some_iff.mp hz).1
      have hi':=hi
      rw [List.length_map] at hi'
      rw [List.getElem?_map] at hz
      obtain ⟨t,ht,rfl⟩:=Option.map_eq_some_iff.mp hz
      refine ⟨_,rfl,t,rfl,al t (List.mem_of_getElem? ht),fun H7 S7=>?_⟩
      refine ⟨_,S7 _ _ hD6,?_,Nx.of hi ⟨?_,fun b' o' e'=>?_⟩⟩
      · rw [List.length_map,List.length_replicate]
        exact small1000 (by omega)
      · rw [upd_same,List.replicate_succ',List.map_append]
        rfl
      · rw [upd_ne (ne_of_none e' hD2)]
        exact S7 _ _ (S6 _ _ e')
    · rintro H6 ⟨hD6,S6⟩
      refine ⟨D2,_,rfl,SqL.of hD6,?_⟩
      rw [all_true5]
      exact q H6
theorem kept_vals {a b c d e f g h i j k l:Tok}:Vals (kept.map V.str) [.str "yes" a,.str "no" b,.str "not" c,.str "and" d,.str "or" e,.str "odd" f,.str "same" g,.str "round" h,.str "due" i,.str "asked" j,.str "true" k,.str "coin" l] :=
  .cons ⟨_,rfl⟩ (.cons ⟨_,rfl⟩ (.cons ⟨_,rfl⟩ (.cons ⟨_,rfl⟩ (.cons ⟨_,rfl⟩ (.cons ⟨_,rfl⟩ (.cons ⟨_,rfl⟩ (.cons ⟨_,rfl⟩ (.cons ⟨_,rfl⟩ (.cons ⟨_,rfl⟩ (.cons ⟨_,rfl⟩ (.cons ⟨_,rfl⟩ .nil)))))))))))
theorem join_vals {a b c d:Tok}:Vals (joinW.map V.str) [.str "and" a,.str "or" b,.str "odd" c,.str "same" d] :=
  .cons ⟨_,rfl⟩ (.cons ⟨_,rfl⟩ (.cons ⟨_,rfl⟩ (.cons ⟨_,rfl⟩ .nil)))
theorem clsfc {K:PySem.W.Frag} {C g:Addr} {m:Str} (h:PySem.W.findCls K (.ref C) (.type "type") m=some (.val (.ref g))):(match PySem.W.findCls K (.ref C) (.type "type") m with | some (.val v)=>some v | _=>none)=some (.ref g):=by
  rw [h]
end
theorem all_mk {l:PySem.W.OpenLaw} {w:World} {K:PySem.W.Frag} {h:Heap} {mg:Str→Option Value} {fa f0 f1 f2 f3 f4 f5 f6 f7 f8 f9 f10 f11 f12 f13 f14 f15 f16 f17 f18 f19 f20:Addr} (X:K.In h) (G:h.Ns mainGlobals mg) (hfa:mg "law" = some (.ref fa))
    {od0 an0 od1 an1 od2 an2 od3 an3 od4 an4 od5 an5 od6 an6 od7 an7 od8 an8 od9 an9 od10 an10 od11 an11 od12 an12 od13 an13 od14 an14 od15 an15 od16 an16 od17 an17 od18 an18 od19 an19 od20 an20:Option Addr} {sl0 sl1 sl2 sl3 sl4 sl5 sl6 sl7 sl8 sl9 sl10 sl11 sl12 sl13 sl14 sl15 sl16 sl17 sl18 sl19 sl20:Array (Option Value)} {oc0 kV0 dc0 pm0 cd0 ct0 oc1 kV1 dc1 pm1 cd1 ct1 oc2 kV2 dc2 pm2 cd2 ct2 oc3 kV3 dc3 pm3 cd3 ct3 oc4 kV4 dc4 pm4 cd4 ct4 oc5 kV5 dc5 pm5 cd5 ct5 oc6 kV6 dc6 pm6 cd6 ct6 oc7 kV7 dc7 pm7 cd7 ct7 oc8 kV8 dc8 pm8 cd8 ct8 oc9 kV9 dc9 pm9 cd9 ct9 oc10 kV10 dc10 pm10 cd10 ct10 oc11 kV11 dc11 pm11 cd11 ct11 oc12 kV12 dc12 pm12 cd12 ct12 oc13 kV13 dc13 pm13 cd13 ct13 oc14 kV14 dc14 pm14 cd14 ct14 oc15 kV15 dc15 pm15 cd15 ct15 oc16 kV16 dc16 pm16 cd16 ct16 oc17 kV17 dc17 pm17 cd17 ct17 oc18 kV18 dc18 pm18 cd18 ct18 oc19 kV19 dc19 pm19 cd19 ct19 oc20 kV20 dc20 pm20 cd20 ct20:Value}
    (a0:PySem.W.nsIn K mainGlobals "is_name" = some (some (.ref f0))) (l0:K.lookup f0=some ⟨oc0,od0,.func (PySem.W.fnOf "is_name" "is_name" (defArgs s_is_name) (defBody s_is_name) (defScope s_is_name) .none kV0 dc0 pm0 an0 cd0 ct0),sl0⟩) (c0:PySem.W.codeIn K cd0 "is_name" = true) (k0:PySem.W.keepIn K (.ref f0)=true)
    (a1:PySem.W.nsIn K mainGlobals "read_tree" = some (some (.ref f1))) (l1:K.lookup f1=some ⟨oc1,od1,.func (PySem.W.fnOf "read_tree" "read_tree" (defArgs s_read_tree) (defBody s_read_tree) (defScope s_read_tree) .none kV1 dc1 pm1 an1 cd1 ct1),sl1⟩) (c1:PySem.W.codeIn K cd1 "read_tree" = true) (k1:PySem.W.keepIn K (.ref f1)=true)
    (a2:PySem.W.nsIn K mainGlobals "tree_in_row" = some (some (.ref f2))) (l2:K.lookup f2=some ⟨oc2,od2,.func (PySem.W.fnOf "tree_in_row" "tree_in_row" (defArgs s_tree_in_row) (defBody s_tree_in_row) (defScope s_tree_in_row) .none kV2 dc2 pm2 an2 cd2 ct2),sl2⟩) (c2:PySem.W.codeIn K cd2 "tree_in_row" = true) (k2:PySem.W.keepIn K (.ref f2)=true)
    (a3:PySem.W.nsIn K mainGlobals "next_tree" = some (some (.ref f3))) (l3:K.lookup f3=some ⟨oc3,od3,.func (PySem.W.fnOf "next_tree" "next_tree" (defArgs s_next_tree) (defBody s_next_tree) (defScope s_next_tree) .none kV3 dc3 pm3 an3 cd3 ct3),sl3⟩) (c3:PySem.W.codeIn K cd3 "next_tree" = true) (k3:PySem.W.keepIn K (.ref f3)=true)
    (a4:PySem.W.nsIn K mainGlobals "joined_tree" = some (some (.ref f4))) (l4:K.lookup f4=some ⟨oc4,od4,.func (PySem.W.fnOf "joined_tree" "joined_tree" (defArgs s_joined_tree) (defBody s_joined_tree) (defScope s_joined_tree) .none kV4 dc4 pm4 an4 cd4 ct4),sl4⟩) (c4:PySem.W.codeIn K cd4 "joined_tree" = true) (k4:PySem.W.keepIn K (.ref f4)=true)
    (a5:PySem.W.nsIn K mainGlobals "_law_feed" = some (some (.ref f5))) (l5:K.lookup f5=some ⟨oc5,od5,.func (PySem.W.fnOf "_law_feed" "_law_feed" (defArgs s_l_feed) (defBody s_l_feed) (defScope s_l_feed) .none kV5 dc5 pm5 an5 cd5 ct5),sl5⟩) (c5:PySem.W.codeIn K cd5 "_law_feed" = true) (k5:PySem.W.keepIn K (.ref f5)=true)
    (a6:PySem.W.nsIn K mainGlobals "_law_take" = some (some (.ref f6))) (l6:K.lookup f6=some ⟨oc6,od6,.func (PySem.W.fnOf "_law_take" "_law_take" (defArgs s_l_take) (defBody s_l_take) (defScope s_l_take) .none kV6 dc6 pm6 an6 cd6 ct6),sl6⟩) (c6:PySem.W.codeIn K cd6 "_law_take" = true) (k6:PySem.W.keepIn K (.ref f6)=true)
    (a7:PySem.W.nsIn K mainGlobals "_law_names" = some (some (.ref f7))) (l7:K.lookup f7=some ⟨oc7,od7,.func (PySem.W.fnOf "_law_names" "_law_names" (defArgs s_l_names) (defBody s_l_names) (defScope s_l_names) .none kV7 dc7 pm7 an7 cd7 ct7),sl7⟩) (c7:PySem.W.codeIn K cd7 "_law_names" = true) (k7:PySem.W.keepIn K (.ref f7)=true)
    (a8:PySem.W.nsIn K mainGlobals "_law_tree" = some (some (.ref f8))) (l8:K.lookup f8=some ⟨oc8,od8,.func (PySem.W.fnOf "_law_tree" "_law_tree" (defArgs s_l_tree) (defBody s_l_tree) (defScope s_l_tree) .none kV8 dc8 pm8 an8 cd8 ct8),sl8⟩) (c8:PySem.W.codeIn K cd8 "_law_tree" = true) (k8:PySem.W.keepIn K (.ref f8)=true)
    (a9:PySem.W.nsIn K mainGlobals "_law_signs" = some (some (.ref f9))) (l9:K.lookup f9=some ⟨oc9,od9,.func (PySem.W.fnOf "_law_signs" "_law_signs" (defArgs s_l_signs) (defBody s_l_signs) (defScope s_l_signs) .none kV9 dc9 pm9 an9 cd9 ct9),sl9⟩) (c9:PySem.W.codeIn K cd9 "_law_signs" = true) (k9:PySem.W.keepIn K (.ref f9)=true)
    (a10:PySem.W.nsIn K mainGlobals "_law_is_name" = some (some (.ref f10))) (l10:K.lookup f10=some ⟨oc10,od10,.func (PySem.W.fnOf "_law_is_name" "_law_is_name" (defArgs s_l_is_name) (defBody s_l_is_name) (defScope s_l_is_name) .none kV10 dc10 pm10 an10 cd10 ct10),sl10⟩) (c10:PySem.W.codeIn K cd10 "_law_is_name" = true) (k10:PySem.W.keepIn K (.ref f10)=true)
    (a11:PySem.W.nsIn K mainGlobals "_law_text" = some (some (.ref f11))) (l11:K.lookup f11=some ⟨oc11,od11,.func (PySem.W.fnOf "_law_text" "_law_text" (defArgs s_l_text) (defBody s_l_text) (defScope s_l_text) .none kV11 dc11 pm11 an11 cd11 ct11),sl11⟩) (c11:PySem.W.codeIn K cd11 "_law_text" = true) (k11:PySem.W.keepIn K (.ref f11)=true)
    (a12:PySem.W.nsIn K mainGlobals "_law_name_ends" = some (some (.ref f12))) (l12:K.lookup f12=some ⟨oc12,od12,.func (PySem.W.fnOf "_law_name_ends" "_law_name_ends" (defArgs s_l_name_ends) (defBody s_l_name_ends) (defScope s_l_name_ends) .none kV12 dc12 pm12 an12 cd12 ct12),sl12⟩) (c12:PySem.W.codeIn K cd12 "_law_name_ends" = true) (k12:PySem.W.keepIn K (.ref f12)=true)
    (a13:PySem.W.nsIn K mainGlobals "_law_parse" = some (some (.ref f13))) (l13:K.lookup f13=some ⟨oc13,od13,.func (PySem.W.fnOf "_law_parse" "_law_parse" (defArgs s_l_parse) (defBody s_l_parse) (defScope s_l_parse) .none kV13 dc13 pm13 an13 cd13 ct13),sl13⟩) (c13:PySem.W.codeIn K cd13 "_law_parse" = true) (k13:PySem.W.keepIn K (.ref f13)=true)
    (a14:PySem.W.nsIn K mainGlobals "_law_size" = some (some (.ref f14))) (l14:K.lookup f14=some ⟨oc14,od14,.func (PySem.W.fnOf "_law_size" "_law_size" (defArgs s_l_size) (defBody s_l_size) (defScope s_l_size) .none kV14 dc14 pm14 an14 cd14 ct14),sl14⟩) (c14:PySem.W.codeIn K cd14 "_law_size" = true) (k14:PySem.W.keepIn K (.ref f14)=true)
    (a15:PySem.W.nsIn K mainGlobals "_law_tree_of" = some (some (.ref f15))) (l15:K.lookup f15=some ⟨oc15,od15,.func (PySem.W.fnOf "_law_tree_of" "_law_tree_of" (defArgs s_l_tree_of) (defBody s_l_tree_of) (defScope s_l_tree_of) .none kV15 dc15 pm15 an15 cd15 ct15),sl15⟩) (c15:PySem.W.codeIn K cd15 "_law_tree_of" = true) (k15:PySem.W.keepIn K (.ref f15)=true)
    (a16:PySem.W.nsIn K mainGlobals "_law_changed" = some (some (.ref f16))) (l16:K.lookup f16=some ⟨oc16,od16,.func (PySem.W.fnOf "_law_changed" "_law_changed" (defArgs s_l_changed) (defBody s_l_changed) (defScope s_l_changed) .none kV16 dc16 pm16 an16 cd16 ct16),sl16⟩) (c16:PySem.W.codeIn K cd16 "_law_changed" = true) (k16:PySem.W.keepIn K (.ref f16)=true)
    (a17:PySem.W.nsIn K mainGlobals "_law_wide" = some (some (.ref f17))) (l17:K.lookup f17=some ⟨oc17,od17,.func (PySem.W.fnOf "_law_wide" "_law_wide" (defArgs s_l_wide) (defBody s_l_wide) (defScope s_l_wide) .none kV17 dc17 pm17 an17 cd17 ct17),sl17⟩) (c17:PySem.W.codeIn K cd17 "_law_wide" = true) (k17:PySem.W.keepIn K (.ref f17)=true)
    (a18:PySem.W.nsIn K mainGlobals "_law_drawn" = some (some (.ref f18))) (l18:K.lookup f18=some ⟨oc18,od18,.func (PySem.W.fnOf "_law_drawn" "_law_drawn" (defArgs s_l_drawn) (defBody s_l_drawn) (defScope s_l_drawn) .none kV18 dc18 pm18 an18 cd18 ct18),sl18⟩) (c18:PySem.W.codeIn K cd18 "_law_drawn" = true) (k18:PySem.W.keepIn K (.ref f18)=true)
    (a19:PySem.W.nsIn K mainGlobals "_law_right" = some (some (.ref f19))) (l19:K.lookup f19=some ⟨oc19,od19,.func (PySem.W.fnOf "_law_right" "_law_right" (defArgs s_l_right) (defBody s_l_right) (defScope s_l_right) .none kV19 dc19 pm19 an19 cd19 ct19),sl19⟩) (c19:PySem.W.codeIn K cd19 "_law_right" = true) (k19:PySem.W.keepIn K (.ref f19)=true)
    (a20:PySem.W.nsIn K mainGlobals "law" = some (some (.ref f20))) (l20:K.lookup f20=some ⟨oc20,od20,.func (PySem.W.fnOf "law" "law" (defArgs s_law) (defBody s_law) (defScope s_law) .none kV20 dc20 pm20 an20 cd20 ct20),sl20⟩) (c20:PySem.W.codeIn K cd20 "law" = true) (k20:PySem.W.keepIn K (.ref f20)=true)
    {CA gA TA NA cc0 g0 N0:Addr} {odA anA tdA ddA od_0 an_0 dd0:Option Addr} {slA tslA sl_0:Array (Option Value)} {ocA kVA dcA pmA cdA ctA kV_0 dc_0 pm_0 cd_0 ct_0:Value} {tkA:Tok} {tnA:Nat} {nm0 qn0 nmA qnA:Str} {bs0 sub0 bsA subA:List Value} {sn0 snA:List Str} {ab0 abA:Bool} {col0 colA:Option Bool} {q00 q10 q20 q30 q50 q0A q1A q2A q3A q5A:Option Value} {C gI gE gS gT gW gF:Addr} {odI anI odE anE odS anS odT anT odW anW odF anF:Option Addr} {slI slE slS slT slW slF:Array (Option Value)} {ocI kVI dcI pmI cdI ctI ocE kVE dcE pmE cdE ctE ocS kVS dcS pmS cdS ctS ocT kVT dcT pmT cdT ctT ocW kVW dcW pmW cdW ctW ocF kVF dcF pmF cdF ctF:Value} {t1 t3 t4 t5 t6:Tok} {ka ja:Addr} {kd jd:Option Addr} {kits jits:Array Value} {kn jn:Nat} {ksl jsl:Array (Option Value)}
    (gAs:PySem.W.nsIn K mainGlobals "AskError" = some (some (.ref CA)))
    (iAs0:K.lookup CA=some (excClassObj nmA qnA CA NA bsA bmV true snA subA abA colA ddA q0A q1A q2A q3A q5A "ValueError.__new__"))
    (xga:PySem.W.specialIn K (.ref CA) "__getattribute__" = some (some (.builtin "type.__getattribute__")))
    (xrd:PySem.W.readsIn K CA (.type "type")=true)
    (xfc0:PySem.W.findCls K (.ref CA) (.type "type") "__init__" = some (.val (.ref gA)))
    (xlk:K.lookup gA=some ⟨ocA,odA,.func (PySem.W.fnOf "__init__" "AskError.__init__" (defArgs s_AskError) (defBody s_AskError) (defScope s_AskError) (.ref TA) kVA dcA pmA anA cdA ctA),slA⟩)
    (xtp:K.lookup TA=some ⟨.type "tuple", tdA,.seq #[.str "" tkA] tnA,tslA⟩)
    (xcd:PySem.W.codeIn K cdA "AskError.__init__" = true)
    (xkp:PySem.W.keepIn K (.ref gA)=true)
    (yg0:PySem.W.nsIn K mainGlobals "NoText" = some (some (.ref cc0)))
    (yo0:K.lookup cc0=some (excClassObj nm0 qn0 cc0 N0 bs0 (.ref CA::bmV) true sn0 sub0 ab0 col0 dd0 q00 q10 q20 q30 q50 "ValueError.__new__"))
    (ys0:PySem.W.findIn K (.ref cc0) "__setattr__" = some (some (.builtin "object.__setattr__")))
    (ya0:PySem.W.findIn K (.ref cc0) "__getattribute__" = some (some (.builtin "BaseException.__getattribute__")))
    (yt0:PySem.W.findIn K (.ref cc0) "__getattr__" = some none)
    (yc0:PySem.W.findIn K (.ref cc0) "__class__" = some (some (.builtin "object.__class__")))
    (yi0:PySem.W.findIn K (.ref cc0) "__init__" = some (some (.ref g0)))
    (yl0:K.lookup g0=some ⟨.type "function", od_0,.func (PySem.W.fnOf "__init__" "NoText.__init__" (defArgs s_NoText) (defBody s_NoText) (defScope s_NoText) .none kV_0 dc_0 pm_0 an_0 cd_0 ct_0),sl_0⟩)
    (yk0:PySem.W.codeIn K cd_0 "NoText.__init__" = true)
    (yp0:PySem.W.keepIn K (.ref g0)=true)
    (yq0:PySem.W.keepIn K (.ref cc0)=true)
    (yn0:PySem.W.findIn K (.ref cc0) "row" = some none)
    (hV0:PySem.W.nsIn K mainGlobals "ValueError" = some none)
    (gg:PySem.W.nsIn K mainGlobals "Scan" = some (some (.ref C)))
    (aI:PySem.W.findIn K (.ref C) "__init__" = some (some (.ref gI)))
    (iI:PySem.W.isFn K (.ref gI)=true)
    (lI:K.lookup gI=some ⟨ocI,odI,.func (PySem.W.fnOf "__init__" "Scan.__init__" (defArgs s_sinit) (defBody s_sinit) (defScope s_sinit) .none kVI dcI pmI anI cdI ctI),slI⟩)
    (cI:PySem.W.codeIn K cdI "Scan.__init__" = true)
    (kI:PySem.W.keepIn K (.ref gI)=true)
    (aE:PySem.W.findIn K (.ref C) "enter" = some (some (.ref gE)))
    (iE:PySem.W.isFn K (.ref gE)=true)
    (lE:K.lookup gE=some ⟨ocE,odE,.func (PySem.W.fnOf "enter" "Scan.enter" (defArgs s_senter) (defBody s_senter) (defScope s_senter) .none kVE dcE pmE anE cdE ctE),slE⟩)
    (cE:PySem.W.codeIn K cdE "Scan.enter" = true)
    (kE:PySem.W.keepIn K (.ref gE)=true)
    (aS:PySem.W.findIn K (.ref C) "sees" = some (some (.ref gS)))
    (iS:PySem.W.isFn K (.ref gS)=true)
    (lS:K.lookup gS=some ⟨ocS,odS,.func (PySem.W.fnOf "sees" "Scan.sees" (defArgs s_ssees) (defBody s_ssees) (defScope s_ssees) .none kVS dcS pmS anS cdS ctS),slS⟩)
    (cS:PySem.W.codeIn K cdS "Scan.sees" = true)
    (kS:PySem.W.keepIn K (.ref gS)=true)
    (aT:PySem.W.findIn K (.ref C) "take" = some (some (.ref gT)))
    (iT:PySem.W.isFn K (.ref gT)=true)
    (lT:K.lookup gT=some ⟨ocT,odT,.func (PySem.W.fnOf "take" "Scan.take" (defArgs s_stake) (defBody s_stake) (defScope s_stake) .none kVT dcT pmT anT cdT ctT),slT⟩)
    (cT:PySem.W.codeIn K cdT "Scan.take" = true)
    (kT:PySem.W.keepIn K (.ref gT)=true)
    (aW:PySem.W.findIn K (.ref C) "word" = some (some (.ref gW)))
    (iW:PySem.W.isFn K (.ref gW)=true)
    (lW:K.lookup gW=some ⟨ocW,odW,.func (PySem.W.fnOf "word" "Scan.word" (defArgs s_sword) (defBody s_sword) (defScope s_sword) .none kVW dcW pmW anW cdW ctW),slW⟩)
    (cW:PySem.W.codeIn K cdW "Scan.word" = true)
    (kW:PySem.W.keepIn K (.ref gW)=true)
    (aF:PySem.W.findIn K (.ref C) "finish" = some (some (.ref gF)))
    (iF:PySem.W.isFn K (.ref gF)=true)
    (lF:K.lookup gF=some ⟨ocF,odF,.func (PySem.W.fnOf "finish" "Scan.finish" (defArgs s_sfinish) (defBody s_sfinish) (defScope s_sfinish) .none kVF dcF pmF anF cdF ctF),slF⟩)
    (cF:PySem.W.codeIn K cdF "Scan.finish" = true)
    (kF:PySem.W.keepIn K (.ref gF)=true)
    (pg:PySem.W.plainGet K C Str.empty=true)
    (hdi:PySem.W.hasDictIn K C=true)
    (pov:PySem.W.plainOver K C=true)
    (sat:PySem.W.findIn K (.ref C) "__setattr__" = some (some (.builtin "object.__setattr__")))
    (mki:PySem.W.makesIn K C=true)
    (kcl:PySem.W.keepIn K (.ref C)=true)
    (nX:PySem.W.findIn K (.ref C) "text" = some none)
    (nR:PySem.W.findIn K (.ref C) "row" = some none)
    (nW:PySem.W.findIn K (.ref C) "most_within" = some none)
    (nP:PySem.W.findIn K (.ref C) "most_parts" = some none)
    (nL:PySem.W.findIn K (.ref C) "place" = some none)
    (nN:PySem.W.findIn K (.ref C) "parts" = some none)
    (g1:PySem.W.nsIn K mainGlobals "LETTERS" = some (some (.str LET t1)))
    (g3:PySem.W.nsIn K mainGlobals "LONGEST_NAME" = some (some (.int 6 t3)))
    (g5:PySem.W.nsIn K mainGlobals "KEPT_WORDS" = some (some (.ref ka)))
    (g6:K.lookup ka=some ⟨.type "tuple", kd,.seq kits kn,ksl⟩)
    (g7:kits.size≤100)
    (g8:Vals (kept.map V.str) kits.toList)
    (e1:PySem.W.nsIn K mainGlobals "WORD_ENDS" = some (some (.str ENDS t4)))
    (e2:PySem.W.nsIn K mainGlobals "MOST_WITHIN" = some (some (.int 10 t5)))
    (e3:PySem.W.nsIn K mainGlobals "MOST_PARTS" = some (some (.int 30 t6)))
    (e5:PySem.W.nsIn K mainGlobals "JOINING_WORDS" = some (some (.ref ja)))
    (e6:K.lookup ja=some ⟨.type "tuple", jd,.seq jits jn,jsl⟩)
    (e7:jits.size≤100)
    (e8:Vals (joinW.map V.str) jits.toList)
    (z0:PySem.W.nsIn K mainGlobals "len" = some none) (z1:PySem.W.nsIn K mainGlobals "range" = some none) (z2:PySem.W.nsIn K mainGlobals "max" = some none) (z3:PySem.W.nsIn K mainGlobals "min" = some none) (z4:PySem.W.nsIn K mainGlobals "isinstance" = some none) (z5:PySem.W.nsIn K mainGlobals "tuple" = some none) (z6:PySem.W.nsIn K mainGlobals "str" = some none) (z7:PySem.W.nsIn K mainGlobals "all" = some none) (z8:PySem.W.nsIn K mainGlobals "int" = some none) (z9:PySem.W.nsIn K mainGlobals "bool" = some none) (z10:PySem.W.nsIn K mainGlobals "list" = some none) (z11:PySem.W.nsIn K mainGlobals "sum" = some none) :
    ∃ fd:FuncData,(∀ (s:Shared) (v:Value),BindsTo s fd ⟨[v],[]⟩ [("_law_script", v)])∧∀ base:Heap,K.In base→base.Ns mainGlobals mg→FnOk l.prog w K mg base CX0 30 fa fd ["_law_script"] (spLaw K):=by
  have e:=hfa.symm.trans (PySem.W.mg_of X G a20)
  cases e
  have F_is_name:=fun_mk (st:=s_is_name) l0 c0 k0
  have m_is_name:=PySem.W.mg_of X G a0
  have F_read_tree:=fun_mk (st:=s_read_tree) l1 c1 k1
  have m_read_tree:=PySem.W.mg_of X G a1
  have F_tree_in_row:=fun_mk (st:=s_tree_in_row) l2 c2 k2
  have m_tree_in_row:=PySem.W.mg_of X G a2
  have F_next_tree:=fun_mk (st:=s_next_tree) l3 c3 k3
  have m_next_tree:=PySem.W.mg_of X G a3
  have F_joined_tree:=fun_mk (st:=s_joined_tree) l4 c4 k4
  have m_joined_tree:=PySem.W.mg_of X G a4
  have F_l_feed:=fun_mk (st:=s_l_feed) l5 c5 k5
  have m_l_feed:=PySem.W.mg_of X G a5
  have F_l_take:=fun_mk (st:=s_l_take) l6 c6 k6
  have m_l_take:=PySem.W.mg_of X G a6
  have F_l_names:=fun_mk (st:=s_l_names) l7 c7 k7
  have m_l_names:=PySem.W.mg_of X G a7
  have F_l_tree:=fun_mk (st:=s_l_tree) l8 c8 k8
  have m_l_tree:=PySem.W.mg_of X G a8
  have F_l_signs:=fun_mk (st:=s_l_signs) l9 c9 k9
  have m_l_signs:=PySem.W.mg_of X G a9
  have F_l_is_name:=fun_mk (st:=s_l_is_name) l10 c10 k10
  have m_l_is_name:=PySem.W.mg_of X G a10
  have F_l_text:=fun_mk (st:=s_l_text) l11 c11 k11
  have m_l_text:=PySem.W.mg_of X G a11
  have F_l_name_ends:=fun_mk (st:=s_l_name_ends) l12 c12 k12
  have m_l_name_ends:=PySem.W.mg_of X G a12
  have F_l_parse:=fun_mk (st:=s_l_parse) l13 c13 k13
  have m_l_parse:=PySem.W.mg_of X G a13
  have F_l_size:=fun_mk (st:=s_l_size) l14 c14 k14
  have m_l_size:=PySem.W.mg_of X G a14
  have F_l_tree_of:=fun_mk (st:=s_l_tree_of) l15 c15 k15
  have m_l_tree_of:=PySem.W.mg_of X G a15
  have F_l_changed:=fun_mk (st:=s_l_changed) l16 c16 k16
  have m_l_changed:=PySem.W.mg_of X G a16
  have F_l_wide:=fun_mk (st:=s_l_wide) l17 c17 k17
  have m_l_wide:=PySem.W.mg_of X G a17
  have F_l_drawn:=fun_mk (st:=s_l_drawn) l18 c18 k18
  have m_l_drawn:=PySem.W.mg_of X G a18
  have F_l_right:=fun_mk (st:=s_l_right) l19 c19 k19
  have m_l_right:=PySem.W.mg_of X G a19
  have F_law:=fun_mk (st:=s_law) l20 c20 k20
  have B:Bl mg:=⟨PySem.W.mg_none_of X G z0,PySem.W.mg_none_of X G z1,PySem.W.mg_none_of X G z2,PySem.W.mg_none_of X G z3,PySem.W.mg_none_of X G z4,PySem.W.mg_none_of X G z5,PySem.W.mg_none_of X G z6,PySem.W.mg_none_of X G z7,PySem.W.mg_none_of X G z8,PySem.W.mg_none_of X G z9,PySem.W.mg_none_of X G z10,PySem.W.mg_none_of X G z11⟩
  refine ⟨PySem.W.fnOf "law" "law" (defArgs s_law) (defBody s_law) (defScope s_law) .none kV20 dc20 pm20 an20 cd20 ct20,fun s v=>.of_eq rfl,fun base _ _=>?_⟩
  have xfc:=clsfc xfc0
  have hV:=PySem.W.mg_none_of X G hV0
  have F_A:=funD_mk (st:=s_AskError) xlk xcd xkp
  have K_A:AskC l.prog w K mg base CA gA _:=⟨PySem.W.mg_of X G gAs,⟨xga,xrd,xfc,xkp⟩,ok_AskError (P:=l.prog) (w:=w) (base:=base) F_A hV,fun s us KX hl=>match us,hl with | [_,_],_=>PySem.W.binds_K KX rfl xtp rfl rfl rfl⟩
  have L_0:ClsX K cc0 CA:=⟨⟨_,_,_,_,_,_,_,_,_,_,_,_,_,_,yo0⟩,ys0,ya0,yt0,yc0⟩
  have J_0:MkX K cc0 g0:=L_0.mk' yi0 ⟨_,yl0,rfl⟩ yq0
  have F_0:=funD_mk (st:=s_NoText) yl0 yk0 yp0
  have M_0:Mkr l.prog w K mg base cc0 "row" g0 _:=⟨J_0,ok_NoText (P:=l.prog) (w:=w) (base:=base) F_0 K_A J_0 L_0 yn0,.all fun us hl=>by obtain ⟨u0,u1,rfl⟩:=len2 hl; rfl,yn0⟩
  have GN:=PySem.W.mg_of X G yg0
  have T:STxt K mg C:=⟨⟨pg,hdi,pov,sat⟩,nX,nR,nW,nP,nL,nN,PySem.W.mg_of X G gg⟩
  have TX:Tx K mg:=⟨⟨t1,PySem.W.mg_of X G g1⟩,⟨t3,PySem.W.mg_of X G g3⟩,⟨ka,PySem.W.mg_of X G g5,fun _=>.inr ⟨_,kits,kn,g6,rfl,rfl,Nat.le_trans g7 (small (by decide)),g8⟩⟩,⟨t4,PySem.W.mg_of X G e1⟩,⟨t5,PySem.W.mg_of X G e2⟩,⟨t6,PySem.W.mg_of X G e3⟩,⟨ja,PySem.W.mg_of X G e5,fun _=>.inr ⟨_,jits,jn,e6,rfl,rfl,Nat.le_trans e7 (small (by decide)),e8⟩⟩⟩
  have F_gI:=fun_mk (st:=s_sinit) lI cI kI
  have b_gI:=F_gI.binds (ps:=["self", "text", "row", "most_within", "most_parts"]) fun _ _ _ _ _ _ us hl=>by obtain ⟨u0,u1,u2,u3,u4,rfl⟩:=len5 hl; rfl
  have F_gE:=fun_mk (st:=s_senter) lE cE kE
  have b_gE:=F_gE.binds (ps:=["self", "within"]) fun _ _ _ _ _ _ us hl=>by obtain ⟨u0,u1,rfl⟩:=len2 hl; rfl
  have F_gS:=fun_mk (st:=s_ssees) lS cS kS
  have b_gS:=F_gS.binds (ps:=["self", "signs"]) fun _ _ _ _ _ _ us hl=>by obtain ⟨u0,u1,rfl⟩:=len2 hl; rfl
  have F_gT:=fun_mk (st:=s_stake) lT cT kT
  have b_gT:=F_gT.binds (ps:=["self", "signs"]) fun _ _ _ _ _ _ us hl=>by obtain ⟨u0,u1,rfl⟩:=len2 hl; rfl
  have F_gW:=fun_mk (st:=s_sword) lW cW kW
  have b_gW:=F_gW.binds (ps:=["self"]) fun _ _ _ _ _ _ us hl=>by obtain ⟨u0,rfl⟩:=len1 hl; rfl
  have F_gF:=fun_mk (st:=s_sfinish) lF cF kF
  have b_gF:=F_gF.binds (ps:=["self"]) fun _ _ _ _ _ _ us hl=>by obtain ⟨u0,rfl⟩:=len1 hl; rfl
  have G_gI:=ok_sinit (P:=l.prog) (w:=w) (base:=base) F_gI T
  have G_gE:=ok_senter (P:=l.prog) (w:=w) (base:=base) F_gE T GN L_0 M_0
  have G_gS:=ok_ssees (P:=l.prog) (w:=w) (base:=base) F_gS T
  have G_gT:=ok_stake (P:=l.prog) (w:=w) (base:=base) F_gT B T GN L_0 M_0 ⟨aS,iS,kS⟩ G_gS b_gS
  have G_gW:=ok_sword (P:=l.prog) (w:=w) (base:=base) F_gW B TX T
  have G_gF:=ok_sfinish (P:=l.prog) (w:=w) (base:=base) F_gF B T GN L_0 M_0
  have M:MthsR l.prog w K mg base C cc0 gE gS gT gW gF _ _ _ _ _:=⟨⟨aE,iE,kE⟩,G_gE,b_gE,⟨aS,iS,kS⟩,G_gS,b_gS,⟨aT,iT,kT⟩,G_gT,b_gT,⟨aW,iW,kW⟩,G_gW,b_gW,⟨aF,iF,kF⟩,G_gF,b_gF⟩
  have C_l_feed:=Cal.of (P:=l.prog) (w:=w) (base:=base) F_l_feed (ok_l_feed F_l_feed B.len) m_l_feed (fun _ _ _ _ _ _ us hl=>by obtain ⟨u0,u1,rfl⟩:=len2 hl; rfl)
  have C_l_take:=Cal.of (P:=l.prog) (w:=w) (base:=base) F_l_take (ok_l_take F_l_take ) m_l_take (fun _ _ _ _ _ _ us hl=>by obtain ⟨u0,u1,rfl⟩:=len2 hl; rfl)
  have C_l_names:=Cal.of (P:=l.prog) (w:=w) (base:=base) F_l_names (ok_l_names F_l_names B.range C_l_take) m_l_names (fun _ _ _ _ _ _ us hl=>by obtain ⟨u0,u1,rfl⟩:=len2 hl; rfl)
  have C_l_tree:=Cal.of (P:=l.prog) (w:=w) (base:=base) F_l_tree (ok_l_tree F_l_tree B.len m_l_tree C_l_take 12) m_l_tree (fun _ _ _ _ _ _ us hl=>by obtain ⟨u0,u1,u2,u3,rfl⟩:=len4 hl; rfl)
  have C_is_name:=Cal.of (P:=l.prog) (w:=w) (base:=base) F_is_name (ok_is_name F_is_name B TX) m_is_name (fun _ _ _ _ _ _ us hl=>by obtain ⟨u0,rfl⟩:=len1 hl; rfl)
  have C_l_text:=Cal.of (P:=l.prog) (w:=w) (base:=base) F_l_text (ok_l_text F_l_text B m_l_text 12) m_l_text (fun _ _ _ _ _ _ us hl=>by obtain ⟨u0,rfl⟩:=len1 hl; rfl)
  have C_next_tree:=CalR.of (P:=l.prog) (w:=w) (base:=base) F_next_tree (ok_next_tree F_next_tree m_next_tree F_joined_tree m_joined_tree TX T GN L_0 M_0 M C_is_name 10) m_next_tree (fun _ _ _ _ _ _ us hl=>by obtain ⟨u0,u1,rfl⟩:=len2 hl; rfl)
  have C_tree_in_row:=CalR.of (P:=l.prog) (w:=w) (base:=base) F_tree_in_row (ok_tree_in_row F_tree_in_row TX T M ⟨mki,aI,iI,kcl⟩ G_gI b_gI C_next_tree) m_tree_in_row (fun _ _ _ _ _ _ us hl=>by obtain ⟨u0,u1,rfl⟩:=len2 hl; rfl)
  have C_read_tree:=CalR.of (P:=l.prog) (w:=w) (base:=base) F_read_tree (ok_read_tree F_read_tree C_tree_in_row) m_read_tree (fun _ _ _ _ _ _ us hl=>by obtain ⟨u0,rfl⟩:=len1 hl; rfl)
  have C_l_is_name:=Cal.of (P:=l.prog) (w:=w) (base:=base) F_l_is_name (ok_l_is_name F_l_is_name B) m_l_is_name (fun _ _ _ _ _ _ us hl=>by obtain ⟨u0,rfl⟩:=len1 hl; rfl)
  have C_l_name_ends:=Cal.of (P:=l.prog) (w:=w) (base:=base) F_l_name_ends (ok_l_name_ends F_l_name_ends B) m_l_name_ends (fun _ _ _ _ _ _ us hl=>by obtain ⟨u0,u1,rfl⟩:=len2 hl; rfl)
  have C_l_parse:=Cal.of (P:=l.prog) (w:=w) (base:=base) F_l_parse (ok_l_parse F_l_parse B m_l_parse C_l_is_name C_l_name_ends 10) m_l_parse (fun _ _ _ _ _ _ us hl=>by obtain ⟨u0,u1,u2,rfl⟩:=len3 hl; rfl)
  have C_l_size:=Cal.of (P:=l.prog) (w:=w) (base:=base) F_l_size (ok_l_size F_l_size B m_l_size 10) m_l_size (fun _ _ _ _ _ _ us hl=>by obtain ⟨u0,rfl⟩:=len1 hl; rfl)
  have C_l_tree_of:=Cal.of (P:=l.prog) (w:=w) (base:=base) F_l_tree_of (ok_l_tree_of F_l_tree_of B C_l_parse C_l_size) m_l_tree_of (fun _ _ _ _ _ _ us hl=>by obtain ⟨u0,rfl⟩:=len1 hl; rfl)
  have C_l_signs:=Cal.of (P:=l.prog) (w:=w) (base:=base) F_l_signs (ok_l_signs F_l_signs ) m_l_signs (fun _ _ _ _ _ _ us hl=>match us,hl with | [],_=>rfl)
  have C_l_wide:=Cal.of (P:=l.prog) (w:=w) (base:=base) F_l_wide (ok_l_wide F_l_wide B) m_l_wide (fun _ _ _ _ _ _ us hl=>by obtain ⟨u0,rfl⟩:=len1 hl; rfl)
  have C_l_changed:=Cal.of (P:=l.prog) (w:=w) (base:=base) F_l_changed (ok_l_changed F_l_changed B C_l_take C_l_signs) m_l_changed (fun _ _ _ _ _ _ us hl=>by obtain ⟨u0,u1,rfl⟩:=len2 hl; rfl)
  have C_l_drawn:=Cal.of (P:=l.prog) (w:=w) (base:=base) F_l_drawn (ok_l_drawn F_l_drawn B C_l_take C_l_wide C_l_changed C_l_text C_l_tree) m_l_drawn (fun _ _ _ _ _ _ us hl=>by obtain ⟨u0,u1,rfl⟩:=len2 hl; rfl)
  have C_l_right:=Cal.of (P:=l.prog) (w:=w) (base:=base) F_l_right (ok_l_right F_l_right B GN L_0 M_0 C_read_tree C_l_tree_of) m_l_right (fun _ _ _ _ _ _ us hl=>by obtain ⟨u0,rfl⟩:=len1 hl; rfl)
  exact ok_law F_law B C_l_feed C_l_take C_l_names C_l_drawn C_l_right
theorem walk {l:PySem.W.OpenLaw} {q:Program} {loose:List Str} {XP:(Str→Option Value)→Heap→Prop} {YP:World→Heap→Prop} {d:DefRec} {K:Params→PySem.W.Frag} (hn:l.most=some 63) (hdf:d.params.defaults=[])
    (hY:∀ (w:World) (h:Heap),YP w h→(K w.params).In h)
    (F:∀ (w:World) (mg:Str→Option Value) (fa:Addr) (h:Heap),(K w.params).In h→h.Ns mainGlobals mg→mg d.name=some (.ref fa) →
      ∃ fd:FuncData,(∀ (s:Shared) (u:Value),BindsTo s fd ⟨[u],[]⟩ [("_law_script", u)])∧∀ base:Heap,(K w.params).In base→base.Ns mainGlobals mg→FnOk l.prog w (K w.params) mg base CX0 30 fa fd ["_law_script"] (spLaw (K w.params))) :
    PySem.W.WalkO q loose XP YP l.row.toRowW d [] (fun f vs=>PySem.call f vs) :=
  L2.walk_of (n:=63) (k:=30) (x := "_law_script") (CX:=fun _=>CX0) (sp:=fun w=>spLaw (K w.params)) hn (by decide) hdf ⟨rfl,by decide,by decide⟩ hY F (fun _ _ a ns hl _ hS=>⟨a,ns,rfl,hS,hl,fun _=>rfl⟩) fun _ _ _ _ _ z=>z
end Mine
namespace PySem.W.Fast
def tw10685634612708996162:=()
def tw17515004593463199197:=()
def tw11312032473833327121:=()
def tw10852860298254188755:=()
def tw5488328172003741755:=()
def tw13609738209490669525:=()
def tw12664119781616988998:=()
def tw12436834147546475245:=()
def tw8574130377464131818:=()
def tw18069258215763490767:=()
def tw17195854886701340016:=()
def tw4332729687214294958:=()
def tw18216384729762677866:=()
def tw4260866969259716144:=()
def tw8871173346373771979:=()
def tw8904599206636945082:=()
def tw9455302160085805297:=()
def tw3426848416873316096:=()
def tw1730860008830543966:=()
def tw2896825149007082341:=()
def tw14268938244373847960:=()
def tw16412482524347281727:=()
def tw9380238573364956477:=()
def tw4727597838392387589:=()
def tw11598073370909652171:=()
def tw8070603032425967107:=()
def tw17822365631468933060:=()
def tw189089588949606420:=()
def tw6589654612211712936:=()
def tw17236566066467927806:=()
def tw5496396380037980834:=()
def tw13990884741516627538:=()
def tw2434889120455139826:=()
def tw13804096654903126985:=()
def tw9470249164683356623:=()
def tw8638607422651014939:=()
def tw13610092088108482268:=()
def tw3703940279029650682:=()
def tw14835808288503414693:=()
def tw7287501197054995348:=()
def tw1446054244267253779:=()
def tw11658698209245018669:=()
def tw809929192571863686:=()
def tw6999896251206837028:=()
def tw11845893643208706180:=()
def tw12800934647730046927:=()
def tw3464070684976743875:=()
def tw8445750649242093501:=()
def tw7588082008944297747:=()
def tw2893440220948327639:=()
def tw8471694403168809323:=()
def tw1714402253557898142:=()
def tw17498654870917315330:=()
def tw11685456006118938637:=()
def tw17297903193345187696:=()
def tw2998720714588623154:=()
def tw7357884919295239511:=()
def tw15635265103749704359:=()
def tw5915803553791303201:=()
def tw14915400014401642791:=()
def tw17436709407369628049:=()
def tw17834315602162947691:=()
def tw8898426322557366634:=()
def tw435823495543642660:=()
def tw194852208464624725:=()
def tw2672378585952020236:=()
def tw16647665548515779802:=()
def tw13100039955627126506:=()
def tw17977474287823294901:=()
def tw10654659758119134413:=()
def tw18363517881547010373:=()
def tw5357934907892558860:=()
def tw13578336511360676126:=()
def tw1975601288454512121:=()
def tw10642162063585557538:=()
def tw6166820479713826216:=()
def tw9188201959047732010:=()
def tw2627028211374219786:=()
def tw15461155512341531891:=()
def tw13230837112273853353:=()
def tw8396871233693084071:=()
def tw8987451332874829106:=()
def tw666633572900843890:=()
def tw12922190524281865375:=()
def tw17217013665255153276:=()
def tw1029380358146894426:=()
def tw12248986664450348384:=()
def tw9555217767525461145:=()
def tw14377945512789141195:=()
def tw1194209049685570326:=()
def tw8228649243858459149:=()
def tw2757487808558497674:=()
def tw16834767087929253287:=()
def tw4709144211134727480:=()
def tw13365967194425260498:=()
def tw15835736107329587881:=()
def tw4617365930168247839:=()
def tw14497929626131517659:=()
def tw2188105488244977926:=()
def tw11311068852476331970:=()
def tw9576145372906365364:=()
def tw1599135638168565371:=()
def tw7904911581545905110:=()
def tw11605126152737078180:=()
def tw17355168849442916743:=()
def tw10059721942994056208:=()
def tw1011332989903181995:=()
def tw5390287726058458727:=()
def tw12269732339623091849:=()
def tw6904575733607069444:=()
def tw15292996104007371602:=()
def tw11333067285409828719:=()
def tw4017513014294888851:=()
def tw2771044629700828968:=()
def tw5644951936723814038:=()
def tw17732990969680232930:=()
def tw8347844366818428572:=()
def tw3431503696379530168:=()
def tw15859751083956555704:=()
def tw1865042960205281194:=()
def tw17415600243291187606:=()
def tw12596319115179825423:=()
def tw3143540185894832945:=()
def tw1125747659061677652:=()
def tw3228122889135525099:=()
def tw2260182172273880961:=()
def tw1548068740421837474:=()
def tw2180055979070931636:=()
def tw486828530607168361:=()
def tw6169236956329715056:=()
def tw4584548189552292709:=()
def tw16454406361476978378:=()
def tw13542664359078199543:=()
def tw2951311439886844625:=()
def tw7126368573532382314:=()
def tw14083599654614255900:=()
def tw3857400008902692315:=()
def tw12120299701003721431:=()
def tw16940894083807693961:=()
def tw5025205509170864689:=()
def tw5159429690277424189:=()
def tw5056699600826221819:=()
def tw3675162366586205560:=()
def tw1342832546245247318:=()
def tw3621723746071175561:=()
def tw13350446542849219547:=()
def tw1596271307193263390:=()
def tw12039112833063762095:=()
def tw6653382237083387624:=()
def tw15930211620196891640:=()
def tw17434242190059358577:=()
def tw12009349404038479001:=()
def tw6597861658259279768:=()
def tw3876050176730642936:=()
def tw14678461476553822720:=()
def tw3627542996236155625:=()
def tw7701263486049608655:=()
def tw17001804171705624613:=()
def tw7128155548441449851:=()
def tw6656184308316562218:=()
def tw1556591247475335212:=()
def tw10230018978921536255:=()
def tw7792443795731983297:=()
def tw14811665781760969383:=()
def tw11275650289491780779:=()
def tw17937474157093220318:=()
def tw5245012531613578258:=()
def tw18272251116367278009:=()
def tw1008473030322841090:=()
def tw8809485585595209295:=()
def tw5147990869870301648:=()
def tw8127721236892755273:=()
def tw16687374924944900679:=()
def tw6048892343755121872:=()
def tw11702081847898278055:=()
def tw8156778330686716590:=()
def tw16658633099786329644:=()
def tw2016783758407397083:=()
def tw18170773564549815364:=()
def tw1423008966869732741:=()
def tw6984626457929471699:=()
def tw9909833267948280447:=()
def tw17639765496708643668:=()
def tw14274354384414924633:=()
def tw17334191194450738588:=()
def tw12456891172560900030:=()
def tw7569957806997172275:=()
def tw2871593972589331130:=()
def tw16658779573316667341:=()
def tw17286724207442471680:=()
def tw8808147944558518495:=()
def tw110486201241691669:=()
def tw8421639041304856241:=()
def tw10242913226422254732:=()
def tw9502066072498493764:=()
def tw4358674638942901754:=()
def tw14251071810723543663:=()
def tw1976212832322465399:=()
def tw10702623504166521188:=()
def tw13016715086282895947:=()
def tw13422580030162201304:=()
def tw2541367997254585609:=()
def tw18071180575179415971:=()
def tw13550025022745004787:=()
def tw11517226790361115163:=()
def tw1382545237917604639:=()
def tw14036382020551718060:=()
def tw17266762223492127240:=()
def tw15096919407173369278:=()
def tw8871739799092906721:=()
def tw7195882614008268947:=()
def tw12423747209845043761:=()
def tw17536230531383014399:=()
def tw16085386198939155059:=()
def tw10459500653007328404:=()
def tw2568576069602101700:=()
def tw4481354183111336030:=()
def tw3573712085481441951:=()
def tw7548964022519584792:=()
def tw12967799545073306622:=()
def tw14261403068283122692:=()
def tw9007812713000758505:=()
def tw8408310767433927433:=()
def tw12140352326774797592:=()
def tw16271758393128252078:=()
def tw2765656426748161686:=()
def tw14278958776534321674:=()
def tw5050118919951760426:=()
def tw11636773814703222316:=()
def tw10558505420137597005:=()
def tw16933871832505012523:=()
def tw6715196410442376049:=()
end PySem.W.Fast
open PySem PySem.W PyProof.Rows
set_option maxRecDepth 100000 in
set_option maxHeartbeats 0 in
theorem PySem.Challenge.cw_asktally_k03_texts_of_trees_holds : PySem.Challenge.rw_asktally_k03_texts_of_trees.Holds := by
  w_on; o_law; k_head; (case hw=>w_witness2)
  k_fill
  refine Mine.walk (l:=PySem.Challenge.rw_asktally_k03_texts_of_trees) rfl rfl (fun w h Y=>PySem.W.kIn_of Y) ?F
  case F =>
    intro w mg fa h KX G hmg
    refine' Mine.all_mk KX G hmg ?a0 ?l0 ?c0 ?k0 ?a1 ?l1 ?c1 ?k1 ?a2 ?l2 ?c2 ?k2 ?a3 ?l3 ?c3 ?k3 ?a4 ?l4 ?c4 ?k4 ?a5 ?l5 ?c5 ?k5 ?a6 ?l6 ?c6 ?k6 ?a7 ?l7 ?c7 ?k7 ?a8 ?l8 ?c8 ?k8 ?a9 ?l9 ?c9 ?k9 ?a10 ?l10 ?c10 ?k10 ?a11 ?l11 ?c11 ?k11 ?a12 ?l12 ?c12 ?k12 ?a13 ?l13 ?c13 ?k13 ?a14 ?l14 ?c14 ?k14 ?a15 ?l15 ?c15 ?k15 ?a16 ?l16 ?c16 ?k16 ?a17 ?l17 ?c17 ?k17 ?a18 ?l18 ?c18 ?k18 ?a19 ?l19 ?c19 ?k19 ?a20 ?l20 ?c20 ?k20 ?gAs ?iAs0 ?xga ?xrd ?xfc0 ?xlk ?xtp ?xcd ?xkp ?yg0 ?yo0 ?ys0 ?ya0 ?yt0 ?yc0 ?yi0 ?yl0 ?yk0 ?yp0 ?yq0 ?yn0 ?hV0 ?gg ?aI ?iI ?lI ?cI ?kI ?aE ?iE ?lE ?cE ?kE ?aS ?iS ?lS ?cS ?kS ?aT ?iT ?lT ?cT ?kT ?aW ?iW ?lW ?cW ?kW ?aF ?iF ?lF ?cF ?kF ?pg ?hdi ?pov ?sat ?mki ?kcl ?nX ?nR ?nW ?nP ?nL ?nN ?g1 ?g3 ?g5 ?g6 ?g7 ?g8 ?e1 ?e2 ?e3 ?e5 ?e6 ?e7 ?e8 ?z0 ?z1 ?z2 ?z3 ?z4 ?z5 ?z6 ?z7 ?z8 ?z9 ?z10 ?z11
    (case a0=>k_is); (case l0=>k_is); (case c0=>k_is); (case k0=>k_is)
    (case a1=>k_is); (case l1=>k_is); (case c1=>k_is); (case k1=>k_is)
    (case a2=>k_is); (case l2=>k_is); (case c2=>k_is); (case k2=>k_is)
    (case a3=>k_is); (case l3=>k_is); (case c3=>k_is); (case k3=>k_is)
    (case a4=>k_is); (case l4=>k_is); (case c4=>k_is); (case k4=>k_is)
    (case a5=>k_is); (case l5=>k_is); (case c5=>k_is); (case k5=>k_is)
    (case a6=>k_is); (case l6=>k_is); (case c6=>k_is); (case k6=>k_is)
    (case a7=>k_is); (case l7=>k_is); (case c7=>k_is); (case k7=>k_is)
    (case a8=>k_is); (case l8=>k_is); (case c8=>k_is); (case k8=>k_is)
    (case a9=>k_is); (case l9=>k_is); (case c9=>k_is); (case k9=>k_is)
    (case a10=>k_is); (case l10=>k_is); (case c10=>k_is); (case k10=>k_is)
    (case a11=>k_is); (case l11=>k_is); (case c11=>k_is); (case k11=>k_is)
    (case a12=>k_is); (case l12=>k_is); (case c12=>k_is); (case k12=>k_is)
    (case a13=>k_is); (case l13=>k_is); (case c13=>k_is); (case k13=>k_is)
    (case a14=>k_is); (case l14=>k_is); (case c14=>k_is); (case k14=>k_is)
    (case a15=>k_is); (case l15=>k_is); (case c15=>k_is); (case k15=>k_is)
    (case a16=>k_is); (case l16=>k_is); (case c16=>k_is); (case k16=>k_is)
    (case a17=>k_is); (case l17=>k_is); (case c17=>k_is); (case k17=>k_is)
    (case a18=>k_is); (case l18=>k_is); (case c18=>k_is); (case k18=>k_is)
    (case a19=>k_is); (case l19=>k_is); (case c19=>k_is); (case k19=>k_is)
    (case a20=>k_is); (case l20=>k_is); (case c20=>k_is); (case k20=>k_is)
    (case gAs=>k_is)
    (case iAs0=>k_is)
    (case xga=>k_is)
    (case xrd=>k_is)
    (case xfc0=>k_is)
    (case xlk=>k_is)
    (case xtp=>k_is)
    (case xcd=>k_is)
    (case xkp=>k_is)
    (case yg0=>k_is)
    (case yo0=>k_is)
    (case ys0=>k_is)
    (case ya0=>k_is)
    (case yt0=>k_is)
    (case yc0=>k_is)
    (case yi0=>k_is)
    (case yl0=>k_is)
    (case yk0=>k_is)
    (case yp0=>k_is)
    (case yq0=>k_is)
    (case yn0=>k_is)
    (case hV0=>k_is)
    (case gg=>k_is)
    (case aI=>k_is)
    (case iI=>k_is)
    (case lI=>k_is)
    (case cI=>k_is)
    (case kI=>k_is)
    (case aE=>k_is)
    (case iE=>k_is)
    (case lE=>k_is)
    (case cE=>k_is)
    (case kE=>k_is)
    (case aS=>k_is)
    (case iS=>k_is)
    (case lS=>k_is)
    (case cS=>k_is)
    (case kS=>k_is)
    (case aT=>k_is)
    (case iT=>k_is)
    (case lT=>k_is)
    (case cT=>k_is)
    (case kT=>k_is)
    (case aW=>k_is)
    (case iW=>k_is)
    (case lW=>k_is)
    (case cW=>k_is)
    (case kW=>k_is)
    (case aF=>k_is)
    (case iF=>k_is)
    (case lF=>k_is)
    (case cF=>k_is)
    (case kF=>k_is)
    (case pg=>k_is)
    (case hdi=>k_is)
    (case pov=>k_is)
    (case sat=>k_is)
    (case mki=>k_is)
    (case kcl=>k_is)
    (case nX=>k_is)
    (case nR=>k_is)
    (case nW=>k_is)
    (case nP=>k_is)
    (case nL=>k_is)
    (case nN=>k_is)
    (case g1=>k_is)
    (case g3=>k_is)
    (case g5=>k_is)
    (case g6=>k_is)
    (case g7=>decide)
    (case g8=>exact Mine.kept_vals)
    (case e1=>k_is)
    (case e2=>k_is)
    (case e3=>k_is)
    (case e5=>k_is)
    (case e6=>k_is)
    (case e7=>decide)
    (case e8=>exact Mine.join_vals)
    (case z0=>k_is)
    (case z1=>k_is)
    (case z2=>k_is)
    (case z3=>k_is)
    (case z4=>k_is)
    (case z5=>k_is)
    (case z6=>k_is)
    (case z7=>k_is)
    (case z8=>k_is)
    (case z9=>k_is)
    (case z10=>k_is)
    (case z11=>k_is)
