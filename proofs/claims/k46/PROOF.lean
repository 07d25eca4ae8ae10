import PyProof.Rows.All
import Wide.All
import OpenK.AllK
import Wide.FinOn
import Lean
import PyProof.EqAt
import PyProof.EqKinds
import PyProof.TupleCall
import PySem.Challenge.RW_asktally_k46_twins_of_doubters
set_option Elab.async false
set_option linter.all false
set_option maxRecDepth 100000
namespace L2
open PySem PySem.Spec PyProof.Rows
abbrev Key:=Sum Int Str
def keyIs:Key→Value→Bool
  | .inl k,v=>Value.isInt k v
  | .inr x,v=>Value.isStrOf x v
def keyH (w:World):Key→Int
  | .inl k=>hashInt k
  | .inr x=>hashStr w x
theorem keyIs_shape:∀ {k:Key} {v:Value},keyIs k v=true→(∃ i t,k=Sum.inl i∧v=Value.int i t)∨(∃ x t,k=Sum.inr x∧v=Value.str x t)
  | .inl i,v,h=>by
    obtain ⟨t,e⟩:=Value.isInt_shape (k:=i) (v:=v) h
    exact .inl ⟨i,t,rfl,e⟩
  | .inr x,v,h=>by
    obtain ⟨t,e⟩:=Value.isStrOf_shape (x:=x) (v:=v) h
    exact .inr ⟨x,t,rfl,e⟩
theorem key_ll (a b:Int):decide ((Sum.inl a:Key)=Sum.inl b)=(a == b):=by
  by_cases e:a=b
  · subst e; simp
  · have h:¬ (Sum.inl a:Key)=Sum.inl b:=fun q=>e (Sum.inl.inj q)
    rw [decide_eq_false h]
    exact (beq_eq_false_iff_ne.mpr e).symm
theorem key_rr (a b:Str):decide ((Sum.inr a:Key)=Sum.inr b)=decide (a=b):=by
  by_cases e:a=b
  · subst e; simp
  · have h:¬ (Sum.inr a:Key)=Sum.inr b:=fun q=>e (Sum.inr.inj q)
    rw [decide_eq_false h,decide_eq_false e]
theorem key_lr (a:Int) (b:Str):decide ((Sum.inl a:Key)=Sum.inr b)=false:=decide_eq_false (fun q=>nomatch q)
theorem key_rl (a:Str) (b:Int):decide ((Sum.inr a:Key)=Sum.inl b)=false:=decide_eq_false (fun q=>nomatch q)
def mixKind (prog:Program) (w:World):PySem.KeyKind prog w Key where
  is:=keyIs
  hash:=keyH w
  inj:=fun v a b ha hb=>by
    rcases keyIs_shape ha with ⟨i,t,rfl,rfl⟩ | ⟨x,t,rfl,rfl⟩
    · rcases keyIs_shape hb with ⟨j,u,rfl,e⟩ | ⟨y,u,rfl,e⟩
      · injection e with e1 _; rw [e1]
      · exact nomatch e
    · rcases keyIs_shape hb with ⟨j,u,rfl,e⟩ | ⟨y,u,rfl,e⟩
      · exact nomatch e
      · injection e with e1 _; rw [e1]
  byValue:=fun k v h=>by
    rcases keyIs_shape h with ⟨i,t,rfl,rfl⟩ | ⟨x,t,rfl,rfl⟩ <;> rfl
  pyHash:=fun hv h=>by
    rcases keyIs_shape hv with ⟨i,t,rfl,rfl⟩ | ⟨x,t,rfl,rfl⟩
    · exact wpAny_pyHash_int h
    · exact wpAny_pyHash_str h
  eqBool:=fun hu hv h=>by
    rcases keyIs_shape hu with ⟨i,t,rfl,rfl⟩ | ⟨x,t,rfl,rfl⟩
    · rcases keyIs_shape hv with ⟨j,u,rfl,rfl⟩ | ⟨y,u,rfl,rfl⟩
      · rw [key_ll] at h; exact wpAny_eqBool_int h
      · rw [key_lr] at h; exact SeqAt.EqAt.int_str i t y u _ _ _ _ h
    · rcases keyIs_shape hv with ⟨j,u,rfl,rfl⟩ | ⟨y,u,rfl,rfl⟩
      · rw [key_rl] at h; exact SeqAt.EqAt.str_int x t j u _ _ _ _ h
      · rw [key_rr] at h; exact wpAny_eqBool_str h
  «strs»:=fun k x t v h=>by
    rcases keyIs_shape h with ⟨i,u,rfl,e⟩ | ⟨y,u,rfl,e⟩
    · exact nomatch e
    · injection e with e1 _
      subst e1
      cases v <;> rfl
end L2
namespace L2
open PySem PySem.Spec PyProof.Rows
inductive V where
  | non | bl (b:Bool) | int (i:Int) | str (x:Str) | byt (b:Array UInt8) | flt (b:UInt64) | ref (a:Addr) | ty (n:String)
  deriving DecidableEq
def RelV:V→Value→Prop
  | .non,u=>u=Value.none
  | .bl b,u=>u=Value.bool b
  | .int i,u=>∃ t,u=Value.int i t
  | .str x,u=>∃ t,u=Value.str x t
  | .byt b,u=>∃ t,u=Value.bytes b t
  | .flt b,u=>∃ t,u=Value.float b t
  | .ref a,u=>u=Value.ref a
  | .ty n,u=>u=Value.type n
abbrev Vals:List V→List Value→Prop:=Paired RelV
theorem Vals.length {xs:List V} {us:List Value} (r:Vals xs us):xs.length=us.length:=Paired.length r
theorem Vals.get:∀ {xs:List V} {us:List Value} {i:Nat} {x:V},Vals xs us→xs[i]?=some x→∃ u,us[i]?=some u∧RelV x u
  | _,_,_,_,.nil,e=>by simp at e
  | _,_,0,_,.cons r _,e=>by simp at e; subst e; exact ⟨_,rfl,r⟩
  | _,_,i+1,x,.cons _ t,e=>by
    obtain ⟨u,h1,h2⟩:=Vals.get (i:=i) (x:=x) t (by simpa using e)
    exact ⟨u,by simpa using h1,h2⟩
theorem Vals.set {x:V} {u:Value} (r:RelV x u):∀ {xs:List V} {us:List Value} (i:Nat),Vals xs us→Vals (xs.set i x) (us.set i u)
  | _,_,_,.nil=>.nil
  | _,_,0,.cons _ t=>.cons r t
  | _,_,i+1,.cons q t=>.cons q (Vals.set r i t)
theorem Vals.append:∀ {xs ys:List V} {us ws:List Value},Vals xs us→Vals ys ws→Vals (xs++ys) (us++ws)
  | _,_,_,_,.nil,s=>s
  | _,_,_,_,.cons r t,s=>.cons r (Vals.append t s)
theorem Vals.take:∀ {xs:List V} {us:List Value} (n:Nat),Vals xs us→Vals (xs.take n) (us.take n)
  | _,_,0,_=>.nil
  | _,_,_+1,.nil=>.nil
  | _,_,n+1,.cons r t=>.cons r (Vals.take n t)
theorem Vals.drop:∀ {xs:List V} {us:List Value} (n:Nat),Vals xs us→Vals (xs.drop n) (us.drop n)
  | _,_,0,r=>r
  | _,_,_+1,.nil=>.nil
  | _,_,n+1,.cons _ t=>Vals.drop n t
def RelO:Option V→Option Value→Prop
  | some v,some u=>RelV v u
  | none,none=>True
  | _,_=>False
def KV {κ:Type}:List (κ × V)→List (κ × Value)→Prop:=Paired fun (p:κ × V) (q:κ × Value)=>p.1=q.1∧RelV p.2 q.2
def kV:Key→V
  | .inl i=>.int i
  | .inr x=>.str x
inductive HO where
    | lst (xs:List V)
    | tup (xs:List V)
    | dK (kvs:List (Key × V)) | dT (kvs:List (List Key × V))
    | set (S:Int→Bool) (n:Nat)
    | ins (C dx:Addr) (fs:List (Str × V))
    | own (x:Addr)
    | xd (fs:List (Str × V))
    | met (f x:Addr)
    | rng (lo hi:Int)
    | frz (o:Obj) (u:HO)
    | tbl (ps:Array Value)
    | ext (φ:Heap→Prop)
abbrev Hp:=Addr→Option HO
def upd (H:Hp) (a:Addr) (o:HO):Hp:=fun b=>if b=a then some o else H b
theorem upd_same {H:Hp} {a:Addr} {o:HO}:upd H a o a=some o:=by unfold upd; rw [if_pos rfl]
theorem upd_ne {H:Hp} {a b:Addr} {o:HO} (h:b ≠ a):upd H a o b=H b:=by unfold upd; rw [if_neg h]
theorem ne_of {H:Hp} {a b:Addr} {o u:HO} (h:H a=some o) (h':H b=some u) (d:o ≠ u):a ≠ b:=by
  intro e; subst e; rw [h] at h'; exact d (Option.some.inj h')
theorem ne_of_none {H:Hp} {a b:Addr} {o:HO} (h:H a=some o) (h':H b=none):a ≠ b:=by
  intro e; subst e; rw [h] at h'; cases h'
section
variable (P:Program) (w:World)
def ObjOk (H:Hp) (h:Heap) (a:Addr):HO→Prop
  | .lst xs=>xs.length≤sizeLine∧∃ (its:List Value) (n:Nat),Vals xs its∧h.get? a=some { cls:=.type "list", data:=.seq its.toArray n }
  | .tup xs=>xs.length≤sizeLine∧∃ its:List Value,Vals xs its∧IsTup h a its.toArray∧∃ o,h.get? a=some o∧o.dict=none
  | .dK kvs=>kvs.length≤sizeLine∧(a == sysModules)=false∧∃ vs,KV kvs vs∧h.DictOf (mixKind P w) a vs
  | .dT kvs=>kvs.length≤sizeLine∧(a == sysModules)=false∧∃ xs:List (List Key × Addr × Value),
      Paired (fun (p:List Key × V) (q:List Key × Addr × Value)=>p.1=q.1∧H q.2.1=some (.tup (p.1.map kV))∧RelV p.2 q.2.2) kvs xs ∧
      ∃ o es ep,h.get? a=some o∧o.ExactDict∧o.data=.dict es ep∧es.toList=xs.map (entryOfKey (tupleKind (mixKind P w)))∧(xs.map (·.1)).Nodup
  | .set S n=>h.SetOf (intKind P w) a S n
  | .ins C dx fs=>H dx=some (.own a)∧fs.length≤1000∧dx ≠ a∧h.get? a=some (PySem.W.instObj C dx) ∧
      ∃ mA,h.Ns1 dx mA∧(∀ f,RelO (fs.lookup f) (mA f))∧PySem.Within mA (fs.map (·.1))
  | .own _=>∃ o,h.get? a=some o
  | .xd fs=>∃ mA,h.Ns1 a mA∧∀ f,RelO (fs.lookup f) (mA f)
  | .rng lo hi=>∃ t u v,h.get? a=some { cls:=.type "range", data:=.fields #[.int lo t,.int hi u,.int 1 v] }
  | .frz o u=>h.get? a=some o∧ObjOk H h a u
  | .tbl ps=>h.get? a=some { cls:=.none,data:=.fields ps }
  | .met f x=>h.get? a=some (PySem.W.methodObj (.ref f) (.ref x))
  | .ext φ=>φ h∧(∃ o,h.get? a=some o)∧∀ h1 h2:Heap,φ h1→(∀ o,h1.get? a=some o→h2.get? a=some o)→φ h2
def HOk (H:Hp) (h:Heap):Prop:=∀ a o,H a=some o→ObjOk P w H h a o
end
section
variable {P:Program} {w:World} {H H':Hp} {h h':Heap} {a:Addr} {o:HO}
theorem ObjOk.lt (x:ObjOk P w H h a o):a < h.objs.size:=by
  cases o with
  | lst xs=>obtain ⟨_,_,_,_,e⟩:=x; exact Heap.lt_size e
  | tup xs=>obtain ⟨_,_,_,p,_⟩:=x; exact p.lt
  | dK kvs=>obtain ⟨_,_,_,_,o,_,_,e,_⟩:=x; exact Heap.lt_size e
  | dT kvs=>obtain ⟨_,_,_,_,o,_,_,e,_⟩:=x; exact Heap.lt_size e
  | set S n=>obtain ⟨o,_,_,_,e,_⟩:=x; exact Heap.lt_size e
  | ins C dx fs=>obtain ⟨_,_,_,e,_⟩:=x; exact Heap.lt_size e
  | own y=>obtain ⟨_,e⟩:=x; exact Heap.lt_size e
  | xd fs=>obtain ⟨_,⟨_,_,_,e,_⟩,_⟩:=x; exact Heap.lt_size e
  | rng lo hi=>obtain ⟨_,_,_,e⟩:=x; exact Heap.lt_size e
  | frz ob u=>obtain ⟨e,_⟩:=x; exact Heap.lt_size e
  | tbl ps=>exact Heap.lt_size (show h.get? a=some _ from x)
  | met f y=>exact Heap.lt_size (show h.get? a=some _ from x)
  | ext φ=>obtain ⟨_,⟨_,e⟩,_⟩:=x; exact Heap.lt_size e
theorem Paired.mapP {α β:Type} {F G:α→β→Prop}:∀ {l₁:List α} {l₂:List β},Paired F l₁ l₂→(∀ a b,F a b→G a b)→Paired G l₁ l₂
  | _,_,.nil,_=>.nil
  | _,_,.cons r t,f=>.cons (f _ _ r) (Paired.mapP t f)
theorem ObjOk.stay (x:ObjOk P w H h a o) (k:∀ b u,(b=a∨H b=some (.own a))→h.get? b=some u→h'.get? b=some u)
    (ho:∀ b,H b=some (.own a)→H' b=some (.own a)) (ht:∀ b xs,H b=some (.tup xs)→H' b=some (.tup xs)):ObjOk P w H' h' a o:=by
  induction o with
  | lst xs=>obtain ⟨z,its,n,r,e⟩:=x; exact ⟨z,its,n,r,k _ _ (.inl rfl) e⟩
  | tup xs=>obtain ⟨z,its,r,⟨ob,e,c⟩,od,e2,d⟩:=x; exact ⟨z,its,r,⟨ob,k _ _ (.inl rfl) e,c⟩,od,k _ _ (.inl rfl) e2,d⟩
  | dK kvs=>obtain ⟨z,y,vs,r,ob,es,ep,e,c⟩:=x; exact ⟨z,y,vs,r,ob,es,ep,k _ _ (.inl rfl) e,c⟩
  | dT kvs =>
    obtain ⟨z,y,xs,r,ob,es,ep,e,c⟩:=x
    exact ⟨z,y,xs,Paired.mapP r fun p q z=>⟨z.1,ht _ _ z.2.1,z.2.2⟩,ob,es,ep,k _ _ (.inl rfl) e,c⟩
  | set S n=>obtain ⟨ob,es,ep,t,e,c⟩:=x; exact ⟨ob,es,ep,t,k _ _ (.inl rfl) e,c⟩
  | ins C dx fs =>
    obtain ⟨d,z,ne,e,mA,⟨od,es,ep,e2,c⟩,r⟩:=x
    exact ⟨ho _ d,z,ne,k _ _ (.inl rfl) e,mA,⟨od,es,ep,k _ _ (.inr d) e2,c⟩,r⟩
  | own y=>obtain ⟨ob,e⟩:=x; exact ⟨ob,k _ _ (.inl rfl) e⟩
  | xd fs=>obtain ⟨mA,⟨od,es,ep,e,c⟩,r⟩:=x; exact ⟨mA,⟨od,es,ep,k _ _ (.inl rfl) e,c⟩,r⟩
  | rng lo hi=>obtain ⟨t,u,v,e⟩:=x; exact ⟨t,u,v,k _ _ (.inl rfl) e⟩
  | frz ob u ih=>obtain ⟨e,q⟩:=x; exact ⟨k _ _ (.inl rfl) e,ih q⟩
  | tbl ps =>
    have e:h.get? a=some { cls:=.none,data:=.fields ps }:=x
    show h'.get? a=some { cls:=.none,data:=.fields ps }
    exact k a _ (.inl rfl) e
  | met f y =>
    have e:h.get? a=some (PySem.W.methodObj (.ref f) (.ref y)):=x
    show h'.get? a=some (PySem.W.methodObj (.ref f) (.ref y))
    exact k a _ (.inl rfl) e
  | ext φ=>obtain ⟨p,⟨o,e⟩,st⟩:=x; exact ⟨st _ _ p fun o q=>k _ _ (.inl rfl) q,⟨o,k _ _ (.inl rfl) e⟩,st⟩
theorem HOk.lt (x:HOk P w H h) (e:H a=some o):a < h.objs.size:=(x a o e).lt
theorem HOk.fresh (x:HOk P w H h) (e:h.objs.size≤a):H a=none:=by
  cases q:H a with
  | none=>rfl
  | some u=>exact absurd (Nat.lt_of_lt_of_le (x.lt q) e) (Nat.lt_irrefl _)
theorem HOk.kept (x:HOk P w H h) (k:∀ b u,h.get? b=some u→h'.get? b=some u):HOk P w H h':=fun a o e =>
  (x a o e).stay (fun b u _ q=>k b u q) (fun _ q=>q) fun _ _ q=>q
theorem HOk.laid (x:HOk P w H h) (k:∀ b u,h.get? b=some u→h'.get? b=some u) (hp:h.objs.size≤a) (new:ObjOk P w (upd H a o) h' a o):HOk P w (upd H a o) h':=fun b u e=>by
  have hn:=x.fresh hp
  by_cases hb:b=a
  · subst hb; rw [upd_same] at e; cases e; exact new
  · rw [upd_ne hb] at e
    exact (x b u e).stay (fun c v _ q=>k c v q) (fun c q=>by rw [upd_ne (ne_of_none q hn)]; exact q) fun c xs q=>by rw [upd_ne (ne_of_none q hn)]; exact q
end
def Rd (H:Hp) (a:Addr) (u:HO):Prop:=H a=some u∨∃ o,H a=some (.frz o u)
theorem Rd.ok {P:Program} {w:World} {H:Hp} {h:Heap} {a:Addr} {u:HO} (r:Rd H a u) (x:HOk P w H h):ObjOk P w H h a u:=by
  rcases r with r | ⟨o,r⟩
  · exact x a u r
  · obtain ⟨_,q⟩:=x a _ r
    exact q
def Mut:Option HO→Prop
  | some (.lst _)=>True
  | some (.dK _)=>True
  | some (.dT _)=>True
  | some (.set _ _)=>True
  | some (.ins _ _ _)=>True
  | some (.ext _)=>True
  | _=>False
section
variable {P:Program} {w:World} {H:Hp} {h h':Heap} {x e:Addr} {o':HO}
theorem HOk.write (ok:HOk P w H h) (mu:Mut (H x)) (he:e=x∨H e=some (.own x)) (k:∀ b u,b ≠ e→h.get? b=some u→h'.get? b=some u) (heo:∃ u,h'.get? e=some u)
    (new:ObjOk P w (upd H x o') h' x o'):HOk P w (upd H x o') h':=fun b u q=>by
  have nown:∀ c y,H c=some (.own y)→c ≠ x:=fun c y r z=>by subst z; rw [r] at mu; exact mu
  have ntup:∀ c xs,H c=some (.tup xs)→c ≠ x:=fun c xs r z=>by subst z; rw [r] at mu; exact mu
  by_cases hb:b=x
  · subst hb; rw [upd_same] at q; cases q; exact new
  · rw [upd_ne hb] at q
    by_cases hbe:b=e
    · have q':H b=some (.own x):=by
        rcases he with z | z
        · exact absurd (hbe.trans z) hb
        · rw [hbe]; exact z
      rw [q] at q'; cases q'
      obtain ⟨v,hv⟩:=heo
      exact ⟨v,by rw [hbe]; exact hv⟩
    · refine (ok b u q).stay (fun c v hc r=>k c v ?_ r) (fun c r=>by rw [upd_ne (nown c b r)]; exact r) fun c xs r=>by rw [upd_ne (ntup c xs r)]; exact r
      rcases hc with rfl | hc
      · exact hbe
      · rintro rfl
        rcases he with z | z
        · exact nown c b hc z
        · rw [hc] at z; cases z; exact hb rfl
end
structure Un (fs ex:List Addr) (H H':Hp) (h h':Heap):Prop where
  keep:∀ b o,h.get? b=some o→H b=none→b ∉ fs→b ∉ ex→h'.get? b=some o
  slot:∀ b o,h.get? b=some o→H b=none→b ∈ fs→b ∉ ex→∃ sl,h'.get? b=some { o with slots:=sl }
  free:∀ b o,h.get? b=some o→H b=none→b ∉ ex→H' b=none
  there:∀ b o,h.get? b=some o→b ∉ ex→∃ o',h'.get? b=some o'
  tups:∀ b xs,H b=some (.tup xs)→H' b=some (.tup xs)
  frzs:∀ b o u,H b=some (.frz o u)→H' b=some (.frz o u)
  tbls:∀ b ps,H b=some (.tbl ps)→∃ more,H' b=some (.tbl (ps++more))
section
variable {fs fs' ex ex':List Addr} {H H1 H2:Hp} {h h1 h2 h':Heap} {a x e:Addr} {o:HO}
theorem Un.any (u:Un fs ex H H1 h h1) {b:Addr} {ob:Obj} (q:h.get? b=some ob) (n:H b=none) (hx:b ∉ ex):∃ sl,h1.get? b=some { ob with slots:=sl }:=by
  by_cases hb:b ∈ fs
  · exact u.slot b ob q n hb hx
  · exact ⟨ob.slots,u.keep b ob q n hb hx⟩
theorem Un.trans (a:Un fs ex H H1 h h1) (b:Un fs ex H1 H2 h1 h2):Un fs ex H H2 h h2 where
  keep:=fun c ob q n hc hx=>b.keep c ob (a.keep c ob q n hc hx) (a.free c ob q n hx) hc hx
  slot:=fun c ob q n hc hx=>by
    obtain ⟨sl,e1⟩:=a.slot c ob q n hc hx
    obtain ⟨sl',e2⟩:=b.slot c _ e1 (a.free c ob q n hx) hc hx
    exact ⟨sl',e2⟩
  free:=fun c ob q n hx=>by
    obtain ⟨o',e1⟩:=a.there c ob q hx
    exact b.free c o' e1 (a.free c ob q n hx) hx
  there:=fun c ob q hx=>by
    obtain ⟨o',e1⟩:=a.there c ob q hx
    exact b.there c o' e1 hx
  tups:=fun c xs q=>b.tups c xs (a.tups c xs q)
  frzs:=fun c ob xs q=>b.frzs c ob xs (a.frzs c ob xs q)
  tbls:=fun c ps q=>by
    obtain ⟨m1,e1⟩:=a.tbls c ps q
    obtain ⟨m2,e2⟩:=b.tbls c _ e1
    exact ⟨m1++m2,by rw [e2,Array.append_assoc]⟩
theorem Un.kept (k:∀ b u,h.get? b=some u→h'.get? b=some u):Un fs ex H H h h' :=
  ⟨fun b ob q _ _ _=>k b ob q,fun b ob q _ _ _=>⟨ob.slots,k b ob q⟩,fun _ _ _ n _=>n,fun b ob q _=>⟨ob,k b ob q⟩,fun _ _ q=>q,fun _ _ _ q=>q,fun _ ps q=>⟨#[],by rw [q]; simp⟩⟩
theorem Un.refl:Un fs ex H H h h:=Un.kept fun _ _ q=>q
theorem Un.laid (k:∀ b u,h.get? b=some u→h'.get? b=some u) (hp:h.objs.size≤a) (hn:H a=none):Un fs ex H (upd H a o) h h' where
  keep:=fun b u q _ _ _=>k b u q
  slot:=fun b u q _ _ _=>⟨u.slots,k b u q⟩
  free:=fun b u q n _=>by rw [upd_ne (Nat.ne_of_lt (Nat.lt_of_lt_of_le (Heap.lt_size q) hp))]; exact n
  there:=fun b u q _=>⟨u,k b u q⟩
  tups:=fun b xs q=>by rw [upd_ne (ne_of_none q hn)]; exact q
  frzs:=fun b u xs q=>by rw [upd_ne (ne_of_none q hn)]; exact q
  tbls:=fun b ps q=>⟨#[],by rw [upd_ne (ne_of_none q hn),q]; simp⟩
theorem Un.write (mu:Mut (H x)) (he:e=x∨H e=some (.own x)) (k:∀ b u,b ≠ e→h.get? b=some u→h'.get? b=some u) (heo:∃ u,h'.get? e=some u):Un fs ex H (upd H x o) h h':=by
  have hx:∀ b,H b=none→b ≠ x:=fun b n z=>by subst z; rw [n] at mu; exact mu
  have hb:∀ b,H b=none→b ≠ e:=fun b n z=>by
    subst z
    rcases he with r | r
    · exact hx b n r
    · rw [n] at r; cases r
  have hm:∀ b u,H b=some u→¬ Mut (some u)→b ≠ x:=fun b u q nm z=>by subst z; rw [q] at mu; exact nm mu
  refine ⟨fun b u q n _ _=>k b u (hb b n) q,fun b u q n _ _=>⟨u.slots,k b u (hb b n) q⟩,fun b u q n _=>by rw [upd_ne (hx b n)]; exact n,fun b u q _=>?_,
    fun b xs q=>by rw [upd_ne (hm b _ q fun z=>z)]; exact q,fun b u xs q=>by rw [upd_ne (hm b _ q fun z=>z)]; exact q,fun b ps q=>⟨#[],by rw [upd_ne (hm b _ q fun z=>z),q]; simp⟩⟩
  by_cases hbe:b=e
  · subst hbe; exact heo
  · exact ⟨u,k b u hbe q⟩
theorem Un.mono (u:Un fs ex H H1 h h1) (hs:∀ b ∈ fs,b ∈ fs') (hx:∀ b ∈ ex,b ∈ ex'):Un fs' ex' H H1 h h1 :=
  ⟨fun b ob q n hb he=>u.keep b ob q n (fun z=>hb (hs b z)) fun z=>he (hx b z),fun _ _ q n _ he=>u.any q n fun z=>he (hx _ z),fun b ob q n he=>u.free b ob q n fun z=>he (hx b z),fun b ob q he=>u.there b ob q fun z=>he (hx b z),u.tups,u.frzs,u.tbls⟩
end
def trk (h:Heap) (H:Hp):List Addr:=(List.range h.objs.size).filter fun a=>(H a).isSome
def hidT (h:Heap) (H:Hp):Heap:=PySem.W.hideAll h (trk h H)
theorem hidT_size (h:Heap) (H:Hp):(hidT h H).objs.size=h.objs.size:=PySem.W.hideAll_size _ _
theorem hidT_get {h:Heap} {H:Hp} {b:Addr} {o:Obj} (e:h.get? b=some o) (n:H b=none):(hidT h H).get? b=some o :=
  PySem.W.hideAll_get _ e fun hm=>by
    have q:(H b).isSome=true:=(List.mem_filter.mp hm).2
    rw [n] at q; simp at q
theorem of_hidT {h:Heap} {H:Hp} {b:Addr} {o:Obj} (e:(hidT h H).get? b=some o):h.get? b=some o∧H b=none:=by
  have e':h.get? b=some o:=PySem.W.of_hideAll (trk h H) e
  refine ⟨e',?_⟩
  cases q:H b with
  | none=>rfl
  | some x =>
    have hm:b ∈ trk h H:=List.mem_filter.mpr ⟨List.mem_range.mpr (Heap.lt_size e'),by simp [q]⟩
    have z:(hidT h H).get? b=none:=PySem.W.hideAll_none (trk h H) hm
    rw [z] at e; cases e
def allNews (g h:Heap) (L:Addr):List (Addr × Obj):=(List.range h.objs.size).filterMap fun a=>if a=L∨(g.get? a).isSome=true then none else (h.get? a).map fun o=>(a,o)
def rest (g h:Heap) (L d:Addr):List (Addr × Obj):=(allNews g h L).filter fun p=>decide (p.1 ≠ d)
end L2
namespace L2
open PySem PySem.Spec PyProof.Rows
structure Mod (K:PySem.W.Frag) (mg:Str→Option Value) (base:Heap):Prop where
  kin:K.In base
  glob:base.Ns mainGlobals mg
  blt:∃ mb,base.Ns builtinsNs mb∧∀ x:Str,x ≠ "__name__" → mb x=bootBuiltins x
  nolimit:base.NoLimit
structure Cx where
  prog:Program
  w:World
  K:PySem.W.Frag
  mg:Str→Option Value
  base:Heap
  A:Around
  N:List Str
  s₀:Shared
  H₀:Hp
  env:Env
  outer:List Env
  stack:List Env
  ex:List Addr
  fn:Str→Bool
  calm:Bool
  pn:List (Addr × Obj)
  xe:Value→Shared→Prop
def frs (l:List Env):List Addr:=l.filterMap (·.frame)
abbrev Cx.fs (X:Cx):List Addr:=frs X.outer
def Vis (sc:Scope) (x:Str):Prop:=sc.names.lookup x=some .local∨sc.names.lookup x=some .cell∨sc.names.lookup x=some .free
def Loc (sc:Scope) (x:Str):Prop:=sc.names.lookup x=some .local∨sc.names.lookup x=some .cell
def Look (env:Env) (h:Heap) (m:Str→Option Value) (x:Str) (u:Value):Prop :=
  (env.kindOf x=some .local∧m x=some u)∨((env.kindOf x=some .cell∨env.kindOf x=some .free)∧∃ c,env.cells.lookup x=some c∧h.IsCell c (some u))
structure Cx.Ok (X:Cx):Prop where
  mod:Mod X.K X.mg X.base
  kind:X.env.scope.kind=.function
  glob:X.env.globals=mainGlobals
  blt:X.env.builtins=builtinsNs
  above:X.s₀.heap.objs.size≤X.env.locals
  inj:∀ x y c,X.env.cells.lookup x=some c→X.env.cells.lookup y=some c→x=y
  has:∀ x,(X.env.kindOf x=some .cell∨X.env.kindOf x=some .free)→∃ c,X.env.cells.lookup x=some c
  cab:∀ x c,X.fn x=true→X.env.cells.lookup x=some c→X.s₀.heap.objs.size≤c
  hd:X.calm=true→X.A.handled=none
  frames:X.A.frames=some X.stack
  stk:X.stack=X.outer∨(X.stack=X.env::X.outer∧X.env.frame=some X.env.locals)
  exf:∀ b ∈ X.ex,b ≠ X.env.locals∧∀ x c,X.env.cells.lookup x=some c→c ≠ b
  bs:∀ b o,X.base.get? b=some o→X.s₀.heap.get? b=some o∧X.H₀ b=none
  bsz:X.base.objs.size≤X.s₀.heap.objs.size
  noex:∀ b o,X.base.get? b=some o→b ∉ X.ex
  exfs:∀ b ∈ X.ex,b ∉ X.fs
  funs:X.s₀.heap.FunFrames X.base X.outer
  frf:∀ b ∈ X.fs,X.H₀ b=none
structure Inv (X:Cx) (pins:List (Addr × Obj)) (σ:List (Option V)) (H:Hp) (s:Shared):Prop where
  ok:X.Ok
  os:s.os=X.s₀.os
  bare:AllBare s.gens
  base:Un X.fs X.ex X.H₀ H X.s₀.heap s.heap
  loc:∃ m,s.heap.Ns X.env.locals m∧∀ (i:Nat) (x:Str) (v:V),X.N[i]?=some x→σ[i]?=some (some v)→Vis X.env.scope x→∃ u,RelV v u∧Look X.env s.heap m x u
  cell:∀ x c,X.env.cells.lookup x=some c→∃ v,s.heap.IsCell c v
  free:H X.env.locals=none
  freeC:∀ x c,X.env.cells.lookup x=some c→H c=none
  pin:∀ p ∈ X.pn++pins,s.heap.get? p.1=some p.2∧H p.1=none∧p.1 ≠ X.env.locals∧p.1 ∉ X.fs∧∀ v,p.2.data ≠ .cell v
  hok:HOk X.prog X.w H s.heap
  len:σ.length=X.N.length
section
variable {X:Cx} {pins:List (Addr × Obj)} {σ:List (Option V)} {H H':Hp} {s:Shared} {h':Heap}
theorem Cx.Ok.nofr (ok:X.Ok) {b:Addr} {o:Obj} (e:X.base.get? b=some o):b ∉ X.fs:=fun hb=>by
  have:=(ok.funs.mem hb).1
  rw [e] at this; cases this
theorem Inv.bs (I:Inv X pins σ H s):∀ b o,X.base.get? b=some o→s.heap.get? b=some o∧H b=none:=fun b o e =>
  ⟨I.base.keep b o (I.ok.bs b o e).1 (I.ok.bs b o e).2 (I.ok.nofr e) (I.ok.noex b o e),I.base.free b o (I.ok.bs b o e).1 (I.ok.bs b o e).2 (I.ok.noex b o e)⟩
theorem Inv.bk (I:Inv X pins σ H s):∀ b o,X.base.get? b=some o→s.heap.get? b=some o:=fun b o e=>(I.bs b o e).1
theorem Inv.mod (I:Inv X pins σ H s):Mod X.K X.mg X.base:=I.ok.mod
theorem Inv.kIn (I:Inv X pins σ H s):X.K.In s.heap:=I.ok.mod.kin.keeps I.bk
theorem Inv.lt (I:Inv X pins σ H s):X.env.locals < s.heap.objs.size:=let ⟨_,hn,_⟩:=I.loc; hn.lt
theorem Inv.sz (I:Inv X pins σ H s):X.s₀.heap.objs.size≤s.heap.objs.size:=Nat.le_trans I.ok.above (Nat.le_of_lt I.lt)
theorem Inv.nofs (I:Inv X pins σ H s) {a:Addr} (h:s.heap.objs.size≤a):a ∉ X.fs:=fun hb=>by
  obtain ⟨_,o,ho,_⟩:=I.ok.funs.mem hb
  exact absurd (Nat.lt_of_lt_of_le (Heap.lt_size ho) (Nat.le_trans I.sz h)) (Nat.lt_irrefl _)
theorem Inv.cne (I:Inv X pins σ H s):∀ x c,X.env.cells.lookup x=some c→c ≠ X.env.locals:=fun x c e z=>by
  obtain ⟨v,o,ho,hd⟩:=I.cell x c e
  obtain ⟨m,⟨o',es,ep,ho',hd',_⟩,_⟩:=I.loc
  rw [z,ho'] at ho; cases ho; rw [hd'] at hd; cases hd
theorem Inv.funs (I:Inv X pins σ H s):s.heap.FunFrames X.base X.outer:=by
  have all:∀ (l:List Env),(∀ b ∈ frs l,b ∈ X.fs)→X.s₀.heap.FunFrames X.base l→s.heap.FunFrames X.base l:=by
    intro l
    induction l with
    | nil=>intro _ _; trivial
    | cons env r ih =>
      intro hs hl
      obtain ⟨hk,⟨L,o,hf,hn,ho,hd⟩,hr⟩:=hl
      have hL:L ∈ X.fs:=hs L (by unfold frs; rw [List.filterMap_cons,hf]; exact List.mem_cons_self)
      obtain ⟨sl,e⟩:=I.base.slot L o ho (I.ok.frf L hL) hL fun z=>I.ok.exfs L z hL
      exact ⟨hk,⟨L,_,hf,hn,e,hd⟩,ih (fun b hb=>hs b (by unfold frs; rw [List.filterMap_cons,hf]; exact List.mem_cons_of_mem _ hb)) hr⟩
  exact all X.outer (fun _ hb=>hb) I.ok.funs
theorem Inv.stack (I:Inv X pins σ H s):s.heap.FunFrames X.base X.stack:=by
  rcases I.ok.stk with e | ⟨e,hf⟩
  · rw [e]; exact I.funs
  · rw [e]
    obtain ⟨m,hn,_⟩:=I.loc
    refine .cons (by rw [I.ok.kind]; decide) hf hn ?_ I.funs
    exact Heap.get?_none_of_le (Nat.le_trans I.ok.bsz I.ok.above)
theorem Inv.stkSub (I:Inv X pins σ H s):∀ b ∈ frs X.stack,b ∈ X.env.locals::X.fs:=fun b hb=>by
  rcases I.ok.stk with e | ⟨e,hf⟩
  · rw [e] at hb; exact List.mem_cons_of_mem _ hb
  · rw [e] at hb
    unfold frs at hb
    rw [List.filterMap_cons,hf] at hb
    exact hb
theorem Inv.stkFree (I:Inv X pins σ H s):∀ b ∈ frs X.stack,H b=none:=fun b hb=>by
  rcases List.mem_cons.mp (I.stkSub b hb) with e | hb
  · rw [e]; exact I.free
  · obtain ⟨_,o,ho,_⟩:=I.ok.funs.mem hb
    exact I.base.free b o ho (I.ok.frf b hb) fun z=>I.ok.exfs b z hb
theorem Inv.step {g':Array GenState} {t':Nat} {d':Drawn} {ch:List Addr} (I:Inv X pins σ H s)
    (hch:∀ b ∈ ch,(b ∈ X.ex∨X.s₀.heap.objs.size≤b)∧b ≠ X.env.locals∧(∀ x c,X.env.cells.lookup x=some c→c ≠ b)∧∀ p ∈ X.pn++pins,p.1 ≠ b)
    (keep:∀ b o,b ≠ X.env.locals→b ∉ X.fs→b ∉ ch→s.heap.get? b=some o→H b=none→h'.get? b=some o)
    (slot:∀ b o,b ≠ X.env.locals→b ∈ X.fs→b ∉ ch→s.heap.get? b=some o→H b=none→∃ sl,h'.get? b=some { o with slots:=sl }) (free:∀ b o,b ∉ ch→s.heap.get? b=some o→H b=none→H' b=none)
    (there:∀ b o,b ∉ ch→s.heap.get? b=some o→∃ o',h'.get? b=some o')
    (tups:∀ b xs,H b=some (.tup xs)→H' b=some (.tup xs)) (frzs:∀ b o u,H b=some (.frz o u)→H' b=some (.frz o u)) (tbls:∀ b ps,H b=some (.tbl ps)→∃ more,H' b=some (.tbl (ps++more)))
    (ns:∀ m,s.heap.Ns X.env.locals m→h'.Ns X.env.locals m) (hok:HOk X.prog X.w H' h') (hg:AllBare g') :
    Inv X pins σ H' { s with heap:=h',gens:=g',drawn:=d',toks:=t' }:=by
  have neL:∀ b o,X.s₀.heap.get? b=some o→b ≠ X.env.locals:=fun b o e=>Nat.ne_of_lt (Nat.lt_of_lt_of_le (Heap.lt_size e) I.ok.above)
  have neC:∀ b o,X.s₀.heap.get? b=some o→b ∉ X.ex→b ∉ ch:=fun b o e hx hb=>by
    rcases (hch b hb).1 with z | z
    · exact hx z
    · exact absurd (Nat.lt_of_lt_of_le (Heap.lt_size e) z) (Nat.lt_irrefl _)
  have cellK:∀ x c,X.env.cells.lookup x=some c→∀ v,s.heap.IsCell c v→h'.IsCell c v:=fun x c e v ⟨o,ho,hd⟩=>by
    have nch:c ∉ ch:=fun z=>(hch c z).2.2.1 x c e rfl
    by_cases hc:c ∈ X.fs
    · obtain ⟨sl,q⟩:=slot c o (I.cne x c e) hc nch ho (I.freeC x c e)
      exact ⟨_,q,hd⟩
    · exact ⟨o,keep c o (I.cne x c e) hc nch ho (I.freeC x c e),hd⟩
  refine ⟨I.ok,I.os,hg,⟨fun b o e n hb hx=>?_,fun b o e n hb hx=>?_,fun b o e n hx=>?_,fun b o e hx=>?_,fun b xs e=>tups b xs (I.base.tups b xs e),fun b o xs e=>frzs b o xs (I.base.frzs b o xs e),fun b ps e=>?_⟩,?_,fun x c e=>?_,?_,fun x c e=>?_,fun p hp=>?_,hok,I.len⟩
  · exact keep b o (neL b o e) hb (neC b o e hx) (I.base.keep b o e n hb hx) (I.base.free b o e n hx)
  · obtain ⟨sl,e1⟩:=I.base.slot b o e n hb hx
    obtain ⟨sl',e2⟩:=slot b _ (neL b o e) hb (neC b o e hx) e1 (I.base.free b o e n hx)
    exact ⟨sl',e2⟩
  · obtain ⟨o',e1⟩:=I.base.there b o e hx
    exact free b o' (neC b o e hx) e1 (I.base.free b o e n hx)
  · obtain ⟨o',e1⟩:=I.base.there b o e hx
    exact there b o' (neC b o e hx) e1
  · obtain ⟨m1,e1⟩:=I.base.tbls b ps e
    obtain ⟨m2,e2⟩:=tbls b _ e1
    exact ⟨m1++m2,by rw [e2,Array.append_assoc]⟩
  · obtain ⟨m,hn,hl⟩:=I.loc
    refine ⟨m,ns m hn,fun i x v e1 e2 e3=>?_⟩
    obtain ⟨u,r,l⟩:=hl i x v e1 e2 e3
    refine ⟨u,r,?_⟩
    rcases l with l | ⟨k,c,e,z⟩
    · exact .inl l
    · exact .inr ⟨k,c,e,cellK x c e _ z⟩
  · obtain ⟨v,z⟩:=I.cell x c e
    exact ⟨v,cellK x c e v z⟩
  · obtain ⟨m,⟨o,_,_,ho,_⟩,_⟩:=I.loc
    exact free _ o (fun z=>(hch _ z).2.1 rfl) ho I.free
  · obtain ⟨v,o,ho,hd⟩:=I.cell x c e
    exact free c o (fun z=>(hch c z).2.2.1 x c e rfl) ho (I.freeC x c e)
  · obtain ⟨e,n,ne,nf,d⟩:=I.pin p hp
    have nch:p.1 ∉ ch:=fun z=>(hch p.1 z).2.2.2 p hp rfl
    exact ⟨keep p.1 p.2 ne nf nch e n,free p.1 p.2 nch e n,ne,nf,d⟩
theorem Inv.un {t':Nat} (I:Inv X pins σ H s) (u:Un X.fs [] H H' s.heap h') (hok:HOk X.prog X.w H' h'):Inv X pins σ H' { s with heap:=h',toks:=t' }:=by
  obtain ⟨m,⟨o,es,ep,ho,r⟩,_⟩:=id I.loc
  obtain ⟨sl,hL⟩:=u.any ho I.free (by simp)
  exact I.step (g':=s.gens) (d':=s.drawn) (ch:=[]) (fun _ z=>nomatch z) (fun b o _ hb _ e n=>u.keep b o e n hb (by simp)) (fun b o _ hb _ e n=>u.slot b o e n hb (by simp)) (fun b o _ e n=>u.free b o e n (by simp)) (fun b o _ e=>u.there b o e (by simp)) u.tups u.frzs u.tbls (fun m' hm=>by
    obtain ⟨o',es',ep',ho',r'⟩:=hm
    rw [ho] at ho'; cases ho'
    exact ⟨_,es',ep',hL,r'⟩) hok I.bare
theorem Inv.call {g':Array GenState} {t':Nat} {d':Drawn} {ch:List Addr} (I:Inv X pins σ H s) (u:Un (frs X.stack) ch H H' s.heap h') (hok:HOk X.prog X.w H' h') (hg:AllBare g')
    (hch:∀ b ∈ ch,(b ∈ X.ex∨X.s₀.heap.objs.size≤b)∧b ≠ X.env.locals∧(∀ x c,X.env.cells.lookup x=some c→c ≠ b)∧∀ p ∈ X.pn++pins,p.1 ≠ b) :
    Inv X pins σ H' { s with heap:=h',gens:=g',drawn:=d',toks:=t' }:=by
  obtain ⟨m,⟨o,es,ep,ho,r⟩,_⟩:=id I.loc
  obtain ⟨sl,hL⟩:=u.any ho I.free fun z=>(hch _ z).2.1 rfl
  exact I.step (ch:=ch) hch (fun b o hL hb hc e n=>u.keep b o e n (fun z=>(List.mem_cons.mp (I.stkSub b z)).elim hL hb) hc) (fun b o _ _ hc e n=>u.any e n hc) (fun b o hc e n=>u.free b o e n hc) (fun b o hc e=>u.there b o e hc) u.tups u.frzs u.tbls (fun m' hm=>by
    obtain ⟨o',es',ep',ho',r'⟩:=hm
    rw [ho] at ho'; cases ho'
    exact ⟨_,es',ep',hL,r'⟩) hok hg
theorem Inv.turned {t':Nat} {it:Addr} (I:Inv X pins σ H s) (k:∀ b o,b ≠ it→s.heap.get? b=some o→h'.get? b=some o) (hn:H it=none) (hL:it ≠ X.env.locals)
    (h1:it ∈ X.ex∨X.s₀.heap.objs.size≤it) (h2:∀ x c,X.env.cells.lookup x=some c→c ≠ it) (h3:∀ p ∈ X.pn++pins,p.1 ≠ it):Inv X pins σ H { s with heap:=h',toks:=t' }:=by
  have nit:∀ b u,H b=some u→b ≠ it:=fun b u e z=>by rw [z,hn] at e; cases e
  refine I.step (g':=s.gens) (d':=s.drawn) (ch:=[it]) (fun b hb=>?_) (fun b o _ _ hc e _=>k b o (fun z=>hc (by simp [z])) e) (fun b o _ _ hc e _=>⟨o.slots,k b o (fun z=>hc (by simp [z])) e⟩) (fun _ _ _ _ n=>n)
    (fun b o hc e=>⟨o,k b o (fun z=>hc (by simp [z])) e⟩) (fun _ _ e=>e) (fun _ _ _ e=>e) (fun b ps e=>⟨#[],by rw [e]; simp⟩) (fun m hm=>?_) (fun b u e=>?_) I.bare
  · have e:b=it:=by simpa using hb
    subst e
    exact ⟨h1,hL,h2,h3⟩
  · obtain ⟨o,es,ep,ho,r⟩:=hm
    exact ⟨o,es,ep,k _ o (Ne.symm hL) ho,r⟩
  · refine (I.hok b u e).stay (fun c v hc q=>k c v ?_ q) (fun _ q=>q) fun _ _ q=>q
    rcases hc with z | z
    · rw [z]; exact nit b u e
    · exact nit c _ z
theorem Inv.tok (I:Inv X pins σ H s) (t:Nat):Inv X pins σ H { s with toks:=t }:=I.un (h':=s.heap) (t':=t) Un.refl I.hok
theorem Inv.kept {t':Nat} (I:Inv X pins σ H s) (k:∀ b u,s.heap.get? b=some u→h'.get? b=some u):Inv X pins σ H { s with heap:=h',toks:=t' }:=I.un (Un.kept k) (I.hok.kept k)
theorem Inv.laid {a:Addr} {o:HO} {t':Nat} (I:Inv X pins σ H s) (k:∀ b u,s.heap.get? b=some u→h'.get? b=some u) (hp:s.heap.objs.size≤a) (new:ObjOk X.prog X.w (upd H a o) h' a o) :
    Inv X pins σ (upd H a o) { s with heap:=h',toks:=t' }:=I.un (Un.laid k hp (I.hok.fresh hp)) (I.hok.laid k hp new)
theorem Inv.write {x e:Addr} {o:HO} {t':Nat} (I:Inv X pins σ H s) (mu:Mut (H x)) (he:e=x∨H e=some (.own x)) (k:∀ b u,b ≠ e→s.heap.get? b=some u→h'.get? b=some u) (heo:∃ u,h'.get? e=some u)
    (new:ObjOk X.prog X.w (upd H x o) h' x o):Inv X pins σ (upd H x o) { s with heap:=h',toks:=t' }:=I.un (Un.write mu he k heo) (I.hok.write mu he k heo new)
theorem Inv.pins_of {pins':List (Addr × Obj)} (I:Inv X pins σ H s) (h:∀ p ∈ pins',s.heap.get? p.1=some p.2∧H p.1=none∧p.1 ≠ X.env.locals∧p.1 ∉ X.fs∧∀ v,p.2.data ≠ .cell v):Inv X pins' σ H s :=
  ⟨I.ok,I.os,I.bare,I.base,I.loc,I.cell,I.free,I.freeC,fun p hp=>(List.mem_append.mp hp).elim (fun z=>I.pin p (List.mem_append_left _ z)) (h p),I.hok,I.len⟩
theorem nodup_ix {N:List Str} (hN:N.Nodup) {i j:Nat} {x:Str} (a:N[i]?=some x) (b:N[j]?=some x):i=j:=by
  obtain ⟨h1,e1⟩:=List.getElem?_eq_some_iff.mp a
  obtain ⟨h2,e2⟩:=List.getElem?_eq_some_iff.mp b
  exact (List.getElem_inj hN).mp (e1.trans e2.symm)
theorem store_ok2 {M:Model} {A:Around} {E:Value→Shared→Prop} {i:Nat} {x:Str} {v:V} {u:Value} {Q:Unit→Shared→Prop} (I:Inv X pins σ H s) (hN:X.N.Nodup) (hi:X.N[i]?=some x) (hx:Loc X.env.scope x) (r:RelV v u)
    (h:∀ s',Inv X pins (σ.set i (some v)) H s'→(∃ a,Heap.SameBut a s.heap s'.heap∧(a=X.env.locals∨X.env.cells.lookup x=some a))→Q () s') (hf:X.fn x=true∨X.env.scope.names.lookup x=some .local:=by first | exact .inl rfl | exact .inr rfl | assumption):wpAny M A (storeName X.env x u) Q E s:=by
  obtain ⟨m,hn,hl⟩:=id I.loc
  have hcls:(X.env.scope.kind == .class || (X.env.scope.kind == .module && X.env.locals != X.env.globals))=false:=by rw [I.ok.kind]; rfl
  have hiσ:i < σ.length:=by rw [I.len]; exact (List.getElem?_eq_some_iff.mp hi).1
  have cne:=I.cne
  have tracked:∀ {a:Addr} {h':Heap},(∃ o,s.heap.get? a=some o∧H a=none)→Heap.SameBut a s.heap h'→HOk X.prog X.w H h':=fun {a h'} ha hs b ob e=>by
    obtain ⟨_,_,hfree⟩:=ha
    refine (I.hok b ob e).stay (fun c w' hc q=>(hs.2 c ?_).trans q) (fun _ q=>q) fun _ _ q=>q
    rintro rfl
    rcases hc with rfl | hc
    · rw [hfree] at e; cases e
    · rw [hfree] at hc; cases hc
  rcases hx with hk | hk
  · refine wpAny_storeName_local hk hn (fun h' hn' hs=>?_) hcls
    obtain ⟨oL,_,_,hoL,_⟩:=id hn
    refine h _ ⟨I.ok,I.os,I.bare,⟨fun b o e n hb hx=>?_,fun b o e n hb hx=>?_,I.base.free,fun b o e hx=>?_,I.base.tups,I.base.frzs,I.base.tbls⟩,⟨_,hn',fun j y v' e1 e2 e3=>?_⟩,fun y c e=>?_,I.free,I.freeC,fun p hp=>?_,tracked ⟨oL,hoL,I.free⟩ hs,by simpa using I.len⟩ ⟨_,hs,.inl rfl⟩
    · exact (hs.2 b (Nat.ne_of_lt (Nat.lt_of_lt_of_le (Heap.lt_size e) I.ok.above))).trans (I.base.keep b o e n hb hx)
    · obtain ⟨sl,e1⟩:=I.base.slot b o e n hb hx
      exact ⟨sl,(hs.2 b (Nat.ne_of_lt (Nat.lt_of_lt_of_le (Heap.lt_size e) I.ok.above))).trans e1⟩
    · obtain ⟨o',e1⟩:=I.base.there b o e hx
      exact ⟨o',(hs.2 b (Nat.ne_of_lt (Nat.lt_of_lt_of_le (Heap.lt_size e) I.ok.above))).trans e1⟩
    · by_cases hj:j=i
      · subst hj
        rw [hi] at e1; cases e1
        rw [List.getElem?_set_self hiσ] at e2
        cases e2
        exact ⟨u,r,.inl ⟨hk,by simp⟩⟩
      · rw [List.getElem?_set_ne (Ne.symm hj)] at e2
        obtain ⟨u',r',q⟩:=hl j y v' e1 e2 e3
        refine ⟨u',r',?_⟩
        rcases q with ⟨k,e⟩ | ⟨k,c,e,z⟩
        · refine .inl ⟨k,?_⟩
          have:y ≠ x:=fun e=>hj (nodup_ix hN e1 (e ▸ hi))
          simp [this,e]
        · exact .inr ⟨k,c,e,z.sameBut hs (cne y c e)⟩
    · obtain ⟨w',z⟩:=I.cell y c e
      exact ⟨w',z.sameBut hs (cne y c e)⟩
    · obtain ⟨e,n,ne,nf,d⟩:=I.pin p hp
      exact ⟨(hs.2 p.1 ne).trans e,n,ne,nf,d⟩
  · have hfn:X.fn x=true:=by
      rcases hf with z | z
      · exact z
      · rw [z] at hk; cases hk
    obtain ⟨c,hc⟩:=I.ok.has x (.inl hk)
    obtain ⟨w',z⟩:=I.cell x c hc
    refine wpAny_storeName_cell I.ok.kind hk hc z (fun h' hc' hs=>?_)
    obtain ⟨oc,hoc,hocd⟩:=id z
    refine h { s with heap:=h' } ⟨I.ok,I.os,I.bare,⟨fun b o e n hb hx=>?_,fun b o e n hb hx=>?_,I.base.free,fun b o e hx=>?_,I.base.tups,I.base.frzs,I.base.tbls⟩,⟨m,hn.sameBut hs (Ne.symm (cne x c hc)),fun j y v' e1 e2 e3=>?_⟩,fun y c' e=>?_,I.free,I.freeC,fun p hp=>?_,tracked ⟨oc,hoc,I.freeC x c hc⟩ hs,by simpa using I.len⟩ ⟨c,hs,.inr hc⟩
    · exact (hs.2 b (Nat.ne_of_lt (Nat.lt_of_lt_of_le (Heap.lt_size e) (I.ok.cab x c hfn hc)))).trans (I.base.keep b o e n hb hx)
    · obtain ⟨sl,e1⟩:=I.base.slot b o e n hb hx
      exact ⟨sl,(hs.2 b (Nat.ne_of_lt (Nat.lt_of_lt_of_le (Heap.lt_size e) (I.ok.cab x c hfn hc)))).trans e1⟩
    · obtain ⟨o',e1⟩:=I.base.there b o e hx
      exact ⟨o',(hs.2 b (Nat.ne_of_lt (Nat.lt_of_lt_of_le (Heap.lt_size e) (I.ok.cab x c hfn hc)))).trans e1⟩
    · by_cases hj:j=i
      · subst hj
        rw [hi] at e1; cases e1
        rw [List.getElem?_set_self hiσ] at e2
        cases e2
        exact ⟨u,r,.inr ⟨.inl hk,c,hc,hc'⟩⟩
      · rw [List.getElem?_set_ne (Ne.symm hj)] at e2
        obtain ⟨u',r',q⟩:=hl j y v' e1 e2 e3
        refine ⟨u',r',?_⟩
        rcases q with q | ⟨k,c',e,z'⟩
        · exact .inl q
        · refine .inr ⟨k,c',e,z'.sameBut hs ?_⟩
          rintro rfl
          exact hj (nodup_ix hN e1 (I.ok.inj _ _ _ e hc ▸ hi))
    · by_cases hcc:c'=c
      · subst hcc; exact ⟨_,hc'⟩
      · obtain ⟨w2,z2⟩:=I.cell y c' e
        exact ⟨w2,z2.sameBut hs hcc⟩
    · obtain ⟨e,n,ne,nf,d⟩:=I.pin p hp
      refine ⟨(hs.2 p.1 ?_).trans e,n,ne,nf,d⟩
      intro q
      rw [q,hoc] at e
      have q':oc=p.2:=Option.some.inj e
      exact d w' (by rw [← q']; exact hocd)
theorem store_ok {M:Model} {A:Around} {E:Value→Shared→Prop} {i:Nat} {x:Str} {v:V} {u:Value} {Q:Unit→Shared→Prop} (I:Inv X pins σ H s) (hN:X.N.Nodup) (hi:X.N[i]?=some x) (hx:Loc X.env.scope x) (r:RelV v u)
    (h:∀ s',Inv X pins (σ.set i (some v)) H s'→Q () s') (hf:X.fn x=true∨X.env.scope.names.lookup x=some .local:=by first | exact .inl rfl | exact .inr rfl | assumption):wpAny M A (storeName X.env x u) Q E s :=
  store_ok2 I hN hi hx r (fun s' I' _=>h s' I') hf
theorem Inv.call' {s':Shared} {ch:List Addr} (I:Inv X pins σ H s) (ho:s'.os=s.os) (u:Un (frs X.stack) ch H H' s.heap s'.heap) (hok:HOk X.prog X.w H' s'.heap) (hg:AllBare s'.gens)
    (hch:∀ b ∈ ch,(b ∈ X.ex∨X.s₀.heap.objs.size≤b)∧b ≠ X.env.locals∧(∀ x c,X.env.cells.lookup x=some c→c ≠ b)∧∀ p ∈ X.pn++pins,p.1 ≠ b):Inv X pins σ H' s':=by
  obtain ⟨h',g',d',t',o'⟩:=s'
  have e:o'=s.os:=ho
  subst e
  exact I.call (g':=g') (t':=t') (d':=d') u hok hg hch
end
abbrev XK:=Value→Option Addr→Hp→Prop
abbrev St:=List (Option V)
abbrev VK:=V→Hp→Prop
abbrev TE:=St→Hp→VK→Prop
abbrev TT:=St→Hp→(Bool→Hp→Prop)→Prop
abbrev TA:=St→Hp→(List V→Hp→Prop)→Prop
structure Ends where
  nx:St→Hp→Prop
  rt:VK
  bk:St→Hp→Prop:=fun _ _=>False
  ct:St→Hp→Prop:=fun _ _=>False
abbrev TS:=Ends→St→Hp→Prop
def EP (X:Cx) (pins:List (Addr × Obj)) (σ:St) (Q:VK) (u:Value) (s':Shared):Prop:=∃ v H',Inv X pins σ H' s'∧RelV v u∧Q v H'
def TP (X:Cx) (pins:List (Addr × Obj)) (σ:St) (Q:Bool→Hp→Prop) (b:Bool) (s':Shared):Prop:=∃ H',Inv X pins σ H' s'∧Q b H'
def AP (X:Cx) (pins:List (Addr × Obj)) (σ:St) (Q:List V→Hp→Prop) (us:List Value) (s':Shared):Prop:=∃ vs H',Inv X pins σ H' s'∧Vals vs us∧Q vs H'
def SP (X:Cx) (pins:List (Addr × Obj)) (D:Ends) (f:Flow) (s':Shared):Prop :=
  match f with
  | .next=>∃ σ' H',Inv X pins σ' H' s'∧D.nx σ' H'
  | .brk=>∃ σ' H',Inv X pins σ' H' s'∧D.bk σ' H'
  | .cont=>∃ σ' H',Inv X pins σ' H' s'∧D.ct σ' H'
  | .ret u=>∃ v σ' H',Inv X pins σ' H' s'∧RelV v u∧D.rt v H'
def PE (X:Cx) (e:Expr) (t:TE):Prop :=
  ∀ (pins:List (Addr × Obj)) (s:Shared) (σ:St) (H:Hp) (Q:VK),Inv X pins σ H s→t σ H Q→wpAny (model X.prog X.w) X.A (eval e X.env) (EP X pins σ Q) X.xe s
def PT (X:Cx) (e:Expr) (t:TT):Prop :=
  ∀ (pins:List (Addr × Obj)) (s:Shared) (σ:St) (H:Hp) (Q:Bool→Hp→Prop),Inv X pins σ H s→t σ H Q→wpAny (model X.prog X.w) X.A (isTrue e X.env (eval e X.env)) (TP X pins σ Q) X.xe s
def PW (X:Cx) (e:Expr) (t:TT):Prop :=
  ∀ (whole:Sem Value) (pins:List (Addr × Obj)) (s:Shared) (σ:St) (H:Hp) (Q:Bool→Hp→Prop),Inv X pins σ H s→t σ H Q→wpAny (model X.prog X.w) X.A (isTrue e X.env whole) (TP X pins σ Q) X.xe s
theorem PW.pt {X:Cx} {e:Expr} {t:TT} (h:PW X e t):PT X e t:=h _
def PA (X:Cx) (es:List Expr) (t:TA):Prop :=
  ∀ (pos:Pos) (pins:List (Addr × Obj)) (s:Shared) (σ:St) (H:Hp) (Q:List V→Hp→Prop),Inv X pins σ H s→t σ H Q→wpAny (model X.prog X.w) X.A (spliced (backTo pos (starEach es X.env))) (AP X pins σ Q) X.xe s
def PS (X:Cx) (st:Stmt) (t:TS):Prop :=
  ∀ (pins:List (Addr × Obj)) (s:Shared) (σ:St) (H:Hp) (D:Ends),Inv X pins σ H s→t D σ H→wpAny (model X.prog X.w) X.A (exec st X.env) (SP X pins D) X.xe s
def PSs (X:Cx) (st:List Stmt) (t:TS):Prop :=
  ∀ (pins:List (Addr × Obj)) (s:Shared) (σ:St) (H:Hp) (D:Ends),Inv X pins σ H s→t D σ H→wpAny (model X.prog X.w) X.A (execs st X.env) (SP X pins D) X.xe s
theorem thn {α:Type} {t:Sem α} {Q Q':α→Shared→Prop} {M:Model} {A:Around} {E:Value→Shared→Prop} {s:Shared} (h:wpAny M A t Q E s) (hQ:∀ a s,Q a s→Q' a s):wpAny M A t Q' E s:=wpAny_mono h hQ fun _ _ x=>x
end L2
namespace L2
open PySem PySem.Spec PyProof.Rows
section
variable {X:Cx}
def tVar (i:Nat):TE:=fun σ H Q=>∃ v,σ[i]?=some (some v)∧Q v H
def tC (v:V):TE:=fun _ H Q=>Q v H
theorem pe_var {i:Nat} {x:Str} {pos:Pos} (hN:X.N[i]?=some x) (hv:Vis X.env.scope x) (hd:(x == ("__debug__" : Str))=false:=by decide) (hcd:(x == ("__classdict__" : Str))=false:=by decide):PE X (.Name x pos) (tVar i):=by
  intro pins s σ H Q I h
  obtain ⟨v,e,h⟩:=h
  obtain ⟨m,hn,hl⟩:=I.loc
  obtain ⟨u,r,l⟩:=hl i x v hN e hv
  have fin:EP X pins σ Q u s:=⟨v,H,I,r,h⟩
  rcases l with ⟨hk,hm⟩ | ⟨hk,c,hc,hcell⟩
  · exact wpAny_Name (wpAny_loadName_local I.ok.kind hk hn hm fin) hd
  · rcases hk with hk | hk
    · exact wpAny_Name (wpAny_loadName_cell I.ok.kind hk hc hcell fin) hd
    · exact wpAny_Name (wpAny_loadName_free I.ok.kind hk hc hcell fin hcd) hd
theorem pe_int {i j pos}:PE X (.Constant (.int i) j pos) (tC (.int i)):=fun _ _ _ H _ I h=>wpAny_Constant_int ⟨.int i,H,I.tok _,⟨_,rfl⟩,h⟩
theorem pe_bl {b j pos}:PE X (.Constant (.bool b) j pos) (tC (.bl b)):=fun _ _ _ H _ I h=>Constant_bool ⟨.bl b,H,I,rfl,h⟩
theorem pe_str {x j pos}:PE X (.Constant (.str x) j pos) (tC (.str x)):=fun _ _ _ H _ I h=>Calls.Constant_str ⟨.str x,H,I.tok _,⟨_,rfl⟩,h⟩
def Gl (X:Cx) (x:Str):Prop:=X.env.kindOf x=some .globalImplicit
theorem ld_glob {E:Value→Shared→Prop} {pins:List (Addr × Obj)} {s:Shared} {σ:St} {H:Hp} {x:Str} {u:Value} {pos:Pos} {Q:Value→Shared→Prop} (I:Inv X pins σ H s) (hg:Gl X x) (hm:X.mg x=some u) (h:Q u s)
    (hd:(x == ("__debug__" : Str))=false:=by decide):wpAny (model X.prog X.w) X.A (eval (.Name x pos) X.env) Q E s :=
  Calls.Name_function_global I.ok.kind hg (Calls.loadGlobal_global (by rw [I.ok.glob]; exact I.mod.glob.keeps I.bk) hm h) hd
theorem ld_blt {E:Value→Shared→Prop} {pins:List (Addr × Obj)} {s:Shared} {σ:St} {H:Hp} {x:Str} {u:Value} {pos:Pos} {Q:Value→Shared→Prop} (I:Inv X pins σ H s) (hg:Gl X x) (hm:X.mg x=none) (hv:bootBuiltins x=some u) (h:Q u s)
    (hn:x ≠ "__name__" := by decide) (hd:(x == ("__debug__" : Str))=false:=by decide):wpAny (model X.prog X.w) X.A (eval (.Name x pos) X.env) Q E s:=by
  obtain ⟨mb,h1,h2⟩:=I.mod.blt
  exact Calls.Name_function_global I.ok.kind hg (Calls.loadGlobal_builtin (by rw [I.ok.glob]; exact I.mod.glob.keeps I.bk) hm (by rw [I.ok.blt]; exact h1.keeps I.bk) ((h2 x hn).trans hv) h) hd
theorem pe_glob {x:Str} {v:V} {u:Value} {pos:Pos} (hg:Gl X x) (hm:X.mg x=some u) (r:RelV v u) (hd:(x == ("__debug__" : Str))=false:=by decide):PE X (.Name x pos) (tC v) :=
  fun _ _ _ H _ I h=>ld_glob I hg hm ⟨v,H,I,r,h⟩ hd
theorem pe_bltn {x:Str} {v:V} {u:Value} {pos:Pos} (hg:Gl X x) (hm:X.mg x=none) (hv:bootBuiltins x=some u) (r:RelV v u) (hn:x ≠ "__name__" := by decide) (hd:(x == ("__debug__" : Str))=false:=by decide):PE X (.Name x pos) (tC v) :=
  fun _ _ _ H _ I h=>ld_blt I hg hm hv ⟨v,H,I,r,h⟩ hn hd
def t2I (ta tb:TE) (k:Int→Int→Hp→Prop):St→Hp→Prop:=fun σ H=>ta σ H fun x H1=>tb σ H1 fun y H2=>∃ i j,x=.int i∧y=.int j∧k i j H2
def tAdd (ta tb:TE):TE:=fun σ H Q=>t2I ta tb (fun i j H2=>Q (.int (i+j)) H2) σ H
def tSub (ta tb:TE):TE:=fun σ H Q=>t2I ta tb (fun i j H2=>Q (.int (i - j)) H2) σ H
def tMul (ta tb:TE):TE:=fun σ H Q=>t2I ta tb (fun i j H2=>(-(2 ^ 64) < i∧i < 2 ^ 64)∧Q (.int (i*j)) H2) σ H
variable {a b:Expr} {ta tb:TE} {pos:Pos}
def PC (X:Cx) (op:CmpOp) (a b:Expr) (t:TE):Prop :=
  ∀ (pins:List (Addr × Obj)) (s:Shared) (σ:St) (H:Hp) (Q:VK),Inv X pins σ H s→t σ H Q →
    wpAny (model X.prog X.w) X.A (eval a X.env) (fun v s₁=>wpAny (model X.prog X.w) X.A (eval b X.env) (fun u s₂=>wpAny (model X.prog X.w) X.A (compareOp op v u) (EP X pins σ Q) X.xe s₂) X.xe s₁) X.xe s
def tCmp (p:Int→Int→Bool) (ta tb:TE):TE:=fun σ H Q=>t2I ta tb (fun i j H2=>Q (.bl (p i j)) H2) σ H
abbrev tLt:TE→TE→TE:=tCmp fun i j=>decide (i < j)
abbrev tLe:TE→TE→TE:=tCmp fun i j=>decide (i≤j)
abbrev tGt:TE→TE→TE:=tCmp fun i j=>decide (j < i)
abbrev tGe:TE→TE→TE:=tCmp fun i j=>decide (j≤i)
abbrev tEqI:TE→TE→TE:=tCmp fun i j=>decide (i=j)
abbrev tNeI:TE→TE→TE:=tCmp fun i j=>!decide (i=j)
def tIsN (ta:TE):TE:=fun σ H Q=>ta σ H fun x H1=>Q (.bl (decide (x=.non))) H1
def tNotN (ta:TE):TE:=fun σ H Q=>ta σ H fun x H1=>Q (.bl (!decide (x=.non))) H1
def tB (t:TE):TT:=fun σ H Q=>t σ H fun x H1=>∃ c,x=.bl c∧Q c H1
theorem pt_val {e:Expr} {t:TE} (h:PE X e t) (he:∀ whole,isTrue e X.env whole=(do let v ← whole; standAt e.pos; holding [v] (truthy v)):=by intro _; rfl):PT X e (tB t):=by
  intro pins s σ H Q I hw
  refine isTrue_plain (thn (h pins s σ H _ I hw) fun v s1 ⟨x,H1,I1,r1,q1⟩=>?_) (he _)
  obtain ⟨d,rfl,q⟩:=q1
  cases r1
  exact wpAny_truthy_bool ⟨H1,I1,q⟩
variable {tA tB':TT} {rest:List Expr}
def tAnd (t u:TT):TT:=fun σ H Q=>t σ H fun c H1=>if c=true then u σ H1 Q else Q false H1
def tOr (t u:TT):TT:=fun σ H Q=>t σ H fun c H1=>if c=true then Q true H1 else u σ H1 Q
def tNot (t:TT):TT:=fun σ H Q=>t σ H fun c H1=>Q (!c) H1
theorem pw_and1 (ha:PT X a tA):PW X (.BoolOp .And [a] pos) tA:=by
  intro wh pins s σ H Q I h
  refine isTrue_and (thn (ha pins s σ H Q I h) fun c s1 e=>?_)
  cases c with
  | true=>exact isTrue_and_nil e
  | false=>exact e
theorem pw_or1 (ha:PT X a tA):PW X (.BoolOp .Or [a] pos) tA:=by
  intro wh pins s σ H Q I h
  refine isTrue_or (thn (ha pins s σ H Q I h) fun c s1 e=>?_)
  cases c with
  | false=>exact isTrue_or_nil e
  | true=>exact e
theorem pw_and (ha:PT X a tA) (hb:PW X (.BoolOp .And (b::rest) pos) tB'):PW X (.BoolOp .And (a::b::rest) pos) (tAnd tA tB'):=by
  intro wh pins s σ H Q I h
  refine isTrue_and (thn (ha pins s σ H _ I h) fun c s1 ⟨H1,I1,q1⟩=>?_)
  cases c with
  | true=>exact hb wh pins s1 σ H1 Q I1 q1
  | false=>exact ⟨H1,I1,q1⟩
theorem pw_or (ha:PT X a tA) (hb:PW X (.BoolOp .Or (b::rest) pos) tB'):PW X (.BoolOp .Or (a::b::rest) pos) (tOr tA tB'):=by
  intro wh pins s σ H Q I h
  refine isTrue_or (thn (ha pins s σ H _ I h) fun c s1 ⟨H1,I1,q1⟩=>?_)
  cases c with
  | true=>exact ⟨H1,I1,q1⟩
  | false=>exact hb wh pins s1 σ H1 Q I1 q1
theorem pt_not (ha:PT X a tA):PT X (.UnaryOp .Not a pos) (tNot tA):=by
  intro pins s σ H Q I h
  exact isTrue_not (ha pins s σ H (fun c H1=>Q (!c) H1) I h)
def tAndV (ta tb:TE):TE:=fun σ H Q=>ta σ H fun x H1=>∃ c,x=.bl c∧if c=true then tb σ H1 Q else Q (.bl false) H1
def tOrV (ta tb:TE):TE:=fun σ H Q=>ta σ H fun x H1=>∃ c,x=.bl c∧if c=true then Q (.bl true) H1 else tb σ H1 Q
def tNotV (ta:TE):TE:=fun σ H Q=>ta σ H fun x H1=>∃ c,x=.bl c∧Q (.bl (!c)) H1
theorem pe_one {op} {t:TE} (h:PE X a t):PE X (.BoolOp op [a] pos) t:=fun pins s σ H Q I hw=>BoolOp_one (h pins s σ H Q I hw)
theorem pe_and (ha:PE X a ta) (hb:PE X (.BoolOp .And (b::rest) pos) tb):PE X (.BoolOp .And (a::b::rest) pos) (tAndV ta tb):=by
  intro pins s σ H Q I h
  refine BoolOp_and (thn (ha pins s σ H _ I h) fun v s1 ⟨x,H1,I1,r1,q1⟩=>?_)
  obtain ⟨c,rfl,q1⟩:=q1
  cases r1
  refine wpAny_truthy_bool ?_
  cases c with
  | true=>exact hb pins s1 σ H1 Q I1 q1
  | false=>exact ⟨.bl false,H1,I1,rfl,q1⟩
theorem pe_not (ha:PE X a ta):PE X (.UnaryOp .Not a pos) (tNotV ta):=by
  intro pins s σ H Q I h
  refine UnaryOp_ (thn (ha pins s σ H _ I h) fun v s1 ⟨x,H1,I1,r1,q1⟩=>?_)
  obtain ⟨c,rfl,q1⟩:=q1
  cases r1
  exact not_of (wpAny_truthy_bool ⟨.bl (!c),H1,I1,rfl,q1⟩)
def tIf (t:TT) (ta tb:TE):TE:=fun σ H Q=>t σ H fun c H1=>if c=true then ta σ H1 Q else tb σ H1 Q
end
end L2
namespace L2
open PySem PySem.Spec PyProof.Rows
def SqL (K:PySem.W.Frag) (H:Hp) (a:Addr) (xs:List V):Prop :=
  Rd H a (.lst xs) ∨
    ∃ (o:Obj) (its:Array Value) (n:Nat),K.lookup a=some o∧o.cls=.type "list" ∧ o.dict=none∧o.data=.seq its n∧its.size≤sizeLine∧Vals xs its.toList
def SqT (K:PySem.W.Frag) (H:Hp) (a:Addr) (xs:List V):Prop :=
  Rd H a (.tup xs) ∨
    ∃ (o:Obj) (its:Array Value) (n:Nat),K.lookup a=some o∧o.cls=.type "tuple" ∧ o.data=.seq its n∧its.size≤sizeLine∧Vals xs its.toList
def absV:Value→Option V
  | .none=>some .non
  | .bool b=>some (.bl b)
  | .int i _=>some (.int i)
  | .str x _=>some (.str x)
  | .bytes b _=>some (.byt b)
  | .float b _=>some (.flt b)
  | .ref a=>some (.ref a)
  | .type n=>some (.ty n)
  | _=>none
theorem RelV.abs {x:V} {u:Value} (r:RelV x u):absV u=some x:=by
  cases x with
  | non=>cases r; rfl
  | bl _=>cases r; rfl
  | int _=>obtain ⟨t,rfl⟩:=r; rfl
  | str _=>obtain ⟨t,rfl⟩:=r; rfl
  | byt _=>obtain ⟨t,rfl⟩:=r; rfl
  | flt _=>obtain ⟨t,rfl⟩:=r; rfl
  | ref _=>cases r; rfl
  | ty _=>cases r; rfl
theorem RelV.inj {x y:V} {u:Value} (r:RelV x u) (q:RelV y u):x=y:=Option.some.inj (r.abs.symm.trans q.abs)
theorem Vals.inj:∀ {xs ys:List V} {us:List Value},Vals xs us→Vals ys us→xs=ys
  | _,_,_,.nil,.nil=>rfl
  | _,_,_,.cons r t,.cons r' t'=>by rw [r.inj r',Vals.inj t t']
section
variable {X:Cx} {pins:List (Addr × Obj)} {σ:St} {H:Hp} {s:Shared} {a:Addr} {xs ys:List V}
theorem SqL.of {K:PySem.W.Frag} (h:H a=some (.lst xs)):SqL K H a xs:=.inl (.inl h)
theorem SqT.of {K:PySem.W.Frag} (h:H a=some (.tup xs)):SqT K H a xs:=.inl (.inl h)
theorem Inv.list (I:Inv X pins σ H s) (h:SqL X.K H a xs):∃ its:List Value,Vals xs its∧PlainL s.heap a its.toArray∧xs.length≤sizeLine:=by
  rcases h with h | ⟨o,its,n,hk,hc,hd,hs,hz,r⟩
  · obtain ⟨z,its,n,r,e⟩:=h.ok I.hok
    exact ⟨its,r,⟨_,n,e,rfl,rfl,rfl⟩,z⟩
  · refine ⟨its.toList,r,⟨o,n,I.kIn a o hk,hc,hd,by simpa using hs⟩,?_⟩
    have e:=r.length
    simp only [Array.length_toList] at e
    omega
theorem Inv.tuple (I:Inv X pins σ H s) (h:SqT X.K H a xs):∃ its:List Value,Vals xs its∧IsTup s.heap a its.toArray∧xs.length≤sizeLine:=by
  rcases h with h | ⟨o,its,n,hk,hc,hs,hz,r⟩
  · obtain ⟨z,its,r,p,_⟩:=h.ok I.hok
    exact ⟨its,r,p,z⟩
  · refine ⟨its.toList,r,⟨o,I.kIn a o hk,hc,n,by simpa using hs⟩,?_⟩
    have e:=r.length
    simp only [Array.length_toList] at e
    omega
theorem Inv.list_inj (I:Inv X pins σ H s) (h:SqL X.K H a xs) (h':SqL X.K H a ys):xs=ys:=by
  obtain ⟨its,r,⟨o,n,e,_,_,d⟩,_⟩:=I.list h
  obtain ⟨its',r',⟨o',n',e',_,_,d'⟩,_⟩:=I.list h'
  rw [e] at e'; cases e'
  rw [d] at d'
  injection d' with d1 _
  have:its=its':=by simpa using congrArg Array.toList d1
  subst this
  exact r.inj r'
theorem Inv.tuple_inj (I:Inv X pins σ H s) (h:SqT X.K H a xs) (h':SqT X.K H a ys):xs=ys:=by
  obtain ⟨its,r,⟨o,e,_,n,d⟩,_⟩:=I.tuple h
  obtain ⟨its',r',⟨o',e',_,n',d'⟩,_⟩:=I.tuple h'
  rw [e] at e'; cases e'
  rw [d] at d'
  injection d' with d1 _
  have:its=its':=by simpa using congrArg Array.toList d1
  subst this
  exact r.inj r'
end
abbrev Cx.wish (X:Cx) (E:Value→Shared→Prop):Cx:={ X with xe:=E }
abbrev Cx.nox (X:Cx):Cx:=X.wish fun _ _=>False
theorem Cx.Ok.wish {X:Cx} (ok:X.Ok) (E:Value→Shared→Prop):(X.wish E).Ok :=
  ⟨ok.mod,ok.kind,ok.glob,ok.blt,ok.above,ok.inj,ok.has,ok.cab,ok.hd,ok.frames,ok.stk,ok.exf,ok.bs,ok.bsz,ok.noex,ok.exfs,ok.funs,ok.frf⟩
theorem Cx.Ok.unwish {X:Cx} {E:Value→Shared→Prop} (ok:(X.wish E).Ok):X.Ok :=
  ⟨ok.mod,ok.kind,ok.glob,ok.blt,ok.above,ok.inj,ok.has,ok.cab,ok.hd,ok.frames,ok.stk,ok.exf,ok.bs,ok.bsz,ok.noex,ok.exfs,ok.funs,ok.frf⟩
section
variable {X:Cx} {pins:List (Addr × Obj)} {σ:St} {H:Hp} {s:Shared} {E:Value→Shared→Prop}
theorem Inv.wish (I:Inv X pins σ H s) (E:Value→Shared→Prop):Inv (X.wish E) pins σ H s:=⟨I.ok.wish E,I.os,I.bare,I.base,I.loc,I.cell,I.free,I.freeC,I.pin,I.hok,I.len⟩
theorem Inv.unwish (I:Inv (X.wish E) pins σ H s):Inv X pins σ H s:=⟨I.ok.unwish,I.os,I.bare,I.base,I.loc,I.cell,I.free,I.freeC,I.pin,I.hok,I.len⟩
theorem SP.unwish {D:Ends} {f:Flow} {s':Shared} (h:SP (X.wish E) pins D f s'):SP X pins D f s':=by
  cases f with
  | next=>obtain ⟨σ',H',I,q⟩:=h; exact ⟨σ',H',I.unwish,q⟩
  | brk=>obtain ⟨σ',H',I,q⟩:=h; exact ⟨σ',H',I.unwish,q⟩
  | cont=>obtain ⟨σ',H',I,q⟩:=h; exact ⟨σ',H',I.unwish,q⟩
  | ret u=>obtain ⟨v,σ',H',I,r,q⟩:=h; exact ⟨v,σ',H',I.unwish,r,q⟩
theorem PSs.nox {st:List Stmt} {t:TS} (h:PSs X.nox st t):PSs X st t:=fun pins s σ H D I hw =>
  wpAny_mono (h pins s σ H D (I.wish _) hw) (fun _ _ q=>q.unwish) fun _ _ z=>False.elim z
end
section
variable {X:Cx} {st:Stmt} {rest:List Stmt} {t u:TS} {e:Expr} {te:TE} {pos:Pos}
def tNext:TS:=fun D σ H=>D.nx σ H
def tSeq (t u:TS):TS:=fun D σ H=>t { D with nx:=u D } σ H
theorem pss_nil:PSs X [] tNext:=fun _ _ σ H _ I h=>wpAny_execs_nil ⟨σ,H,I,h⟩
theorem pss_cons (h1:PS X st t) (h2:PSs X rest u):PSs X (st::rest) (tSeq t u):=by
  intro pins s σ H D I h
  refine wpAny_execs_cons (thn (h1 pins s σ H { D with nx:=u D } I h) fun f s1 q=>?_)
  cases f with
  | next =>
    obtain ⟨σ',H',I',q⟩:=q
    exact h2 pins s1 σ' H' D I' q
  | ret v=>exact q
  | brk=>exact q
  | cont=>exact q
theorem pss_one (h1:PS X st t):PSs X [st] t:=by
  intro pins s σ H D I h
  refine wpAny_execs_cons (thn (h1 pins s σ H D I h) fun f s1 q=>?_)
  cases f with
  | next=>exact wpAny_execs_nil q
  | ret v=>exact q
  | brk=>exact q
  | cont=>exact q
def tBreak:TS:=fun D σ H=>D.bk σ H
def tCont:TS:=fun D σ H=>D.ct σ H
theorem Inv.quiet {pins:List (Addr × Obj)} {σ:St} {H:Hp} {s:Shared} (I:Inv X pins σ H s):interactive X.env=false:=by simp [interactive,I.ok.kind]
def tDrop (te:TE):TS:=fun D σ H=>te σ H fun _ H1=>D.nx σ H1
theorem ps_expr (he:PE X e te) (hs:swapsWith e none pos.line X.env=pure false:=by rfl):PS X (.Expr e pos) (tDrop te):=by
  intro pins s σ H D I h
  exact wpAny_Expr_any (thn (he pins s σ H _ I h) fun v s1 ⟨x,H1,I1,r1,q1⟩=>⟨σ,H1,I1,q1⟩) I.quiet hs
def tRet (te:TE):TS:=fun D σ H=>te σ H D.rt
theorem ps_ret (he:PE X e te):PS X (.Return (some e) pos) (tRet te):=by
  intro pins s σ H D I h
  exact wpAny_Return_some (thn (he pins s σ H _ I h) fun v s1 ⟨x,H1,I1,r1,q1⟩=>⟨x,σ,H1,I1,r1,q1⟩)
def tRetN:TS:=fun D _ H=>D.rt .non H
def tIfS (c:TT) (t u:TS):TS:=fun D σ H=>c σ H fun b H1=>if b=true then t D σ H1 else u D σ H1
theorem ps_if {c:Expr} {a b:List Stmt} {tc:TT} (hc:PT X c tc) (ha:PSs X a t) (hb:PSs X b u):PS X (.If c a b pos) (tIfS tc t u):=by
  intro pins s σ H D I h
  refine wpAny_If (thn (hc pins s σ H _ I h) fun d s1 ⟨H1,I1,q1⟩=>?_)
  cases d with
  | true=>exact ha pins s1 σ H1 D I1 q1
  | false=>exact hb pins s1 σ H1 D I1 q1
def tNever:TS:=fun _ _ _=>False
theorem pss_never {sts:List Stmt}:PSs X sts tNever:=fun _ _ _ _ _ _ h=>h.elim
end
abbrev TG:=V→St→Hp→(St→Hp→Prop)→Prop
abbrev TGs:=List V→St→Hp→(St→Hp→Prop)→Prop
def PG (X:Cx) (target:Expr) (t:TG):Prop :=
  ∀ (pins:List (Addr × Obj)) (s:Shared) (σ:St) (H:Hp) (v:V) (u:Value) (Q:St→Hp→Prop),Inv X pins σ H s→RelV v u→t v σ H Q →
    wpAny (model X.prog X.w) X.A (assign target X.env u) (fun _ s'=>∃ σ' H',Inv X pins σ' H' s'∧Q σ' H') X.xe s
def PGs (X:Cx) (ts:List Expr) (t:TGs):Prop :=
  ∀ (pins:List (Addr × Obj)) (s:Shared) (σ:St) (H:Hp) (vs:List V) (us:List Value) (Q:St→Hp→Prop),Inv X pins σ H s→Vals vs us→t vs σ H Q →
    wpAny (model X.prog X.w) X.A (assignInOrder ((assignEach ts X.env).map (·.2)) us) (fun _ s'=>∃ σ' H',Inv X pins σ' H' s'∧Q σ' H') X.xe s
abbrev TSet:=V→V→V→Hp→(Hp→Prop)→Prop
def PSet (X:Cx) (t:TSet):Prop :=
  ∀ (pins:List (Addr × Obj)) (s:Shared) (σ:St) (H:Hp) (o i v:V) (ov iv u:Value) (Q:Hp→Prop),Inv X pins σ H s→RelV o ov→RelV i iv→RelV v u→t o i v H Q →
    wpAny (model X.prog X.w) X.A (setItem ov iv u) (fun _ s'=>∃ H',Inv X pins σ H' s'∧Q H') X.xe s
abbrev TIp:=V→V→Hp→VK→Prop
def PIp (X:Cx) (op:Operator) (t:TIp):Prop :=
  ∀ (pins:List (Addr × Obj)) (s:Shared) (σ:St) (H:Hp) (x y:V) (v u:Value) (Q:VK),Inv X pins σ H s→RelV x v→RelV y u→t x y H Q →
    wpAny (model X.prog X.w) X.A (inplaceOp op v u) (EP X pins σ Q) X.xe s
section
variable {X:Cx} {pos:Pos}
def gName (i:Nat):TG:=fun v σ H Q=>Q (σ.set i (some v)) H
theorem pg_name {i:Nat} {x:Str} (hN:X.N.Nodup) (hi:X.N[i]?=some x) (hx:Loc X.env.scope x) (hf:X.fn x=true∨X.env.scope.names.lookup x=some .local:=by first | exact .inl rfl | exact .inr rfl | assumption):PG X (.Name x pos) (gName i):=by
  intro pins s σ H v u Q I r h
  exact wpAny_assign_Name (store_ok I hN hi hx r (fun s' I'=>⟨_,H,I',h⟩) hf)
def gNil:TGs:=fun vs σ H Q=>vs=[]∧Q σ H
def gCons (t:TG) (u:TGs):TGs:=fun vs σ H Q=>∃ v r,vs=v::r∧t v σ H fun σ' H'=>u r σ' H' Q
theorem pgs_nil:PGs X [] gNil:=by
  intro pins s σ H vs us Q I r h
  obtain ⟨e,h⟩:=h
  subst e
  cases r
  exact assignInOrder_nil ⟨σ,H,I,h⟩
theorem pgs_cons {e:Expr} {es:List Expr} {t:TG} {u:TGs} (h1:PG X e t) (h2:PGs X es u)
    (hs:(assignEach (e::es) X.env).map (·.2)=assign e X.env::(assignEach es X.env).map (·.2):=by rfl):PGs X (e::es) (gCons t u):=by
  intro pins s σ H vs us Q I r h
  obtain ⟨v,vr,e1,h⟩:=h
  subst e1
  cases r with
  | cons r rr =>
    rw [hs]
    refine assignInOrder_cons (thn (h1 pins s σ H _ _ _ I r h) fun _ s1 ⟨σ1,H1,I1,q1⟩=>?_)
    exact h2 pins s1 σ1 H1 _ _ Q I1 rr q1
def gTup (K:PySem.W.Frag) (n:Nat) (t:TGs):TG:=fun v σ H Q=>∃ a xs,v=.ref a∧SqT K H a xs∧xs.length=n∧t xs σ H Q
theorem pg_tup {es:List Expr} {k:Nat} {t:TGs} {n:Nat} (hc:X.calm=true) (h:PGs X es t)
    (hn:(assignEach es X.env).length=n:=by rfl) (hst:(assignEach es X.env).findIdx? (·.1)=none:=by rfl):PG X (.Tuple es k pos) (gTup X.K n t):=by
  intro pins s σ H v u Q I r hw
  obtain ⟨a,xs,e1,hq,hl,hw⟩:=hw
  subst e1
  cases r
  obtain ⟨its,rv,ht,hz⟩:=I.tuple hq
  refine assign_Tuple_tuple (I.ok.hd hc) ht (by simp [hn,← hl,rv.length]) hst fun h' hx=>?_
  have I1:Inv X pins σ H { s with heap:=h' }:=I.kept (t':=s.toks) fun b o e=>hx b o (Nat.ne_of_lt (Heap.lt_size e)) e
  exact h pins _ σ H xs _ Q I1 (by simpa using rv) hw
def gSub (to ti:TE) (t:TSet):TG:=fun v σ H Q=>to σ H fun o H1=>ti σ H1 fun i H2=>t o i v H2 fun H3=>Q σ H3
theorem pg_sub {o i:Expr} {to ti:TE} {t:TSet} (ho:PE X o to) (hi:PE X i ti) (hs:PSet X t)
    (ha:∀ v,assign (.Subscript o i pos) X.env v=(do
      let ov ← holding [v] (eval o X.env)
      let iv ← holding [v,ov] (eval i X.env)
      standAt pos
      holding [v,ov,iv] (setItem ov iv v)
      release [v,ov,iv] []):=by intro _; rfl):PG X (.Subscript o i pos) (gSub to ti t):=by
  intro pins s σ H v u Q I r h
  rw [ha]
  refine wpAny_bind (wpAny_holding (thn (ho pins s σ H _ I h) fun ov s1 ⟨x,H1,I1,r1,q1⟩=>?_))
  refine wpAny_bind (wpAny_holding (thn (hi pins s1 σ H1 _ I1 q1) fun iv s2 ⟨y,H2,I2,r2,q2⟩=>?_))
  refine wpAny_bind (wpAny_standAt (wpAny_bind (wpAny_holding (thn (hs pins s2 σ H2 x y v ov iv u _ I2 r1 r2 r q2) fun _ s3 ⟨H3,I3,q3⟩=>?_))))
  exact wpAny_release ⟨σ,H3,I3,q3⟩
def tAsg (te:TE) (g:TG):TS:=fun D σ H=>te σ H fun x H1=>g x σ H1 D.nx
theorem ps_asg {tg e:Expr} {te:TE} {g:TG} (he:PE X e te) (hg:PG X tg g) (hs:swapsWithSole [tg] e pos.line X.env=pure false:=by rfl) (hw:swappedStores [tg] e X.env=pure none:=by rfl)
    (h1:(assignEach [tg] X.env).map (·.2)=[assign tg X.env]:=by rfl):PS X (.Assign [tg] e pos) (tAsg te g):=by
  intro pins s σ H D I h
  refine wpAny_Assign_stores (thn (he pins s σ H _ I h) fun v s1 ⟨x,H1,I1,r1,q1⟩=>?_) hs hw
  rw [h1]
  exact thn (hg pins s1 σ H1 x v _ I1 r1 q1) fun _ s2 q=>q
theorem ps_set {i:Nat} {x:Str} {e:Expr} {te:TE} {pos':Pos} (hN:X.N.Nodup) (hi:X.N[i]?=some x) (hx:Loc X.env.scope x) (he:PE X e te) (hs:swapsWith e (some (.Name x pos')) pos.line X.env=pure false:=by rfl) (hf:X.fn x=true∨X.env.scope.names.lookup x=some .local:=by first | exact .inl rfl | exact .inr rfl | assumption) :
    PS X (.Assign [.Name x pos'] e pos) (tAsg te (gName i)):=by
  intro pins s σ H D I h
  refine wpAny_Assign_Name (thn (he pins s σ H _ I h) fun v s1 ⟨y,H1,I1,r1,q1⟩=>?_) hs
  exact store_ok I1 hN hi hx r1 (fun s2 I2=>⟨_,H1,I2,q1⟩) hf
def tPar (i j:Nat) (ta:TA):TS:=fun D σ H=>ta σ H fun vs H1=>∃ v w,vs=[v,w]∧D.nx ((σ.set i (some v)).set j (some w)) H1
theorem ps_par {i j:Nat} {x y:Str} {a b:Expr} {ta:TA} {px py pt:Pos} {kt k2 pt2} (hc:X.calm=true) (hN:X.N.Nodup) (hi:X.N[i]?=some x) (hj:X.N[j]?=some y) (hij:i ≠ j)
    (hx:X.env.scope.names.lookup x=some .local) (hy:X.env.scope.names.lookup y=some .local) (ha:PA X [a,b] ta)
    (hw:swappedStores [.Tuple [.Name x px,.Name y py] kt pt] (.Tuple [a,b] k2 pt2) X.env=pure (some [x,y]))
    (hs:swapsWithSole [.Tuple [.Name x px,.Name y py] kt pt] (.Tuple [a,b] k2 pt2) pos.line X.env=pure false:=by rfl) :
    PS X (.Assign [.Tuple [.Name x px,.Name y py] kt pt] (.Tuple [a,b] k2 pt2) pos) (tPar i j ta):=by
  intro pins s σ H D I h
  rw [exec_Assign_arm]
  refine wpAny_bind (wpAny_standAt ?_)
  rw [hs]
  refine wpAny_bind (wpAny_pure ?_)
  rw [if_neg (by decide)]
  refine wpAny_bind (Tuple_ (thn (ha _ pins s σ H _ I h) fun us s1 ⟨vs,H1,I1,r1,q1⟩=>?_))
  obtain ⟨v,w,e1,q1⟩:=q1
  subst e1
  obtain ⟨u1,u2,rfl,rv,rw'⟩:∃ u1 u2,us=[u1,u2]∧RelV v u1∧RelV w u2:=by
    cases r1 with
    | cons p q =>
      cases q with
      | cons p' q' =>
        cases q'
        exact ⟨_,_,rfl,p,p'⟩
  refine wpAny_newObj_type ?_ (by show 2≤sizeLine; decide)
  have I2:Inv X pins σ H1 { s1 with heap:=s1.heap.push { cls:=.type "tuple", data:=.seq [u1,u2].toArray } }:=I1.kept (t':=s1.toks) fun b o e=>Heap.get?_push_of_some _ e
  rw [hw]
  refine wpAny_bind (wpAny_pure ?_)
  show wpAny (model X.prog X.w) X.A (do rule "assign.swapped-stores"; let items ← unpackItems (.ref s1.heap.objs.size) 2 none; assignInOrder [fun v=>bindName X.env y v,fun v=>bindName X.env x v] items.reverse; pure Flow.next) _ _ _
  refine wpAny_bind (wpAny_rule (wpAny_bind (unpackItems_tuple (items:=#[u1,u2]) (I.ok.hd hc) (IsTup.new s1.heap _) fun h' hx'=>?_)))
  have I3:=I2.kept (h':=h') (t':=s1.toks) fun b o e=>hx' b o (Nat.ne_of_lt (Heap.lt_size e)) e
  show wpAny _ _ (assignInOrder [fun v=>bindName X.env y v,fun v=>bindName X.env x v] [u2,u1] >>= fun _=>pure Flow.next) _ _ _
  refine wpAny_bind (assignInOrder_cons (wpAny_bindName (store_ok I3 hN hj (.inl hy) rw' (fun s2 I4=>?_) (.inr hy))))
  refine assignInOrder_cons (wpAny_bindName (store_ok I4 hN hi (.inl hx) rv (fun s3 I5=>assignInOrder_nil (wpAny_pure ?_)) (.inr hx)))
  rw [List.set_comm _ _ (Ne.symm hij)] at I5
  exact ⟨_,H1,I5,q1⟩
def tAug (i:Nat) (te:TE) (ti:TIp):TS:=fun D σ H=>∃ x,σ[i]?=some (some x)∧te σ H fun y H1=>ti x y H1 fun z H2=>D.nx (σ.set i (some z)) H2
def tAugS (to ti te:TE) (tget:V→V→Hp→VK→Prop) (tip:TIp) (tset:TSet):TS:=fun D σ H=>to σ H fun o H1=>ti σ H1 fun i H2=>tget o i H2 fun x H3=>te σ H3 fun y H4=>tip x y H4 fun z H5=>tset o i z H5 fun H6=>D.nx σ H6
def PGet (X:Cx) (t:V→V→Hp→VK→Prop):Prop :=
  ∀ (pins:List (Addr × Obj)) (s:Shared) (σ:St) (H:Hp) (o i:V) (ov iv:Value) (Q:VK),Inv X pins σ H s→RelV o ov→RelV i iv→t o i H Q →
    wpAny (model X.prog X.w) X.A (getItem ov iv) (EP X pins σ Q) X.xe s
def ipI (f:Int→Int→Int):TIp:=fun x y H Q=>∃ i j,x=.int i∧y=.int j∧Q (.int (f i j)) H
end
section
variable {X:Cx} {pos:Pos}
def tWhile (c:TT) (tb:TS):TS:=fun D σ H=>∃ W:Nat→St→Hp→Prop,(∃ m,W m σ H)∧∀ m σ H,W m σ H →
  c σ H fun b H1=>if b=true then ∃ N:St→Hp→Prop,(∀ σ' H',N σ' H'→∃ m',m' < m∧W m' σ' H')∧tb { D with nx:=N,ct:=N,bk:=D.nx } σ H1 else D.nx σ H1
theorem ps_while {c:Expr} {body:List Stmt} {tc:TT} {tb:TS} (hp:PassesOwn (model X.prog X.w) X.A X.env X.xe) (hc:PT X c tc) (hb:PSs X body tb):PS X (.While c body [] pos) (tWhile tc tb):=by
  intro pins s σ H D I h
  obtain ⟨W,⟨m0,w0⟩,turn⟩:=h
  refine wpAny_While (codeAny_whileLoop (fun n s'=>∃ σ' H',Inv X pins σ' H' s'∧W n σ' H') ?_ m0 ⟨σ,H,I,w0⟩)
  rintro n s1 ⟨σ1,H1,I1,w1⟩
  refine wpAny_passesOwn hp (thn (hc pins s1 σ1 H1 _ I1 (turn n σ1 H1 w1)) fun b s2 ⟨H2,I2,q2⟩=>?_)
  cases b with
  | true =>
    obtain ⟨N,hN,q2⟩:=q2
    rw [if_pos rfl]
    refine wpAny_passesOwn hp (thn (hb pins s2 σ1 H2 _ I2 q2) fun f s3 q3=>?_)
    cases f with
    | next =>
      obtain ⟨σ3,H3,I3,n3⟩:=q3
      obtain ⟨m',hm,w3⟩:=hN σ3 H3 n3
      exact ⟨m',hm,σ3,H3,I3,w3⟩
    | cont =>
      obtain ⟨σ3,H3,I3,n3⟩:=q3
      obtain ⟨m',hm,w3⟩:=hN σ3 H3 n3
      exact ⟨m',hm,σ3,H3,I3,w3⟩
    | brk=>exact q3
    | ret v=>exact q3
  | false =>
    rw [if_neg Bool.false_ne_true]
    exact wpAny_execs_nil ⟨σ1,H2,I2,q2⟩
end
structure It where
  go:Nat→Hp→Prop
  yld:Nat→Hp→V→Hp→Prop
  stop:Nat→Hp→Prop
def FpOk (X:Cx) (pins:List (Addr × Obj)) (H:Hp) (b:Addr):Prop :=
  H b=none∧b ≠ X.env.locals∧b ∉ X.fs∧(b ∈ X.ex∨X.s₀.heap.objs.size≤b)∧(∀ x c,X.env.cells.lookup x=some c→c ≠ b)∧∀ p ∈ X.pn++pins,p.1 ≠ b
theorem Inv.fpOk {X:Cx} {pins:List (Addr × Obj)} {σ:St} {H H':Hp} {s:Shared} {b:Addr} (I:Inv X pins σ H s) (hb:s.heap.objs.size≤b) (hn:H' b=none):FpOk X pins H' b:=by
  refine ⟨hn,Nat.ne_of_gt (Nat.lt_of_lt_of_le I.lt hb),I.nofs hb,.inr (Nat.le_trans I.sz hb),fun x c e z=>?_,fun p hp z=>?_⟩
  · obtain ⟨v,q⟩:=I.cell x c e
    exact absurd (Nat.lt_of_lt_of_le q.lt (by rw [z]; exact hb)) (Nat.lt_irrefl _)
  · exact absurd (Nat.lt_of_lt_of_le (Heap.lt_size (I.pin p hp).1) (by rw [z]; exact hb)) (Nat.lt_irrefl _)
structure Turn (P:Program) (w:World) (K:PySem.W.Frag) (tg:Expr) (J:It) (fp:List Addr) (it:Addr) (tn:Nat→Heap→Prop):Prop where
  mem:it ∈ fp
  obj:∀ i h,tn i h→∀ b ∈ fp,∃ o,h.get? b=some o∧∀ v,o.data ≠ .cell v
  keep:∀ i h h',tn i h→(∀ b ∈ fp,∀ o,h.get? b=some o→h'.get? b=some o)→tn i h'
  item:∀ (X:Cx),X.prog=P→X.w=w→X.K=K→X.calm=true→∀ (i:Nat) (pins:List (Addr × Obj)) (s:Shared) (σ:St) (H:Hp) (E:Value→Shared→Prop),Inv X pins σ H s→(∀ b ∈ fp,FpOk X pins H b)→tn i s.heap→J.go i H →
    wpAny (model P w) X.A (pyNext (.ref it)) (fun r s1=>∃ u,r=some u ∧
      wpAny (model P w) X.A (letOwnedTupleGo tg (.ref it) u) (fun _ s2=>∃ x H',Inv X pins σ H' s2∧RelV x u∧J.yld i H x H'∧tn (i+1) s2.heap∧∀ b ∈ fp,H' b=none) E s1) E s
  done:∀ (X:Cx),X.prog=P→X.w=w→X.K=K→X.calm=true→∀ (i:Nat) (pins:List (Addr × Obj)) (s:Shared) (σ:St) (H:Hp) (E:Value→Shared→Prop),Inv X pins σ H s→(∀ b ∈ fp,FpOk X pins H b)→tn i s.heap→J.stop i H →
    wpAny (model P w) X.A (pyNext (.ref it)) (fun r s1=>r=none∧Inv X pins σ H s1) E s
  self:∀ (A:Around) (i:Nat) (s:Shared) (Q:Value→Shared→Prop) (E:Value→Shared→Prop),tn i s.heap→Q (.ref it) s→wpAny (model P w) A (pyIter (.ref it)) Q E s
abbrev TI:=St→Hp→(It→Hp→Prop)→Prop
def PIE (X:Cx) (pins:List (Addr × Obj)) (σ:St) (tg:Expr) (R:It→Hp→Prop) (itv:Value) (s2:Shared):Prop :=
  ∃ (it:Addr) (fp:List Addr) (tn:Nat→Heap→Prop) (J:It) (H':Hp),itv=.ref it∧Inv X pins σ H' s2∧Turn X.prog X.w X.K tg J fp it tn∧tn 0 s2.heap∧(∀ b ∈ fp,FpOk X pins H' b)∧R J H'
def PI (X:Cx) (tg iter:Expr) (wi:TI):Prop :=
  ∀ (pins:List (Addr × Obj)) (s:Shared) (σ:St) (H:Hp) (R:It→Hp→Prop),Inv X pins σ H s→wi σ H R →
    wpAny (model X.prog X.w) X.A (eval iter X.env) (fun v s1=>wpAny (model X.prog X.w) X.A (pyIter v) (PIE X pins σ tg R) X.xe s1) X.xe s
theorem go_of {M:Model} {A:Around} {E:Value→Shared→Prop} {s:Shared} {tg:Expr} {it:Addr} {u:Value} {o:Obj} {n:String} {vs:Array Value} {Q:Unit→Shared→Prop} (ho:s.heap.get? it=some o) (hc:o.cls=.type n) (hd:o.data=.fields vs)
    (hn:["enumerate", "zip", "dict_itemiterator", "dict_reverseitemiterator", "odict_iterator", "itertools.zip_longest", "itertools.pairwise"].contains n=false) (hQ:Q () s):wpAny M A (letOwnedTupleGo tg (.ref it) u) Q E s:=by
  unfold letOwnedTupleGo
  cases tg <;> first
    | exact wpAny_pure hQ
    | (cases u <;> first
        | exact wpAny_pure hQ
        | (refine wpAny_bind (wpAny_load ho ?_)
           rw [hc,hd]
           show wpAny M A (if (["enumerate", "zip", "dict_itemiterator", "dict_reverseitemiterator", "odict_iterator", "itertools.zip_longest", "itertools.pairwise"].contains n && vs[0]? == some (rawInt _))=true then _ else _) Q E s
           rw [if_neg (by intro h; rw [hn,Bool.false_and] at h; cases h)]
           exact wpAny_pure hQ))
def Itl (K:PySem.W.Frag) (a:Addr):It :=
  ⟨fun i H=>∃ xs x,SqL K H a xs∧xs[i]?=some x,fun i H x H'=>H'=H∧∀ xs,SqL K H a xs→xs[i]?=some x,fun i H=>∃ xs,SqL K H a xs∧xs.length≤i⟩
def Itt (K:PySem.W.Frag) (a:Addr):It :=
  ⟨fun i H=>∃ xs x,SqT K H a xs∧xs[i]?=some x,fun i H x H'=>H'=H∧∀ xs,SqT K H a xs→xs[i]?=some x,fun i H=>∃ xs,SqT K H a xs∧xs.length≤i⟩
def Itr (lo:Int) (n:Nat):It:=⟨fun i _=>i < n,fun i H x H'=>H'=H∧x=.int (lo+i),fun i _=>n≤i⟩
theorem turn_list {P:Program} {w:World} {K:PySem.W.Frag} {tg:Expr} (a it:Addr):Turn P w K tg (Itl K a) [it] it (fun i h=>h.IsListIter it a i) where
  mem:=by simp
  obj:=fun i h st b hb=>by
    have e:b=it:=by simpa using hb
    subst e
    obtain ⟨o,e,c,d⟩:=st
    exact ⟨o,e,fun v z=>by rw [d] at z; cases z⟩
  keep:=fun i h h' st k=>st.at fun o e=>k it (by simp) o e
  item:=by
    intro X hP hw hK hc i pins s σ H E I hf st hg
    subst hP hw hK
    obtain ⟨xs,x,hq,hx⟩:=hg
    obtain ⟨its,rv,p,hz⟩:=I.list hq
    obtain ⟨u,hu,ru⟩:=rv.get hx
    obtain ⟨f0,f1,f2,f3,f4,f5⟩:=hf it (by simp)
    refine wpAny_pyNext_list_item st p.isList (x:=u) (by simpa using hu) fun h' st' sb=>?_
    have I1:Inv X pins σ H { s with heap:=h' }:=I.turned (t':=s.toks) (fun b o hb e=>(sb.2 b hb).trans e) f0 f1 f3 f4 f5
    obtain ⟨o,e,c,d⟩:=id st'
    exact ⟨u,rfl,go_of (s:={ s with heap:=h' }) e c d (by decide) ⟨x,H,I1,ru,⟨rfl,fun ys hy=>by rw [I.list_inj hy hq]; exact hx⟩,st',fun b hb=>(hf b hb).1⟩⟩
  done:=by
    intro X hP hw hK hc i pins s σ H E I hf st hg
    subst hP hw hK
    obtain ⟨xs,hq,hx⟩:=hg
    obtain ⟨its,rv,p,hz⟩:=I.list hq
    obtain ⟨f0,f1,f2,f3,f4,f5⟩:=hf it (by simp)
    have hl:=rv.length
    exact wpAny_pyNext_list_end (I.ok.hd hc) st p.isList (by simp; omega) fun h' eb=>⟨rfl,I.turned (t':=s.toks) (fun b o hb e=>eb b o hb e) f0 f1 f3 f4 f5⟩
  self:=fun _ _ _ _ _ st h=>wpAny_pyIter_listiter st h
theorem turn_tuple {P:Program} {w:World} {K:PySem.W.Frag} {tg:Expr} (a it:Addr):Turn P w K tg (Itt K a) [it] it (fun i h=>h.IsTupleIter it a i) where
  mem:=by simp
  obj:=fun i h st b hb=>by
    have e:b=it:=by simpa using hb
    subst e
    obtain ⟨o,e,c,d⟩:=st
    exact ⟨o,e,fun v z=>by rw [d] at z; cases z⟩
  keep:=fun i h h' st k=>st.at fun o e=>k it (by simp) o e
  item:=by
    intro X hP hw hK hc i pins s σ H E I hf st hg
    subst hP hw hK
    obtain ⟨xs,x,hq,hx⟩:=hg
    obtain ⟨its,rv,p,hz⟩:=I.tuple hq
    obtain ⟨u,hu,ru⟩:=rv.get hx
    obtain ⟨f0,f1,f2,f3,f4,f5⟩:=hf it (by simp)
    refine wpAny_pyNext_tuple_item st (show s.heap.IsTuple a its.toArray from p) (x:=u) (by simpa using hu) fun h' st' sb=>?_
    have I1:Inv X pins σ H { s with heap:=h' }:=I.turned (t':=s.toks) (fun b o hb e=>(sb.2 b hb).trans e) f0 f1 f3 f4 f5
    obtain ⟨o,e,c,d⟩:=id st'
    exact ⟨u,rfl,go_of (s:={ s with heap:=h' }) e c d (by decide) ⟨x,H,I1,ru,⟨rfl,fun ys hy=>by rw [I.tuple_inj hy hq]; exact hx⟩,st',fun b hb=>(hf b hb).1⟩⟩
  done:=by
    intro X hP hw hK hc i pins s σ H E I hf st hg
    subst hP hw hK
    obtain ⟨xs,hq,hx⟩:=hg
    obtain ⟨its,rv,p,hz⟩:=I.tuple hq
    obtain ⟨f0,f1,f2,f3,f4,f5⟩:=hf it (by simp)
    have hl:=rv.length
    exact wpAny_pyNext_tuple_end (I.ok.hd hc) st (show s.heap.IsTuple a its.toArray from p) (by simp; omega) fun h' eb=>⟨rfl,I.turned (t':=s.toks) (fun b o hb e=>eb b o hb e) f0 f1 f3 f4 f5⟩
  self:=fun _ _ _ _ _ st h=>wpAny_pyIter_tupleiter st h
theorem turn_range {P:Program} {w:World} {K:PySem.W.Frag} {tg:Expr} (it:Addr) (lo:Int) (n:Nat):Turn P w K tg (Itr lo n) [it] it (fun i h=>IsRangeIter h it (lo+(i:Nat)*1) ((n:Int) - (i:Nat)) 1) where
  mem:=by simp
  obj:=fun i h st b hb=>by
    have e:b=it:=by simpa using hb
    subst e
    exact ⟨_,st,fun v z=>by
      have z':Data.fields _=Data.cell v:=z
      cases z'⟩
  keep:=fun i h h' st k=>k it (by simp) _ st
  item:=by
    intro X hP hw hK hc i pins s σ H E I hf st hg
    subst hP hw hK
    obtain ⟨f0,f1,f2,f3,f4,f5⟩:=hf it (by simp)
    have W:=Walks.range (prog:=X.prog) (w:=X.w) (I.ok.hd hc) it lo 1 n
    refine W.item i s _ _ hg st fun v h' tk hv st' kk=>?_
    obtain ⟨t,rfl⟩:=hv
    have I1:Inv X pins σ H { s with heap:=h',toks:=tk }:=I.turned (fun b o hb e=>kk b o (by simpa using hb) e) f0 f1 f3 f4 f5
    refine ⟨_,rfl,go_of (s:={ s with heap:=h',toks:=tk }) (n := "range_iterator") st' rfl rfl (by decide) ⟨.int (lo+i),H,I1,⟨t,?_⟩,⟨rfl,rfl⟩,st',fun b hb=>(hf b hb).1⟩⟩
    rw [Int.mul_one]
  done:=by
    intro X hP hw hK hc i pins s σ H E I hf st hg
    subst hP hw hK
    obtain ⟨f0,f1,f2,f3,f4,f5⟩:=hf it (by simp)
    exact wpAny_pyNext_range_end (I.ok.hd hc) st (by have:n≤i:=hg; omega) fun h' eb=>⟨rfl,I.turned (t':=s.toks) (fun b o hb e=>eb b o hb e) f0 f1 f3 f4 f5⟩
  self:=fun _ _ _ _ _ st h=>wpAny_pyIter_rangeiter st h
end L2
namespace L2
open PySem PySem.Spec PyProof.Rows
section
variable {X:Cx} {tg:Expr}
def iList (K:PySem.W.Frag) (tl:TE):TI:=fun σ H R=>tl σ H fun x H1=>∃ a,x=.ref a∧(∃ xs,SqL K H1 a xs)∧R (Itl K a) H1
def iTup (K:PySem.W.Frag) (tl:TE):TI:=fun σ H R=>tl σ H fun x H1=>∃ a,x=.ref a∧(∃ xs,SqT K H1 a xs)∧R (Itt K a) H1
theorem pi_list {l:Expr} {tl:TE} (hl:PE X l tl):PI X tg l (iList X.K tl):=by
  intro pins s σ H R I h
  refine thn (hl pins s σ H _ I h) fun v s1 ⟨x,H1,I1,r1,q1⟩=>?_
  obtain ⟨a,e,⟨xs,hq⟩,q⟩:=q1
  subst e
  cases r1
  obtain ⟨its,rv,p,hz⟩:=I1.list hq
  refine wpAny_pyIter_list p.isList ?_
  refine ⟨s1.heap.objs.size,[s1.heap.objs.size],_,_,H1,rfl,I1.kept (t':=s1.toks) fun b o e=>Heap.get?_push_of_some _ e,turn_list a _,⟨_,Heap.get?_push_size _ rfl,rfl,rfl⟩,fun b hb=>?_,q⟩
  have e:b=s1.heap.objs.size:=by simpa using hb
  subst e
  exact I1.fpOk (Nat.le_refl _) (I1.hok.fresh (Nat.le_refl _))
theorem pi_tup {l:Expr} {tl:TE} (hl:PE X l tl):PI X tg l (iTup X.K tl):=by
  intro pins s σ H R I h
  refine thn (hl pins s σ H _ I h) fun v s1 ⟨x,H1,I1,r1,q1⟩=>?_
  obtain ⟨a,e,⟨xs,hq⟩,q⟩:=q1
  subst e
  cases r1
  obtain ⟨its,rv,p,hz⟩:=I1.tuple hq
  refine wpAny_pyIter_tuple (show s1.heap.IsTuple a its.toArray from p) ?_
  refine ⟨s1.heap.objs.size,[s1.heap.objs.size],_,_,H1,rfl,I1.kept (t':=s1.toks) fun b o e=>Heap.get?_push_of_some _ e,turn_tuple a _,⟨_,Heap.get?_push_size _ rfl,rfl,rfl⟩,fun b hb=>?_,q⟩
  have e:b=s1.heap.objs.size:=by simpa using hb
  subst e
  exact I1.fpOk (Nat.le_refl _) (I1.hok.fresh (Nat.le_refl _))
theorem range_it {pins:List (Addr × Obj)} {σ:St} {H:Hp} {s:Shared} {R:It→Hp→Prop} {E:Value→Shared→Prop} {lo hi:Int} {t u v:Tok} {tk:Nat} (I:Inv X pins σ H s) (h1:-(2 ^ 62)≤lo) (h2:lo < 2 ^ 62) (h3:-(2 ^ 62)≤hi) (h4:hi < 2 ^ 62)
    (q:R (Itr lo (hi - lo).toNat) H):wpAny (model X.prog X.w) X.A (pyIter (.ref s.heap.objs.size)) (PIE X pins σ tg R) E { s with heap:=s.heap.push { cls:=.type "range", data:=.fields #[.int lo t,.int hi u,.int 1 v] },toks:=tk }:=by
  refine wpAny_pyIter_range (IsRange.new ..) (small_one h1 h2 h3 h4) ?_
  have I1:Inv X pins σ H { s with heap:=s.heap.push { cls:=.type "range", data:=.fields #[.int lo t,.int hi u,.int 1 v] },toks:=tk }:=I.kept fun b o e=>Heap.get?_push_of_some _ e
  refine ⟨(s.heap.push { cls:=.type "range", data:=.fields #[.int lo t,.int hi u,.int 1 v] }).objs.size,[(s.heap.push { cls:=.type "range", data:=.fields #[.int lo t,.int hi u,.int 1 v] }).objs.size],_,_,H,rfl,
    I1.kept (t':=tk) fun b o e=>Heap.get?_push_of_some _ e,turn_range _ lo (hi - lo).toNat,?_,fun b hb=>?_,q⟩
  · have e1:lo+((0:Nat):Int)*1=lo:=by simp
    have e2:(((hi - lo).toNat:Nat):Int) - ((0:Nat):Int)=Builtin.Range.rangeSize lo hi 1:=by rw [rangeSize_one]; split <;> omega
    show IsRangeIter _ _ (lo+((0:Nat):Int)*1) ((((hi - lo).toNat:Nat):Int) - ((0:Nat):Int)) 1
    rw [e1,e2]
    exact Heap.get?_push_size _ rfl
  · have e:b=(s.heap.push { cls:=.type "range", data:=.fields #[.int lo t,.int hi u,.int 1 v] }).objs.size:=by simpa using hb
    subst e
    exact I1.fpOk (Nat.le_refl _) (I1.hok.fresh (Nat.le_refl _))
def iRng1 (ta:TA):TI:=fun σ H R=>ta σ H fun vs H1=>∃ j:Int,vs=[.int j]∧-(2 ^ 62)≤j∧j < 2 ^ 62∧R (Itr 0 j.toNat) H1
def iRng2 (ta:TA):TI:=fun σ H R=>ta σ H fun vs H1=>∃ i j:Int,vs=[.int i,.int j]∧(-(2 ^ 62)≤i∧i < 2 ^ 62∧-(2 ^ 62)≤j∧j < 2 ^ 62)∧R (Itr i (j - i).toNat) H1
theorem pi_range1 {a:Expr} {ta:TA} {p pos:Pos} (hg:Gl X "range") (hm:X.mg "range" = none) (ha:PA X [a] ta) (hs:starEach [a] X.env=[(false,eval a X.env)]:=by rfl):PI X tg (.Call (.Name "range" p) [a] [] pos) (iRng1 ta):=by
  intro pins s σ H R I h
  refine Call_ (ld_blt I hg hm boot_range (PyProof.Rows.callWith_type1 (thn (ha pos pins s σ H _ I h) fun us s1 ⟨vs,H1,I1,r1,q1⟩=>?_) hs rfl))
  obtain ⟨j,e,q1,q2,q⟩:=q1
  subst e
  cases r1 with
  | cons r rr =>
    cases rr
    obtain ⟨t,rfl⟩:=r
    exact call_range_1 (range_it I1 (by omega) (by omega) q1 q2 (by simpa using q))
theorem pi_range2 {a b:Expr} {ta:TA} {p pos:Pos} (hg:Gl X "range") (hm:X.mg "range" = none) (ha:PA X [a,b] ta) (hs:starEach [a,b] X.env=[(false,eval a X.env),(false,eval b X.env)]:=by rfl) (hs2:starEach [b] X.env=[(false,eval b X.env)]:=by rfl) :
    PI X tg (.Call (.Name "range" p) [a,b] [] pos) (iRng2 ta):=by
  intro pins s σ H R I h
  refine Call_ (ld_blt I hg hm boot_range (PyProof.Rows.callWith_type1 (thn (ha pos pins s σ H _ I h) fun us s1 ⟨vs,H1,I1,r1,q1⟩=>?_) (by rw [hs,hs2]) (by rw [hs2]; rfl)))
  obtain ⟨i,j,e,⟨q1,q2,q3,q4⟩,q⟩:=q1
  subst e
  cases r1 with
  | cons r rr =>
    cases rr with
    | cons r' rr =>
      cases rr
      obtain ⟨t,rfl⟩:=r
      obtain ⟨t',rfl⟩:=r'
      exact call_range_2 (range_it I1 q1 q2 q3 q4 q)
def tFor (wi:TI) (g:TG) (tb:TS):TS:=fun D σ H=>wi σ H fun J H1=>∃ W:Nat→Nat→St→Hp→Prop,(∃ m,W 0 m σ H1)∧∀ i m σ H,W i m σ H →
  (J.stop i H∧D.nx σ H)∨(J.go i H∧∃ N:St→Hp→Prop,(∀ σ' H',N σ' H'→∃ m',m' < m∧W (i+1) m' σ' H')∧∀ x H',J.yld i H x H'→g x σ H' fun σ2 H2=>tb { D with nx:=N,ct:=N,bk:=D.nx } σ2 H2)
def pinsAt (fp:List Addr) (h:Heap):List (Addr × Obj):=fp.filterMap fun b=>(h.get? b).map fun o=>(b,o)
theorem mem_pinsAt {fp:List Addr} {h:Heap} {b:Addr} {o:Obj} (hb:b ∈ fp) (e:h.get? b=some o):(b,o) ∈ pinsAt fp h:=List.mem_filterMap.mpr ⟨b,hb,by rw [e]; rfl⟩
theorem of_pinsAt {fp:List Addr} {h:Heap} {p:Addr × Obj} (hp:p ∈ pinsAt fp h):p.1 ∈ fp∧h.get? p.1=some p.2:=by
  obtain ⟨b,hb,e⟩:=List.mem_filterMap.mp hp
  cases q:h.get? b with
  | none=>rw [q] at e; cases e
  | some o =>
    rw [q] at e
    have e':(b,o)=p:=Option.some.inj e
    subst e'
    exact ⟨hb,q⟩
theorem Inv.pinned {pins:List (Addr × Obj)} {σ:St} {H:Hp} {s:Shared} {fp:List Addr} (I:Inv X pins σ H s) (hf:∀ b ∈ fp,FpOk X pins H b) (ho:∀ b ∈ fp,∃ o,s.heap.get? b=some o∧∀ v,o.data ≠ .cell v):Inv X (pins++pinsAt fp s.heap) σ H s :=
  I.pins_of fun p hp=>(List.mem_append.mp hp).elim (fun z=>I.pin p (List.mem_append_right _ z)) fun z=>by
    obtain ⟨hb,e⟩:=of_pinsAt z
    obtain ⟨f0,f1,f2,_⟩:=hf p.1 hb
    obtain ⟨o,e',d⟩:=ho p.1 hb
    rw [e] at e'; cases e'
    exact ⟨e,f0,f1,f2,d⟩
theorem Inv.unpinned {pins pl:List (Addr × Obj)} {σ:St} {H:Hp} {s:Shared} (I:Inv X (pins++pl) σ H s):Inv X pins σ H s:=I.pins_of fun p hp=>I.pin p (List.mem_append_right _ (List.mem_append_left _ hp))
theorem ps_for {iter:Expr} {body:List Stmt} {wi:TI} {g:TG} {tb:TS} {pos:Pos} (hp:PassesOwn (model X.prog X.w) X.A X.env X.xe) (hc:X.calm=true) (hi:PI X tg iter wi) (hg:PG X tg g) (hb:PSs X body tb)
    (hs:∀ x,foldedSetIterable iter X.env x=pure x:=by intro _; rfl):PS X (.For tg iter body [] pos) (tFor wi g tb):=by
  intro pins s σ H D I h
  refine wpAny_For (thn (hi pins s σ H _ I h) fun v s1 h1=>thn h1 fun itv s2 h2=>?_) hs
  obtain ⟨it,fp,tn,J,H2,e,I2,T,st2,f2,W,⟨m0,w0⟩,turn⟩:=h2
  subst e
  have stat:∀ {H':Hp},(∀ b ∈ fp,H' b=none)→∀ b ∈ fp,FpOk X pins H' b:=fun hn b hb=>⟨hn b hb,(f2 b hb).2⟩
  refine codeAny_forLoop_any (fun n s'=>∃ i σ' H',Inv X pins σ' H' s'∧tn i s'.heap∧(∀ b ∈ fp,H' b=none)∧W i n σ' H') ?_ m0 ⟨0,σ,H2,I2,st2,fun b hb=>(f2 b hb).1,w0⟩
  rintro n s3 ⟨i,σ3,H3,I3,st3,fr3,w3⟩
  rcases turn i n σ3 H3 w3 with ⟨stop,qn⟩ | ⟨go,N,hN,step⟩
  · refine wpAny_passesOwn hp (thn (T.done X rfl rfl rfl hc i pins s3 σ3 H3 X.xe I3 (stat fr3) st3 stop) fun r s4 ⟨hr,I4⟩=>?_)
    subst hr
    exact wpAny_execs_nil ⟨σ3,H3,I4,qn⟩
  · refine wpAny_passesOwn hp (thn (T.item X rfl rfl rfl hc i pins s3 σ3 H3 X.xe I3 (stat fr3) st3 go) fun r s4 ⟨u,hr,h4⟩=>?_)
    subst hr
    refine wpAny_passesOwn hp (thn h4 fun _ s5 ⟨x,H5,I5,r5,y5,st5,fr5⟩=>?_)
    have I5':=I5.pinned (stat fr5) (T.obj _ _ st5)
    refine wpAny_passesOwn hp (thn (hg _ s5 σ3 H5 x u _ I5' r5 (step x H5 y5)) fun _ s6 ⟨σ6,H6,I6,q6⟩=>?_)
    refine wpAny_passesOwn hp (thn (hb _ s6 σ6 H6 _ I6 q6) fun f s7 q7=>?_)
    have again:∀ {σ7:St} {H7:Hp},Inv X (pins++pinsAt fp s5.heap) σ7 H7 s7→N σ7 H7→∃ m,m < n∧∃ i σ' H',Inv X pins σ' H' s7∧tn i s7.heap∧(∀ b ∈ fp,H' b=none)∧W i m σ' H':=fun {σ7 H7} I7 n7=>by
      obtain ⟨m',hm,w7⟩:=hN σ7 H7 n7
      refine ⟨m',hm,i+1,σ7,H7,I7.unpinned,T.keep _ _ _ st5 fun b hb o e=>(I7.pin (b,o) (List.mem_append_right _ (List.mem_append_right _ (mem_pinsAt hb e)))).1,fun b hb=>?_,w7⟩
      obtain ⟨o,e,d⟩:=T.obj _ _ st5 b hb
      exact (I7.pin (b,o) (List.mem_append_right _ (List.mem_append_right _ (mem_pinsAt hb e)))).2.1
    cases f with
    | next=>obtain ⟨σ7,H7,I7,n7⟩:=q7; exact again I7 n7
    | cont=>obtain ⟨σ7,H7,I7,n7⟩:=q7; exact again I7 n7
    | brk=>obtain ⟨σ7,H7,I7,q7⟩:=q7; exact ⟨σ7,H7,I7.unpinned,q7⟩
    | ret v=>obtain ⟨x7,σ7,H7,I7,r7,q7⟩:=q7; exact ⟨x7,σ7,H7,I7.unpinned,r7,q7⟩
end
theorem for_list {K:PySem.W.Frag} {a:Addr} {xs:List V} {g:TG} {tb:TS} {D:Ends} {σ:St} {H:Hp} (Pv:Nat→St→Hp→Prop) (h0:Pv 0 σ H) (hl:∀ i σ H,i≤xs.length→Pv i σ H→SqL K H a xs)
    (hs:∀ i x σ H,xs[i]?=some x→Pv i σ H→g x σ H fun σ2 H2=>tb { D with nx:=Pv (i+1),ct:=Pv (i+1),bk:=D.nx } σ2 H2) (hd:∀ σ H,Pv xs.length σ H→D.nx σ H) :
    ∃ W:Nat→Nat→St→Hp→Prop,(∃ m,W 0 m σ H)∧∀ i m σ H,W i m σ H →
      ((Itl K a).stop i H∧D.nx σ H)∨((Itl K a).go i H∧∃ N:St→Hp→Prop,(∀ σ' H',N σ' H'→∃ m',m' < m∧W (i+1) m' σ' H')∧∀ x H',(Itl K a).yld i H x H'→g x σ H' fun σ2 H2=>tb { D with nx:=N,ct:=N,bk:=D.nx } σ2 H2):=by
  refine ⟨fun i m σ H=>m=xs.length - i∧i≤xs.length∧Pv i σ H,⟨xs.length,by simp,Nat.zero_le _,h0⟩,?_⟩
  rintro i m σ H ⟨rfl,hi,p⟩
  have q:=hl i σ H hi p
  by_cases hlt:i < xs.length
  · refine .inr ⟨⟨xs,xs[i],q,by simp [hlt]⟩,Pv (i+1),fun σ' H' p'=>⟨xs.length - (i+1),by omega,rfl,hlt,p'⟩,fun x H' y=>?_⟩
    obtain ⟨e,y⟩:=y
    subst e
    exact hs i x σ _ (y xs q) p
  · have e:i=xs.length:=by omega
    subst e
    exact .inl ⟨⟨xs,q,Nat.le_refl _⟩,hd σ H p⟩
theorem for_tup {K:PySem.W.Frag} {a:Addr} {xs:List V} {g:TG} {tb:TS} {D:Ends} {σ:St} {H:Hp} (Pv:Nat→St→Hp→Prop) (h0:Pv 0 σ H) (hl:∀ i σ H,i≤xs.length→Pv i σ H→SqT K H a xs)
    (hs:∀ i x σ H,xs[i]?=some x→Pv i σ H→g x σ H fun σ2 H2=>tb { D with nx:=Pv (i+1),ct:=Pv (i+1),bk:=D.nx } σ2 H2) (hd:∀ σ H,Pv xs.length σ H→D.nx σ H) :
    ∃ W:Nat→Nat→St→Hp→Prop,(∃ m,W 0 m σ H)∧∀ i m σ H,W i m σ H →
      ((Itt K a).stop i H∧D.nx σ H)∨((Itt K a).go i H∧∃ N:St→Hp→Prop,(∀ σ' H',N σ' H'→∃ m',m' < m∧W (i+1) m' σ' H')∧∀ x H',(Itt K a).yld i H x H'→g x σ H' fun σ2 H2=>tb { D with nx:=N,ct:=N,bk:=D.nx } σ2 H2):=by
  refine ⟨fun i m σ H=>m=xs.length - i∧i≤xs.length∧Pv i σ H,⟨xs.length,by simp,Nat.zero_le _,h0⟩,?_⟩
  rintro i m σ H ⟨rfl,hi,p⟩
  have q:=hl i σ H hi p
  by_cases hlt:i < xs.length
  · refine .inr ⟨⟨xs,xs[i],q,by simp [hlt]⟩,Pv (i+1),fun σ' H' p'=>⟨xs.length - (i+1),by omega,rfl,hlt,p'⟩,fun x H' y=>?_⟩
    obtain ⟨e,y⟩:=y
    subst e
    exact hs i x σ _ (y xs q) p
  · have e:i=xs.length:=by omega
    subst e
    exact .inl ⟨⟨xs,q,Nat.le_refl _⟩,hd σ H p⟩
theorem for_range {lo:Int} {n:Nat} {g:TG} {tb:TS} {D:Ends} {σ:St} {H:Hp} (Pv:Nat→St→Hp→Prop) (h0:Pv 0 σ H)
    (hs:∀ i σ H,i < n→Pv i σ H→g (.int (lo+i)) σ H fun σ2 H2=>tb { D with nx:=Pv (i+1),ct:=Pv (i+1),bk:=D.nx } σ2 H2) (hd:∀ σ H,Pv n σ H→D.nx σ H) :
    ∃ W:Nat→Nat→St→Hp→Prop,(∃ m,W 0 m σ H)∧∀ i m σ H,W i m σ H →
      ((Itr lo n).stop i H∧D.nx σ H)∨((Itr lo n).go i H∧∃ N:St→Hp→Prop,(∀ σ' H',N σ' H'→∃ m',m' < m∧W (i+1) m' σ' H')∧∀ x H',(Itr lo n).yld i H x H'→g x σ H' fun σ2 H2=>tb { D with nx:=N,ct:=N,bk:=D.nx } σ2 H2):=by
  refine ⟨fun i m σ H=>m=n - i∧i≤n∧Pv i σ H,⟨n,by simp,Nat.zero_le _,h0⟩,?_⟩
  rintro i m σ H ⟨rfl,hi,p⟩
  by_cases hlt:i < n
  · refine .inr ⟨hlt,Pv (i+1),fun σ' H' p'=>⟨n - (i+1),by omega,rfl,hlt,p'⟩,fun x H' y=>?_⟩
    obtain ⟨e,y⟩:=y
    subst e y
    exact hs i σ _ hlt p
  · have e:i=n:=by omega
    subst e
    exact .inl ⟨Nat.le_refl _,hd σ H p⟩
end L2
namespace L2
open PySem PySem.Spec PyProof.Rows
abbrev R2:=V→V→Hp→VK→Prop
def OpR (X:Cx) (f:Value→Value→Sem Value) (r:R2):Prop :=
  ∀ (pins:List (Addr × Obj)) (s:Shared) (σ:St) (H:Hp) (x y:V) (v u:Value) (Q:VK),Inv X pins σ H s→RelV x v→RelV y u→r x y H Q →
    wpAny (model X.prog X.w) X.A (f v u) (EP X pins σ Q) X.xe s
def UnR (X:Cx) (f:Value→Sem Value) (r:V→Hp→VK→Prop):Prop :=
  ∀ (pins:List (Addr × Obj)) (s:Shared) (σ:St) (H:Hp) (x:V) (v:Value) (Q:VK),Inv X pins σ H s→RelV x v→r x H Q →
    wpAny (model X.prog X.w) X.A (f v) (EP X pins σ Q) X.xe s
def CallR (X:Cx) (f:Value) (r:List V→Hp→VK→Prop):Prop :=
  ∀ (pins:List (Addr × Obj)) (s:Shared) (σ:St) (H:Hp) (xs:List V) (us:List Value) (Q:VK),Inv X pins σ H s→Vals xs us→r xs H Q →
    wpAny (model X.prog X.w) X.A (call f us) (EP X pins σ Q) X.xe s
def TruR (X:Cx) (r:V→Hp→(Bool→Hp→Prop)→Prop):Prop :=
  ∀ (pins:List (Addr × Obj)) (s:Shared) (σ:St) (H:Hp) (x:V) (v:Value) (Q:Bool→Hp→Prop),Inv X pins σ H s→RelV x v→r x H Q →
    wpAny (model X.prog X.w) X.A (truthy v) (TP X pins σ Q) X.xe s
def tOp (r:R2) (ta tb:TE):TE:=fun σ H Q=>ta σ H fun x H1=>tb σ H1 fun y H2=>r x y H2 Q
def tUn (r:V→Hp→VK→Prop) (ta:TE):TE:=fun σ H Q=>ta σ H fun x H1=>r x H1 Q
def rI (C:Int→Int→Prop) (g:Int→Int→V):R2:=fun x y H Q=>∃ i j,x=.int i∧y=.int j∧C i j∧Q (g i j) H
def rI0 (g:Int→Int→V):R2:=fun x y H Q=>∃ i j,x=.int i∧y=.int j∧Q (g i j) H
def rU (g:Int→V):V→Hp→VK→Prop:=fun x H Q=>∃ i,x=.int i∧Q (g i) H
section
variable {X:Cx} {a b c:Expr} {ta tb tc:TE} {pos:Pos}
theorem binT (ha:PE X a ta) (hb:PE X b tb) {pins:List (Addr × Obj)} {s:Shared} {σ:St} {H:Hp} {R:V→V→Hp→Prop} (I:Inv X pins σ H s)
    (h:ta σ H fun x H1=>tb σ H1 fun y H2=>R x y H2) {Q:Value→Shared→Prop} {f:Value→Value→Sem Value}
    (hf:∀ v u s2 x y H2,Inv X pins σ H2 s2→RelV x v→RelV y u→R x y H2→wpAny (model X.prog X.w) X.A (f v u) Q X.xe s2) :
    wpAny (model X.prog X.w) X.A (eval a X.env) (fun v s₁=>wpAny (model X.prog X.w) X.A (eval b X.env) (fun u s₂=>wpAny (model X.prog X.w) X.A (f v u) Q X.xe s₂) X.xe s₁) X.xe s:=by
  refine thn (ha pins s σ H _ I h) fun v s1 ⟨x,H1,I1,r1,q1⟩=>?_
  refine thn (hb pins s1 σ H1 _ I1 q1) fun u s2 ⟨y,H2,I2,r2,q2⟩=>?_
  exact hf v u s2 x y H2 I2 r1 r2 q2
theorem pe_op {op:Operator} {r:R2} (ho:OpR X (binaryOp op) r) (ha:PE X a ta) (hb:PE X b tb):PE X (.BinOp a op b pos) (tOp r ta tb):=by
  intro pins s σ H Q I h
  exact wpAny_BinOp (binT ha hb I h fun v u s2 x y H2 I2 rx ry q=>ho pins s2 σ H2 x y v u Q I2 rx ry q)
theorem pe_un {op:UnaryOp} {r:V→Hp→VK→Prop} (ho:UnR X (unaryOp op) r) (ha:PE X a ta):PE X (.UnaryOp op a pos) (tUn r ta):=by
  intro pins s σ H Q I h
  exact UnaryOp_ (thn (ha pins s σ H _ I h) fun v s1 ⟨x,H1,I1,r1,q1⟩=>ho pins s1 σ H1 x v Q I1 r1 q1)
theorem opI {f:Value→Value→Sem Value} {C:Int→Int→Prop} {g:Int→Int→Int}
    (rule:∀ (i j:Int) (t u:Tok) (s:Shared) (Q:Value→Shared→Prop) (E:Value→Shared→Prop),C i j→Q (.int (g i j) s.toks) { s with toks:=s.toks+1 }→wpAny (model X.prog X.w) X.A (f (.int i t) (.int j u)) Q E s) :
    OpR X f (rI C fun i j=>.int (g i j)):=by
  intro pins s σ H x y v u Q I rx ry h
  obtain ⟨i,j,rfl,rfl,hc,q⟩:=h
  obtain ⟨t,rfl⟩:=rx
  obtain ⟨t',rfl⟩:=ry
  exact rule i j t t' s _ _ hc ⟨.int (g i j),H,I.tok _,⟨_,rfl⟩,q⟩
theorem opI0 {f:Value→Value→Sem Value} {g:Int→Int→Int}
    (rule:∀ (i j:Int) (t u:Tok) (s:Shared) (Q:Value→Shared→Prop) (E:Value→Shared→Prop),Q (.int (g i j) s.toks) { s with toks:=s.toks+1 }→wpAny (model X.prog X.w) X.A (f (.int i t) (.int j u)) Q E s) :
    OpR X f (rI0 fun i j=>.int (g i j)):=by
  intro pins s σ H x y v u Q I rx ry h
  obtain ⟨i,j,rfl,rfl,q⟩:=h
  obtain ⟨t,rfl⟩:=rx
  obtain ⟨t',rfl⟩:=ry
  exact rule i j t t' s _ _ ⟨.int (g i j),H,I.tok _,⟨_,rfl⟩,q⟩
theorem opB0 {f:Value→Value→Sem Value} {g:Int→Int→Bool}
    (rule:∀ (i j:Int) (t u:Tok) (s:Shared) (Q:Value→Shared→Prop) (E:Value→Shared→Prop),Q (.bool (g i j)) s→wpAny (model X.prog X.w) X.A (f (.int i t) (.int j u)) Q E s) :
    OpR X f (rI0 fun i j=>.bl (g i j)):=by
  intro pins s σ H x y v u Q I rx ry h
  obtain ⟨i,j,rfl,rfl,q⟩:=h
  obtain ⟨t,rfl⟩:=rx
  obtain ⟨t',rfl⟩:=ry
  exact rule i j t t' s _ _ ⟨.bl (g i j),H,I,rfl,q⟩
def CDiv (i j:Int):Prop:=0 < j∧j < 1073741824
def CDivN (i j:Int):Prop:=j ≠ 0∧j.natAbs < 1073741824
def CPow (i j:Int):Prop:=0≤j∧j≤1000000∧i.natAbs < 2 ^ 64
def CMul (i j:Int):Prop:=(-(2 ^ 64) < i∧i < 2 ^ 64)∨(-(2 ^ 64) < j∧j < 2 ^ 64)
theorem CMul.ok {i j:Int} (h:CMul i j):IntMulOk i j:=by
  rcases h with ⟨h1,h2⟩ | ⟨h1,h2⟩
  · exact .of_left (intBits_le_64 h1 h2)
  · exact .of_right (intBits_le_64 h1 h2)
theorem op_add:OpR X (binaryOp .Add) (rI0 fun i j=>.int (i+j)):=opI0 fun _ _ _ _ _ _ _ q=>add_int q
theorem op_sub:OpR X (binaryOp .Sub) (rI0 fun i j=>.int (i - j)):=opI0 fun _ _ _ _ _ _ _ q=>sub_int q
theorem op_mul:OpR X (binaryOp .Mult) (rI CMul fun i j=>.int (i*j)):=opI fun _ _ _ _ _ _ _ hc q=>mul_int q hc.ok
theorem op_fdiv:OpR X (binaryOp .FloorDiv) (rI CDiv fun i j=>.int (i / j)):=opI fun i j _ _ _ _ _ hc q=>by
  have h1:(0:Int) < j:=hc.1
  have h2:j < 1073741824:=hc.2
  exact floordiv_int (by omega) (by rw [Int.fdiv_eq_ediv_of_nonneg i (by omega)]; exact q) (.inl (PyProof.noPylong_small (by omega)))
theorem op_mod:OpR X (binaryOp .Mod) (rI (fun _ j=>0 < j) fun i j=>.int (i % j)):=opI fun i j _ _ _ _ _ hc q=>by
  have h1:(0:Int) < j:=hc
  exact mod_int' (by omega) (by rw [Int.fmod_eq_emod_of_nonneg i (by omega)]; exact q)
theorem op_pow:OpR X (binaryOp .Pow) (rI CPow fun i j=>.int (i ^ j.toNat)):=opI fun _ _ _ _ _ _ _ hc q=>pow_int_small hc.1 hc.2.1 hc.2.2 q
theorem unI {f:Value→Sem Value} {g:Int→Int}
    (rule:∀ (i:Int) (t:Tok) (s:Shared) (Q:Value→Shared→Prop) (E:Value→Shared→Prop),Q (.int (g i) s.toks) { s with toks:=s.toks+1 }→wpAny (model X.prog X.w) X.A (f (.int i t)) Q E s) :
    UnR X f (rU fun i=>.int (g i)):=by
  intro pins s σ H x v Q I rx h
  obtain ⟨i,rfl,q⟩:=h
  obtain ⟨t,rfl⟩:=rx
  exact rule i t s _ _ ⟨.int (g i),H,I.tok _,⟨_,rfl⟩,q⟩
theorem un_neg:UnR X (unaryOp .USub) (rU fun i=>.int (-i)):=unI fun _ _ _ _ _ q=>neg_int q
end
def scal:V→V→Bool
  | .non,.non=>true | .non,.int _=>true | .int _,.non=>true | .non,.bl _=>true | .bl _,.non=>true | .non,.str _=>true | .str _,.non=>true
  | .int _,.int _=>true | .bl _,.bl _=>true | .str _,.str _=>true | .byt _,.byt _=>true
  | .int _,.str _=>true | .str _,.int _=>true | .bl _,.str _=>true | .str _,.bl _=>true
  | _,_=>false
def rEq:R2:=fun x y H Q=>scal x y=true∧Q (.bl (decide (x=y))) H
def rNe:R2:=fun x y H Q=>scal x y=true∧Q (.bl (!decide (x=y))) H
theorem dec_int {i j:Int}:decide (V.int i=V.int j)=(i == j):=by
  rw [Bool.eq_iff_iff]
  simp
theorem dec_bl {i j:Bool}:decide (V.bl i=V.bl j)=(i == j):=by
  rw [Bool.eq_iff_iff]
  simp
theorem dec_str {i j:Str}:decide (V.str i=V.str j)=(i == j):=by
  rw [Bool.eq_iff_iff]
  simp
theorem dec_byt {i j:Array UInt8}:decide (V.byt i=V.byt j)=(i.toList == j.toList):=by
  rw [Bool.eq_iff_iff]
  cases i
  cases j
  simp
section
variable {X:Cx} {a b c:Expr} {ta tb tc:TE} {pos:Pos}
theorem fin_bl {pins:List (Addr × Obj)} {σ:St} {H:Hp} {s:Shared} {Q:VK} {k k':Bool} (I:Inv X pins σ H s) (q:Q (.bl k) H) (e:k=k'):EP X pins σ Q (.bool k') s:=by
  subst e
  exact ⟨.bl k,H,I,rfl,q⟩
theorem op_eq:OpR X (compareOp .Eq) rEq:=by
  intro pins s σ H x y v u Q I rx ry h
  obtain ⟨hs,q⟩:=h
  cases x with
  | non =>
    cases rx
    cases y with
    | non=>cases ry; exact PySem.EqNone.eq_none_none (fin_bl I q (by simp))
    | bl j=>cases ry; exact PySem.EqNone.eq_none_bool (fin_bl I q (by simp))
    | int j=>obtain ⟨t',rfl⟩:=ry; exact PySem.EqNone.eq_none_int (fin_bl I q (by simp))
    | str j=>obtain ⟨t',rfl⟩:=ry; exact PySem.EqNone.eq_none_str (fin_bl I q (by simp))
    | _=>exact absurd (show false=true from hs) Bool.false_ne_true
  | bl i =>
    cases rx
    cases y with
    | non=>cases ry; exact PySem.EqNone.eq_bool_none (fin_bl I q (by simp))
    | bl j=>cases ry; exact eq_bool (fin_bl I q dec_bl)
    | str j=>obtain ⟨t',rfl⟩:=ry; exact PySem.EqMixed.eq_bool_str (fin_bl I q (by simp))
    | _=>exact absurd (show false=true from hs) Bool.false_ne_true
  | int i =>
    obtain ⟨t,rfl⟩:=rx
    cases y with
    | non=>cases ry; exact PySem.EqNone.eq_int_none (fin_bl I q (by simp))
    | int j=>obtain ⟨t',rfl⟩:=ry; exact eq_int (fin_bl I q dec_int)
    | str j=>obtain ⟨t',rfl⟩:=ry; exact PySem.EqMixed.eq_int_str (fin_bl I q (by simp))
    | _=>exact absurd (show false=true from hs) Bool.false_ne_true
  | str i =>
    obtain ⟨t,rfl⟩:=rx
    cases y with
    | non=>cases ry; exact PySem.EqNone.eq_str_none (fin_bl I q (by simp))
    | bl j=>cases ry; exact PySem.EqMixed.eq_str_bool (fin_bl I q (by simp))
    | int j=>obtain ⟨t',rfl⟩:=ry; exact PySem.EqMixed.eq_str_int (fin_bl I q (by simp))
    | str j=>obtain ⟨t',rfl⟩:=ry; exact eq_str (fin_bl I q dec_str)
    | _=>exact absurd (show false=true from hs) Bool.false_ne_true
  | byt i =>
    obtain ⟨t,rfl⟩:=rx
    cases y with
    | byt j=>obtain ⟨t',rfl⟩:=ry; exact PySem.W.eq_bytes (fin_bl I q dec_byt)
    | _=>exact absurd (show false=true from hs) Bool.false_ne_true
  | _=>cases y <;> exact absurd (show false=true from hs) Bool.false_ne_true
theorem op_ne:OpR X (compareOp .NotEq) rNe:=by
  intro pins s σ H x y v u Q I rx ry h
  obtain ⟨hs,q⟩:=h
  cases x with
  | non =>
    cases rx
    cases y with
    | non=>cases ry; exact PySem.EqNone.ne_none_none (fin_bl I q (by simp))
    | bl j=>cases ry; exact PySem.EqNone.ne_none_bool (fin_bl I q (by simp))
    | int j=>obtain ⟨t',rfl⟩:=ry; exact PySem.EqNone.ne_none_int (fin_bl I q (by simp))
    | str j=>obtain ⟨t',rfl⟩:=ry; exact PySem.EqNone.ne_none_str (fin_bl I q (by simp))
    | _=>exact absurd (show false=true from hs) Bool.false_ne_true
  | bl i =>
    cases rx
    cases y with
    | non=>cases ry; exact PySem.EqNone.ne_bool_none (fin_bl I q (by simp))
    | bl j=>cases ry; exact ne_bool (fin_bl I q (congrArg not dec_bl))
    | str j=>obtain ⟨t',rfl⟩:=ry; exact PySem.EqMixed.ne_bool_str (fin_bl I q (by simp))
    | _=>exact absurd (show false=true from hs) Bool.false_ne_true
  | int i =>
    obtain ⟨t,rfl⟩:=rx
    cases y with
    | non=>cases ry; exact PySem.EqNone.ne_int_none (fin_bl I q (by simp))
    | int j=>obtain ⟨t',rfl⟩:=ry; exact ne_int (fin_bl I q (congrArg not dec_int))
    | str j=>obtain ⟨t',rfl⟩:=ry; exact PySem.EqMixed.ne_int_str (fin_bl I q (by simp))
    | _=>exact absurd (show false=true from hs) Bool.false_ne_true
  | str i =>
    obtain ⟨t,rfl⟩:=rx
    cases y with
    | non=>cases ry; exact PySem.EqNone.ne_str_none (fin_bl I q (by simp))
    | bl j=>cases ry; exact PySem.EqMixed.ne_str_bool (fin_bl I q (by simp))
    | int j=>obtain ⟨t',rfl⟩:=ry; exact PySem.EqMixed.ne_str_int (fin_bl I q (by simp))
    | str j=>obtain ⟨t',rfl⟩:=ry; exact ne_str (fin_bl I q (congrArg not dec_str))
    | _=>exact absurd (show false=true from hs) Bool.false_ne_true
  | byt i =>
    obtain ⟨t,rfl⟩:=rx
    cases y with
    | byt j=>obtain ⟨t',rfl⟩:=ry; exact PySem.W.ne_bytes (fin_bl I q (congrArg not dec_byt))
    | _=>exact absurd (show false=true from hs) Bool.false_ne_true
  | _=>cases y <;> exact absurd (show false=true from hs) Bool.false_ne_true
theorem op_lt:OpR X (compareOp .Lt) (rI0 fun i j=>.bl (decide (i < j))):=opB0 fun _ _ _ _ _ _ _ q=>lt_int q
theorem op_le:OpR X (compareOp .LtE) (rI0 fun i j=>.bl (decide (i≤j))):=opB0 fun _ _ _ _ _ _ _ q=>le_int q
theorem op_gt:OpR X (compareOp .Gt) (rI0 fun i j=>.bl (decide (j < i))):=opB0 fun _ _ _ _ _ _ _ q=>gt_int q
theorem op_ge:OpR X (compareOp .GtE) (rI0 fun i j=>.bl (decide (j≤i))):=opB0 fun _ _ _ _ _ _ _ q=>ge_int q
def isObj:HO→Bool
  | .lst _=>true
  | .ins _ _ _=>true
  | _=>false
theorem nomark (b:Expr) {op:CmpOp} (h:op ≠ .In:=by decide) (h2:op ≠ .NotIn:=by decide):behindInMarks op b=false:=by
  have e1:(op == CmpOp.In)=false:=by cases op <;> first | rfl | exact absurd rfl h
  have e2:(op == CmpOp.NotIn)=false:=by cases op <;> first | rfl | exact absurd rfl h2
  cases b <;> simp [behindInMarks,e1,e2]
theorem pe_cmpR {op:CmpOp} {r:R2} (ho:OpR X (compareOp op) r) (ha:PE X a ta) (hb:PE X b tb) (hm:behindInMarks op b=false):PE X (.Compare a [op] [b] pos) (tOp r ta tb):=by
  intro pins s σ H Q I h
  exact wpAny_Compare1 (binT ha hb I h fun v u s2 x y H2 I2 rx ry q=>ho pins s2 σ H2 x y v u Q I2 rx ry q) hm
def tTest (t:TE):TT:=fun σ H Q=>t σ H fun x H'=>∃ k,x=.bl k∧Q k H'
theorem pt_cmpR {op:CmpOp} {r:R2} (ho:OpR X (compareOp op) r) (ha:PE X a ta) (hb:PE X b tb) (hm:behindInMarks op b=false):PT X (.Compare a [op] [b] pos) (tTest (tOp r ta tb)):=by
  intro pins s σ H Q I h
  refine wpAny_isTrue_Compare1 (thn (ha pins s σ H _ I h) fun v s1 ⟨x,H1,I1,r1,q1⟩=>thn (hb pins s1 σ H1 _ I1 q1) fun u s2 ⟨y,H2,I2,r2,q2⟩ =>
    thn (ho pins s2 σ H2 x y v u _ I2 r1 r2 q2) fun c s3 ⟨z,H3,I3,r3,k,e,q3⟩=>?_) hm
  subst e
  cases r3
  exact wpAny_truthy_bool ⟨H3,I3,q3⟩
def tChain (r r':R2) (ta tb tc:TE):TE:=fun σ H Q=>ta σ H fun x H1=>tb σ H1 fun y H2=>r x y H2 fun z H3=>∃ k,z=.bl k ∧
  (if k=true then tc σ H3 fun w' H4=>r' y w' H4 Q else Q (.bl false) H3)
theorem pe_chain {op op':CmpOp} {r r':R2} (ho:OpR X (compareOp op) r) (ho':OpR X (compareOp op') r') (ha:PE X a ta) (hb:PE X b tb) (hc:PE X c tc)
    (hm:lastMarks [op,op'] [b,c]=false:=by with_unfolding_all rfl):PE X (.Compare a [op,op'] [b,c] pos) (tChain r r' ta tb tc):=by
  intro pins s σ H Q I h
  refine Compare_chain (thn (ha pins s σ H _ I h) fun v s1 ⟨x,H1,I1,r1,q1⟩=>chain_link (thn (hb pins s1 σ H1 _ I1 q1) fun u s2 ⟨y,H2,I2,r2,q2⟩ =>
    thn (ho pins s2 σ H2 x y v u _ I2 r1 r2 q2) fun d s3 ⟨z,H3,I3,r3,k,e,q3⟩=>?_)) hm
  subst e
  cases r3
  refine wpAny_truthy_bool ?_
  cases k with
  | false=>exact ite_ff ⟨.bl false,H3,I3,rfl,q3⟩
  | true=>exact ite_tt (chain_last (thn (hc pins s3 σ H3 _ I3 q3) fun w' s4 ⟨z',H4,I4,r4,q4⟩=>ho' pins s4 σ H4 y z' u w' Q I4 r2 r4 q4))
def TruV (K:PySem.W.Frag) (x:V) (H:Hp) (k:Bool):Prop :=
  match x with
  | .non=>k=false
  | .bl b=>k=b
  | .int i=>k=(i != 0)
  | .str y=>y.length≤sizeLine∧k=((y.length:Int) != 0)
  | .byt y=>y.size≤sizeLine∧k=((y.size:Int) != 0)
  | .ref p=>(∃ xs,SqL K H p xs∧k=!xs.isEmpty)∨(∃ xs,SqT K H p xs∧k=!xs.isEmpty)∨∃ kvs,H p=some (.dK kvs)∧k=!kvs.isEmpty
  | _=>False
theorem line63:(sizeLine:Nat) < 2 ^ 63:=by rw [sizeLine_eq]; decide
theorem op_add_str:OpR X (binaryOp .Add) (fun x y H Q=>∃ i j,x=.str i∧y=.str j∧i.length+j.length≤sizeLine∧Q (.str (i++j)) H):=by
  intro pins s σ H x y v u Q I rx ry h
  obtain ⟨i,j,rfl,rfl,hz,q⟩:=h
  obtain ⟨t,rfl⟩:=rx
  obtain ⟨t',rfl⟩:=ry
  exact add_str (fun t' tk=>⟨.str (i++j),H,I.tok _,⟨_,rfl⟩,q⟩) hz
def PlainIxT (b:Expr):Prop:=∀ o i,subscripted b false o i=operate [o,i] (getItem o i)
theorem vals1 {x:V} {us:List Value} (r:Vals [x] us):∃ u,us=[u]∧RelV x u:=by
  cases r with
  | cons r1 r2=>cases r2; exact ⟨_,rfl,r1⟩
theorem vals2 {x y:V} {us:List Value} (r:Vals [x,y] us):∃ u w',us=[u,w']∧RelV x u∧RelV y w':=by
  cases r with
  | cons r1 r2 =>
    cases r2 with
    | cons r3 r4=>cases r4; exact ⟨_,_,rfl,r1,r3⟩
theorem call_max2 (hc:X.calm=true):CallR X (.builtin "max") (fun xs H Q=>∃ i j,xs=[.int i,.int j]∧Q (.int (if j > i then j else i)) H):=by
  intro pins s σ H xs us Q I r h
  obtain ⟨i,j,rfl,q⟩:=h
  obtain ⟨u,w',rfl,⟨t,rfl⟩,⟨t',rfl⟩⟩:=vals2 r
  refine max_two_ints (I.ok.hd hc) fun h' tk k=>⟨_,H,I.kept k,?_,q⟩
  by_cases hj:j > i
  · rw [if_pos hj,if_pos hj]; exact ⟨_,rfl⟩
  · rw [if_neg hj,if_neg hj]; exact ⟨_,rfl⟩
theorem call_int1:CallR X (.type "int") (fun xs H Q=>(∃ i,xs=[.int i]∧Q (.int i) H)∨∃ k,xs=[.bl k]∧Q (.int (if k then 1 else 0)) H):=by
  intro pins s σ H xs us Q I r h
  rcases h with ⟨i,rfl,q⟩ | ⟨k,rfl,q⟩
  · obtain ⟨u,rfl,t,rfl⟩:=vals1 r
    exact call_int_int ⟨.int i,H,I,⟨_,rfl⟩,q⟩
  · obtain ⟨u,rfl,r1⟩:=vals1 r
    cases r1
    exact call_int_bool ⟨.int (if k then 1 else 0),H,I.tok _,⟨_,rfl⟩,q⟩
def LenV (K:PySem.W.Frag) (x:V) (H:Hp) (n:Nat):Prop :=
  match x with
  | .str y=>y.length≤sizeLine∧n=y.length
  | .byt y=>y.size≤sizeLine∧n=y.size
  | .ref p=>(∃ xs,SqL K H p xs∧n=xs.length)∨∃ xs,SqT K H p xs∧n=xs.length
  | _=>False
end
end L2
namespace L2
open PySem PySem.Spec PyProof.Rows
structure ObjM (h:Heap) (x dx C:Addr) (mA:Str→Option Value):Prop where
  obj:h.get? x=some (PySem.W.instObj C dx)
  ns:h.Ns1 dx mA
  ne:dx ≠ x
theorem lookIn_ns {h:Heap} {dx:Addr} {mA:Str→Option Value} (n:h.Ns1 dx mA):∃ od,h.get? dx=some od∧∀ name,PySem.W.lookIn name od=some (mA name):=by
  obtain ⟨o,es,ep,ho,hd,hk,_,hm⟩:=n
  refine ⟨o,ho,fun name=>?_⟩
  have e:=hm name
  unfold nsFind findBy at e
  rw [← Array.find?_toList] at e
  unfold PySem.W.lookIn
  rw [hd]
  dsimp only
  split
  · rename_i y q
    rw [q] at e
    exact congrArg some e
  · rename_i q
    rw [q] at e
    have a:es.toList.any (·.refKey)=false:=by
      rw [List.any_eq_false]
      intro y hy
      obtain ⟨z,t,hkey⟩:=hk y (Array.mem_toList_iff.mp hy)
      simp [DictEntry.refKey,hkey]
    have a':¬ es.toList.any (·.refKey)=true:=by rw [a]; exact Bool.false_ne_true
    rw [if_neg a']
    exact congrArg some e
theorem ObjM.look {h:Heap} {x dx C:Addr} {mA:Str→Option Value} (I:ObjM h x dx C mA):∃ od,PySem.W.InstAt h x (PySem.W.instObj C dx) C (some od)∧∀ name,PySem.W.lookIn name od=some (mA name) :=
  let ⟨od,ho,hl⟩:=lookIn_ns I.ns
  ⟨od,⟨I.obj,rfl,rfl,ho⟩,hl⟩
section
variable {prog:Program} {w:World} {A:Around} {E:Value→Shared→Prop} {s:Shared} {K:PySem.W.Frag} {x dx C f:Addr} {mA:Str→Option Value} {name:Str} {v:Value}
theorem get_map {expr:Bool} {Q:Value→Shared→Prop} (X:K.In s.heap) (I:ObjM s.heap x dx C mA) (hg:PySem.W.plainGet K C name=true) (hh:PySem.W.hasDictIn K C=true)
    (ha:PySem.W.findIn K (.ref C) name=some none) (hv:mA name=some v) (hv':PySem.W.handedIn v=true) (h:Q v { s with toks:=s.toks+1 }) :
    wpAny (model prog w) A (getAttr (.ref x) name expr) Q E s:=by
  obtain ⟨od,J,hl⟩:=I.look
  exact PySem.W.get_value X J (PySem.W.plainGet_of hg).1 (PySem.W.findObj_own hh ha rfl (by rw [hl,hv])) hv' h
theorem get_meth {pl:Sem Bool} {Q:Value × List Value→Shared→Prop} (X:K.In s.heap) (I:ObjM s.heap x dx C mA) (hg:PySem.W.plainGet K C name=true)
    (hf:PySem.W.findIn K (.ref C) name=some (some (.ref f))) (ht:PySem.W.isFn K (.ref f)=true) (hv:mA name=none) (h:Q (.ref f,[.ref x]) s) :
    wpAny (model prog w) A (getMethod (.ref x) name pl) Q E s:=by
  obtain ⟨od,J,hl⟩:=I.look
  exact PySem.W.method_fn X J (PySem.W.plainGet_of hg).1 (PySem.W.plainGet_of hg).2 hf (beq_iff_eq.mp ht) (by show (PySem.W.lookIn name od).map (·.isSome)=some false; rw [hl,hv]; rfl) h
theorem set_map {ns:List Str} {Q:Unit→Shared→Prop} (X:K.In s.heap) (I:ObjM s.heap x dx C mA)
    (hs:PySem.W.findIn K (.ref C) "__setattr__" = some (some (.builtin "object.__setattr__"))) (hp:PySem.W.plainOver K C=true) (ht:PySem.W.takerIn K C name=some none) (hh:PySem.W.hasDictIn K C=true)
    (hw:PySem.Within mA ns) (hsz:ns.length≤sizeLine)
    (h:∀ h',ObjM h' x dx C (fun y=>if y=name then some v else mA y)→Heap.SameBut dx s.heap h'→Q () { s with heap:=h',toks:=s.toks+2 }) :
    wpAny (model prog w) A (setAttr (.ref x) name v) Q E s:=by
  obtain ⟨od,J,hl⟩:=I.look
  refine PySem.W.set_plain X J hs (PySem.W.osa_open (s:={ s with toks:=s.toks+1 }) (r:=none) X J hp ht fun b=>?_)
  obtain ⟨cd,hc,hd'⟩:=PySem.W.any_some hh
  have hx:s.heap.get? x=some ⟨.ref C,some dx,.plain,#[]⟩:=I.obj
  refine wpAny_bind (wpAny_pure (wpAny_bind (wpAny_bind (wpAny_loadPart hx (wpAny_bind (PySem.W.Looks.here (s:={ s with toks:=s.toks+1 }) (PySem.W.looks_clsIn X hc) ?_))))))
  rw [hd']
  refine wpAny_pure (a:=some dx) (wpAny_bind (wpAny_pure (wpAny_bind ?_)))
  refine wpAny_nsSet1 (s:={ s with toks:=s.toks+1 }) I.ns fun h' hn2 hs2=>?_
  obtain ⟨oD,esD,epD,hoD,hdD,hcD⟩:=hn2.count (PySem.Within.cons name v hw)
  refine wpAny_bind (wpAny_lookBehind hoD (by rw [hdD]; exact pastItsLine_dict (Nat.le_trans hcD (by rw [List.length_cons]; omega))) ?_)
  exact wpAny_pure (h _ ⟨(hs2.2 _ (Ne.symm I.ne)).trans I.obj,hn2,I.ne⟩ hs2)
theorem make_map {R:Result→Shared→Prop} {vs:List Value} {kw:List (Str × Value)} (X:K.In s.heap) (hm:PySem.W.makesIn K C=true)
    (hi:PySem.W.findIn K (.ref C) "__init__" = some (some (.ref f))) (hf:PySem.W.typeIn K (.ref f)=some (.type "function"))
    (h:codeAny (model prog w) (A.under (.builtin "type.__call__" ⟨.ref C::vs,kw⟩)) (.call (.ref f) ⟨.ref (s.heap.objs.size+1)::vs,kw⟩) (PySem.W.InitBack (s.heap.objs.size+1) R)
      { s with heap:=(s.heap.push PySem.W.emptyDict).push (PySem.W.instObj C s.heap.objs.size) }) :
    codeAny (model prog w) A (.call (.ref C) ⟨vs,kw⟩) R s:=by
  obtain ⟨hh,g,d,t,os⟩:=s
  exact PySem.W.make_core (PySem.W.makes_of X hm) (PySem.W.looks_findIn X hi) (fun self=>PySem.W.bind_fn X self hf) (.inl rfl) h
end
def putF (f:Str) (v:V):List (Str × V)→List (Str × V)
  | []=>[(f,v)]
  | (g,x)::r=>if g=f then (g,v)::r else (g,x)::putF f v r
theorem lookup_putF (f g:Str) (v:V):∀ fs:List (Str × V),(putF f v fs).lookup g=if g=f then some v else fs.lookup g
  | []=>by
    show List.lookup g [(f,v)]=_
    by_cases h:g=f
    · have hb:(g == f)=true:=beq_iff_eq.mpr h
      simp only [List.lookup,hb,if_pos h]
    · have hb:(g == f)=false:=beq_eq_false_iff_ne.mpr h
      simp only [List.lookup,hb,if_neg h]
  | (k,x)::r=>by
    have ih:=lookup_putF f g v r
    rw [show putF f v ((k,x)::r)=(if k=f then (k,v)::r else (k,x)::putF f v r) from rfl]
    by_cases hk:k=f
    · rw [if_pos hk]
      by_cases h:g=k
      · have hb:(g == k)=true:=beq_iff_eq.mpr h
        simp only [List.lookup,hb,if_pos (h.trans hk)]
      · have hb:(g == k)=false:=beq_eq_false_iff_ne.mpr h
        simp only [List.lookup,hb,if_neg (fun e:g=f=>h (e.trans hk.symm))]
    · rw [if_neg hk]
      by_cases h:g=k
      · have hb:(g == k)=true:=beq_iff_eq.mpr h
        simp only [List.lookup,hb,if_neg (fun e:g=f=>hk (h.symm.trans e))]
      · have hb:(g == k)=false:=beq_eq_false_iff_ne.mpr h
        simp only [List.lookup,hb]
        exact ih
theorem keys_putF (f:Str) (v:V):∀ fs:List (Str × V),f ∈ (putF f v fs).map (·.1)∧∀ g,g ∈ fs.map (·.1)→g ∈ (putF f v fs).map (·.1)
  | []=>⟨by simp [putF],fun g h=>by simp at h⟩
  | (k,x)::r=>by
    obtain ⟨i1,i2⟩:=keys_putF f v r
    rw [show putF f v ((k,x)::r)=(if k=f then (k,v)::r else (k,x)::putF f v r) from rfl]
    by_cases hk:k=f
    · rw [if_pos hk]
      subst hk
      exact ⟨by simp,fun g h=>by simpa using h⟩
    · rw [if_neg hk]
      refine ⟨?_,fun g h=>?_⟩
      · rw [List.map_cons]
        exact List.mem_cons_of_mem _ i1
      · rw [List.map_cons] at h ⊢
        rcases List.mem_cons.mp h with e | e
        · exact List.mem_cons.mpr (.inl e)
        · exact List.mem_cons_of_mem _ (i2 g e)
theorem length_putF (f:Str) (v:V):∀ fs:List (Str × V),(putF f v fs).length≤fs.length+1
  | []=>by simp [putF]
  | (k,x)::r=>by
    have ih:=length_putF f v r
    rw [show putF f v ((k,x)::r)=(if k=f then (k,v)::r else (k,x)::putF f v r) from rfl]
    by_cases hk:k=f
    · rw [if_pos hk,List.length_cons,List.length_cons]; omega
    · rw [if_neg hk,List.length_cons,List.length_cons]; omega
theorem RelO.some_of {v:V} {o:Option Value} (r:RelO (some v) o):∃ u,o=some u∧RelV v u:=by
  cases o with
  | none=>exact (show False from r).elim
  | some u=>exact ⟨u,rfl,r⟩
theorem RelO.none_of {o:Option Value} (r:RelO none o):o=none:=by
  cases o with
  | none=>rfl
  | some u=>exact (show False from r).elim
theorem handed_of {v:V} {u:Value} (r:RelV v u):PySem.W.handedIn u=true:=by
  cases v with
  | non=>cases (show u=Value.none from r); rfl
  | bl b=>cases (show u=Value.bool b from r); rfl
  | int i=>obtain ⟨t,e⟩:=(show ∃ t,u=Value.int i t from r); cases e; rfl
  | str x=>obtain ⟨t,e⟩:=(show ∃ t,u=Value.str x t from r); cases e; rfl
  | byt b=>obtain ⟨t,e⟩:=(show ∃ t,u=Value.bytes b t from r); cases e; rfl
  | flt b=>obtain ⟨t,e⟩:=(show ∃ t,u=Value.float b t from r); cases e; rfl
  | ref a=>cases (show u=Value.ref a from r); rfl
  | ty n=>cases (show u=Value.type n from r); rfl
section
variable {P:Program} {w:World} {H H':Hp} {h h':Heap} {a C dx:Addr} {fs fs':List (Str × V)}
theorem ins_get (hok:HOk P w H h) (e:H a=some (.ins C dx fs)):∃ mA,ObjM h a dx C mA∧(∀ f,RelO (fs.lookup f) (mA f))∧PySem.Within mA (fs.map (·.1))∧fs.length≤1000∧H dx=some (.own a):=by
  obtain ⟨d,z,ne,ob,mA,n,r,q⟩:=(show ObjOk P w H h a (.ins C dx fs) from hok a _ e)
  exact ⟨mA,⟨ob,n,ne⟩,r,q,z,d⟩
end
structure Cls (K:PySem.W.Frag) (C:Addr):Prop where
  pg:PySem.W.plainGet K C Str.empty=true
  hd:PySem.W.hasDictIn K C=true
  po:PySem.W.plainOver K C=true
  sa:PySem.W.findIn K (.ref C) "__setattr__" = some (some (.builtin "object.__setattr__"))
theorem Cls.get {K:PySem.W.Frag} {C:Addr} (c:Cls K C) (f:Str):PySem.W.plainGet K C f=true:=c.pg
def NoAttr (K:PySem.W.Frag) (C:Addr) (f:Str):Prop:=PySem.W.findIn K (.ref C) f=some none
theorem NoAttr.taker {K:PySem.W.Frag} {C:Addr} {f:Str} (n:NoAttr K C f):PySem.W.takerIn K C f=some none:=by
  unfold PySem.W.takerIn
  rw [show PySem.W.findIn K (.ref C) f=some none from n]
  rfl
structure Con (K:PySem.W.Frag) (C:Addr) (f:Str) (v:V) (u:Value):Prop where
  at_:PySem.W.findIn K (.ref C) f=some (some u)
  rel:RelV v u
  get:PySem.W.specialIn K u "__get__" = some none
  cp:PySem.W.copiedNames.contains f=false
structure Meth (K:PySem.W.Frag) (C:Addr) (m:Str) (f:Addr):Prop where
  at_:PySem.W.findIn K (.ref C) m=some (some (.ref f))
  fn:PySem.W.isFn K (.ref f)=true
  kp:PySem.W.keepIn K (.ref f)=true
section
variable {X:Cx} {pins:List (Addr × Obj)} {σ:St} {H:Hp} {s:Shared} {a C dx:Addr} {fs:List (Str × V)} {f:Str} {v:V} {A:Around} {E:Value→Shared→Prop}
theorem getattr_ok {b:Bool} {Q:Value→Shared→Prop} (I:Inv X pins σ H s) (e:H a=some (.ins C dx fs)) (c:Cls X.K C) (n:NoAttr X.K C f) (l:fs.lookup f=some v)
    (h:∀ u s',Inv X pins σ H s'→RelV v u→Q u s'):wpAny (model X.prog X.w) A (getAttr (.ref a) f b) Q E s:=by
  obtain ⟨mA,O,r,_,_,_⟩:=ins_get I.hok e
  obtain ⟨u,hu,ru⟩:=RelO.some_of (v:=v) (o:=mA f) (by rw [← l]; exact r f)
  exact get_map I.kIn O (c.get f) c.hd n hu (handed_of ru) (h u _ (I.tok _) ru)
theorem getmeth_ok {m:Str} {g:Addr} {pl:Sem Bool} {Q:Value × List Value→Shared→Prop} (I:Inv X pins σ H s) (e:H a=some (.ins C dx fs)) (c:Cls X.K C) (k:Meth X.K C m g) (l:fs.lookup m=none)
    (h:Q (.ref g,[.ref a]) s):wpAny (model X.prog X.w) A (getMethod (.ref a) m pl) Q E s:=by
  obtain ⟨mA,O,r,_,_,_⟩:=ins_get I.hok e
  have hn:mA m=none:=RelO.none_of (by rw [← l]; exact r m)
  exact get_meth I.kIn O (c.get m) k.at_ k.fn hn h
theorem setattr_ok {y:V} {u:Value} {Q:Unit→Shared→Prop} (I:Inv X pins σ H s) (e:H a=some (.ins C dx fs)) (c:Cls X.K C) (n:NoAttr X.K C f) (hl:fs.length < 1000) (ry:RelV y u)
    (h:∀ s',Inv X pins σ (upd H a (.ins C dx (putF f y fs))) s'→Q () s'):wpAny (model X.prog X.w) A (setAttr (.ref a) f u) Q E s:=by
  obtain ⟨mA,O,r,wi,_,ho⟩:=ins_get I.hok e
  have hz:(fs.map (·.1)).length≤sizeLine:=by rw [List.length_map,sizeLine_eq]; omega
  refine set_map I.kIn O c.sa c.po n.taker c.hd wi hz fun h' O' sb=>h _ ?_
  have hd:∃ o,h'.get? dx=some o:=let ⟨o,_,_,e',_⟩:=O'.ns; ⟨o,e'⟩
  refine I.write (x:=a) (e:=dx) (by rw [e]; exact True.intro) (.inr ho) (fun b q hb z=>(sb.2 b hb).trans z) hd ?_
  refine ⟨by rw [upd_ne O.ne]; exact ho,?_,O.ne,O'.obj,_,O'.ns,fun g=>?_,fun g hg=>?_⟩
  · have:=length_putF f y fs; omega
  · show RelO ((putF f y fs).lookup g) (if g=f then some u else mA g)
    rw [lookup_putF]
    by_cases q:g=f
    · rw [if_pos q,if_pos q]; exact ry
    · rw [if_neg q,if_neg q]; exact r g
  · by_cases q:g=f
    · rw [q]; exact (keys_putF f y fs).1
    · refine (keys_putF f y fs).2 g (wi g fun z=>hg ?_)
      show (if g=f then some u else mA g)=none
      rw [if_neg q]; exact z
theorem Inv.made (I:Inv X pins σ H s):Inv X pins σ (upd (upd H s.heap.objs.size (.own (s.heap.objs.size+1))) (s.heap.objs.size+1) (.ins C s.heap.objs.size []))
    { s with heap:=(s.heap.push PySem.W.emptyDict).push (PySem.W.instObj C s.heap.objs.size) }:=by
  have e1:(s.heap.push PySem.W.emptyDict).get? s.heap.objs.size=some PySem.W.emptyDict:=Heap.get?_push_size s.heap rfl
  have e2:((s.heap.push PySem.W.emptyDict).push (PySem.W.instObj C s.heap.objs.size)).get? (s.heap.objs.size+1)=some (PySem.W.instObj C s.heap.objs.size):=by
    have:=Heap.get?_push_size (s.heap.push PySem.W.emptyDict) (o:=PySem.W.instObj C s.heap.objs.size) rfl
    rwa [Heap.size_push] at this
  have e3:(s.heap.push PySem.W.emptyDict).Ns s.heap.objs.size (fun _=>none):=⟨PySem.W.emptyDict,#[],_,e1,rfl,(fun e he=>absurd he (by simp)),fun _=>rfl⟩
  have I1:=I.laid (a:=s.heap.objs.size) (o:=.own (s.heap.objs.size+1)) (h':=s.heap.push PySem.W.emptyDict) (t':=s.toks) (fun b u q=>Heap.get?_push_of_some _ q) (Nat.le_refl _) ⟨_,e1⟩
  refine I1.laid (a:=s.heap.objs.size+1) (o:=.ins C s.heap.objs.size []) (t':=s.toks) (fun b u q=>Heap.get?_push_of_some _ q) (Nat.le_of_eq (Heap.size_push _ _)) ?_
  have ne:s.heap.objs.size ≠ s.heap.objs.size+1:=Nat.ne_of_lt (Nat.lt_succ_self _)
  refine ⟨by rw [upd_ne ne,upd_same],Nat.zero_le _,ne,e2,fun _=>none,(Heap.Ns1.of_empty e3).at fun o q=>Heap.get?_push_of_some _ q,fun _=>True.intro,fun y hy=>absurd rfl hy⟩
theorem attr_of {prog:Program} {w:World} {env:Env} {e:Expr} {f:Str} {pos:Pos} {s:Shared} {Q:Value→Shared→Prop} (hb:attributeBase e f env (eval e env)=eval e env)
    (h:wpAny (model prog w) A (eval e env) (fun o s₁=>wpAny (model prog w) A (getAttr o f true) Q E s₁) E s):wpAny (model prog w) A (eval (.Attribute e f pos) env) Q E s :=
  Attribute_any_ h (by rw [arm_eval_Attribute,hb])
end
def tFld (K:PySem.W.Frag) (ta:TE) (f:Str):TE:=fun σ H Q=>ta σ H fun x H1=>∃ a C dx fs v,x=.ref a∧H1 a=some (.ins C dx fs)∧Cls K C∧NoAttr K C f∧fs.lookup f=some v∧Q v H1
def tCon (K:PySem.W.Frag) (ta:TE) (f:Str):TE:=fun σ H Q=>ta σ H fun x H1=>∃ a C dx fs v u,x=.ref a∧H1 a=some (.ins C dx fs)∧Cls K C∧Con K C f v u∧fs.lookup f=none∧Q v H1
def sFld (K:PySem.W.Frag) (ta tv:TE) (f:Str):TS:=fun D σ H=>tv σ H fun y H1=>ta σ H1 fun x H2=>∃ a C dx fs,x=.ref a∧H2 a=some (.ins C dx fs)∧Cls K C∧NoAttr K C f∧fs.length < 1000 ∧
  D.nx σ (upd H2 a (.ins C dx (putF f y fs)))
def InOp (X:Cx) (op:Operator) (rd:V→V→Hp→VK→Prop):Prop :=
  ∀ (pins:List (Addr × Obj)) (s:Shared) (σ:St) (H:Hp) (x y:V) (u v:Value) (Q:VK),Inv X pins σ H s→RelV x u→RelV y v→rd x y H Q→wpAny (model X.prog X.w) X.A (inplaceOp op u v) (EP X pins σ Q) X.xe s
def sFldAug (K:PySem.W.Frag) (ta tv:TE) (rd:V→V→Hp→VK→Prop) (f:Str):TS:=fun D σ H=>ta σ H fun x H1=>∃ a C dx fs v,x=.ref a∧H1 a=some (.ins C dx fs)∧Cls K C∧NoAttr K C f∧fs.lookup f=some v ∧
  tv σ H1 fun y H2=>rd v y H2 fun z H3=>∃ dx' fs',H3 a=some (.ins C dx' fs')∧fs'.length < 1000∧D.nx σ (upd H3 a (.ins C dx' (putF f z fs')))
section
variable {X:Cx} {o e value:Expr} {f:Str} {pos pos' tpos:Pos} {ta tv:TE}
theorem pe_fld (he:PE X e ta) (hb:attributeBase e f X.env (eval e X.env)=eval e X.env):PE X (.Attribute e f pos) (tFld X.K ta f):=by
  intro pins s σ H Q I h
  refine attr_of hb (thn (he pins s σ H _ I h) fun u s1 ⟨x,H1,I1,rx,a,C,dx,fs,v,ex,ea,c,n,l,q⟩=>?_)
  subst ex
  obtain rfl:u=Value.ref a:=rx
  exact getattr_ok I1 ea c n l fun u' s2 I2 ru=>⟨v,H1,I2,ru,q⟩
theorem ps_fld (ha:PE X o ta) (hv:PE X value tv) (hs:swapsWith value (some (.Attribute o f pos')) pos.line X.env=pure false):PS X (.Assign [.Attribute o f pos'] value pos) (sFld X.K ta tv f):=by
  intro pins s σ H D I h
  refine plainObj_wpAny_Assign_Attribute (thn (hv pins s σ H _ I h) fun u s1 ⟨y,H1,I1,ry,q⟩=>thn (ha pins s1 σ H1 _ I1 q) fun ov s2 ⟨x,H2,I2,rx,a,C,dx,fs,ex,ea,c,n,l,q2⟩=>?_) hs
  subst ex
  obtain rfl:ov=Value.ref a:=rx
  exact setattr_ok I2 ea c n l ry fun s3 I3=>⟨σ,_,I3,q2⟩
def rAdd:V→V→Hp→VK→Prop:=fun x y H Q=>∃ i j,x=.int i∧y=.int j∧Q (.int (i+j)) H
def rSub:V→V→Hp→VK→Prop:=fun x y H Q=>∃ i j,x=.int i∧y=.int j∧Q (.int (i - j)) H
end
section
variable {X:Cx} {pins:List (Addr × Obj)} {σ:St} {H:Hp} {s:Shared} {A:Around} {E:Value→Shared→Prop} {Q:Value→Shared→Prop} {c:Value} {b:Bool}
inductive TyOf (K:PySem.W.Frag) (H:Hp):V→Value→Prop where
  | non:TyOf K H .non (.type "NoneType")
  | bl (x:Bool):TyOf K H (.bl x) (.type "bool")
  | int (i:Int):TyOf K H (.int i) (.type "int")
  | str (x:Str):TyOf K H (.str x) (.type "str")
  | flt (x:UInt64):TyOf K H (.flt x) (.type "float")
  | lst {a:Addr} {xs:List V} (e:H a=some (.lst xs)):TyOf K H (.ref a) (.type "list")
  | frz {a:Addr} {o:Obj} {xs:List V} (e:H a=some (.frz o (.lst xs))):TyOf K H (.ref a) (.type "list")
  | tup {a:Addr} {xs:List V} (e:H a=some (.tup xs)):TyOf K H (.ref a) (.type "tuple")
  | dK {a:Addr} {kvs:List (Key × V)} (e:H a=some (.dK kvs)):TyOf K H (.ref a) (.type "dict")
  | dT {a:Addr} {kvs:List (List Key × V)} (e:H a=some (.dT kvs)):TyOf K H (.ref a) (.type "dict")
  | ins {a C dx:Addr} {fs:List (Str × V)} (e:H a=some (.ins C dx fs)) (cl:Cls K C) (ha:PySem.W.findIn K (.ref C) "__class__" = some (some (.builtin "object.__class__")))
      (hn:PySem.W.specialIn K (.builtin "object.__class__") "__get__" = some (some (.builtin "getset_descriptor.__get__"))) (htk:PySem.W.takesIn K (.builtin "object.__class__")=some true)
      (hm:PySem.W.mroIn K C (.type "object")=some true):TyOf K H (.ref a) (.ref C)
theorem isinst_ok {x:V} {u t:Value} (I:Inv X pins σ H s) (rx:RelV x u) (ty:TyOf X.K H x t) (e:PySem.W.kitOne X.K t c=some b) (h:∀ tk,Q (.bool b) { s with toks:=tk }) :
    wpAny (model X.prog X.w) A (call (.builtin "isinstance") [u,c]) Q E s:=by
  cases ty with
  | non=>cases (show u=Value.none from rx); exact PySem.W.kia_one PySem.W.kitx_none I.kIn True.intro e (fun z=>nomatch z) h
  | bl y=>cases (show u=Value.bool y from rx); exact PySem.W.kia_one PySem.W.kitx_bool I.kIn True.intro e (fun z=>nomatch z) h
  | int i=>obtain ⟨t,q⟩:=(show ∃ t,u=Value.int i t from rx); cases q; exact PySem.W.kia_one PySem.W.kitx_int I.kIn True.intro e (fun z=>nomatch z) h
  | str y=>obtain ⟨t,q⟩:=(show ∃ t,u=Value.str y t from rx); cases q; exact PySem.W.kia_one PySem.W.kitx_str I.kIn True.intro e (fun z=>nomatch z) h
  | flt y=>obtain ⟨t,q⟩:=(show ∃ t,u=Value.float y t from rx); cases q; exact PySem.W.kia_one PySem.W.kitx_float I.kIn True.intro e (fun z=>nomatch z) h
  | @lst a xs ea =>
    cases (show u=Value.ref a from rx)
    obtain ⟨_,_,n,_,h1⟩:=(show ObjOk X.prog X.w H s.heap a (.lst xs) from I.hok a _ ea)
    exact PySem.W.kia_one PySem.W.kitx_list I.kIn ⟨_,h1,rfl⟩ e (fun z=>nomatch z) h
  | @frz a ob xs ea =>
    cases (show u=Value.ref a from rx)
    obtain ⟨_,_,_,n,_,h1⟩:=(show ObjOk X.prog X.w H s.heap a (.frz ob (.lst xs)) from I.hok a _ ea)
    exact PySem.W.kia_one PySem.W.kitx_list I.kIn ⟨_,h1,rfl⟩ e (fun z=>nomatch z) h
  | @tup a xs ea =>
    cases (show u=Value.ref a from rx)
    obtain ⟨_,_,_,p,_⟩:=(show ObjOk X.prog X.w H s.heap a (.tup xs) from I.hok a _ ea)
    obtain ⟨o,h1,h2,_⟩:=p
    exact PySem.W.kia_one PySem.W.kitx_tuple I.kIn ⟨o,h1,h2⟩ e (fun z=>nomatch z) h
  | @dK a kvs ea =>
    cases (show u=Value.ref a from rx)
    obtain ⟨_,_,vs,_,p⟩:=(show ObjOk X.prog X.w H s.heap a (.dK kvs) from I.hok a _ ea)
    obtain ⟨o,es,ep,h1,h2,_⟩:=p
    exact PySem.W.kia_one PySem.W.kitx_dict I.kIn ⟨o,h1,h2.1⟩ e (fun z=>nomatch z) h
  | @dT a kvs ea =>
    cases (show u=Value.ref a from rx)
    obtain ⟨_,_,xs,_,o,es,ep,h1,h2,_⟩:=(show ObjOk X.prog X.w H s.heap a (.dT kvs) from I.hok a _ ea)
    exact PySem.W.kia_one PySem.W.kitx_dict I.kIn ⟨o,h1,h2.1⟩ e (fun z=>nomatch z) h
  | @ins a C dx fs ea cl ha hn htk hm =>
    cases (show u=Value.ref a from rx)
    obtain ⟨mA,O,_⟩:=ins_get I.hok ea
    obtain ⟨od,J,_⟩:=O.look
    exact PySem.W.kia_one (PySem.W.kitx_own (cl.get _) cl.hd ha hn htk hm) I.kIn J e (fun z=>nomatch z) h
end
end L2
namespace L2
open PySem PySem.Spec PyProof.Rows
structure Room (k:Nat) (A:Around):Prop where
  hd:A.handled=none
  dp:A.depth+3*k+5 < recursionLimit
  un:A.units+16*k+200 < cLine
theorem Room.mono {j k:Nat} {A:Around} (r:Room k A) (h:j≤k):Room j A:=⟨r.hd,by have:=r.dp; omega,by have:=r.un; omega⟩
theorem Room.deeper {k:Nat} {A:Around} (r:Room (k+1) A) (env:Env):Room k (A.deeper env) :=
  ⟨r.hd,by have:=r.dp; show A.depth+1+3*k+5 < _; omega,by have:=r.un; show A.units+3+16*k+200 < _; omega⟩
theorem make_depth {A:Around} {C:Addr} {us:List Value} {kw:List (Str × Value)}:(A.under (.builtin "type.__call__" ⟨.ref C::us,kw⟩)).depth=A.depth+1:=by
  first | rfl | simp [Around.under,Code.weight,Code.isCreation,Code.isGuard,Code.isCaller,Code.frames,Code.isFrame,guardIds]
theorem make_units {A:Around} {C:Addr} {us:List Value} {kw:List (Str × Value)}:(A.under (.builtin "type.__call__" ⟨.ref C::us,kw⟩)).units=A.units+1:=by
  first | rfl | simp [Around.under,Code.cUnits,Code.frames,Code.isFrame]
theorem Room.make {k:Nat} {A:Around} (r:Room (k+1) A) (C:Addr) (us:List Value) (kw:List (Str × Value)):Room k (A.under (.builtin "type.__call__" ⟨.ref C::us,kw⟩)) :=
  ⟨r.hd,by have:=r.dp; rw [make_depth]; omega,by have:=r.un; rw [make_units]; omega⟩
theorem Room.depth {k:Nat} {A:Around} (r:Room k A):A.depth < recursionLimit:=by have:=r.dp; omega
theorem Room.units {k:Nat} {A:Around} (r:Room k A):A.units+64 < cLine:=by have:=r.un; omega
def tNil:TA:=fun _ H Q=>Q [] H
def tCons (ta:TE) (tr:TA):TA:=fun σ H Q=>ta σ H fun x H1=>tr σ H1 fun xs H2=>Q (x::xs) H2
section
variable {X:Cx} {e:Expr} {es:List Expr} {te:TE} {t:TA} {pos:Pos}
theorem pa_nil:PA X [] tNil:=fun _ _ _ _ H Q I h=>Calls.spliced_nil ⟨[],H,I,.nil,h⟩
theorem pa_cons (ha:PE X e te) (hr:PA X es t) (hs:starEach (e::es) X.env=(false,eval e X.env)::starEach es X.env:=by rfl):PA X (e::es) (tCons te t):=by
  intro pos pins s σ H Q I h
  rw [hs]
  show wpAny _ _ (spliced ((false,eval e X.env)::backTo pos (starEach es X.env))) _ _ s
  refine Calls.spliced_cons (thn (ha pins s σ H _ I h) fun u s1 ⟨x,H1,I1,r1,q1⟩=>?_)
  exact thn (hr pos pins s1 σ H1 _ I1 q1) fun us s2 ⟨xs,H2,I2,r2,q2⟩=>⟨x::xs,H2,I2,.cons r1 r2,q2⟩
def tTup (t:TA):TE:=fun σ H Q=>t σ H fun xs H1=>xs.length≤sizeLine∧∀ p,H1 p=none→Q (.ref p) (upd H1 p (.tup xs))
def tLst (t:TA):TE:=fun σ H Q=>t σ H fun xs H1=>xs.length≤sizeLine∧∀ p,H1 p=none→Q (.ref p) (upd H1 p (.lst xs))
theorem pe_tup {x1} (h:PA X es t):PE X (.Tuple es x1 pos) (tTup t):=by
  intro pins s σ H Q I hq
  refine wpAny_Tuple_spliced (thn (h pos pins s σ H _ I hq) fun us s1 ⟨xs,H1,I1,r,z,q⟩=>⟨by rw [← r.length]; exact z,?_⟩)
  have hf:H1 s1.heap.objs.size=none:=I1.hok.fresh (Nat.le_refl _)
  refine ⟨.ref s1.heap.objs.size,upd H1 s1.heap.objs.size (.tup xs),I1.laid (t':=s1.toks) (fun b u e=>Heap.get?_push_of_some _ e) (Nat.le_refl _) ?_,rfl,q _ hf⟩
  exact ⟨z,us,r,⟨_,Heap.get?_push_size _ rfl,rfl,_,rfl⟩,_,Heap.get?_push_size _ rfl,rfl⟩
theorem pe_lst (h:PA X es t):PE X (.List es pos) (tLst t):=by
  intro pins s σ H Q I hq
  refine wpAny_List_spliced (thn (h pos pins s σ H _ I hq) fun us s1 ⟨xs,H1,I1,r,z,q⟩=>⟨by rw [← r.length]; exact z,?_⟩)
  have hf:H1 s1.heap.objs.size=none:=I1.hok.fresh (Nat.le_refl _)
  refine ⟨.ref s1.heap.objs.size,upd H1 s1.heap.objs.size (.lst xs),I1.laid (t':=s1.toks) (fun b u e=>Heap.get?_push_of_some _ e) (Nat.le_refl _) ?_,rfl,q _ hf⟩
  exact ⟨z,us,0,r,Heap.get?_push_size _ rfl⟩
end
abbrev Sp:=List V→Hp→VK→XK→Prop
abbrev CXT:=List Env→Hp→Shared→XK→Value→Shared→Prop
structure Env0 (P:Program) (w:World) (K:PySem.W.Frag) (mg:Str→Option Value) (base:Heap) (A:Around) (outer:List Env) (s:Shared) (H:Hp):Prop where
  frames:A.frames=some outer
  mod:Mod K mg base
  bs:∀ b o,base.get? b=some o→s.heap.get? b=some o∧H b=none
  bsz:base.objs.size≤s.heap.objs.size
  funs:s.heap.FunFrames base outer
  frf:∀ b ∈ frs outer,H b=none
  hok:HOk P w H s.heap
  bare:AllBare s.gens
def CE (outer:List Env) (P:Program) (w:World) (H:Hp) (s:Shared) (Q:VK) (u:Value) (s':Shared):Prop :=
  ∃ v H',s'.os=s.os∧AllBare s'.gens∧Un (frs outer) [] H H' s.heap s'.heap∧HOk P w H' s'.heap∧RelV v u∧Q v H'
def CR (CX:CXT) (outer:List Env) (P:Program) (w:World) (H:Hp) (s:Shared) (Q:VK) (E:XK) (r:Result) (s':Shared):Prop :=
  match r with
  | .ok (.ret u)=>CE outer P w H s Q u s'
  | .ok _=>False
  | .error e=>CX outer H s E e s'
structure FnOk (P:Program) (w:World) (K:PySem.W.Frag) (mg:Str→Option Value) (base:Heap) (CX:CXT) (k:Nat) (f:Addr) (fd:FuncData) (ps:List Str) (sp:Sp):Prop where
  len:∀ vs H Q E,sp vs H Q E→vs.length=ps.length
  run:∀ (A:Around) (outer:List Env) (s:Shared) (H:Hp) (args:Args) (us:List Value) (vs:List V) (Q:VK) (E:XK),Room k A→Env0 P w K mg base A outer s H→BindsTo s fd args (ps.zip us)→Vals vs us→sp vs H Q E →
    codeAny (model P w) A (.call (.ref f) args) (CR CX outer P w H s Q E) s
theorem Env0.make {P:Program} {w:World} {K:PySem.W.Frag} {mg:Str→Option Value} {base:Heap} {A:Around} {outer:List Env} {s:Shared} {H:Hp} (e:Env0 P w K mg base A outer s H) (C:Addr) (us:List Value) (kw:List (Str × Value)) :
    Env0 P w K mg base (A.under (.builtin "type.__call__" ⟨.ref C::us,kw⟩)) outer s H:=⟨by first | exact e.frames | (simpa [Around.under,Code.envs,Code.isFrame,pushEnvs] using e.frames),e.mod,e.bs,e.bsz,e.funs,e.frf,e.hok,e.bare⟩
section
variable {X:Cx} {pins:List (Addr × Obj)} {σ:St} {H:Hp} {s s':Shared}
theorem Inv.env0 (I:Inv X pins σ H s):Env0 X.prog X.w X.K X.mg X.base X.A X.stack s H :=
  ⟨I.ok.frames,I.ok.mod,I.bs,Nat.le_trans I.ok.bsz I.sz,I.stack,I.stkFree,I.hok,I.bare⟩
theorem Inv.after {Q:VK} {u:Value} (I:Inv X pins σ H s) (h:CE X.stack X.prog X.w H s Q u s'):EP X pins σ Q u s':=by
  obtain ⟨v,H',os,bare,un,hok,r,q⟩:=h
  obtain ⟨hh,g,d,t,os'⟩:=s'
  obtain rfl:os'=s.os:=os
  exact ⟨v,H',I.call (h':=hh) (g':=g) (d':=d) (t':=t) (ch:=[]) un hok bare (fun b z=>absurd z (by simp)),r,q⟩
end
def tCall (sp:Sp) (dvs:List V) (E:XK) (t:TA):TE:=fun σ H Q=>t σ H fun vs H1=>sp (vs++dvs) H1 Q E
def tMeth (C:Addr) (m:Str) (sp:Sp) (dvs:List V) (E:XK) (ta:TE) (t:TA):TE:=fun σ H Q=>ta σ H fun x H1=>∃ a dx fs,x=.ref a∧H1 a=some (.ins C dx fs)∧fs.lookup m=none ∧
  t σ H1 fun vs H2=>sp (x::(vs++dvs)) H2 Q E
def tMake (C:Addr) (sp:Sp) (dvs:List V) (E:XK) (t:TA):TE:=fun σ H Q=>t σ H fun vs H1=>∀ x dx,H1 x=none→H1 dx=none→dx ≠ x →
  sp (.ref x::(vs++dvs)) (upd (upd H1 dx (.own x)) x (.ins C dx [])) (fun v H2=>v=.non∧Q (.ref x) H2) E
def Binds (K:PySem.W.Frag) (fd:FuncData) (ps:List Str) (ds:List Value):Prop :=
  ∀ (s:Shared) (us:List Value),K.In s.heap→(us++ds).length=ps.length→BindsTo s fd ⟨us,[]⟩ (ps.zip (us++ds))
theorem Binds.all {K:PySem.W.Frag} {fd:FuncData} {ps:List Str} (h:∀ us:List Value,us.length=ps.length→bindArgs fd ⟨us,[]⟩=pure (ps.zip us)):Binds K fd ps []:=fun s us _ hl=>by
  rw [List.append_nil] at hl ⊢
  exact .of_eq (h us hl)
def Passes (CX:CXT) (X:Cx) (E:XK):Prop:=∀ (pins:List (Addr × Obj)) (σ:St) (H:Hp) (s:Shared) (e:Value) (s':Shared),Inv X pins σ H s→CX X.stack H s E e s'→X.xe e s'
section
variable {X:Cx} {CX:CXT} {k:Nat} {f C:Addr} {fd:FuncData} {ps:List Str} {sp:Sp} {dvs:List V} {ds:List Value} {E:XK} {x m:Str} {p pos apos:Pos} {e o:Expr} {es:List Expr} {ta:TE} {t:TA}
theorem run_fn {pins:List (Addr × Obj)} {σ:St} {H:Hp} {s:Shared} {Q:VK} {us:List Value} {vs:List V} (F:FnOk X.prog X.w X.K X.mg X.base CX k f fd ps sp) (hr:Room k X.A) (hb:Binds X.K fd ps ds) (hd:Vals dvs ds) (hx:Passes CX X E)
    (I:Inv X pins σ H s) (r:Vals vs us) (h:sp (vs++dvs) H Q E):wpAny (model X.prog X.w) X.A (call (.ref f) us) (EP X pins σ Q) X.xe s:=by
  have r2:Vals (vs++dvs) (us++ds):=r.append hd
  have hl:(us++ds).length=ps.length:=by rw [← r2.length]; exact F.len _ _ _ _ h
  refine wpAny_call (codeAny_mono (F.run X.A X.stack s H ⟨us,[]⟩ (us++ds) (vs++dvs) Q E hr I.env0 (hb s us I.kIn hl) r2 h) fun r s' hq=>?_)
  cases r with
  | error e=>exact hx pins σ H s e s' I hq
  | ok fl =>
    cases fl with
    | ret u=>exact I.after hq
    | next=>exact False.elim hq
    | brk=>exact False.elim hq
    | cont=>exact False.elim hq
theorem pe_call (F:FnOk X.prog X.w X.K X.mg X.base CX k f fd ps sp) (hr:Room k X.A) (hg:Gl X x) (hm:X.mg x=some (.ref f)) (hk:PySem.W.keepIn X.K (.ref f)=true) (hb:Binds X.K fd ps ds) (hd:Vals dvs ds) (hx:Passes CX X E)
    (ha:PA X (e::es) t) (hdb:(x == ("__debug__" : Str))=false:=by decide) (he:starEach (e::es) X.env=(false,eval e X.env)::starEach es X.env:=by rfl) (hpl:(backTo pos (starEach es X.env)).any (·.1)=false:=by rfl) :
    PE X (.Call (.Name x p) (e::es) [] pos) (tCall sp dvs E t):=by
  intro pins s σ H Q I h
  refine wpAny_Call_Name_kw (ld_glob I hg hm ?_ hdb)
  refine PySem.W.callWith_K (h₀:=X.base) I.ok.mod.kin hk (thn (ha pos pins s σ H _ I h) fun us s1 ⟨vs,H1,I1,r,q⟩=>⟨I1.kIn,?_⟩) he hpl
  exact run_fn F hr hb hd hx I1 r q
theorem pe_meth {pl:Sem Bool} (he:PE X o ta) (c:Cls X.K C) (hm:Meth X.K C m f) (F:FnOk X.prog X.w X.K X.mg X.base CX k f fd ps sp) (hr:Room k X.A) (hb:Binds X.K fd ps ds) (hd:Vals dvs ds) (hx:Passes CX X E) (ha:PA X (e::es) t)
    (hst:starEach (e::es) X.env=(false,eval e X.env)::starEach es X.env:=by rfl) (hpl:(backTo pos (starEach es X.env)).any (·.1)=false:=by rfl)
    (ht:eval (.Call (.Attribute o m apos) (e::es) [] pos) X.env=(do
      let ov ← eval o X.env
      standAt apos.atName
      let (f,first) ← holding [ov] (getMethod ov m pl)
      callWith pos f first (backTo pos (starEach (e::es) X.env)) (backToKw pos (keywordEach [] X.env))):=by rfl) :
    PE X (.Call (.Attribute o m apos) (e::es) [] pos) (tMeth C m sp dvs E ta t):=by
  intro pins s σ H Q I h
  refine PySem.W.methodCall_KW (pl:=pl) (thn (he pins s σ H _ I h) fun u s1 ⟨x,H1,I1,rx,a,dx,fs,ex,ea,l,q⟩=>?_) ht
  subst ex
  obtain rfl:u=Value.ref a:=rx
  refine getmeth_ok I1 ea c hm l ?_
  refine PySem.W.callWith_K (first:=[.ref a]) (h₀:=X.base) I.ok.mod.kin hm.kp (thn (ha pos pins s1 σ H1 _ I1 q) fun us s2 ⟨vs,H2,I2,r,q2⟩=>⟨I2.kIn,?_⟩) hst hpl
  exact run_fn (us:=.ref a::us) (vs:=.ref a::vs) F hr hb hd hx I2 (.cons rfl r) q2
theorem pe_meth0 {pl:Sem Bool} (he:PE X o ta) (c:Cls X.K C) (hm:Meth X.K C m f) (F:FnOk X.prog X.w X.K X.mg X.base CX k f fd ps sp) (hr:Room k X.A) (hb:Binds X.K fd ps ds) (hd:Vals dvs ds) (hx:Passes CX X E)
    (ht:eval (.Call (.Attribute o m apos) [] [] pos) X.env=(do
      let ov ← eval o X.env
      standAt apos.atName
      let (f,first) ← holding [ov] (getMethod ov m pl)
      callWith pos f first (backTo pos (starEach [] X.env)) (backToKw pos (keywordEach [] X.env))):=by rfl) :
    PE X (.Call (.Attribute o m apos) [] [] pos) (tMeth C m sp dvs E ta tNil):=by
  intro pins s σ H Q I h
  refine PySem.W.methodCall_KW (pl:=pl) (thn (he pins s σ H _ I h) fun u s1 ⟨x,H1,I1,rx,a,dx,fs,ex,ea,l,q⟩=>?_) ht
  subst ex
  obtain rfl:u=Value.ref a:=rx
  refine getmeth_ok I1 ea c hm l ?_
  exact PySem.W.callWith_K0 (first:=[.ref a]) I1.kIn hm.kp (run_fn (us:=[.ref a]) (vs:=[.ref a]) F hr hb hd hx I1 (.cons rfl .nil) q)
structure Mk (K:PySem.W.Frag) (C f:Addr):Prop where
  makes:PySem.W.makesIn K C=true
  init:PySem.W.findIn K (.ref C) "__init__" = some (some (.ref f))
  fn:PySem.W.isFn K (.ref f)=true
  kp:PySem.W.keepIn K (.ref C)=true
theorem run_make {pins:List (Addr × Obj)} {σ:St} {H:Hp} {s:Shared} {Q:VK} {us:List Value} {vs:List V} (M:Mk X.K C f) (F:FnOk X.prog X.w X.K X.mg X.base CX k f fd ps sp) (hr:Room (k+1) X.A) (hb:Binds X.K fd ps ds) (hd:Vals dvs ds)
    (hx:Passes CX X E) (I:Inv X pins σ H s) (r:Vals vs us)
    (h:∀ x dx,H x=none→H dx=none→dx ≠ x→sp (.ref x::(vs++dvs)) (upd (upd H dx (.own x)) x (.ins C dx [])) (fun v H2=>v=.non∧Q (.ref x) H2) E) :
    wpAny (model X.prog X.w) X.A (call (.ref C) us) (EP X pins σ Q) X.xe s:=by
  have hq:=h (s.heap.objs.size+1) s.heap.objs.size (I.hok.fresh (Nat.le_succ _)) (I.hok.fresh (Nat.le_refl _)) (Nat.ne_of_lt (Nat.lt_succ_self _))
  have I2:=Inv.made (C:=C) I
  have r2:Vals (V.ref (s.heap.objs.size+1)::(vs++dvs)) (Value.ref (s.heap.objs.size+1)::(us++ds)):=.cons rfl (r.append hd)
  have hl:(Value.ref (s.heap.objs.size+1)::us++ds).length=ps.length:=by
    have e:=r2.length
    rw [F.len _ _ _ _ hq] at e
    exact e.symm
  refine wpAny_call (make_map (f:=f) I.kIn M.makes M.init (beq_iff_eq.mp M.fn) (codeAny_mono (F.run _ X.stack _ _ ⟨Value.ref (s.heap.objs.size+1)::us,[]⟩ (Value.ref (s.heap.objs.size+1)::(us++ds)) _ _ E (hr.make C us [])
    (I2.env0.make C us []) (hb _ (Value.ref (s.heap.objs.size+1)::us) I2.kIn hl) r2 hq) fun r s' hq'=>?_))
  cases r with
  | error e=>exact hx pins σ _ _ e s' I2 hq'
  | ok fl =>
    cases fl with
    | ret u =>
      obtain ⟨v,H',I3,rv,ev,q3⟩:=I2.after hq'
      subst ev
      exact ⟨rv,⟨V.ref (s.heap.objs.size+1),H',I3,rfl,q3⟩⟩
    | next=>exact False.elim hq'
    | brk=>exact False.elim hq'
    | cont=>exact False.elim hq'
theorem pe_make (M:Mk X.K C f) (F:FnOk X.prog X.w X.K X.mg X.base CX k f fd ps sp) (hr:Room (k+1) X.A) (hg:Gl X x) (hm:X.mg x=some (.ref C)) (hb:Binds X.K fd ps ds) (hd:Vals dvs ds) (hx:Passes CX X E)
    (ha:PA X (e::es) t) (hdb:(x == ("__debug__" : Str))=false:=by decide) (he:starEach (e::es) X.env=(false,eval e X.env)::starEach es X.env:=by rfl) (hpl:(backTo pos (starEach es X.env)).any (·.1)=false:=by rfl) :
    PE X (.Call (.Name x p) (e::es) [] pos) (tMake C sp dvs E t):=by
  intro pins s σ H Q I h
  refine wpAny_Call_Name_kw (ld_glob I hg hm ?_ hdb)
  refine PySem.W.callWith_K (h₀:=X.base) I.ok.mod.kin M.kp (thn (ha pos pins s σ H _ I h) fun us s1 ⟨vs,H1,I1,r,q⟩=>⟨I1.kIn,?_⟩) he hpl
  exact run_make M F hr hb hd hx I1 r q
end
def PK (X:Cx) (kws:List Keyword) (t:TA):Prop :=
  ∀ (pos:Pos) (pins:List (Addr × Obj)) (s:Shared) (σ:St) (H:Hp) (Q:List V→Hp→Prop),Inv X pins σ H s→t σ H Q→wpAny (model X.prog X.w) X.A (evalAll ((backToKw pos (keywordEach kws X.env)).map (·.2))) (AP X pins σ Q) X.xe s
section
variable {X:Cx} {CX:CXT} {k:Nat} {f C:Addr} {fd:FuncData} {ps ks:List Str} {sp:Sp} {E:XK} {x m:Str} {p pos apos kpos:Pos} {e o:Expr} {es:List Expr} {kws:List Keyword} {te ta:TE} {t tk:TA} {nm:Option Str}
structure KBinds (K:PySem.W.Frag) (fd:FuncData) (ps ks:List Str) (g:List Value→List Value→List Value) (gV:List V→List V→List V):Prop where
  to:∀ (s:Shared) (us ws:List Value),K.In s.heap→(g us ws).length=ps.length→BindsTo s fd ⟨us,ks.zip ws⟩ (ps.zip (g us ws))
  rel:∀ {vs:List V} {us:List Value} {zs:List V} {ws:List Value},Vals vs us→Vals zs ws→Vals (gV vs zs) (g us ws)
def tCallK (sp:Sp) (gV:List V→List V→List V) (E:XK) (t tk:TA):TE:=fun σ H Q=>t σ H fun vs H1=>tk σ H1 fun zs H2=>sp (gV vs zs) H2 Q E
variable {g:List Value→List Value→List Value} {gV:List V→List V→List V}
end
structure FnScope (N P:List Str) (sc:Scope):Prop where
  kind:sc.kind=.function
  co:sc.isCoroutine=false
  gen:sc.isGenerator=false
  nd:N.Nodup
  pre:N.take P.length=P
  par:∀ x ∈ P,sc.names.lookup x=some .local∨sc.names.lookup x=some .cell
  nofree:∀ y ∈ sc.names,y.2 ≠ .free
theorem bindL_out {kindOf:Str→Option NameKind} {x:Str}:∀ {binds:List (Str × Value)} {m:Str→Option Value},(∀ v,(x,v) ∉ binds)→bindL kindOf binds m x=m x
  | [],_,_=>rfl
  | (n,v)::r,m,h=>by
    unfold bindL
    rw [bindL_out fun w hw=>h w (List.mem_cons_of_mem _ hw)]
    split
    · have:x ≠ n:=by rintro rfl; exact h v List.mem_cons_self
      simp [this]
    · rfl
theorem bindC_out {kindOf:Str→Option NameKind} {x:Str}:∀ {binds:List (Str × Value)} {m:Str→Option Value},(∀ v,(x,v) ∉ binds)→bindC kindOf binds m x=m x
  | [],_,_=>rfl
  | (n,v)::r,m,h=>by
    unfold bindC
    rw [bindC_out fun w hw=>h w (List.mem_cons_of_mem _ hw)]
    split
    · rfl
    · have:x ≠ n:=by rintro rfl; exact h v List.mem_cons_self
      simp [this]
theorem bindL_get {kindOf:Str→Option NameKind} {x:Str} {v:Value}:∀ {P:List Str} {vs:List Value} {i:Nat} {m:Str→Option Value},P.Nodup→P[i]?=some x→vs[i]?=some v→kindOf x=some .local →
    bindL kindOf (P.zip vs) m x=some v
  | [],_,_,_,_,h,_,_=>by simp at h
  | _::_,[],_,_,_,_,h,_=>by simp at h
  | p::P,w::vs,0,m,nd,h1,h2,hk=>by
    simp at h1 h2; subst h1; subst h2
    show bindL kindOf ((p,w)::P.zip vs) m p=_
    unfold bindL
    rw [bindL_out fun v hv=>(List.nodup_cons.mp nd).1 (List.of_mem_zip hv).1,if_pos hk]
    simp
  | p::P,w::vs,i+1,m,nd,h1,h2,hk=>by
    show bindL kindOf ((p,w)::P.zip vs) m x=_
    unfold bindL
    exact bindL_get (i:=i) (List.nodup_cons.mp nd).2 (by simpa using h1) (by simpa using h2) hk
theorem bindC_get {kindOf:Str→Option NameKind} {x:Str} {v:Value}:∀ {P:List Str} {vs:List Value} {i:Nat} {m:Str→Option Value},P.Nodup→P[i]?=some x→vs[i]?=some v→kindOf x ≠ some .local →
    bindC kindOf (P.zip vs) m x=some v
  | [],_,_,_,_,h,_,_=>by simp at h
  | _::_,[],_,_,_,_,h,_=>by simp at h
  | p::P,w::vs,0,m,nd,h1,h2,hk=>by
    simp at h1 h2; subst h1; subst h2
    show bindC kindOf ((p,w)::P.zip vs) m p=_
    unfold bindC
    rw [bindC_out fun v hv=>(List.nodup_cons.mp nd).1 (List.of_mem_zip hv).1,if_neg hk]
    simp
  | p::P,w::vs,i+1,m,nd,h1,h2,hk=>by
    show bindC kindOf ((p,w)::P.zip vs) m x=_
    unfold bindC
    exact bindC_get (i:=i) (List.nodup_cons.mp nd).2 (by simpa using h1) (by simpa using h2) hk
def start (N:List Str) (vs:List V):St:=vs.map some++List.replicate (N.length - vs.length) none
def cxOf (CX:CXT) (P:Program) (w:World) (K:PySem.W.Frag) (mg:Str→Option Value) (base:Heap) (N:List Str) (qual:Str) (scope:Scope) (f:Addr) (cd:Value) (A:Around) (outer:List Env) (s:Shared) (H:Hp) (E:XK):Cx where
  prog:=P
  w:=w
  K:=K
  mg:=mg
  base:=base
  A:=A.deeper (envOfC qual scope s.heap.objs.size f cd)
  N:=N
  s₀:=s
  H₀:=H
  env:=envOfC qual scope s.heap.objs.size f cd
  outer:=outer
  stack:=envOfC qual scope s.heap.objs.size f cd::outer
  ex:=[]
  calm:=true
  fn:=fun _=>true
  pn:=[]
  xe:=fun e s'=>wpAny (model P w) (A.deeper (envOfC qual scope s.heap.objs.size f cd)) (leaving (envOfC qual scope s.heap.objs.size f cd) e) (fun _ s''=>CX outer H s E e s'') (fun e' s''=>CX outer H s E e' s'') s'
theorem cell_has {sc:Scope} {n:Nat} {x:Str} (h:sc.names.lookup x=some .cell):∃ c,(cellsFrom n sc.names []).lookup x=some c:=by
  have q:=PySem.W.cellsFrom_some sc.names n [] (.inl h)
  exact Option.isSome_iff_exists.mp q
theorem inv_start {CX:CXT} {P:Program} {w:World} {K:PySem.W.Frag} {mg:Str→Option Value} {base:Heap} {N ps:List Str} {qual:Str} {scope:Scope} {f:Addr} {cd:Value} {A:Around} {outer:List Env} {s s1:Shared} {H:Hp} {E:XK} {us:List Value} {vs:List V}
    (S:FnScope N ps scope) (hd:A.handled=none) (e0:Env0 P w K mg base A outer s H) (hl:vs.length=ps.length) (r:Vals vs us)
    (x:InCallC s s.heap.objs.size (bindL (envOfC qual scope s.heap.objs.size f cd).kindOf (ps.zip us) fun _=>none) (cellsFrom (s.heap.objs.size+1) scope.names []) (bindC (envOfC qual scope s.heap.objs.size f cd).kindOf (ps.zip us) fun _=>none) s1) :
    Inv (cxOf CX P w K mg base N qual scope f cd A outer s H E) [] (start N vs) H s1:=by
  have hpl:ps.length≤N.length:=by have:=congrArg List.length S.pre; rw [List.length_take] at this; omega
  obtain ⟨h1,tk,rfl,hk⟩:=x.done
  have noA:∀ b:Addr,b ∉ (cxOf CX P w K mg base N qual scope f cd A outer s H E).ex:=fun b z=>absurd (show b ∈ ([]:List Addr) from z) (by simp)
  refine ⟨⟨e0.mod,S.kind,rfl,rfl,Nat.le_refl _,fun y z c h1 h2=>?_,fun y hy=>?_,fun y c _ h=>?_,fun _=>hd,Around.frames_deeper e0.frames,.inr ⟨rfl,rfl⟩,fun b z=>absurd z (noA b),e0.bs,e0.bsz,fun b _ _=>noA b,fun b z=>absurd z (noA b),e0.funs,e0.frf⟩,
    rfl,e0.bare,Un.kept hk,⟨_,x.toInCall.ns,fun i y v h1 h2 h3=>?_⟩,fun y c h=>⟨_,x.cell y c h⟩,e0.hok.fresh (Nat.le_refl _),fun y c h=>?_,fun p hp=>absurd (show p ∈ ([]:List (Addr × Obj)) from hp) (by simp),e0.hok.kept hk,?_⟩
  · exact name_of_addr x.apart (PySem.mem_of_lookup h1) (PySem.mem_of_lookup h2)
  · have hy:scope.names.lookup y=some .cell∨scope.names.lookup y=some .free:=hy
    rcases hy with hy | hy
    · exact cell_has hy
    · exact absurd rfl (S.nofree _ (PySem.mem_of_lookup hy))
  · exact Nat.le_of_lt (x.above y c (PySem.mem_of_lookup h))
  · have hi:i < vs.length:=by
      unfold start at h2
      by_cases hi:i < vs.length
      · exact hi
      · rw [List.getElem?_append_right (by simpa using hi)] at h2
        rw [List.getElem?_replicate] at h2
        split at h2 <;> cases h2
    have ha:vs[i]?=some v:=by
      unfold start at h2
      rw [List.getElem?_append_left (by simpa using hi),List.getElem?_map] at h2
      cases e:vs[i]? with
      | none=>rw [e] at h2; cases h2
      | some a=>rw [e] at h2; cases h2; rfl
    obtain ⟨u,hu,rv⟩:=r.get ha
    have hp:ps[i]?=some y:=by
      rw [← S.pre,List.getElem?_take_of_lt (by omega)]; exact h1
    have ndP:ps.Nodup:=by rw [← S.pre]; exact S.nd.sublist (List.take_sublist _ _)
    refine ⟨u,rv,?_⟩
    rcases S.par y (List.mem_of_getElem? hp) with k | k
    · exact .inl ⟨k,bindL_get ndP hp hu k⟩
    · obtain ⟨c,e⟩:=cell_has (n:=s.heap.objs.size+1) k
      refine .inr ⟨.inl k,c,e,?_⟩
      have q:=x.cell y c e
      rw [bindC_get ndP hp hu (by show scope.names.lookup y ≠ _; rw [k]; decide)] at q
      exact q
  · exact e0.hok.fresh (Nat.le_of_lt (x.above y c (PySem.mem_of_lookup h)))
  · unfold start
    show _=N.length
    rw [List.length_append,List.length_map,List.length_replicate]
    omega
theorem fn_of {CX:CXT} {P:Program} {w:World} {K:PySem.W.Frag} {mg:Str→Option Value} {base:Heap} {k:Nat} {f:Addr} {name qual:Str} {params:Arguments} {body:List Stmt} {scope:Scope} {dV kV doc pm cdv ct oc:Value} {an od:Option Addr}
    {osl:Array (Option Value)} {N ps:List Str} {sp:Sp} (lk:K.lookup f=some ⟨oc,od,.func (PySem.W.fnOf name qual params body scope dV kV doc pm an cdv ct),osl⟩) (hcd:PySem.W.codeIn K cdv qual=true) (S:FnScope N ps scope)
    (len:∀ vs H Q E,sp vs H Q E→vs.length=ps.length)
    (hbody:∀ (A:Around) (outer:List Env) (s:Shared) (H:Hp) (vs:List V) (Q:VK) (E:XK),Room k (A.deeper (envOfC qual scope s.heap.objs.size f cdv))→sp vs H Q E →
      ∃ t,PSs (cxOf CX P w K mg base N qual scope f cdv A outer s H E) body t∧t { nx:=fun _ H'=>Q .non H',rt:=Q } (start N vs) H) :
    FnOk P w K mg base CX (k+1) f (PySem.W.fnOf name qual params body scope dV kV doc pm an cdv ct) ps sp:=by
  refine ⟨len,fun A outer s H args us vs Q E hr e0 hb r hsp=>?_⟩
  have hl:=len _ _ _ _ hsp
  have KX:K.In s.heap:=e0.mod.kin.keeps fun b o e=>(e0.bs b o e).1
  have lim:s.heap.NoLimit:=e0.mod.nolimit.keeps fun b o e=>(e0.bs b o e).1
  have hkind:∀ y ∈ ps.zip us,scope.names.lookup y.1=some .local∨(scope.names.lookup y.1=some .cell∧((cellsFrom (s.heap.objs.size+1) scope.names []).lookup y.1).isSome=true):=fun ⟨n,v⟩ hy=>by
    rcases S.par n (List.of_mem_zip hy).1 with q | q
    · exact .inl q
    · exact .inr ⟨q,PySem.W.cellsFrom_some _ _ _ (.inl q)⟩
  refine codeAny_call_function hr.depth (KX _ _ lk) rfl S.co S.gen rfl (PySem.W.codeRec_of KX hcd) (hb _ _ _ _ ?_)
  refine wpAny_newFunctionEnv_cells S.kind hkind fun env he s1 x=>?_
  subst he
  refine ⟨lim.keeps x.toInCall.keep,codeAny_func ?_⟩
  obtain ⟨t,ht,hq⟩:=hbody A outer s H vs Q E (hr.deeper _) hsp
  have I:Inv (cxOf CX P w K mg base N qual scope f cdv A outer s H E) [] (start N vs) H s1:=inv_start S hr.hd e0 hl r x
  refine wpAny_mono (ht [] s1 (start N vs) H _ I hq) (fun fl s' hs=>?_) fun e s' hs=>hs
  have fin:∀ {σ':St} {H':Hp} {v:V} {u:Value},Inv (cxOf CX P w K mg base N qual scope f cdv A outer s H E) [] σ' H' s'→RelV v u→Q v H'→CE outer P w H s Q u s' :=
    fun {σ' H' v u} J rv q=>⟨v,H',J.os,J.bare,J.base,J.hok,rv,q⟩
  cases fl with
  | ret u =>
    obtain ⟨v,σ',H',J,rv,q⟩:=hs
    exact fin J rv q
  | next =>
    obtain ⟨σ',H',J,q⟩:=hs
    exact fin (v:=V.non) (u:=Value.none) J rfl q
  | brk =>
    obtain ⟨_,_,_,q⟩:=hs
    exact False.elim q
  | cont =>
    obtain ⟨_,_,_,q⟩:=hs
    exact False.elim q
end L2
namespace L2
open PySem PySem.Spec PyProof.Rows
section
variable {X:Cx} {x:Str} {p pos:Pos} {e:Expr} {es:List Expr} {t:TA} {id T:String} {r:List V→Hp→VK→Prop}
def tCB (r:List V→Hp→VK→Prop) (t:TA):TE:=fun σ H Q=>t σ H fun vs H1=>r vs H1 Q
theorem pe_callB (hc:CallR X (.builtin id) r) (hg:Gl X x) (hm:X.mg x=none) (hv:bootBuiltins x=some (.builtin id)) (ha:PA X (e::es) t) (hn:x ≠ "__name__" := by decide) (hdb:(x == ("__debug__" : Str))=false:=by decide)
    (he:starEach (e::es) X.env=(false,eval e X.env)::starEach es X.env:=by rfl) (hpl:(backTo pos (starEach es X.env)).any (·.1)=false:=by rfl):PE X (.Call (.Name x p) (e::es) [] pos) (tCB r t):=by
  intro pins s σ H Q I h
  refine wpAny_Call_Name_kw (ld_blt I hg hm hv ?_ hn hdb)
  exact PyProof.Rows.callWith_builtin1 (thn (ha pos pins s σ H _ I h) fun us s1 ⟨vs,H1,I1,r1,q1⟩=>hc pins s1 σ H1 vs us Q I1 r1 q1) he hpl
theorem pe_callTy (hc:CallR X (.type T) r) (hg:Gl X x) (hm:X.mg x=none) (hv:bootBuiltins x=some (.type T)) (ha:PA X (e::es) t) (hn:x ≠ "__name__" := by decide) (hdb:(x == ("__debug__" : Str))=false:=by decide)
    (he:starEach (e::es) X.env=(false,eval e X.env)::starEach es X.env:=by rfl) (hpl:(backTo pos (starEach es X.env)).any (·.1)=false:=by rfl):PE X (.Call (.Name x p) (e::es) [] pos) (tCB r t):=by
  intro pins s σ H Q I h
  refine wpAny_Call_Name_kw (ld_blt I hg hm hv ?_ hn hdb)
  exact PyProof.Rows.callWith_type1 (thn (ha pos pins s σ H _ I h) fun us s1 ⟨vs,H1,I1,r1,q1⟩=>hc pins s1 σ H1 vs us Q I1 r1 q1) he hpl
end
end L2
namespace HT
open PySem PyProof.Rows
def lexLt:List Int→List Int→Bool
  | [],[]=>false
  | [],_::_=>true
  | _::_,[]=>false
  | x::xs,y::ys=>if x=y then lexLt xs ys else decide (x < y)
section
open PySem.SeqAt
open PySem.AutoSeq1 (wpAny_loadPart')
open PySem.MeetsSeq PySem.MeetsSeq2 PySem.MeetsSeq3
end
section
variable {prog:Program} {w:World} {A:Around} {E:Value→Shared→Prop} {s:Shared}
theorem cat_tup {t b:Addr} {vs ws:List Value} {Q:Value→Shared→Prop} (ht:IsTup s.heap t vs.toArray) (hb:IsTup s.heap b ws.toArray) (hv:vs ≠ [])
    (h1:ws=[]→Q (.ref t) s) (h2:ws ≠ []→Q (.ref s.heap.objs.size) { s with heap:=s.heap.push { cls:=.type "tuple", data:=.seq (vs++ws).toArray } })
    (hsz:vs.length+ws.length≤sizeLine):wpAny (model prog w) A (binaryOp .Add (.ref t) (.ref b)) Q E s:=by
  obtain ⟨⟨cls,dd,data,sl⟩,ho,hc,n,hd⟩:=id ht
  obtain ⟨⟨cls2,dd2,data2,sl2⟩,ho2,hc2,n2,hd2⟩:=id hb
  simp only at hc hd hc2 hd2
  subst hc hd hc2 hd2
  have e:vs.toArray++ws.toArray=(vs++ws).toArray:=by simp
  by_cases hw:ws=[]
  · exact concat_meets ⟨_,ho,rfl⟩ ⟨_,ho2,rfl⟩ noFill_tuple_add seq_tuple_add PySem.F.slot_tuple_add PySem.F.entry_tuple_add (PySem.F.args_tuple_add_2 _ _)
      (tuple_addW1 t b vs.toArray ws.toArray n n2 dd dd2 sl sl2 (by simpa using hv) (by simp [hw])) ⟨ho,ho2,h1 hw⟩
  · refine concat_meets ⟨_,ho,rfl⟩ ⟨_,ho2,rfl⟩ noFill_tuple_add seq_tuple_add PySem.F.slot_tuple_add PySem.F.entry_tuple_add (PySem.F.args_tuple_add_2 _ _)
      (tuple_addW2 t b vs.toArray ws.toArray n n2 dd dd2 sl sl2 (by simpa using hv) (by simpa using hw) (by rw [List.size_toArray,List.size_toArray]; exact hsz)) ⟨ho,ho2,?_⟩
    rw [e]
    exact h2 hw
def sIx (n d:Nat):Option Int→Nat
  | none=>d
  | some v=>if v < 0 then (v+(n:Int)).toNat else min v.toNat n
theorem sIx_none (n d:Nat):sIx n d none=d:=rfl
theorem sIx_nat (n d k:Nat):sIx n d (some (k:Int))=min k n:=by
  show (if (k:Int) < 0 then ((k:Int)+(n:Int)).toNat else min (k:Int).toNat n)=min k n
  rw [if_neg (by omega),Int.toNat_natCast]
theorem sIx_le (n d:Nat) (hd:d≤n) (o:Option Int):sIx n d o≤n:=by
  cases o with
  | none=>exact hd
  | some v =>
    show (if v < 0 then (v+(n:Int)).toNat else min v.toNat n)≤n
    by_cases hv:v < 0
    · rw [if_pos hv]; omega
    · rw [if_neg hv]; exact Nat.min_le_right _ _
theorem clip_eq (v:Int) (n d:Nat):(if v < 0 then max (v+(n:Int)) 0 else min v (n:Int))=((sIx n d (some v):Nat):Int):=by
  show (if v < 0 then max (v+(n:Int)) 0 else min v (n:Int))=(((if v < 0 then (v+(n:Int)).toNat else min v.toNat n):Nat):Int)
  by_cases hv:v < 0
  · simp only [if_pos hv]; omega
  · simp only [if_neg hv]; omega
theorem adjust_gen (lo hi:Option Int) (n:Nat):Builtin.Slice.sliceAdjust lo hi 1 (n:Int)=(((sIx n 0 lo:Nat):Int),((sIx n n hi:Nat):Int)):=by
  have h1:¬ ((1:Int) < 0):=by omega
  unfold Builtin.Slice.sliceAdjust
  simp only [h1,if_false]
  refine Prod.ext ?_ ?_
  · cases lo with
    | none=>rfl
    | some v=>exact clip_eq v n 0
  · cases hi with
    | none=>rfl
    | some v=>exact clip_eq v n n
theorem places_gen (i j:Nat):Builtin.Slice.slicePlaces (i:Int) (j:Int) 1=j - i:=by
  unfold Builtin.Slice.slicePlaces
  have h1:(1:Int) > 0:=by omega
  simp only [h1,if_true,Int.ediv_one]
  split <;> omega
theorem slicePart_ {v:Value} {o:Option Int} {Q:Option Int→Shared→Prop} (p:IsPart v o) (h:Q o s):wpAny (model prog w) A (Builtin.Slice.slicePartIndex v) Q E s:=by
  cases p with
  | none=>exact slicePart_none h
  | int i t=>exact slicePart_int h
theorem sliceApplied_gen {sl:Addr} {vl vu:Value} {lo hi:Option Int} {n:Nat} {Q:Int × Int × Nat→Shared→Prop} (hs:s.heap.IsSliceOf sl vl vu .none) (pl:IsPart vl lo) (pu:IsPart vu hi)
    (h:Q (((sIx n 0 lo:Nat):Int),1,sIx n n hi - sIx n 0 lo) s):wpAny (model prog w) A (Builtin.Slice.sliceApplied (.ref sl) (pure (n:Int))) Q E s:=by
  obtain ⟨os,hos,hcs,hds⟩:=id hs
  unfold Builtin.Slice.sliceApplied Builtin.Slice.sliceFields
  refine wpAny_bind (wpAny_bind (wpAny_field hos hds (x:=vl) rfl (wpAny_bind (wpAny_field hos hds (x:=vu) rfl (wpAny_bind (wpAny_field hos hds (x:=.none) rfl (wpAny_pure ?_)))))))
  refine wpAny_bind (slicePart_none ?_)
  show wpAny _ _ (if ((1:Int) == 0)=true then _ else _) _ _ s
  rw [if_neg (by decide)]
  refine wpAny_bind (slicePart_ pl (wpAny_bind (slicePart_ pu (wpAny_bind (wpAny_pure ?_)))))
  show wpAny _ _ (match Builtin.Slice.sliceAdjust lo hi 1 (n:Int) with | (lo,hi)=>pure (lo,(1:Int),Builtin.Slice.slicePlaces lo hi 1)) _ _ s
  rw [adjust_gen lo hi n]
  show wpAny _ _ (pure (((sIx n 0 lo:Nat):Int),(1:Int),Builtin.Slice.slicePlaces ((sIx n 0 lo:Nat):Int) ((sIx n n hi:Nat):Int) 1)) _ _ s
  rw [places_gen]
  exact wpAny_pure h
theorem pick_gen (xs:Array Value) (i k:Nat):((List.range k).filterMap fun (m:Nat)=>xs[((i:Int)+(m:Int)*1).toNat]?).toArray=((xs.toList.drop i).take k).toArray:=by
  have e:(fun (m:Nat)=>xs[((i:Int)+(m:Int)*1).toNat]?)=fun m=>xs[i+m]?:=by
    funext m
    have:((i:Int)+(m:Int)*1).toNat=i+m:=by omega
    rw [this]
  rw [e]
  have:=pick_run xs i k
  rw [List.filterMap_map] at this
  have e2:((fun x=>xs[x]?) ∘ fun x=>i+x)=fun m=>xs[i+m]?:=rfl
  rw [e2] at this
  rw [this]
theorem getItem_tuple_cut {t sl:Addr} {items:Array Value} {vl vu:Value} {lo hi:Option Int} {Q:Value→Shared→Prop} (ht:IsTup s.heap t items) (hs:s.heap.IsSliceOf sl vl vu .none) (pl:IsPart vl lo) (pu:IsPart vu hi)
    (hw:¬ (sIx items.size 0 lo=0∧sIx items.size items.size hi=items.size))
    (h:Q (.ref s.heap.objs.size) { s with heap:=s.heap.push { cls:=.type "tuple", data:=.seq ((items.toList.drop (sIx items.size 0 lo)).take (sIx items.size items.size hi - sIx items.size 0 lo)).toArray } })
    (hsz:items.size≤sizeLine):wpAny (model prog w) A (getItem (.ref t) (.ref sl)) Q E s:=by
  have htake:sizeOk (.seq ((items.toList.drop (sIx items.size 0 lo)).take (sIx items.size items.size hi - sIx items.size 0 lo)).toArray):=by
    show ((items.toList.drop (sIx items.size 0 lo)).take (sIx items.size items.size hi - sIx items.size 0 lo)).toArray.size≤sizeLine
    rw [List.size_toArray,List.length_take,List.length_drop,Array.length_toList]
    omega
  have hj:sIx items.size items.size hi≤items.size:=sIx_le _ _ (Nat.le_refl _) hi
  obtain ⟨os,hos,hcs,hds⟩:=id hs
  have hTs:s.TypeIs (.ref sl) "slice" := ⟨os,hos,hcs⟩
  unfold getItem
  try with_reducible refine wpAny_holding ?_
  first | refine wpAny_bind (wpAny_pure ?_) | skip
  refine wpAny_bind (wpAny_sequenceKey ht.typeIs (by decide) ?_)
  refine wpAny_bind (wpAny_callSpecial?_slot (name:=Str.ofString "__getitem__") ht.typeIs PyProof.Rows.slot_tuple_getitem
    (wpAny_call_entry PyProof.Rows.slot_tuple_getitem ht.typeIs entry_tuple_getitem ?_ (args_tuple_getitem _ _)))
  show wpAny _ _ (Builtin.Tuple.tupleItemsOf (.ref t) >>= _) _ _ s
  refine wpAny_bind (tupleItemsOf_ ht ?_)
  refine wpAny_bind (wpAny_typeOf hTs ?_)
  rw [if_pos (by decide)]
  refine wpAny_bind (sliceApplied_gen hs pl pu ?_)
  have hno:¬ ((((sIx items.size 0 lo:Nat):Int) == 0 && (1:Int) == 1 && (sIx items.size items.size hi - sIx items.size 0 lo) == items.size)=true):=by
    intro q
    rw [Bool.and_eq_true,Bool.and_eq_true] at q
    have q1:((sIx items.size 0 lo:Nat):Int)=0:=eq_of_beq q.1.1
    have q2:sIx items.size items.size hi - sIx items.size 0 lo=items.size:=eq_of_beq q.2
    exact hw ⟨by omega,by omega⟩
  show wpAny _ _ (if (((sIx items.size 0 lo:Nat):Int) == 0 && (1:Int) == 1 && (sIx items.size items.size hi - sIx items.size 0 lo) == items.size)=true then _ else _) _ _ s
  rw [if_neg hno,pick_gen]
  first
    | exact wpAny_bind (m:=Builtin.Tuple.tupleExact _) (wpAny_newObj_type (wpAny_pure ⟨_,rfl,wpAny_pure h⟩) htake)
    | exact wpAny_bind (m:=Builtin.Tuple.tupleExact _) (wpAny_newObj_type (wpAny_bind (wpAny_pure (wpAny_pure ⟨_,rfl,wpAny_pure h⟩))) htake)
    | exact wpAny_bind (wpAny_bind (m:=Builtin.Tuple.tupleExact _) (wpAny_newObj_type (wpAny_pure (wpAny_pure ⟨_,rfl,wpAny_pure h⟩)) htake))
    | exact wpAny_bind (wpAny_bind (m:=Builtin.Tuple.tupleExact _) (wpAny_newObj_type (wpAny_pure ⟨_,rfl,wpAny_pure h⟩) htake))
end
end HT
namespace L2
open PySem PySem.Spec PyProof.Rows
abbrev TO:=St→Hp→(Option Int→Hp→Prop)→Prop
def PO (X:Cx) (e:Option Expr) (t:TO):Prop :=
  ∀ (pins:List (Addr × Obj)) (s:Shared) (σ:St) (H:Hp) (Q:Option Int→Hp→Prop),Inv X pins σ H s→t σ H Q →
    wpAny (model X.prog X.w) X.A (evalPart e X.env) (fun u s'=>∃ o H',Inv X pins σ H' s'∧IsPart u o∧Q o H') X.xe s
def tNoPart:TO:=fun _ H Q=>Q none H
def tPart (t:TE):TO:=fun σ H Q=>t σ H fun x H1=>∃ i,x=.int i∧Q (some i) H1
section
variable {X:Cx} {e:Expr} {te:TE} {lo hi:Option Expr} {tl th:TO} {pos p2:Pos}
theorem po_none:PO X none tNoPart:=by
  intro pins s σ H Q I h
  rw [evalPart_none]
  exact wpAny_pure ⟨none,H,I,.none,h⟩
theorem po_some (h:PE X e te):PO X (some e) (tPart te):=by
  intro pins s σ H Q I hw
  rw [evalPart_some]
  refine thn (h pins s σ H _ I hw) fun u s1 ⟨x,H1,I1,r1,q1⟩=>?_
  obtain ⟨i,rfl,q⟩:=q1
  obtain ⟨t,rfl⟩:=r1
  exact ⟨some i,H1,I1,.int i t,q⟩
def SlR (X:Cx) (r:V→Option Int→Option Int→Hp→VK→Prop):Prop :=
  ∀ (pins:List (Addr × Obj)) (s:Shared) (σ:St) (H:Hp) (x:V) (v vl vu:Value) (lo hi:Option Int) (sl:Addr) (Q:VK),Inv X pins σ H s→RelV x v→s.heap.IsSliceOf sl vl vu .none→IsPart vl lo→IsPart vu hi→r x lo hi H Q →
    ∃ T id,typeLookup (.type T) "__getitem__" = pure (some (.builtin id))∧s.TypeIs v T∧wpAny (model X.prog X.w) X.A (getItem v (.ref sl)) (EP X pins σ Q) X.xe s
def tSl (r:V→Option Int→Option Int→Hp→VK→Prop) (te:TE) (tl th:TO):TE:=fun σ H Q=>te σ H fun x H1=>tl σ H1 fun l H2=>th σ H2 fun u H3=>r x l u H3 Q
theorem pe_slice {r:V→Option Int→Option Int→Hp→VK→Prop} (hr:SlR X r) (he:PE X e te) (hl:PO X lo tl) (hu:PO X hi th):PE X (.Subscript e (.Slice lo hi none p2) pos) (tSl r te tl th):=by
  intro pins s σ H Q I h
  refine Subscript_ (thn (he pins s σ H _ I h) fun v s1 ⟨x,H1,I1,r1,q1⟩=>?_)
  refine wpAny_Slice (thn (hl pins s1 σ H1 _ I1 q1) fun vl s2 ⟨l,H2,I2,pl,q2⟩=>thn (hu pins s2 σ H2 _ I2 q2) fun vu s3 ⟨u,H3,I3,pu,q3⟩=>?_)
  rw [evalPart_none]
  refine wpAny_pure ?_
  have I4:Inv X pins σ H3 { s3 with heap:=s3.heap.push { cls:=.type "slice", data:=.fields #[vl,vu,.none] } }:=I3.kept (t':=s3.toks) fun b ob q=>Heap.get?_push_of_some _ q
  obtain ⟨T,id,hT,ht,hg⟩:=hr pins { s3 with heap:=s3.heap.push { cls:=.type "slice", data:=.fields #[vl,vu,.none] } } σ H3 x v vl vu l u s3.heap.objs.size Q I4 r1 (Heap.IsSliceOf.new ..) pl pu q3
  show wpAny (model X.prog X.w) X.A (subscriptTail e (.Slice lo hi none p2) v (.ref s3.heap.objs.size)) (EP X pins σ Q) X.xe { s3 with heap:=s3.heap.push { cls:=.type "slice", data:=.fields #[vl,vu,.none] } }
  exact tail_any (ops:=[.ref s3.heap.objs.size,v]) ht hT hg (by with_unfolding_all rfl)
def cutV (xs:List V) (lo hi:Option Int):List V:=(xs.drop (HT.sIx xs.length 0 lo)).take (HT.sIx xs.length xs.length hi - HT.sIx xs.length 0 lo)
theorem cutV_length (xs:List V) (lo hi:Option Int):(cutV xs lo hi).length≤xs.length:=by
  unfold cutV
  rw [List.length_take,List.length_drop]
  omega
def rSlT (K:PySem.W.Frag):V→Option Int→Option Int→Hp→VK→Prop:=fun x lo hi H Q=>∃ a xs,x=.ref a∧SqT K H a xs ∧
  ¬ (HT.sIx xs.length 0 lo=0∧HT.sIx xs.length xs.length hi=xs.length)∧∀ p,H p=none→Q (.ref p) (upd H p (.tup (cutV xs lo hi)))
theorem sl_tup:SlR X (rSlT X.K):=by
  intro pins s σ H x v vl vu lo hi sl Q I rx hs pl pu h
  obtain ⟨a,xs,rfl,hx,hw,q⟩:=h
  cases rx
  obtain ⟨its,r,ht,hz⟩:=I.tuple hx
  have hlen:its.toArray.size=xs.length:=by rw [List.size_toArray]; exact r.length.symm
  refine ⟨"tuple", _,PyProof.Rows.slot_tuple_getitem.lookup,ht.typeIs,?_⟩
  refine HT.getItem_tuple_cut ht hs pl pu (by rw [hlen]; exact hw) ?_ (by rw [hlen]; exact hz)
  rw [hlen]
  refine ⟨.ref s.heap.objs.size,_,I.laid (t':=s.toks) (o:=.tup (cutV xs lo hi)) (fun b ob q=>Heap.get?_push_of_some _ q) (Nat.le_refl _) ?_,rfl,q _ (I.hok.fresh (Nat.le_refl _))⟩
  exact ⟨Nat.le_trans (cutV_length xs lo hi) hz,_,(r.drop (HT.sIx xs.length 0 lo)).take (HT.sIx xs.length xs.length hi - HT.sIx xs.length 0 lo),IsTup.new _ _,_,Heap.get?_push_size _ rfl,rfl⟩
def rLtT (K:PySem.W.Frag):R2:=fun x y H Q=>∃ a b ns ms,x=.ref a∧y=.ref b∧SqT K H a (ns.map V.int)∧SqT K H b (ms.map V.int)∧Q (.bl (HT.lexLt ns ms)) H
def rCatT (K:PySem.W.Frag):R2:=fun x y H Q=>∃ a b xs ys,x=.ref a∧y=.ref b∧SqT K H a xs∧SqT K H b ys∧xs ≠ []∧xs.length+ys.length≤sizeLine ∧
  (ys=[]→Q (.ref a) H)∧(ys ≠ []→∀ p,H p=none→Q (.ref p) (upd H p (.tup (xs++ys))))
theorem Vals.nil_iff {xs:List V} {us:List Value} (r:Vals xs us):us=[]↔xs=[]:=by
  cases r with
  | nil=>simp
  | cons _ _=>simp
theorem op_catT:OpR X (binaryOp .Add) (rCatT X.K):=by
  intro pins s σ H x y v u Q I rx ry h
  obtain ⟨a,b,xs,ys,rfl,rfl,ha,hb,hx,hz,q1,q2⟩:=h
  cases rx
  cases ry
  obtain ⟨its,r1,p1,_⟩:=I.tuple ha
  obtain ⟨its2,r2,p2,_⟩:=I.tuple hb
  refine HT.cat_tup p1 p2 (fun z=>hx (r1.nil_iff.mp z)) (fun z=>⟨.ref a,H,I,rfl,q1 (r2.nil_iff.mp z)⟩) (fun z=>?_) (by rw [← r1.length,← r2.length]; exact hz)
  refine ⟨.ref s.heap.objs.size,_,I.laid (t':=s.toks) (o:=.tup (xs++ys)) (fun b ob q=>Heap.get?_push_of_some _ q) (Nat.le_refl _) ?_,rfl,q2 (fun w=>z (r2.nil_iff.mpr w)) _ (I.hok.fresh (Nat.le_refl _))⟩
  exact ⟨by rw [List.length_append]; exact hz,_,r1.append r2,IsTup.new _ _,_,Heap.get?_push_size _ rfl,rfl⟩
end
end L2
namespace L2
open PySem PySem.Spec PyProof.Rows
def ixN (n:Nat) (i:Int):Option Nat:=if 0≤i then (if i < n then some i.toNat else none) else if -(n:Int)≤i then some (i+n).toNat else none
def atI {α:Type} (xs:List α) (i:Int):Option α:=(ixN xs.length i).bind fun j=>xs[j]?
theorem ixN_seq {n:Nat} {i:Int} {j:Nat} (h:ixN n i=some j):seqIndex? i n=some j∧j < n∧-(n:Int)≤i∧i < n:=by
  unfold ixN at h
  by_cases h0:0≤i
  · rw [if_pos h0] at h
    by_cases h1:i < n
    · rw [if_pos h1] at h
      have e:i.toNat=j:=Option.some.inj h
      exact ⟨by rw [seqIndex_of h0 h1,e],by omega,by omega,h1⟩
    · rw [if_neg h1] at h; cases h
  · rw [if_neg h0] at h
    by_cases h1:-(n:Int)≤i
    · rw [if_pos h1] at h
      have e:(i+n).toNat=j:=Option.some.inj h
      exact ⟨by rw [seqIndex_neg (by omega) h1,e],by omega,h1,by omega⟩
    · rw [if_neg h1] at h; cases h
theorem atI_get {α:Type} {xs:List α} {i:Int} {v:α} (h:atI xs i=some v):∃ j,seqIndex? i xs.length=some j∧xs[j]?=some v∧j < xs.length∧-(xs.length:Int)≤i∧i < xs.length:=by
  unfold atI at h
  cases e:ixN xs.length i with
  | none=>rw [e] at h; cases h
  | some j =>
    rw [e] at h
    obtain ⟨h1,h2,h3,h4⟩:=ixN_seq e
    exact ⟨j,h1,h,h2,h3,h4⟩
theorem atI_nat {α:Type} {xs:List α} {j:Nat} {v:α} (h:xs[j]?=some v):atI xs (j:Int)=some v:=by
  have hj:j < xs.length:=(List.getElem?_eq_some_iff.mp h).1
  have e:ixN xs.length (j:Int)=some j:=by
    unfold ixN
    rw [if_pos (by omega),if_pos (by omega)]; simp
  unfold atI; rw [e]; exact h
theorem atI_last {α:Type} (xs:List α) (v:α):atI (xs++[v]) (-1)=some v:=by
  have hl:(xs++[v]).length=xs.length+1:=by simp
  have e:ixN (xs++[v]).length (-1)=some xs.length:=by
    unfold ixN
    rw [hl,if_neg (by decide),if_pos (by omega)]
    congr 1
    omega
  unfold atI
  rw [e]
  show (xs++[v])[xs.length]?=some v
  simp
def PlainIx (b:Expr):Prop:=∀ o i,subscripted b false o i=operate [o,i] (getItem o i)
def IxR (X:Cx) (r:R2):Prop :=
  ∀ (value slice:Expr) (pins:List (Addr × Obj)) (s:Shared) (σ:St) (H:Hp) (x y:V) (v u:Value) (Q:VK),Inv X pins σ H s→RelV x v→RelV y u→r x y H Q →
    subscripted slice false v u=operate [v,u] (getItem v u)→wpAny (model X.prog X.w) X.A (subscriptTail value slice v u) (EP X pins σ Q) X.xe s
def MtR (X:Cx) (id:String) (r:V→List V→Hp→VK→Prop):Prop :=
  ∀ (pins:List (Addr × Obj)) (s:Shared) (σ:St) (H:Hp) (x:V) (xs:List V) (v:Value) (us:List Value) (Q:VK),Inv X pins σ H s→RelV x v→Vals xs us→r x xs H Q →
    wpAny (model X.prog X.w) X.A (call (.builtin id) (v::us)) (EP X pins σ Q) X.xe s
section
variable {X:Cx} {a b:Expr} {ta tb:TE} {pos:Pos}
theorem IxR.or {r r':R2} (h:IxR X r) (h':IxR X r'):IxR X (fun x y H Q=>r x y H Q∨r' x y H Q):=by
  intro value slice pins s σ H x y v u Q I rx ry q hs
  rcases q with q | q
  · exact h value slice pins s σ H x y v u Q I rx ry q hs
  · exact h' value slice pins s σ H x y v u Q I rx ry q hs
theorem pe_ix {r:R2} (hr:IxR X r) (ha:PE X a ta) (hb:PE X b tb) (hs:PlainIx b):PE X (.Subscript a b pos) (tOp r ta tb):=by
  intro pins s σ H Q I h
  exact Subscript_ (binT ha hb I h fun v u s2 x y H2 I2 rx ry q=>hr a b pins s2 σ H2 x y v u Q I2 rx ry q (hs _ _))
def rIxL (K:PySem.W.Frag):R2:=fun x y H Q=>∃ p xs i v,x=.ref p∧y=.int i∧SqL K H p xs∧atI xs i=some v∧Q v H
def rIxT (K:PySem.W.Frag):R2:=fun x y H Q=>∃ p xs i v,x=.ref p∧y=.int i∧SqT K H p xs∧atI xs i=some v∧Q v H
def rIxS:R2:=fun x y H Q=>∃ z i c,x=.str z∧y=.int i∧z.length≤sizeLine∧atI z.cps.toList i=some c∧Q (.str ⟨#[c]⟩) H
theorem ix_list:IxR X (rIxL X.K):=by
  intro value slice pins s σ H x y v u Q I rx ry h hs
  obtain ⟨p,xs,i,z,rfl,rfl,hq,he,q⟩:=h
  cases rx
  obtain ⟨t,rfl⟩:=ry
  obtain ⟨its,r,pl,hz⟩:=I.list hq
  obtain ⟨j,h1,h2,h3,h4,h5⟩:=atI_get he
  obtain ⟨w,ew,rw'⟩:=r.get h2
  have hl:=r.length
  have hn:=line63
  have fin:EP X pins σ Q w s:=⟨z,H,I,rw',q⟩
  by_cases h0:0≤i
  · have hj:i.toNat=j:=by
      rw [seqIndex_of h0 h5] at h1
      exact Option.some.inj h1
    exact item_listR pl.isList h0 (by omega) (by rw [hj]; simpa using ew) fin hs
  · have hj:(i+(its.toArray.size:Int)).toNat=j:=by
      rw [seqIndex_neg (by omega) h4] at h1
      rw [List.size_toArray,← hl]
      exact Option.some.inj h1
    exact subscriptTail_builtinR (x:=w) pl.isList.typeIs slot_list_getitem.lookup
      (wpAny_getItem_list_neg (Q:=fun r s'=>r=w∧EP X pins σ Q r s') pl.isList (by omega) (by rw [List.size_toArray] <;> omega) (by omega) (by rw [hj]; simpa using ew) ⟨rfl,fin⟩) hs
theorem ix_tup:IxR X (rIxT X.K):=by
  intro value slice pins s σ H x y v u Q I rx ry h hs
  obtain ⟨p,xs,i,z,rfl,rfl,hq,he,q⟩:=h
  cases rx
  obtain ⟨t,rfl⟩:=ry
  obtain ⟨its,r,pl,hz⟩:=I.tuple hq
  obtain ⟨j,h1,h2,h3,h4,h5⟩:=atI_get he
  obtain ⟨w,ew,rw'⟩:=r.get h2
  have hl:=r.length
  have hn:=line63
  have fin:EP X pins σ Q w s:=⟨z,H,I,rw',q⟩
  exact subscriptTail_builtinR (x:=w) pl.typeIs slot_tuple_getitem.lookup
    (getItem_tuple (j:=j) (Q:=fun r s'=>r=w∧EP X pins σ Q r s') pl (by omega) (by omega) (by rw [List.size_toArray,← hl]; exact h1) (by simpa using ew) ⟨rfl,fin⟩) hs
theorem ix_str:IxR X rIxS:=by
  intro value slice pins s σ H x y v u Q I rx ry h hs
  obtain ⟨z,i,c,rfl,rfl,hz,he,q⟩:=h
  obtain ⟨t,rfl⟩:=rx
  obtain ⟨t',rfl⟩:=ry
  obtain ⟨j,h1,h2,h3,h4,h5⟩:=atI_get he
  have hl:z.cps.toList.length=z.length:=by simp [Str.length]
  rw [hl] at h1 h4 h5
  have hn:=line63
  exact tail_any (typeIs_str s z t) slot_str_getitem.lookup (getItem_str (c:=c) (by
    have e1:decide (i < -(2 ^ 63:Int))=false:=decide_eq_false (by omega)
    have e2:decide (i ≥ 2 ^ 63)=false:=decide_eq_false (by omega)
    rw [e1,e2,Bool.or_false]) (by rw [h1]; simpa using h2) ⟨.str ⟨#[c]⟩,H,I.tok _,⟨_,rfl⟩,q⟩) hs
def rIx (K:PySem.W.Frag):R2:=fun x y H Q=>rIxL K x y H Q∨rIxT K x y H Q∨rIxS x y H Q
theorem mapSeq_set (its:List Value) (n j:Nat) (u:Value):Obj.mapSeq (·.setIfInBounds j u) { cls:=.type "list", data:=.seq its.toArray n }={ cls:=.type "list", data:=.seq (its.set j u).toArray n }:=by
  simp [Obj.mapSeq]
theorem Inv.lst {pins:List (Addr × Obj)} {σ:St} {H:Hp} {s:Shared} {p:Addr} {xs:List V} (I:Inv X pins σ H s) (h:H p=some (.lst xs)) :
    ∃ (its:List Value) (n:Nat),Vals xs its∧s.heap.get? p=some { cls:=.type "list", data:=.seq its.toArray n }∧xs.length≤sizeLine:=by
  obtain ⟨z,its,n,r,e⟩:=I.hok p _ h
  exact ⟨its,n,r,e,z⟩
theorem Inv.lstUpd {pins:List (Addr × Obj)} {σ:St} {H:Hp} {s:Shared} {p:Addr} {xs ys:List V} {its its':List Value} {n n':Nat} {f:Obj→Obj} (I:Inv X pins σ H s) (h:H p=some (.lst xs))
    (ho:s.heap.get? p=some { cls:=.type "list", data:=.seq its.toArray n }) (hf:f { cls:=.type "list", data:=.seq its.toArray n }={ cls:=.type "list", data:=.seq its'.toArray n' }) (r:Vals ys its') (hz:ys.length≤sizeLine) (t:Nat) :
    Inv X pins σ (upd H p (.lst ys)) { s with heap:=s.heap.update p f,toks:=t }:=by
  have e:(s.heap.update p f).get? p=some { cls:=.type "list", data:=.seq its'.toArray n' }:=by
    rw [Heap.get?_update_self f ho (by rw [hf] <;> rfl),hf]
  refine I.write (x:=p) (e:=p) (by rw [h]; trivial) (.inl rfl) (fun b u hb q=>(Heap.get?_update_other _ _ (Ne.symm hb)).trans q) ⟨_,e⟩ ?_
  exact ⟨hz,its',n',r,e⟩
def rSetL:V→V→V→Hp→(Hp→Prop)→Prop:=fun o i v H Q=>∃ p xs k j,o=.ref p∧i=.int k∧H p=some (.lst xs)∧ixN xs.length k=some j∧Q (upd H p (.lst (xs.set j v)))
theorem set_list:PSet X rSetL:=by
  intro pins s σ H o i v ov iv u Q I ro ri rv h
  obtain ⟨p,xs,k,j,rfl,rfl,hp,hj,q⟩:=h
  cases ro
  obtain ⟨t,rfl⟩:=ri
  obtain ⟨its,n,r,ho,hz⟩:=I.lst hp
  obtain ⟨h1,h2,h3,h4⟩:=ixN_seq hj
  have hl:=r.length
  have hn:=line63
  have I':Inv X pins σ (upd H p (.lst (xs.set j v))) { s with heap:=s.heap.update p (Obj.mapSeq (·.setIfInBounds j u)) } :=
    I.lstUpd hp ho (mapSeq_set its n j u) (r.set rv j) (by rw [List.length_set]; exact hz) s.toks
  by_cases h0:0≤k
  · have hk:k.toNat=j:=by
      rw [seqIndex_of h0 h4] at h1
      exact Option.some.inj h1
    exact PySem.W.ki_setAt ho h0 (by omega) (by rw [List.size_toArray,← hl]; exact h4) (by rw [hk]; exact ⟨_,I',q⟩)
  · have hk:(k+(its.toArray.size:Int)).toNat=j:=by
      rw [seqIndex_neg (by omega) h3] at h1
      rw [List.size_toArray,← hl]
      exact Option.some.inj h1
    exact PySem.W.ki_setBack ho (by omega) (by rw [List.size_toArray,← hl]; exact h3) (by omega) (by rw [hk]; exact ⟨_,I',q⟩)
def rSlL (K:PySem.W.Frag):V→Option Int→Option Int→Hp→VK→Prop:=fun x lo hi H Q=>∃ a xs,x=.ref a∧SqL K H a xs∧∀ p,H p=none→Q (.ref p) (upd H p (.lst (cutV xs lo hi)))
def flatV:V→Bool
  | .non=>true
  | .bl _=>true
  | .int _=>true
  | .str _=>true
  | _=>false
def eqV:V→V→Bool
  | .non,.non=>true
  | .bl a,.bl b=>a == b
  | .bl a,.int b=>(if a then 1 else 0) == b
  | .int a,.bl b=>a == (if b then 1 else 0)
  | .int a,.int b=>a == b
  | .str a,.str b=>a == b
  | _,_=>false
theorem eqAt_V {A:Around} {s:Shared} {y x:V} {u v:Value} (ry:RelV y u) (rx:RelV x v) (fy:flatV y=true) (fx:flatV x=true):SeqAt.EqAt A s u v (eqV y x):=by
  cases y with
  | non =>
    cases ry
    cases x with
    | non=>cases rx; exact SeqAt.EqAt.same _
    | bl b=>cases rx; exact SeqAt.EqAt.none_bool b
    | int b=>obtain ⟨t,rfl⟩:=rx; exact SeqAt.EqAt.none_int b t
    | str b=>obtain ⟨t,rfl⟩:=rx; exact SeqAt.EqAt.none_str b t
    | _=>exact absurd (show false=true from fx) Bool.false_ne_true
  | bl a =>
    cases ry
    cases x with
    | non=>cases rx; exact SeqAt.EqAt.bool_none a
    | bl b=>cases rx; exact SeqAt.EqAt.bool_bool a b
    | int b=>obtain ⟨t,rfl⟩:=rx; exact SeqAt.EqAt.bool_int a b t
    | str b=>obtain ⟨t,rfl⟩:=rx; exact SeqAt.EqAt.bool_str a b t
    | _=>exact absurd (show false=true from fx) Bool.false_ne_true
  | int a =>
    obtain ⟨t',rfl⟩:=ry
    cases x with
    | non=>cases rx; exact SeqAt.EqAt.int_none a t'
    | bl b=>cases rx; exact SeqAt.EqAt.int_bool a t' b
    | int b=>obtain ⟨t,rfl⟩:=rx; exact SeqAt.EqAt.int_int a t' b t
    | str b=>obtain ⟨t,rfl⟩:=rx; exact SeqAt.EqAt.int_str a t' b t
    | _=>exact absurd (show false=true from fx) Bool.false_ne_true
  | str a =>
    obtain ⟨t',rfl⟩:=ry
    cases x with
    | non=>cases rx; exact SeqAt.EqAt.str_none a t'
    | bl b=>cases rx; exact SeqAt.EqAt.str_bool a t' b
    | int b=>obtain ⟨t,rfl⟩:=rx; exact SeqAt.EqAt.str_int a t' b t
    | str b=>obtain ⟨t,rfl⟩:=rx; exact SeqAt.EqAt.str_str a t' b t
    | _=>exact absurd (show false=true from fx) Bool.false_ne_true
  | _=>exact absurd (show false=true from fy) Bool.false_ne_true
def eqU (x:V) (u:Value):Bool:=match u with
  | .none=>eqV .non x
  | .bool b=>eqV (.bl b) x
  | .int i _=>eqV (.int i) x
  | .str z _=>eqV (.str z) x
  | _=>false
theorem eqU_of {x y:V} {u:Value} (r:RelV y u) (f:flatV y=true):eqU x u=eqV y x:=by
  cases y with
  | non=>cases r; rfl
  | bl b=>cases r; rfl
  | int i=>obtain ⟨t,rfl⟩:=r; rfl
  | str z=>obtain ⟨t,rfl⟩:=r; rfl
  | _=>exact absurd (show false=true from f) Bool.false_ne_true
theorem any_eqU {x:V}:∀ {xs:List V} {us:List Value},Vals xs us→xs.all flatV=true→us.any (eqU x)=xs.any fun y=>eqV y x
  | _,_,.nil,_=>rfl
  | y::xs,u::us,.cons r t,f=>by
    rw [List.all_cons,Bool.and_eq_true] at f
    rw [List.any_cons,List.any_cons,eqU_of r f.1,any_eqU t f.2]
theorem mem_eqAt {A:Around} {s:Shared} {x:V} {v:Value} (rx:RelV x v) (fx:flatV x=true):∀ {xs:List V} {us:List Value},Vals xs us→xs.all flatV=true→∀ u ∈ us,SeqAt.EqAt A s u v (eqU x u)
  | _,_,.nil,_=>fun u hu=>by cases hu
  | y::xs,u::us,.cons r t,f=>fun u' hu=>by
    rw [List.all_cons,Bool.and_eq_true] at f
    rcases List.mem_cons.mp hu with rfl | hu
    · rw [eqU_of r f.1]; exact eqAt_V r rx f.1 fx
    · exact mem_eqAt rx fx t f.2 u' hu
def inV (x:V) (xs:List V):Bool:=xs.any fun y=>eqV y x
def rIn (K:PySem.W.Frag) (neg:Bool):R2:=fun x y H Q=>∃ p xs,y=.ref p∧(SqL K H p xs∨SqT K H p xs)∧flatV x=true∧xs.all flatV=true∧Q (.bl (if neg then !inV x xs else inV x xs)) H
theorem op_in_seq:OpR X (compareOp .In) (rIn X.K false):=by
  intro pins s σ H x y v u Q I rx ry h
  obtain ⟨p,xs,rfl,hq,fx,fs,q⟩:=h
  cases ry
  rcases hq with hq | hq
  · obtain ⟨its,r,pl,hz⟩:=I.list hq
    refine SeqAt.in_listAt (eqU x) pl.isList (fun w hw=>mem_eqAt rx fx r fs w (by simpa using hw)) ⟨.bl _,H,I,rfl,?_⟩
    rw [show its.toArray.any (eqU x)=its.any (eqU x) by simp,any_eqU r fs]
    exact q
  · obtain ⟨its,r,pl,hz⟩:=I.tuple hq
    refine SeqAt.in_tupleAt (eqU x) pl (fun w hw=>mem_eqAt rx fx r fs w (by simpa using hw)) ⟨.bl _,H,I,rfl,?_⟩
    rw [show its.toArray.any (eqU x)=its.any (eqU x) by simp,any_eqU r fs]
    exact q
theorem op_notIn_seq:OpR X (compareOp .NotIn) (rIn X.K true):=by
  intro pins s σ H x y v u Q I rx ry h
  obtain ⟨p,xs,rfl,hq,fx,fs,q⟩:=h
  cases ry
  rcases hq with hq | hq
  · obtain ⟨its,r,pl,hz⟩:=I.list hq
    refine SeqAt.notIn_listAt (eqU x) pl.isList (fun w hw=>mem_eqAt rx fx r fs w (by simpa using hw)) ⟨.bl _,H,I,rfl,?_⟩
    rw [show its.toArray.any (eqU x)=its.any (eqU x) by simp,any_eqU r fs]
    exact q
  · obtain ⟨its,r,pl,hz⟩:=I.tuple hq
    refine SeqAt.notIn_tupleAt (eqU x) pl (fun w hw=>mem_eqAt rx fx r fs w (by simpa using hw)) ⟨.bl _,H,I,rfl,?_⟩
    rw [show its.toArray.any (eqU x)=its.any (eqU x) by simp,any_eqU r fs]
    exact q
theorem call_len_seq:CallR X (.builtin "len") (fun xs H Q=>∃ p ys,xs=[.ref p]∧(SqL X.K H p ys∨SqT X.K H p ys)∧Q (.int ys.length) H):=by
  intro pins s σ H xs us Q I r h
  obtain ⟨p,ys,rfl,hq,q⟩:=h
  obtain ⟨u,rfl,rx⟩:=vals1 r
  cases rx
  have hn:=line63
  rcases hq with hq | hq
  · obtain ⟨its,r',pl,hz⟩:=I.list hq
    have hlen:=r'.length
    exact Calls.call_len_list pl.isList (by simp only [List.size_toArray] <;> omega) ⟨.int ys.length,H,I.tok _,⟨s.toks+1,by rw [List.size_toArray,hlen]⟩,q⟩
  · obtain ⟨its,r',pl,hz⟩:=I.tuple hq
    have hlen:=r'.length
    exact len_tuple pl (by simp only [List.size_toArray] <;> omega) ⟨.int ys.length,H,I.tok _,⟨s.toks+1,by rw [List.size_toArray,hlen]⟩,q⟩
theorem call_list_of:CallR X (.type "list") (fun xs H Q=>∃ p ys,xs=[.ref p]∧(SqL X.K H p ys∨SqT X.K H p ys)∧∀ l,H l=none→Q (.ref l) (upd H l (.lst ys))):=by
  intro pins s σ H xs us Q I r h
  obtain ⟨p,ys,rfl,hq,q⟩:=h
  obtain ⟨u,rfl,rx⟩:=vals1 r
  cases rx
  have fin:∀ (its:List Value),Vals ys its→ys.length≤sizeLine→∀ (h':Heap) (c':Nat),(∀ b o',s.heap.get? b=some o'→h'.get? b=some o') →
      h'.get? s.heap.objs.size=some { cls:=.type "list", dict:=none,data:=.seq its.toArray c',slots:=#[] }→EP X pins σ Q (.ref s.heap.objs.size) { s with heap:=h' }:=fun its r' hz h' c' kp e =>
    ⟨.ref s.heap.objs.size,_,I.laid (t':=s.toks) kp (Nat.le_refl _) (show ObjOk X.prog X.w _ h' _ (.lst ys) from ⟨hz,its,c',r',e⟩),rfl,q _ (I.hok.fresh (Nat.le_refl _))⟩
  rcases hq with hq | hq
  · obtain ⟨its,r',pl,hz⟩:=I.list hq
    have hlen:=r'.length
    obtain ⟨o,ho,hc,n,hd⟩:=pl.isList
    exact call_list_seq p (.inl rfl) ho hc hd (fun h' c' kp e=>fin its r' hz h' c' kp e) (by simp only [List.size_toArray] <;> omega)
  · obtain ⟨its,r',pl,hz⟩:=I.tuple hq
    have hlen:=r'.length
    obtain ⟨o,ho,hc,n,hd⟩:=pl
    exact call_list_seq p (.inr rfl) ho hc hd (fun h' c' kp e=>fin its r' hz h' c' kp e) (by simp only [List.size_toArray] <;> omega)
theorem call_tuple_of:CallR X (.type "tuple") (fun xs H Q=>∃ p ys,xs=[.ref p]∧((SqL X.K H p ys∧∀ l,H l=none→Q (.ref l) (upd H l (.tup ys)))∨(SqT X.K H p ys∧Q (.ref p) H))):=by
  intro pins s σ H xs us Q I r h
  obtain ⟨p,ys,rfl,h⟩:=h
  obtain ⟨u,rfl,rx⟩:=vals1 r
  cases rx
  rcases h with ⟨hq,q⟩ | ⟨hq,q⟩
  · obtain ⟨its,r',pl,hz⟩:=I.list hq
    have hlen:=r'.length
    refine call_tuple_list pl.isList (fun h' kp=>?_) (by simp only [List.size_toArray] <;> omega)
    have I1:Inv X pins σ H { s with heap:=h' }:=I.kept (t':=s.toks) kp
    have I2:Inv X pins σ (upd H h'.objs.size (.tup ys)) { s with heap:=h'.push { cls:=.type "tuple", data:=.seq its.toArray } } :=
      I1.laid (t':=s.toks) (fun b o e=>Heap.get?_push_of_some _ e) (Nat.le_refl _) (show ObjOk X.prog X.w _ _ _ (.tup ys) from ⟨hz,its,r',IsTup.new _ _,_,Heap.get?_push_size _ rfl,rfl⟩)
    exact ⟨.ref h'.objs.size,_,I2,rfl,q _ (I1.hok.fresh (Nat.le_refl _))⟩
  · obtain ⟨its,r',pl,hz⟩:=I.tuple hq
    exact call_tuple_same pl ⟨.ref p,H,I,rfl,q⟩
def tyV (K:PySem.W.Frag) (T:String) (x:V) (H:Hp):Prop:=match x with
  | .str _=>T = "str"
  | .int _=>T = "int"
  | .ref p=>(T = "list" ∧ ∃ xs,SqL K H p xs)∨(T = "tuple" ∧ ∃ o,K.lookup p=some o∧o.cls=.type "tuple" ∧ o.dict=none) ∨
      (T = "dict" ∧ ((∃ kvs,H p=some (.dK kvs))∨∃ kvs,H p=some (.dT kvs)))∨(T = "set" ∧ ∃ S n,H p=some (.set S n))
  | _=>False
theorem tyV_is {pins:List (Addr × Obj)} {σ:St} {H:Hp} {s:Shared} {T:String} {x:V} {v:Value} (I:Inv X pins σ H s) (r:RelV x v) (ty:tyV X.K T x H) :
    s.TypeIs v T∧∀ a,v=.ref a→∃ ob,s.heap.get? a=some ob∧ob.dict=none:=by
  cases x with
  | str z =>
    obtain ⟨t,rfl⟩:=r
    cases (show T = "str" from ty)
    exact ⟨typeIs_str s z t,fun _ e=>nomatch e⟩
  | int i =>
    obtain ⟨t,rfl⟩:=r
    cases (show T = "int" from ty)
    exact ⟨typeIs_int s i t,fun _ e=>nomatch e⟩
  | ref p =>
    cases r
    rcases ty with ⟨rfl,xs,hq⟩ | ⟨rfl,o,hk,hc,hd⟩ | ⟨rfl,hk⟩ | ⟨rfl,S,n,hk⟩
    · obtain ⟨its,_,pl,_⟩:=I.list hq
      refine ⟨pl.isList.typeIs,fun a e=>?_⟩
      cases e
      obtain ⟨o,n,e,c,hd,_⟩:=pl
      exact ⟨o,e,hd⟩
    · refine ⟨⟨o,I.kIn p o hk,hc⟩,fun a e=>?_⟩
      cases e
      exact ⟨o,I.kIn _ o hk,hd⟩
    · have z:∃ o,s.heap.get? p=some o∧o.ExactDict:=by
        rcases hk with ⟨kvs,hk⟩ | ⟨kvs,hk⟩
        · obtain ⟨_,_,_,_,o,_,_,e,ex,_⟩:=I.hok p _ hk
          exact ⟨o,e,ex⟩
        · obtain ⟨_,_,_,_,o,_,_,e,ex,_⟩:=I.hok p _ hk
          exact ⟨o,e,ex⟩
      obtain ⟨o,e,ex⟩:=z
      refine ⟨⟨o,e,ex.1⟩,fun a e2=>?_⟩
      cases e2
      exact ⟨o,e,ex.2.1⟩
    · obtain ⟨o,_,_,_,e,ex,_⟩:=I.hok p _ hk
      refine ⟨⟨o,e,ex.1⟩,fun a e2=>?_⟩
      cases e2
      exact ⟨o,e,ex.2.1⟩
  | _=>exact False.elim ty
def tBM0 (K:PySem.W.Frag) (T:String) (r:V→List V→Hp→VK→Prop) (to:TE):TE:=fun σ H Q=>to σ H fun x H1=>tyV K T x H1∧r x [] H1 Q
def tBM (K:PySem.W.Frag) (T:String) (r:V→List V→Hp→VK→Prop) (to:TE) (t:TA):TE:=fun σ H Q=>to σ H fun x H1=>tyV K T x H1∧t σ H1 fun xs H2=>r x xs H2 Q
variable {o e:Expr} {es:List Expr} {to:TE} {t:TA} {name:Str} {apos cpos:Pos} {T id:String} {r:V→List V→Hp→VK→Prop}
theorem pe_bm (pa:PlainAttrs T) (slot:Slot T name id) (hty:typeOf (.builtin id)=pure (.type "method_descriptor")) (hm:MtR X id r) (ho:PE X o to) (ha:PA X (e::es) t)
    (hbase:attributeBase o name X.env (eval o X.env)=eval o X.env:=by rfl)
    (hfew:((backTo cpos (starEach (e::es) X.env)).all (fun x=>!x.1) && (backToKw cpos (keywordEach [] X.env)).all (fun x=>x.1.isSome)
      && decide ((e::es).length+([]:List Keyword).length+(if ([]:List Keyword).isEmpty then 0 else 1) < 30))=true:=by rfl)
    (hline:(apos.endLine == cpos.line)=true:=by rfl) (hs:starEach (e::es) X.env=(false,eval e X.env)::starEach es X.env:=by rfl) (hplain:(backTo cpos (starEach es X.env)).any (·.1)=false:=by rfl) :
    PE X (.Call (.Attribute o name apos) (e::es) [] cpos) (tBM X.K T r to t):=by
  intro pins s σ H Q I h
  refine wpAny_Call_method_late hbase hfew hline rfl (thn (ho pins s σ H _ I h) fun v s1 ⟨x,H1,I1,r1,ty,q1⟩=>?_)
  obtain ⟨h1,h2⟩:=tyV_is I1 r1 ty
  refine ⟨T,id,pa,slot,hty,h1,h2,?_⟩
  have hA:=ha cpos pins s1 σ H1 _ I1 q1
  rw [hs] at hA ⊢
  refine Calls.callWith_builtin (by show (false || (backTo cpos (starEach es X.env)).any (·.1))=false; rw [hplain] <;> rfl) (Calls.evalArgs_plain ?_)
  exact thn hA fun us s2 ⟨vs,H2,I2,r2,q2⟩=>hm pins s2 σ H2 x vs v us Q I2 r1 r2 q2
/- xs.append(e),list.index on a module's tuple .. are MtR facts of 06m -/
end
end L2
namespace L2
open PySem PySem.Spec PyProof.Rows
def MtM (X:Cx) (id:String) (r:V→List V→Hp→VK→Prop):Prop :=
  ∀ (pins:List (Addr × Obj)) (s:Shared) (σ:St) (H:Hp) (x:V) (xs:List V) (v:Value) (us:List Value) (Q:VK),Inv X pins σ H s→RelV x v→Vals xs us→r x xs H Q →
    wpAny (model X.prog X.w) X.A (call (.builtin id) (v::us)) (EP X pins σ Q) X.xe s
theorem Vals.one:∀ {x:V} {us:List Value},Vals [x] us→∃ u,us=[u]∧RelV x u
  | _,_,.cons r .nil=>⟨_,rfl,r⟩
theorem Vals.rep {xs:List V} {us:List Value} (h:Vals xs us):∀ k:Nat,Vals (List.replicate k xs).flatten (List.replicate k us).flatten
  | 0=>.nil
  | k+1=>by
    rw [List.replicate_succ,List.replicate_succ,List.flatten_cons,List.flatten_cons]
    exact Vals.append h (Vals.rep h k)
theorem foldl_rep (its:List Value):∀ (k:Nat) (acc:List Value),
    List.foldl (fun x1 x2=>x1++x2) acc.toArray (List.replicate k its.toArray)=(acc++(List.replicate k its).flatten).toArray
  | 0,acc=>by simp
  | k+1,acc=>by
    have e:acc.toArray++its.toArray=(acc++its).toArray:=by simp
    have e2:(acc++its)++(List.replicate k its).flatten=acc++(List.replicate (k+1) its).flatten:=by
      rw [List.replicate_succ,List.flatten_cons,List.append_assoc]
    rw [← e2,← foldl_rep its k (acc++its),← e,List.replicate_succ,List.foldl_cons]
section
variable {X:Cx} {pins:List (Addr × Obj)} {σ:St} {H:Hp} {s:Shared} {l b:Addr} {xs ys zs:List V}
theorem Inv.lset {its its':List Value} {n:Nat} {f:Array Value→Array Value} {t':Nat} (I:Inv X pins σ H s) (hH:H l=some (.lst xs))
    (e:s.heap.get? l=some { cls:=.type "list", data:=.seq its.toArray n }) (hf:f its.toArray=its'.toArray) (hv:Vals ys its') (hz:ys.length≤sizeLine) :
    Inv X pins σ (upd H l (.lst ys)) { s with heap:=s.heap.update l (Obj.mapSeq f),toks:=t' }:=by
  have q:=PySem.IsL.update e f
  rw [hf] at q
  refine I.write (x:=l) (e:=l) (by rw [hH]; exact trivial) (.inl rfl) (fun b' u hb hu=>(Heap.get?_update_other s.heap (Obj.mapSeq f) (Ne.symm hb)).trans hu) ⟨_,q⟩ ?_
  exact ⟨hz,its',_,hv,q⟩
theorem Inv.lnew {its:List Value} {t':Nat} (I:Inv X pins σ H s) (hv:Vals ys its) (hz:ys.length≤sizeLine) :
    Inv X pins σ (upd H s.heap.objs.size (.lst ys)) { s with heap:=s.heap.push { cls:=.type "list", data:=.seq its.toArray },toks:=t' } :=
  I.laid (fun _ _ q=>Heap.get?_push_of_some _ q) (Nat.le_refl _) ⟨hz,its,0,hv,Heap.get?_push_size _ rfl⟩
theorem Inv.fresh (I:Inv X pins σ H s):H s.heap.objs.size=none:=I.hok.fresh (Nat.le_refl _)
theorem Inv.lstM (I:Inv X pins σ H s) (hH:H l=some (.lst xs)):xs.length≤sizeLine∧∃ (its:List Value) (n:Nat),Vals xs its∧xs.length=its.length∧s.heap.get? l=some { cls:=.type "list", data:=.seq its.toArray n }:=by
  obtain ⟨z,its,n,r,e⟩:=I.hok l _ hH
  exact ⟨z,its,n,r,r.length,e⟩
theorem notLongL {n:Nat} (h:n≤sizeLine):Builtin.List.listTooLong n=false:=by
  unfold Builtin.List.listTooLong
  exact decide_eq_false (by omega)
end
section
variable {X:Cx}
def rAppend:V→List V→Hp→VK→Prop:=fun x vs H Q=>∃ l xs y,x=.ref l∧vs=[y]∧H l=some (.lst xs)∧xs.length < sizeLine∧Q .non (upd H l (.lst (xs++[y])))
theorem mt_append:MtM X "list.append" rAppend:=by
  intro pins s σ H x vs v us Q I rx rv h
  obtain ⟨l,xs,y,rfl,rfl,hH,hz,q⟩:=h
  cases rx
  obtain ⟨u,rfl,ru⟩:=rv.one
  obtain ⟨z,its,n,r,hl,e⟩:=I.lstM hH
  refine call_meets F.slot_list_append ⟨_,e,rfl⟩ F.entry_list_append (F.args_list_append_2 _ _) (PySem.list_append l its.toArray n u (by rw [List.size_toArray]; omega)) ⟨e,?_⟩
  refine ⟨.non,_,I.lset (its':=its++[u]) hH e (by simp) (r.append (.cons ru .nil)) ?_,rfl,q⟩
  rw [List.length_append,List.length_singleton]
  omega
def rExtend:V→List V→Hp→VK→Prop:=fun x vs H Q=>∃ l b xs zs,x=.ref l∧vs=[.ref b]∧H l=some (.lst xs)∧H b=some (.lst zs)∧xs.length+zs.length≤sizeLine∧Q .non (upd H l (.lst (xs++zs)))
theorem mt_extend:MtM X "list.extend" rExtend:=by
  intro pins s σ H x vs v us Q I rx rv h
  obtain ⟨l,b,xs,zs,rfl,rfl,hH,hB,hz,q⟩:=h
  cases rx
  obtain ⟨u,rfl,ru⟩:=rv.one
  cases ru
  obtain ⟨z,its,n,r,hl,e⟩:=I.lstM hH
  obtain ⟨z2,its2,n2,r2,hl2,e2⟩:=I.lstM hB
  have hsz:its.toArray.size+its2.toArray.size≤sizeLine:=by rw [List.size_toArray,List.size_toArray]; omega
  have hlong:¬ (!its.toArray.isEmpty && Builtin.List.listTooLong (its.toArray.size+its2.toArray.size))=true:=by
    rw [notLongL hsz,Bool.and_false]
    exact Bool.false_ne_true
  refine call_meets F.slot_list_extend ⟨_,e,rfl⟩ F.entry_list_extend (F.args_list_extend_2 _ _)
    (AutoSeq1.list_extend_list_list_0 l its.toArray n b its2.toArray n2 hlong (by rw [List.size_toArray]; omega) (by omega)) ⟨e,e2,?_⟩
  refine ⟨.non,_,I.lset (its':=its++its2) hH e (by simp) (r.append r2) ?_,rfl,q⟩
  rw [List.length_append]
  omega
def rPop:V→List V→Hp→VK→Prop:=fun x vs H Q=>∃ l xs y,x=.ref l∧vs=[]∧H l=some (.lst xs)∧xs[xs.length - 1]?=some y∧Q y (upd H l (.lst xs.dropLast))
def rPopAt:V→List V→Hp→VK→Prop:=fun x vs H Q=>∃ l xs i k y,x=.ref l∧vs=[.int i]∧H l=some (.lst xs)∧-(2 ^ 63)≤i∧i < 2 ^ 63∧seqIndex? i xs.length=some k∧xs[k]?=some y∧Q y (upd H l (.lst (xs.eraseIdx k)))
def rReverse:V→List V→Hp→VK→Prop:=fun x vs H Q=>∃ l xs,x=.ref l∧vs=[]∧H l=some (.lst xs)∧Q .non (upd H l (.lst xs.reverse))
def rClear:V→List V→Hp→VK→Prop:=fun x vs H Q=>∃ l xs,x=.ref l∧vs=[]∧H l=some (.lst xs)∧Q .non (upd H l (.lst []))
def rCat:R2:=fun x y H Q=>∃ l b xs zs,x=.ref l∧y=.ref b∧H l=some (.lst xs)∧H b=some (.lst zs)∧xs.length+zs.length≤sizeLine∧∀ p,H p=none→Q (.ref p) (upd H p (.lst (xs++zs)))
theorem op_cat:OpR X (binaryOp .Add) rCat:=by
  intro pins s σ H x y v u Q I rx ry h
  obtain ⟨l,b,xs,zs,rfl,rfl,hH,hB,hz,q⟩:=h
  cases rx
  cases ry
  obtain ⟨z,its,n,r,hl,e⟩:=I.lstM hH
  obtain ⟨z2,its2,n2,r2,hl2,e2⟩:=I.lstM hB
  refine PySem.P.add_list e e2 ?_ (by rw [List.size_toArray,List.size_toArray]; omega)
  have ea:its.toArray++its2.toArray=(its++its2).toArray:=by simp
  rw [ea]
  exact ⟨.ref _,_,I.lnew (t':=s.toks) (r.append r2) (by rw [List.length_append]; omega),rfl,q _ I.fresh⟩
def rRep:R2:=fun x y H Q=>∃ l k xs,x=.ref l∧y=.int k∧H l=some (.lst xs)∧-(2 ^ 63)≤k∧k < 2 ^ 63∧xs.length*k.toNat≤sizeLine ∧
  ∀ p,H p=none→Q (.ref p) (upd H p (.lst (List.replicate k.toNat xs).flatten))
theorem len_rep {α:Type} (xs:List α) (k:Nat):(List.replicate k xs).flatten.length=k*xs.length:=by
  induction k with
  | zero=>simp
  | succ k ih=>rw [List.replicate_succ,List.flatten_cons,List.length_append,ih,Nat.succ_mul,Nat.add_comm]
theorem op_rep:OpR X (binaryOp .Mult) rRep:=by
  intro pins s σ H x y v u Q I rx ry h
  obtain ⟨l,k,xs,rfl,rfl,hH,h1,h2,hz,q⟩:=h
  cases rx
  obtain ⟨t,rfl⟩:=ry
  obtain ⟨z,its,n,r,hl,e⟩:=I.lstM hH
  have hlen:its.toArray.size*k.toNat≤sizeLine:=by rw [List.size_toArray,← hl]; exact hz
  have hcap:¬ its.toArray.size*k.toNat > (2 ^ 63 - 1) / 8:=by
    have:(sizeLine:Nat)≤(2 ^ 63 - 1) / 8:=by decide
    omega
  have hfit:¬ (!Builtin.List.listFitsIndex k)=true:=by
    rw [fitsIndex_both h1 h2]
    exact Bool.false_ne_true
  have hlong:¬ Builtin.List.listTooLong (its.toArray.size*k.toNat)=true:=by
    rw [notLongL hlen]
    exact Bool.false_ne_true
  have hnew:List.foldl (fun x1 x2=>x1++x2) #[] (List.replicate (if its.toArray.isEmpty=true then 0 else k.toNat) its.toArray)=(List.replicate k.toNat its).flatten.toArray:=by
    have f0:∀ m:Nat,List.foldl (fun x1 x2=>x1++x2) #[] (List.replicate m its.toArray)=(List.replicate m its).flatten.toArray:=fun m=>by
      have:=foldl_rep its m []
      rw [List.nil_append] at this
      exact this
    rw [f0]
    cases its with
    | nil=>simp
    | cons a r'=>rw [if_neg (by simp)]
  refine wpAny_binaryOp_repeat_ref (T := "list") (U := "int") (by decide) ⟨_,e,rfl⟩ (fun s'=>typeIs_int s' k t) noFill_list_mul F.fills_int_mul F.slot_int_rmul repeat_list F.slot_int_index.lookup
    (call_meets F.slot_int_rmul (typeIs_int s k t) F.entry_int_rmul (F.args_int_rmul_2 _ _) (int___rmul___int_list k t l its.toArray n)
      ⟨e,rfl,⟨_,e,rfl⟩,call_meets F.slot_list_mul ⟨_,e,rfl⟩ F.entry_list_mul (F.args_list_mul_2 _ _) (AutoListH.list___mul___list_int_3 l its.toArray n k t hfit hcap hlong) ⟨e,?_⟩⟩)
  rw [hnew]
  exact ⟨.ref _,_,I.lnew (t':=s.toks) (r.rep k.toNat) (by rw [len_rep,Nat.mul_comm]; exact hz),rfl,q _ I.fresh⟩
end
section
variable {prog:Program} {w:World} {A:Around} {E:Value→Shared→Prop} {s:Shared}
end
section
variable {X:Cx}
end
end L2
namespace Att
open PySem PySem.W PySem.Calls PyProof.Rows
theorem ints_of_wellAll {P:Params} {h:Heap}:∀ (ns:List Int) (vs:List Value),WellAll P h vs (ns.map WData.int)→IntsAre vs ns:=by
  intro ns
  induction ns with
  | nil =>
    intro vs w
    rw [List.map_nil] at w
    cases w
    exact .nil
  | cons n ns ih =>
    intro vs w
    rw [List.map_cons] at w
    cases w with
    | cons a b =>
      cases a
      exact .cons _ _ (ih _ b)
theorem script_of {l:OpenLaw} {n:Nat} (hn:l.most=some n) {P:Params} {h:Heap} {args:List WData} {vals:List Value}
    (hpre:l.row.toRowW.claim.pre args=true) (hwl:WellAll P h vals args) :
    ∃ a vs ns,vals=[Value.ref a]∧args=[WData.list (ns.map WData.int)]∧h.get? a=some { cls:=.type "list", data:=.seq vs.toArray }∧IntsAre vs ns∧ns.length≤n:=by
  have hsh:WShape.hasAll [] args [.list .int]=true:=(pre_splitW hpre).1
  have hc:l.pre.holds [] { args:=args }=true:=(pre_splitW hpre).2
  obtain ⟨d,r,rfl,h1,h2⟩:=hasAllW_cons hsh
  obtain rfl:=hasAllW_nil h2
  obtain ⟨xs,rfl,h3⟩:=hasW_list h1
  obtain ⟨ns,rfl⟩:=items_int h3
  have hlen:ns.length≤n:=by
    unfold OpenLaw.pre at hc
    have h4:(WTm.not (.lt (.lit (.int (n:Int))) (.len (.arg 0)))).holds [] { args:=[.list (ns.map .int)] }=true:=by
      have h4:=(holds_andW hc).1
      rw [hn] at h4
      exact h4
    have h5:=condW_of h4 (w_not (w_lt w_lit (w_len_list (w_arg rfl))))
    rw [List.length_map] at h5
    refine Nat.le_of_not_lt fun q=>?_
    have q':(n:Int) < ((ns.length:Nat):Int):=by omega
    first
      | (rw [decide_eq_true q'] at h5; exact absurd h5 (by decide))
      | (simp at h5; omega)
  cases hwl with
  | cons w1 w2 =>
    cases w2
    cases w1 with
    | list ho hall=>exact ⟨_,_,ns,rfl,rfl,ho,ints_of_wellAll ns _ hall,hlen⟩
theorem post_true (l:OpenLaw) (args:List WData):l.row.toRowW.claim.post args (.bool true) args=true :=
  postW_of (r:=l.row.toRowW) (X:=(true == true))
    (show WShape.has [] (.bool true) .bool=true by first | rfl | decide | simp [WShape.has,WShape.arms,WShape.armsAll])
    (show (WTm.eq .res (.lit (.bool true))).value [] { args:=args,res:=some (.bool true),after:=args }=some (.bool (true == true)) from w_eq_bool (w_res rfl) w_lit) rfl
theorem attach_call {l:OpenLaw} {n:Nat} {q:Program} {loose:List Str} {XP:(Str→Option Value)→Heap→Prop} {YP:World→Heap→Prop} {d:DefRec}
    (hn:l.most=some n) (hdf:d.params.defaults=[])
    (call:∀ (w:World) (s₀ s₁:Shared) (mg mb:Str→Option Value) (fa:Addr) (o:Obj) (pm cd doc:Value) (a:Addr) (vs:List Value) (ns:List Int),
      Ground q loose [] XP w s₀ mg mb s₁.heap→YP w s₁.heap →
      s₁.heap.get? fa=some o→o.data=.func (docDef d.name d.params d.body d.scope pm cd doc)→s₁.heap.CodeRec cd d.name→mg d.name=some (.ref fa) →
      s₁.heap.get? a=some { cls:=.type "list", data:=.seq vs.toArray }→IntsAre vs ns→ns.length≤n→s₁.gens=#[] →
      codeAny (model l.prog w) callerA (.call (.ref fa) ⟨[.ref a],[]⟩) (fun r s'=>r=.ok (.ret (.bool true))∧OldK s₁.heap s'.heap∧s'.os=s₁.os∧AllBare s'.gens) s₁) :
    WalkO q loose XP YP l.row.toRowW d [] (fun f vs=>PySem.call f vs):=by
  intro w s₀ s₁ mg mb G Y fa o pm cd doc dV kV ho hd hcd hD hmg hg args vals as hpre hlay hrd hwl hlo
  obtain rfl:dV=.none:=Dflts.none hD hdf
  obtain rfl:kV=.none:=Dflts.noKw hD
  obtain ⟨a,vs,ns,rfl,rfl,hobj,hints,hlen⟩:=script_of hn hpre hwl
  refine enter_call (codeAny_mono (call w s₀ s₁ mg mb fa o pm cd doc a vs ns G Y ho (fd_plain hd) hcd hmg hobj hints hlen hg) fun r s' hq=>?_)
  obtain ⟨rfl,h2,h3,h4⟩:=hq
  exact ⟨.inl ⟨.bool true,.bool true,[],rfl,fun _=>rfl,.bool true,post_true l _,fun _=>⟨List.Pairwise.nil,fun _ hm=>(nomatch hm)⟩⟩,h2,h3,h4⟩
section
variable {prog:Program} {w:World} {A:Around} {E:Value→Shared→Prop} {s:Shared} {K:Frag}
def noObjs (h:Heap):Heap:={ h with objs:=#[] }
def ledger (h:Heap) (L d:Addr):List (Addr × Obj):=(List.range h.objs.size).filterMap fun a=>if a=L∨a=d then none else (h.get? a).map fun o=>(a,o)
end
end Att
namespace L2
open PySem PySem.Spec PyProof.Rows
theorem vals_ints:∀ {vs:List Value} {ns:List Int},IntsAre vs ns→Vals (ns.map V.int) vs
  | _,_,.nil=>.nil
  | _,_,.cons n t h=>.cons ⟨t,rfl⟩ (vals_ints h)
def Only (H:Hp):Prop:=∀ b,H b=none∨∃ o xs,H b=some (.frz o (.lst xs))
theorem law_call {P:Program} {w:World} {K:PySem.W.Frag} {mg mb:Str→Option Value} {CX:CXT} {k:Nat} {fa a:Addr} {fd:FuncData} {x:Str} {sp:Sp} {s₁:Shared} {vs:List Value} {ns:List Int}
    (KX:K.In s₁.heap) (hns:s₁.heap.Ns mainGlobals mg) (hb:s₁.heap.Ns builtinsNs mb) (hbb:∀ x:Str,x ≠ "__name__" → mb x=bootBuiltins x) (hlim:s₁.heap.NoLimit) (hg:s₁.gens=#[])
    (ha:s₁.heap.get? a=some { cls:=.type "list", data:=.seq vs.toArray }) (hi:IntsAre vs ns) (hl:ns.length≤sizeLine) (hr:Room k callerA)
    (F:∀ base:Heap,K.In base→base.Ns mainGlobals mg→FnOk P w K mg base CX k fa fd [x] sp) (hbind:∀ (s:Shared) (u:Value),BindsTo s fd ⟨[u],[]⟩ [(x,u)])
    (hsp:∀ H:Hp,Only H→SqL K H a (ns.map V.int)→sp [.ref a] H (fun v _=>v=.bl true) fun _ _ _=>False)
    (hCX:∀ H e s',CX [] H s₁ (fun _ _ _=>False) e s'→False) :
    codeAny (model P w) callerA (.call (.ref fa) ⟨[.ref a],[]⟩) (fun r s'=>r=.ok (.ret (.bool true))∧OldK s₁.heap s'.heap∧s'.os=s₁.os∧AllBare s'.gens) s₁:=by
  have rv:=vals_ints hi
  have lenV:=hi.length
  have core:∀ H:Hp,Only H→SqL K H a (ns.map V.int)→HOk P w H s₁.heap→(∀ b,H b ≠ none→b=a)→(H a ≠ none→K.lookup a=none) →
      codeAny (model P w) callerA (.call (.ref fa) ⟨[.ref a],[]⟩) (fun r s'=>r=.ok (.ret (.bool true))∧OldK s₁.heap s'.heap∧s'.os=s₁.os∧AllBare s'.gens) s₁:=by
    intro H hO hS hok hA hK
    have base_of:∀ {b:Addr} {o:Obj},s₁.heap.get? b=some o→H b=none→(hidT s₁.heap H).get? b=some o:=fun e n=>hidT_get e n
    have noA:∀ {b:Addr} {o:Obj} {es:Array DictEntry} {ep:Nat},s₁.heap.get? b=some o→o.data=.dict es ep→H b=none:=fun {b o es ep} e d=>by
      cases q:H b with
      | none=>rfl
      | some u =>
        have e':b=a:=hA b (by rw [q]; simp)
        subst e'
        rw [ha] at e; cases e
        have d':Data.seq vs.toArray _=Data.dict es ep:=d
        cases d'
    have nsK:∀ {b:Addr} {m:Str→Option Value},s₁.heap.Ns b m→(hidT s₁.heap H).Ns b m:=fun {b m} ⟨o,es,ep,e,d,r⟩=>⟨o,es,ep,base_of e (noA e d),d,r⟩
    have hKb:K.In (hidT s₁.heap H):=fun b o e=>base_of (KX b o e) (by
      cases q:H b with
      | none=>rfl
      | some u =>
        have e':b=a:=hA b (by rw [q]; simp)
        subst e'
        rw [hK (by rw [q]; simp)] at e; cases e)
    have hM:Mod K mg (hidT s₁.heap H):=⟨hKb,nsK hns,⟨mb,nsK hb,hbb⟩,let ⟨mc,h1,h2⟩:=hlim; ⟨mc,nsK h1,h2⟩⟩
    have e0:Env0 P w K mg (hidT s₁.heap H) callerA [] s₁ H:=⟨rfl,hM,fun b o e=>of_hidT e,Nat.le_of_eq (hidT_size _ _),trivial,fun b hb=>absurd (show b ∈ ([]:List Addr) from hb) (by simp),hok,.of_eq hg⟩
    refine codeAny_mono ((F _ hKb (nsK hns)).run callerA [] s₁ H ⟨[.ref a],[]⟩ [.ref a] [.ref a] _ _ hr e0 (hbind s₁ (.ref a)) (.cons rfl .nil) (hsp H hO hS)) fun r s' h=>?_
    cases r with
    | error e=>exact (hCX H e s' h).elim
    | ok fl =>
      cases fl with
      | next=>exact False.elim h
      | brk=>exact False.elim h
      | cont=>exact False.elim h
      | ret u =>
        obtain ⟨v,H',os,bare,un,hok',r',q⟩:=h
        have q':v=.bl true:=q
        subst q'
        obtain rfl:u=Value.bool true:=r'
        refine ⟨rfl,OldK.of_keep fun b o e=>?_,os,bare⟩
        cases q:H b with
        | none=>exact un.keep b o e q (by intro z; exact absurd (show b ∈ ([]:List Addr) from z) (by simp)) (by simp)
        | some u =>
          rcases hO b with z | ⟨ob,xs,z⟩
          · rw [q] at z; cases z
          · have z2:=un.frzs b ob _ z
            obtain ⟨e1,_⟩:=hok b _ z
            obtain ⟨e2,_⟩:=hok' b _ z2
            rw [e] at e1; cases e1
            exact e2
  cases hk:K.lookup a with
  | some o =>
    have e:=KX a o hk
    rw [ha] at e
    cases e
    refine core (fun _=>none) (fun _=>.inl rfl) (.inr ⟨_,vs.toArray,_,hk,rfl,rfl,rfl,by rw [List.size_toArray,lenV]; exact hl,by simpa using rv⟩) (fun b u z=>by have z':(none:Option HO)=some u:=z; cases z') (fun b z=>absurd rfl z) fun z=>absurd rfl z
  | none =>
    refine core (fun b=>if b=a then some (.frz { cls:=.type "list", data:=.seq vs.toArray } (.lst (ns.map V.int))) else none) (fun b=>?_) (.inl (.inr ⟨{ cls:=.type "list", data:=.seq vs.toArray },if_pos rfl⟩)) (fun b u z=>?_) (fun b z=>?_) fun _=>hk
    · by_cases hb:b=a
      · exact .inr ⟨_,_,if_pos hb⟩
      · exact .inl (if_neg hb)
    · by_cases hb:b=a
      · have z':=(if_pos hb).symm.trans z
        cases z'
        subst hb
        exact ⟨ha,by rw [List.length_map]; exact hl,vs,_,rv,ha⟩
      · have z':=(if_neg hb).symm.trans z
        cases z'
    · by_cases hb:b=a
      · exact hb
      · exact absurd (if_neg hb) z
end L2
namespace L2
open PySem PySem.Spec PyProof.Rows
abbrev KOf {K:PySem.W.Frag} {h:Heap} (_:K.In h):PySem.W.Frag:=K
theorem walk_of {l:PySem.W.OpenLaw} {n k:Nat} {q:Program} {loose:List Str} {XP:(Str→Option Value)→Heap→Prop} {YP:World→Heap→Prop} {d:DefRec} {K:Params→PySem.W.Frag} {CX:World→CXT} {sp:World→Sp} {x:Str}
    (hn:l.most=some n) (hn2:n≤sizeLine) (hdf:d.params.defaults=[]) (hr:Room k callerA)
    (hY:∀ (w:World) (h:Heap),YP w h→(K w.params).In h)
    (F:∀ (w:World) (mg:Str→Option Value) (fa:Addr) (h:Heap),(K w.params).In h→h.Ns mainGlobals mg→mg d.name=some (.ref fa) →
      ∃ fd:FuncData,(∀ (s:Shared) (u:Value),BindsTo s fd ⟨[u],[]⟩ [(x,u)]) ∧
        ∀ base:Heap,(K w.params).In base→base.Ns mainGlobals mg→FnOk l.prog w (K w.params) mg base (CX w) k fa fd [x] (sp w))
    (hsp:∀ (w:World) (H:Hp) (a:Addr) (ns:List Int),ns.length≤n→Only H→SqL (K w.params) H a (ns.map V.int)→sp w [.ref a] H (fun v _=>v=.bl true) fun _ _ _=>False)
    (hCX:∀ (w:World) (H:Hp) (s:Shared) (e:Value) (s':Shared),CX w [] H s (fun _ _ _=>False) e s'→False) :
    PySem.W.WalkO q loose XP YP l.row.toRowW d [] (fun f vs=>PySem.call f vs):=by
  refine Att.attach_call hn hdf fun w s₀ s₁ mg mb fa o pm cd doc a vs ns G Y ho hd hcd hmg hobj hints hlen hg=>?_
  have KX:=hY w _ Y
  obtain ⟨fd,hb,hF⟩:=F w mg fa _ KX G.T.g hmg
  exact law_call KX G.T.g G.T.b G.T.builtins G.T.nolimit hg hobj hints (Nat.le_trans hlen hn2) hr hF hb (fun H hO hS=>hsp w H a ns hlen hO hS) fun H e s'=>hCX w H s₁ e s'
end L2
/- THE LAST THEOREM (shape; LID,My.* are yours):
   My.Adr: a structure of the addresses that your layer names (classes,functions); My.Txt K t: a structure (Prop) of the equations over K;
   My.txt_mk:{K} {implicit addresses ..} (e1:nsIn K mainGlobals "law" = some (some (.ref f))) (e2:K.lookup f=some ⟨oc,od,.func (fnOf "law" "law" params body scope dV kV doc pm an cdv ct),sl⟩) (e3:codeIn K cdv "law" = true) ..:∃ t,My.Txt K t
set_option maxRecDepth 100000 in
set_option maxHeartbeats 0 in
theorem PySem.Challenge.cw_LID_holds : PySem.Challenge.rw_LID.Holds := by
  w_on; o_law; k_head; (case hw=>w_witness2)
  k_fill
  refine L2.walk_of (l:=PySem.Challenge.rw_LID) (n:=63) (k:=40) (x := "script") (CX:=fun w=>..) (sp:=fun _=>My.sp_law) rfl (by decide) rfl ⟨rfl,by decide,by decide⟩ (fun w h Y=>PySem.W.kIn_of Y) ?F ?S ?C
  case F =>
    intro w mg fa h KX G hmg
    have T:∃ t,My.Txt (L2.KOf KX) t:=by
      dsimp only [L2.KOf]                          -- K must stand as «<heap const> w.params» for k_is
      refine' My.txt_mk ?e1 ?e2 ?e3 ..
      (case e1=>PySem.W.k_is)                    -- in the order: a name -> its address -> its object -> its parts
      (case e2=>PySem.W.k_is)
      ..
    obtain ⟨t,T⟩:=T
    have e0:=hmg.symm.trans (PySem.W.mg_of KX G T.law)
    cases e0                                       -- fa is the law's own address
    exact ⟨_,fun s u=>.of_eq rfl,fun base kb nb=>My.law_fn T kb nb⟩     -- if «.of_eq rfl» comes too early: refine' ⟨_,?b,fun base kb nb=>My.law_fn T kb nb⟩; exact fun s u=>.of_eq rfl
  case S=>exact fun w H a ns hl hO hS=>..
  case C=>exact ..
(the tactic k_is has no namespace: write k_is) -/
namespace L2
open PySem PySem.Spec PyProof.Rows
def inClass (s:Stmt) (j:Nat):Stmt:=match s with
  | .ClassDef _ _ _ body _ _ _ _ _ _ _=>body.getD j (.Pass ⟨0,0,0,0⟩)
  | _=>.Pass ⟨0,0,0,0⟩
def defArgs (s:Stmt):Arguments:=match s with
  | .FunctionDef _ a _ _ _ _ _ _ _ _=>a
  | _=>{ posonlyargs:=[],args:=[],vararg:=none,kwonlyargs:=[],kw_defaults:=[],kwarg:=none,defaults:=[] }
def defBody (s:Stmt):List Stmt:=match s with
  | .FunctionDef _ _ b _ _ _ _ _ _ _=>b
  | _=>[]
def defScope (s:Stmt):Scope:=match s with
  | .FunctionDef _ _ _ _ _ _ sc _ _ _=>sc
  | _=>{ kind:=.function,names:=[],isGenerator:=false,isCoroutine:=false }
abbrev CX0:CXT:=fun _ _ _ _ _ _=>False
abbrev E0:XK:=fun _ _ _=>False
theorem pass0 {X:Cx}:Passes CX0 X E0:=fun _ _ _ _ _ _ _ h=>h.elim
structure Fun (K:PySem.W.Frag) (x qual:Str) (st:Stmt) (f:Addr) (fd:FuncData):Prop where
  ex:∃ (oc:Value) (od:Option Addr) (kV doc pm:Value) (an:Option Addr) (cdv ct:Value) (osl:Array (Option Value)),
    fd=PySem.W.fnOf x qual (defArgs st) (defBody st) (defScope st) .none kV doc pm an cdv ct∧K.lookup f=some ⟨oc,od,.func fd,osl⟩∧PySem.W.codeIn K cdv qual=true
  kp:PySem.W.keepIn K (.ref f)=true
section
variable {P:Program} {w:World} {K:PySem.W.Frag} {mg:Str→Option Value} {base:Heap}
theorem Fun.ok {x qual:Str} {st:Stmt} {f:Addr} {fd:FuncData} {N ps:List Str} {k:Nat} {sp:Sp} (F:Fun K x qual st f fd) (S:FnScope N ps (defScope st)) (len:∀ vs H Q E,sp vs H Q E→vs.length=ps.length)
    (hbody:∀ (cdv:Value) (A:Around) (outer:List Env) (s:Shared) (H:Hp) (vs:List V) (Q:VK) (E:XK),Room k (A.deeper (envOfC qual (defScope st) s.heap.objs.size f cdv))→sp vs H Q E →
      ∃ t,PSs (cxOf CX0 P w K mg base N qual (defScope st) f cdv A outer s H E).nox (defBody st) t∧t { nx:=fun _ H'=>Q .non H',rt:=Q } (start N vs) H):FnOk P w K mg base CX0 (k+1) f fd ps sp:=by
  obtain ⟨oc,od,kV,doc,pm,an,cdv,ct,osl,rfl,lk,hcd⟩:=F.ex
  refine fn_of lk hcd S len fun A outer s H vs Q E hr hsp=>?_
  obtain ⟨t,h,q⟩:=hbody cdv A outer s H vs Q E hr hsp
  exact ⟨t,h.nox,q⟩
theorem Fun.binds {x qual:Str} {st:Stmt} {f:Addr} {fd:FuncData} {ps:List Str} (F:Fun K x qual st f fd)
    (h:∀ (kV doc pm:Value) (an:Option Addr) (cdv ct:Value) (us:List Value),us.length=ps.length→bindArgs (PySem.W.fnOf x qual (defArgs st) (defBody st) (defScope st) .none kV doc pm an cdv ct) ⟨us,[]⟩=pure (ps.zip us)):Binds K fd ps []:=by
  obtain ⟨oc,od,kV,doc,pm,an,cdv,ct,osl,rfl,lk,hcd⟩:=F.ex
  exact .all (h kV doc pm an cdv ct)
theorem fun_mk {x qual:Str} {st:Stmt} {f:Addr} {oc:Value} {od an:Option Addr} {osl:Array (Option Value)} {kV doc pm cdv ct:Value} (l:K.lookup f=some ⟨oc,od,.func (PySem.W.fnOf x qual (defArgs st) (defBody st) (defScope st) .none kV doc pm an cdv ct),osl⟩)
    (c:PySem.W.codeIn K cdv qual=true) (k:PySem.W.keepIn K (.ref f)=true):Fun K x qual st f (PySem.W.fnOf x qual (defArgs st) (defBody st) (defScope st) .none kV doc pm an cdv ct):=⟨⟨oc,od,kV,doc,pm,an,cdv,ct,osl,rfl,l,c⟩,k⟩
end
theorem small1000 {n:Nat} (h:n≤1000):n < sizeLine:=Nat.lt_of_le_of_lt h (by decide)
section
variable {X:Cx}
theorem pv (i:Nat) {x:Str} {pos:Pos} (hN:X.N[i]?=some x:=by rfl) (hv:Vis X.env.scope x:=by first | exact Or.inl rfl | exact Or.inr (Or.inl rfl) | exact Or.inr (Or.inr rfl)) (hd:(x == ("__debug__" : Str))=false:=by decide)
    (hcd:(x == ("__classdict__" : Str))=false:=by decide):PE X (.Name x pos) (tVar i):=pe_var hN hv hd hcd
end
theorem iteF {A B:Prop} (h:B):if false=true then A else B:=by
  rw [if_neg Bool.false_ne_true]
  exact h
theorem iteT {A B:Prop} (h:A):if true=true then A else B:=by
  rw [if_pos rfl]
  exact h
theorem ite2 {c A B:Prop} [Decidable c] (h1:c→A) (h2:¬ c→B):if c then A else B:=by
  by_cases h:c
  · rw [if_pos h]
    exact h1 h
  · rw [if_neg h]
    exact h2 h
theorem iteNS {c A B:Prop} [Decidable c] (hc:c) (h:B):if (!decide c)=true then A else B:=by
  rw [decide_eq_true hc]
  exact iteF h
def Same (H H':Hp):Prop:=∀ b o,H b=some o→H' b=some o
theorem Same.refl (H:Hp):Same H H:=fun _ _ h=>h
theorem Same.trans {H H1 H2:Hp} (a:Same H H1) (b:Same H1 H2):Same H H2:=fun c o h=>b c o (a c o h)
theorem Same.free {H H':Hp} (e:Same H H') {l:Addr} (h:H' l=Option.none):H l=Option.none:=by
  cases q:H l with
  | none=>rfl
  | some o =>
    rw [e l o q] at h
    cases h
theorem Same.seq {K:PySem.W.Frag} {H H':Hp} {a:Addr} {xs:List V} (e:Same H H') (h:SqL K H a xs):SqL K H' a xs:=by
  rcases h with (h | ⟨o,h⟩) | h
  · exact .inl (.inl (e _ _ h))
  · exact .inl (.inr ⟨o,e _ _ h⟩)
  · exact .inr h
end L2
set_option maxHeartbeats 4000000
namespace L2
open PySem PySem.Spec PyProof.Rows
section
variable {X:Cx}
theorem call_isinst:CallR X (.builtin "isinstance") (fun xs H Q=>∃ x t n b,xs=[x,.ty n]∧TyOf X.K H x t∧PySem.W.kitOne X.K t (.type n)=some b∧Q (.bl b) H):=by
  intro pins s σ H xs us Q I r h
  obtain ⟨x,t,n,b,rfl,ty,e,q⟩:=h
  obtain ⟨u,w',rfl,r1,r2⟩:=vals2 r
  cases r2
  exact isinst_ok I r1 ty e (fun tk=>⟨.bl b,H,I.tok tk,rfl,q⟩)
theorem kit_self (K:PySem.W.Frag) (n:String):PySem.W.kitOne K (.type n) (.type n)=some true:=by
  unfold PySem.W.kitOne
  rw [if_pos (by simp)]
theorem kit_int_bool (K:PySem.W.Frag):PySem.W.kitOne K (.type "int") (.type "bool")=some false:=by
  show (if ((Value.type "int" == Value.type "bool")=true) then some true else if PySem.W.kitMeta "bool" = true then ((fastBuiltinMro "int").map (·.contains (.type "bool"))) else none)=some false
  decide +kernel
def CDivL (_ j:Int):Prop:=0 < j∧j < 2 ^ 63
theorem op_fdivL:OpR X (binaryOp .FloorDiv) (rI CDivL fun i j=>.int (i / j)):=opI fun i j _ _ _ _ _ hc q=>by
  have e:Int.fdiv i j=i / j:=Int.fdiv_eq_ediv_of_nonneg i (Int.le_of_lt hc.1)
  rw [← e] at q
  refine floordiv_int (by have:=hc.1; omega) q (.inl (PyProof.noPylong_of_log2 ?_))
  have h1:=hc.1
  have h2:=hc.2
  have h3:j.natAbs < 2 ^ 63:=by omega
  have h4:=(Nat.log2_lt (n:=j.natAbs) (k:=63) (by omega)).mpr h3
  omega
end
theorem boot_int':bootBuiltins "int" = some (.type "int"):=by decide +kernel
theorem boot_bool':bootBuiltins "bool" = some (.type "bool"):=by decide +kernel
theorem boot_list':bootBuiltins "list" = some (.type "list"):=by decide +kernel
theorem boot_tuple':bootBuiltins "tuple" = some (.type "tuple"):=by decide +kernel
theorem boot_reversed':bootBuiltins "reversed" = some (.type "reversed"):=by decide +kernel
structure Cal (P:Program) (w:World) (K:PySem.W.Frag) (mg:Str→Option Value) (base:Heap) (n:Nat) (x:Str) (ps:List Str) (sp:Sp):Prop where
  ex:∃ (f:Addr) (fd:FuncData),FnOk P w K mg base CX0 n f fd ps sp∧Binds K fd ps []∧PySem.W.keepIn K (.ref f)=true∧mg x=some (.ref f)
theorem pe_cal {X:Cx} {n k:Nat} {x:Str} {ps:List Str} {sp:Sp} {e:Expr} {es:List Expr} {t:TA} {p pos:Pos} (C:Cal X.prog X.w X.K X.mg X.base n x ps sp) (hr:Room k X.A) (hk:n≤k) (hg:Gl X x)
    (ha:PA X (e::es) t) (hdb:(x == ("__debug__" : Str))=false:=by decide) (he:starEach (e::es) X.env=(false,eval e X.env)::starEach es X.env:=by rfl) (hpl:(backTo pos (starEach es X.env)).any (·.1)=false:=by rfl) :
    PE X (.Call (.Name x p) (e::es) [] pos) (tCall sp [] E0 t):=by
  obtain ⟨f,fd,F,b,kp,m⟩:=C.ex
  exact pe_call F (hr.mono hk) hg m kp b .nil pass0 ha hdb he hpl
theorem Cal.of {P:Program} {w:World} {K:PySem.W.Frag} {mg:Str→Option Value} {base:Heap} {n:Nat} {x qual:Str} {ps:List Str} {sp:Sp} {st:Stmt} {f:Addr} {fd:FuncData} (F:Fun K x qual st f fd) (O:FnOk P w K mg base CX0 n f fd ps sp) (m:mg x=some (.ref f))
    (h:∀ (kV doc pm:Value) (an:Option Addr) (cdv ct:Value) (us:List Value),us.length=ps.length→bindArgs (PySem.W.fnOf x qual (defArgs st) (defBody st) (defScope st) .none kV doc pm an cdv ct) ⟨us,[]⟩=pure (ps.zip us)):Cal P w K mg base n x ps sp :=
  ⟨f,fd,O,F.binds h,F.kp,m⟩
theorem iteN {c A B:Prop} [Decidable c] (hc:¬ c) (h:A):if (!decide c)=true then A else B:=by
  rw [decide_eq_false hc]
  exact iteT h
theorem iteD {c A B:Prop} [Decidable c] (hc:c) (h:A):if decide c=true then A else B:=by
  rw [decide_eq_true hc]
  exact iteT h
theorem iteDF {c A B:Prop} [Decidable c] (hc:¬ c) (h:B):if decide c=true then A else B:=by
  rw [decide_eq_false hc]
  exact iteF h
def SameBut (f:Addr) (H H':Hp):Prop:=∀ b o,b ≠ f→H b=some o→H' b=some o
theorem SameBut.trans {f:Addr} {H H1 H2:Hp} (a:SameBut f H H1) (b:SameBut f H1 H2):SameBut f H H2:=fun c o h e=>b c o h (a c o h e)
theorem SameBut.refl (f:Addr) (H:Hp):SameBut f H H:=fun _ _ _ h=>h
theorem SameBut.of {f:Addr} {H H':Hp} (h:Same H H'):SameBut f H H':=fun b o _ e=>h b o e
theorem SameBut.upd {f:Addr} {H:Hp} (o:HO):SameBut f H (upd H f o):=fun b u h e=>by rw [upd_ne h]; exact e
theorem Same.new {H:Hp} {p:Addr} (h:H p=none) (o:HO):Same H (upd H p o):=fun b u q=>by rw [upd_ne (ne_of_none q h)]; exact q
theorem Same.but {f:Addr} {H0 H H':Hp} (a:Same H0 H) (n:H0 f=none) (b:SameBut f H H'):Same H0 H':=fun c o e=>b c o (ne_of_none e n) (a c o e)
def FeedAt (H:Hp) (f:Addr):Prop:=∃ own st:Int,H f=some (.lst [.int own,.int st])∧0≤own∧0≤st∧st≤2147483646
theorem FeedAt.ne {H:Hp} {f b:Addr} (F:FeedAt H f) (h:H b=none):b ≠ f:=by
  obtain ⟨o,s,e,_⟩:=F
  intro z
  subst z
  rw [h] at e
  cases e
theorem FeedAt.same {H H':Hp} {f:Addr} (F:FeedAt H f) (s:Same H H'):FeedAt H' f:=by
  obtain ⟨o,t,e,h⟩:=F
  exact ⟨o,t,s _ _ e,h⟩
def spTake:Sp:=fun vs H Q _=>∃ (f:Addr) (m:Int),vs=[.ref f,.int m]∧FeedAt H f∧0 < m∧m < 2 ^ 63∧∀ (d:Int) (H':Hp),0≤d→d < m→FeedAt H' f→SameBut f H H'→Q (.int d) H'
def spFeed (K:PySem.W.Frag):Sp:=fun vs H Q _=>∃ (a:Addr) (ns:List Int) (k:Int),vs=[.ref a,.int k]∧SqL K H a (ns.map V.int)∧ns.length≤63∧0≤k∧k < 1000000∧∀ (p:Addr) (H':Hp),H p=none→Same H H'→FeedAt H' p→Q (.ref p) H'
def spLaw (K:PySem.W.Frag):Sp:=fun vs H Q _=>∃ (a:Addr) (ns:List Int),vs=[.ref a]∧SqL K H a (ns.map V.int)∧ns.length≤63∧∀ H',Q (.bl true) H'
theorem small {n:Nat} (h:n≤1000):n≤sizeLine:=Nat.le_of_lt (small1000 h)
theorem at_int {ns:List Int} {k:Int} (h0:0≤k) (h:k < (ns.length:Int)):∃ v:Int,atI (ns.map V.int) k=some (.int v):=by
  have hk:k.toNat < ns.length:=by omega
  have q:atI (ns.map V.int) ((k.toNat:Nat):Int)=some (.int ns[k.toNat]):=atI_nat (by rw [List.getElem?_map,List.getElem?_eq_getElem hk] <;> rfl)
  have ek:((k.toNat:Nat):Int)=k:=by omega
  rw [ek] at q
  exact ⟨_,q⟩
end L2
namespace L2
open PySem PySem.Spec PyProof.Rows
@[reducible] def cxComp (X:Cx) (N:List Str) (scope:Scope) (cl:List (Str × Addr)) (s:Shared) (H:Hp) (fp:List Addr):Cx where
  prog:=X.prog
  w:=X.w
  K:=X.K
  mg:=X.mg
  base:=X.base
  A:=X.A
  N:=N
  s₀:=s
  H₀:=H
  env:=compEnvC scope cl s.heap.objs.size X.env
  outer:=X.stack
  stack:=X.stack
  ex:=fp
  fn:=fun _=>false
  calm:=X.calm
  pn:=[]
  xe:=fun _ _=>False
structure CompScope (X:Cx) (x:Str) (N:List Str) (ix:List Nat) (scope:Scope) (cl:List (Str × Addr)):Prop where
  clos:closureFor scope X.env=pure cl
  nocell:∀ y ∈ scope.names,y.2 ≠ .cell
  kind:scope.kind=.function
  names:∀ y ∈ scope.names,y.2=.local→scope.names.lookup y.1=some .local
  own:scope.names.lookup x=some .local
  nd:(x::N).Nodup
  sub:∀ p ∈ cl,X.env.cells.lookup p.1=some p.2
  has:((relabel scope X.env).names.all fun p=>!(p.2 == .cell || p.2 == .free) || (cl.lookup p.1).isSome)=true
  outs:∀ (j:Nat) (y:Str),N[j]?=some y→(relabel scope X.env).names.lookup y=some .cell∧∃ k c,ix[j]?=some k∧X.N[k]?=some y∧cl.lookup y=some c∧X.env.scope.names.lookup y=some .cell
def outs (ix:List Nat) (σ:St):St:=ix.map fun k=>(σ[k]?).join
section
variable {X:Cx} {pins:List (Addr × Obj)} {σ:St} {x:Str} {N:List Str} {ix:List Nat} {scope:Scope} {cl:List (Str × Addr)} {fp:List Addr} {H3:Hp} {s3:Shared}
theorem CompScope.cells (S:CompScope X x N ix scope cl) {y:Str} {c:Addr} (h:cl.lookup y=some c):X.env.cells.lookup y=some c:=S.sub _ (PySem.mem_of_lookup h)
theorem comp_cx (S:CompScope X x N ix scope cl) (I3:Inv X pins σ H3 s3) (hf:∀ b ∈ fp,FpOk X pins H3 b) (hlt:∀ b ∈ fp,b < s3.heap.objs.size):(cxComp X (x::N) scope cl s3 H3 fp).Ok where
  mod:=I3.ok.mod
  kind:=S.kind
  glob:=I3.ok.glob
  blt:=I3.ok.blt
  above:=Nat.le_refl _
  inj:=fun y z c h1 h2=>I3.ok.inj y z c (S.cells h1) (S.cells h2)
  has:=fun y hy=>by
    have q:=List.all_eq_true.mp S.has
    have hy:(relabel scope X.env).names.lookup y=some .cell∨(relabel scope X.env).names.lookup y=some .free:=hy
    have z:∀ k:NameKind,(k == .cell || k == .free)=true→(relabel scope X.env).names.lookup y=some k→∃ c,cl.lookup y=some c:=fun k hk e=>by
      have r:=q _ (PySem.mem_of_lookup e)
      rw [hk] at r
      exact Option.isSome_iff_exists.mp (by simpa using r)
    rcases hy with e | e
    · exact z _ (by rfl) e
    · exact z _ (by rfl) e
  cab:=fun _ _ h _=>nomatch h
  hd:=I3.ok.hd
  frames:=I3.ok.frames
  stk:=.inl rfl
  exf:=fun b hb=>⟨Nat.ne_of_lt (hlt b hb),fun y c e=>(hf b hb).2.2.2.2.1 y c (S.cells e)⟩
  bs:=fun b o e=>I3.bs b o e
  bsz:=Nat.le_trans I3.ok.bsz I3.sz
  noex:=fun b o e hb=>by
    rcases (hf b hb).2.2.2.1 with z | z
    · exact I3.ok.noex b o e z
    · exact absurd (Nat.lt_of_lt_of_le (Heap.lt_size e) (Nat.le_trans I3.ok.bsz z)) (Nat.lt_irrefl _)
  exfs:=fun b hb z=>by
    rcases List.mem_cons.mp (I3.stkSub b z) with e | e
    · exact (hf b hb).2.1 e
    · exact (hf b hb).2.2.1 e
  funs:=I3.stack
  frf:=I3.stkFree
theorem comp_start (S:CompScope X x N ix scope cl) (I3:Inv X pins σ H3 s3) (hf:∀ b ∈ fp,FpOk X pins H3 b) (hlt:∀ b ∈ fp,b < s3.heap.objs.size) (hix:ix.length=N.length) {h1:Heap} {t':Nat} {m:Str→Option Value}
    (hn:h1.Ns s3.heap.objs.size m) (hk:∀ b o,s3.heap.get? b=some o→h1.get? b=some o):Inv (cxComp X (x::N) scope cl s3 H3 fp) [] (none::outs ix σ) H3 { s3 with heap:=h1,toks:=t' } where
  ok:=comp_cx S I3 hf hlt
  os:=rfl
  bare:=I3.bare
  base:=Un.kept hk
  loc:=by
    refine ⟨m,hn,fun i y v h1' h2 h3=>?_⟩
    cases i with
    | zero =>
      have h2':(some (none:Option V))=some (some v):=h2
      cases h2'
    | succ j =>
      have h1'':N[j]?=some y:=h1'
      have h2':(outs ix σ)[j]?=some (some v):=h2
      obtain ⟨hr,k,c,e1,e2,e3,e4⟩:=S.outs j y h1''
      unfold outs at h2'
      rw [List.getElem?_map,e1] at h2'
      have h2'':(σ[k]?).join=some v:=Option.some.inj h2'
      have e5:σ[k]?=some (some v):=by
        cases q:σ[k]? with
        | none=>rw [q] at h2''; cases h2''
        | some o=>rw [q] at h2''; exact congrArg some h2''
      obtain ⟨m0,_,hl⟩:=I3.loc
      obtain ⟨u,r,l⟩:=hl k y v e2 e5 (.inr (.inl e4))
      refine ⟨u,r,.inr ⟨.inl hr,c,e3,?_⟩⟩
      rcases l with ⟨kk,_⟩ | ⟨_,c',ec,z⟩
      · have kk':X.env.scope.names.lookup y=some .local:=kk
        rw [e4] at kk'; cases kk'
      · rw [S.cells e3] at ec
        cases ec
        obtain ⟨o,ho,hd⟩:=z
        exact ⟨o,hk _ _ ho,hd⟩
  cell:=fun y c e=>by
    obtain ⟨v,o,ho,hd⟩:=I3.cell y c (S.cells e)
    exact ⟨v,o,hk _ _ ho,hd⟩
  free:=I3.hok.fresh (Nat.le_refl _)
  freeC:=fun y c e=>I3.freeC y c (S.cells e)
  pin:=fun p hp=>absurd (show p ∈ ([]:List (Addr × Obj)) from hp) (by simp)
  hok:=I3.hok.kept hk
  len:=by
    show (none::outs ix σ).length=(x::N).length
    rw [List.length_cons,List.length_cons]
    unfold outs
    rw [List.length_map,hix]
theorem comp_back (I3:Inv X pins σ H3 s3) (hf:∀ b ∈ fp,FpOk X pins H3 b) {σ':St} {H':Hp} {s':Shared} {h'':Heap} {N':List Str} (J:Inv (cxComp X N' scope cl s3 H3 fp) [] σ' H' s') (hb:Heap.SameBut s3.heap.objs.size s'.heap h'') :
    Inv X pins σ H' { s' with heap:=h'' }:=by
  have ne:∀ b o,s3.heap.get? b=some o→b ≠ s3.heap.objs.size:=fun b o e=>Nat.ne_of_lt (Heap.lt_size e)
  have B:Un (frs X.stack) fp H3 H' s3.heap s'.heap:=J.base
  refine I3.call' (s':={ s' with heap:=h'' }) (ch:=fp) J.os ⟨fun b o e n h1 h2=>(hb.2 b (ne b o e)).trans (B.keep b o e n h1 h2),fun b o e n h1 h2=>?_,B.free,fun b o e h2=>?_,B.tups,B.frzs,B.tbls⟩ (fun b ob e=>?_) J.bare (fun b z=>?_)
  · obtain ⟨sl,q⟩:=B.slot b o e n h1 h2
    exact ⟨sl,(hb.2 b (ne b o e)).trans q⟩
  · obtain ⟨o',q⟩:=B.there b o e h2
    exact ⟨o',(hb.2 b (ne b o e)).trans q⟩
  · have fr:H' s3.heap.objs.size=none:=J.free
    refine (J.hok b ob e).stay (fun c w' hc q=>(hb.2 c ?_).trans q) (fun _ q=>q) fun _ _ q=>q
    rintro rfl
    rcases hc with rfl | hc
    · rw [fr] at e; cases e
    · rw [fr] at hc; cases hc
  · obtain ⟨_,h2,_,h4,h5,h6⟩:=hf b z
    exact ⟨h4,h2,h5,h6⟩
end
abbrev TBl:=St→Hp→(Hp→Prop)→VK→Prop
def PB (X:Cx) (ifs:List Expr) (elt:Expr) (tb:TBl):Prop :=
  ∀ (pins:List (Addr × Obj)) (s:Shared) (σ:St) (H:Hp) (skip:Hp→Prop) (keep:VK),Inv X pins σ H s→tb σ H skip keep →
    wpAny (model X.prog X.w) X.A (forIn ifs true fun c r=>if r=true then do let ok ← isTrue c X.env (eval c X.env); pure (ForInStep.yield ok) else pure (ForInStep.yield r))
      (fun ok s3=>if ok=true then wpAny (model X.prog X.w) X.A (eval elt X.env) (EP X pins σ keep) X.xe s3 else ∃ H',Inv X pins σ H' s3∧skip H') X.xe s
def tB0 (te:TE):TBl:=fun σ H _ keep=>te σ H keep
def tB1 (tc:TT) (te:TE):TBl:=fun σ H skip keep=>tc σ H fun b H1=>if b=true then te σ H1 keep else skip H1
theorem pb_all {X:Cx} {elt:Expr} {te:TE} (he:PE X elt te):PB X [] elt (tB0 te):=by
  intro pins s σ H skip keep I h
  refine wpAny_tests_nil ?_
  rw [if_pos rfl]
  exact he pins s σ H keep I h
def CompEx (J:It) (D:Addr) (ix:List Nat) (tb:TBl) (σ:St) (H:Hp) (Q:VK):Prop:=∃ W:Nat→Nat→Hp→Prop,(∃ m,W 0 m (upd H D (.lst [])))∧∀ i m H2,W i m H2 →
  (J.stop i H2∧Q (.ref D) H2)∨(J.go i H2∧∀ y H3,J.yld i H2 y H3→tb (some y::outs ix σ) H3 (fun H4=>∃ m',m' < m∧W (i+1) m' H4)
    fun z H4=>∃ ys,H4 D=some (.lst ys)∧ys.length < sizeLine∧∃ m',m' < m∧W (i+1) m' (upd H4 D (.lst (ys++[z]))))
def tCompR (wi:TI) (ix:List Nat) (tb:TBl):TE:=fun σ H Q=>wi σ H fun J H1=>∀ D,H1 D=none→CompEx J D ix tb σ H1 Q
section
variable {prog:Program} {w:World} {A:Around} {E:Value→Shared→Prop} {R:Result→Shared→Prop} {s:Shared}
theorem compLoop_go {elt target iter:Expr} {ifs:List Expr} {scope:Scope} {pos:Pos} {it acc:Value} {env:Env} (I:Nat→Shared→Prop)
    (turn:∀ n s,I n s→wpAny (model prog w) A (pyNext it) (fun r s1=>match r with
      | none=>R (.ok .next) s1
      | some v=>wpAny (model prog w) A (letOwnedTupleGo target it v) (fun _ s1'=>wpAny (model prog w) A (assign target env v) (fun _ s2 =>
          wpAny (model prog w) A (forIn ifs true fun c r=>if r=true then do let ok ← isTrue c env (eval c env); pure (ForInStep.yield ok) else pure (ForInStep.yield r)) (fun ok s3 =>
            if ok=true then wpAny (model prog w) A (eval elt env) (fun x s4 =>
              wpAny (model prog w) A (call (.builtin "list.append") [acc,x]) (fun _ s5=>∃ m,m < n∧I m s5) (fun _ _=>False) s4) (fun _ _=>False) s3
            else ∃ m,m < n∧I m s3) (fun _ _=>False) s2) (fun _ _=>False) s1') (fun _ _=>False) s1) (fun _ _=>False) s)
    (n:Nat) (h:I n s) :
    codeAny (model prog w) A (.compLoop (.ListComp elt [⟨target,iter,ifs,0⟩] scope pos) 0 it acc env) R s:=by
  have up:∀ {α:Type} {t:Sem α} {Q Q':α→Shared→Prop} {E':Value→Shared→Prop} {s:Shared},wpAny (model prog w) A t Q (fun _ _=>False) s→(∀ a s,Q a s→Q' a s)→wpAny (model prog w) A t Q' E' s :=
    fun h q=>wpAny_mono h q fun _ _ f=>f.elim
  refine codeAny_loop rfl I (fun n s hI=>?_) n h
  show wpAny _ A ((compTurn (.ListComp elt [⟨target,iter,ifs,0⟩] scope pos) 0 it acc env).onRaise (fun x=>do noteFrame x env; theTreesLotGoes x)) _ _ s
  refine wpAny_noted ?_
  rw [compTurn_list]
  refine wpAny_bind (wpAny_standAt (wpAny_bind (up (turn n s hI) fun r s1 h1=>?_)))
  cases r with
  | none=>exact wpAny_pure h1
  | some v =>
    refine wpAny_bind (up h1 fun _ s1' h1'=>?_)
    refine wpAny_bind (up h1' fun _ s2 h2=>wpAny_bind (up h2 fun ok s3 h3=>?_))
    cases ok with
    | false=>exact wpAny_pure ⟨rfl,h3⟩
    | true =>
      exact wpAny_bind (wpAny_bind (up h3 fun x s4 h4=>wpAny_bind (up h4 fun _ s5 h5=>wpAny_pure (wpAny_pure ⟨rfl,h5⟩))))
end
structure Apart (X:Cx) (pins:List (Addr × Obj)) (H:Hp) (C:Addr):Prop where
  fr:H C=none
  lo:C ≠ X.env.locals
  sz:X.s₀.heap.objs.size≤C
  ce:∀ y c,X.env.cells.lookup y=some c→c ≠ C
  pi:∀ p ∈ X.pn++pins,p.1 ≠ C
theorem Apart.turn {X:Cx} {pins:List (Addr × Obj)} {σ:St} {H:Hp} {C:Addr} {s:Shared} {h':Heap} (a:Apart X pins H C) (I:Inv X pins σ H s) (hs:Heap.SameBut C s.heap h'):Inv X pins σ H { s with heap:=h' } :=
  I.turned (t':=s.toks) (fun b o ne e=>(hs.2 b ne).trans e) a.fr a.lo (.inr a.sz) a.ce a.pi
section
variable {X:Cx} {x:Str} {N:List Str} {ix:List Nat} {scope:Scope} {cl:List (Str × Addr)} {elt iter:Expr} {ifs:List Expr} {px pos:Pos} {wi:TI} {tb:TBl}
theorem comp_run (hc:X.calm=true) (S:CompScope X x N ix scope cl) (hix:ix.length=N.length) (hb:∀ s3 H3 fp,PB (cxComp X (x::N) scope cl s3 H3 fp) ifs elt tb)
    {pins:List (Addr × Obj)} {s2:Shared} {σ:St} {H2:Hp} {Q:VK} {it:Addr} {fp:List Addr} {tn:Nat→Heap→Prop} {J:It} {RR:Value→Addr→Result→Shared→Prop} {E:Value→Shared→Prop}
    (I2:Inv X pins σ H2 s2) (T:Turn X.prog X.w X.K (.Name x px) J fp it tn) (st2:tn 0 s2.heap) (f2:∀ b ∈ fp,FpOk X pins H2 b)
    (h:∀ D,H2 D=none→∃ W:Nat→Nat→Hp→Prop,(∃ m,W 0 m (upd H2 D (.lst [])))∧∀ i m H3,W i m H3 →
      (J.stop i H3∧Q (.ref D) H3)∨(J.go i H3∧∀ y H4,J.yld i H3 y H4→tb (some y::outs ix σ) H4 (fun H5=>∃ m',m' < m∧W (i+1) m' H5)
        fun z H5=>∃ ys,H5 D=some (.lst ys)∧ys.length < sizeLine∧∃ m',m' < m∧W (i+1) m' (upd H5 D (.lst (ys++[z])))))
    (hRR:∀ (D C:Addr) (H':Hp) (s':Shared) (m:Str→Option Value),s'.heap.Ns C m→Apart X pins H' C→Inv X pins σ H' s'→Q (.ref D) H'→RR (.ref D) C (.ok .next) s') :
    wpAny (model X.prog X.w) X.A (newList []) (fun acc s3=>wpAny (model X.prog X.w) X.A (newFunctionEnv scope X.env.globals cl [] X.env.qual none .none (some X.env)) (fun cenv s4 =>
      codeAny (model X.prog X.w) X.A (.compStart (.ListComp elt [⟨.Name x px,iter,ifs,0⟩] scope pos) 0 (.ref it) acc { cenv with scope:=relabel scope X.env }) (RR acc cenv.locals) s4) E s3) E s2:=by
  refine wpAny_newObj_type (wpAny_newFunctionEnv S.nocell (by intro y hy; simp at hy) (fun h1 hns1 hsb1=>?_) S.kind)
  dsimp only at hns1 hsb1 ⊢
  have I3:Inv X pins σ (upd H2 s2.heap.objs.size (.lst [])) { s2 with heap:=s2.heap.push { cls:=.type "list", dict:=none,data:=.seq ([]:List Value).toArray } }:=I2.lnew (its:=[]) (ys:=[]) (t':=s2.toks) .nil (Nat.zero_le _)
  have hD:H2 s2.heap.objs.size=none:=I2.fresh
  obtain ⟨W,⟨m0,w0⟩,turn⟩:=h s2.heap.objs.size hD
  have hltF:∀ b ∈ fp,b < s2.heap.objs.size:=fun b hb=>by
    obtain ⟨o,e,_⟩:=T.obj 0 _ st2 b hb
    exact Heap.lt_size e
  generalize hs3:({ s2 with heap:=s2.heap.push { cls:=.type "list", dict:=none,data:=.seq ([]:List Value).toArray } }:Shared)=s3 at I3
  have eh:s2.heap.push { cls:=.type "list", dict:=none,data:=.seq ([]:List Value).toArray }=s3.heap:=by rw [← hs3]
  have et:s2.toks=s3.toks:=by rw [← hs3]
  rw [eh] at hns1 hsb1 ⊢
  have sz3:s3.heap.objs.size=s2.heap.objs.size+1:=by rw [← eh,Heap.size_push]
  have hlt3:∀ b ∈ fp,b < s3.heap.objs.size:=fun b hb=>Nat.lt_of_lt_of_le (hltF b hb) (by rw [sz3]; exact Nat.le_succ _)
  have f3:∀ b ∈ fp,FpOk X pins (upd H2 s2.heap.objs.size (.lst [])) b:=fun b hb=>by
    obtain ⟨q1,q2⟩:=f2 b hb
    exact ⟨by rw [upd_ne (Nat.ne_of_lt (hltF b hb))]; exact q1,q2⟩
  have up:∀ b o,s3.heap.get? b=some o→h1.get? b=some o:=fun b o e=>hsb1.extBut b o (Nat.ne_of_lt (Heap.lt_size e)) (Heap.get?_push_of_some _ e)
  have old:∀ b o,s2.heap.get? b=some o→h1.get? b=some o:=fun b o e=>up b o (by rw [← eh]; exact Heap.get?_push_of_some _ e)
  have es:({ s2 with heap:=h1,toks:=s2.toks+([]:List (Str × Value)).length }:Shared)={ s3 with heap:=h1,toks:=s2.toks+([]:List (Str × Value)).length }:=by rw [← hs3]
  rw [es]
  have I4:Inv (cxComp X (x::N) scope cl s3 (upd H2 s2.heap.objs.size (.lst [])) fp) [] (none::outs ix σ) (upd H2 s2.heap.objs.size (.lst [])) { s3 with heap:=h1,toks:=s2.toks+([]:List (Str × Value)).length } :=
    comp_start S I3 f3 hlt3 hix hns1 up
  have st4:tn 0 h1:=T.keep 0 _ _ st2 fun b _ o e=>old b o e
  have loop:codeAny (model X.prog X.w) X.A (.compLoop (.ListComp elt [⟨.Name x px,iter,ifs,0⟩] scope pos) 0 (.ref it) (.ref s2.heap.objs.size) (compEnvC scope cl s3.heap.objs.size X.env)) (RR (.ref s2.heap.objs.size) s3.heap.objs.size)
      { s3 with heap:=h1,toks:=s2.toks+([]:List (Str × Value)).length }:=by
    refine compLoop_go (fun n s'=>∃ i v0 H',Inv (cxComp X (x::N) scope cl s3 (upd H2 s2.heap.objs.size (.lst [])) fp) [] (v0::outs ix σ) H' s'∧tn i s'.heap∧(∀ b ∈ fp,H' b=none)∧W i n H') ?_ m0 ⟨0,none,_,I4,st4,fun b hb=>(f3 b hb).1,w0⟩
    rintro n s5 ⟨i,v0,H5,I5,st5,fr5,w5⟩
    have stat:∀ {H':Hp},(∀ b ∈ fp,H' b=none)→∀ b ∈ fp,FpOk (cxComp X (x::N) scope cl s3 (upd H2 s2.heap.objs.size (.lst [])) fp) [] H' b:=fun hn b hb =>
      ⟨hn b hb,((comp_cx S I3 f3 hlt3).exf b hb).1,(comp_cx S I3 f3 hlt3).exfs b hb,.inl hb,((comp_cx S I3 f3 hlt3).exf b hb).2,fun p hp=>absurd (show p ∈ ([]:List (Addr × Obj)) from hp) (by simp)⟩
    rcases turn i n H5 w5 with ⟨stop,qn⟩ | ⟨go,step⟩
    · refine thn (T.done (cxComp X (x::N) scope cl s3 (upd H2 s2.heap.objs.size (.lst [])) fp) rfl rfl rfl hc i [] s5 _ H5 _ I5 (stat fr5) st5 stop) fun r s6 ⟨hr,I6⟩=>?_
      subst hr
      obtain ⟨m6,hn6,_⟩:=I6.loc
      exact hRR _ _ H5 s6 m6 hn6 ⟨I6.free,Ne.symm (Nat.ne_of_lt I3.lt),I3.sz,fun y c e z=>by
        obtain ⟨v,q⟩:=I3.cell y c e
        exact absurd q.lt (by rw [z]; exact Nat.lt_irrefl _),fun p hp z=>absurd (Heap.lt_size (I3.pin p hp).1) (by rw [z]; exact Nat.lt_irrefl _)⟩ (comp_back I3 f3 I6 (Heap.SameBut.refl _ _)) qn
    · refine thn (T.item (cxComp X (x::N) scope cl s3 (upd H2 s2.heap.objs.size (.lst [])) fp) rfl rfl rfl hc i [] s5 _ H5 _ I5 (stat fr5) st5 go) fun r s6 ⟨u,hr,h6⟩=>?_
      subst hr
      refine thn h6 fun _ s7 ⟨y,H7,I7,r7,y7,st7,fr7⟩=>?_
      have I7':=I7.pinned (stat fr7) (T.obj _ _ st7)
      refine wpAny_assign_Name (store_ok (i:=0) I7' S.nd rfl (.inl (lookup_relabel_local S.own)) r7 (fun s8 I8=>?_) (.inr (lookup_relabel_local S.own)))
      have I8':Inv (cxComp X (x::N) scope cl s3 (upd H2 s2.heap.objs.size (.lst [])) fp) ([]++pinsAt fp s7.heap) (some y::outs ix σ) H7 s8:=I8
      have again:∀ {v9:Option V} {H9:Hp} {s9:Shared},Inv (cxComp X (x::N) scope cl s3 (upd H2 s2.heap.objs.size (.lst [])) fp) ([]++pinsAt fp s7.heap) (v9::outs ix σ) H9 s9→(∃ m',m' < n∧W (i+1) m' H9) →
          ∃ m,m < n∧∃ i v0 H',Inv (cxComp X (x::N) scope cl s3 (upd H2 s2.heap.objs.size (.lst [])) fp) [] (v0::outs ix σ) H' s9∧tn i s9.heap∧(∀ b ∈ fp,H' b=none)∧W i m H':=fun {v9 H9 s9} I9 ⟨m',hm,w9⟩=>by
        refine ⟨m',hm,i+1,v9,H9,I9.unpinned,T.keep _ _ _ st7 fun b hb o e=>(I9.pin (b,o) (List.mem_append_right _ (List.mem_append_right _ (mem_pinsAt hb e)))).1,fun b hb=>?_,w9⟩
        obtain ⟨o,e,d⟩:=T.obj _ _ st7 b hb
        exact (I9.pin (b,o) (List.mem_append_right _ (List.mem_append_right _ (mem_pinsAt hb e)))).2.1
      refine thn (hb s3 (upd H2 s2.heap.objs.size (.lst [])) fp _ s8 _ H7 _ _ I8' (step y H7 y7)) fun ok s9 q9=>?_
      cases ok with
      | false =>
        rw [if_neg (by decide)] at q9 ⊢
        obtain ⟨H9,I9,q9⟩:=q9
        exact again I9 q9
      | true =>
        rw [if_pos rfl] at q9 ⊢
        refine thn q9 fun u s10 ⟨z,H10,I10,r10,ys,hy,hz,q10⟩=>?_
        refine thn (mt_append _ s10 _ H10 (.ref s2.heap.objs.size) [z] (.ref s2.heap.objs.size) [u] (fun _ H'=>∃ m',m' < n∧W (i+1) m' H') I10 rfl (.cons r10 .nil) ⟨_,ys,z,rfl,rfl,hy,hz,q10⟩) fun _ s11 ⟨_,H11,I11,_,q11⟩=>?_
        exact again I11 q11
  exact codeAny_compStart_list loop (T.self _ 0 _ _ _ st4 loop)
theorem pe_comp (hc:X.calm=true) (S:CompScope X x N ix scope cl) (hix:ix.length=N.length) (hi:PI X (.Name x px) iter wi) (hb:∀ s3 H3 fp,PB (cxComp X (x::N) scope cl s3 H3 fp) ifs elt tb)
    (hs:∀ x,foldedSetIterable iter X.env x=pure x:=by intro _; rfl):PE X (.ListComp elt [⟨.Name x px,iter,ifs,0⟩] scope pos) (tCompR wi ix tb):=by
  intro pins s σ H Q I h
  rw [eval_ListComp]
  refine wpAny_comprehension_free (use:=none) rfl hs S.clos S.kind S.names (thn (hi pins s σ H _ I h) fun xv s1 h1=>thn h1 fun itv s2 h2=>?_)
  obtain ⟨it,fp,tn,J,H2,rfl,I2,T,st2,f2,R⟩:=h2
  refine comp_run hc S hix hb (RR:=fun acc C=>compPost (model X.prog X.w) X.A X.xe none (EP X pins σ Q) acc C) I2 T st2 f2 R ?_
  intro D C H' s' m hn ap I' q
  exact ⟨m,hn,fun h'' hb''=>⟨.ref D,H',ap.turn I' hb'',rfl,q⟩⟩
theorem ps_comp {i:Nat} {y:Str} {py spos:Pos} (hN:X.N.Nodup) (hi0:X.N[i]?=some y) (hx:Loc X.env.scope y) (hc:X.calm=true) (S:CompScope X x N ix scope cl) (hix:ix.length=N.length) (hi:PI X (.Name x px) iter wi) (hb:∀ s3 H3 fp,PB (cxComp X (x::N) scope cl s3 H3 fp) ifs elt tb)
    (hsw:swapsWith (.ListComp elt [⟨.Name x px,iter,ifs,0⟩] scope pos) (some (.Name y py)) spos.line X.env=pure true:=by with_unfolding_all rfl)
    (hs:∀ x,foldedSetIterable iter X.env x=pure x:=by intro _; rfl) (hf:X.fn y=true∨X.env.scope.names.lookup y=some .local:=by first | exact .inl rfl | exact .inr rfl | assumption) :
    PS X (.Assign [.Name y py] (.ListComp elt [⟨.Name x px,iter,ifs,0⟩] scope pos) spos) (fun D σ H=>tCompR wi ix tb σ H fun v H'=>D.nx (σ.set i (some v)) H'):=by
  intro pins s σ H Dn I h
  rw [exec_Assign_Name_used _ _ _ _ hsw]
  refine wpAny_bind (wpAny_standAt (wpAny_bind ?_))
  show wpAny _ X.A (do let _ ← comprehension (.ListComp elt [⟨.Name x px,iter,ifs,0⟩] scope pos) scope X.env _ (newList []) false (eval iter X.env) (some (assign (.Name y py) X.env))) _ _ s
  refine wpAny_bind (wpAny_mono (wpAny_comprehension_free (use:=some (assign (.Name y py) X.env)) (Q:=fun _ s'=>SP X pins Dn .next s') rfl hs S.clos S.kind S.names
    (thn (hi pins s σ H _ I h) fun xv s1 h1=>thn h1 fun itv s2 h2=>?_)) (fun _ s' hq=>wpAny_pure (wpAny_pure hq)) fun _ _ e=>e)
  obtain ⟨it,fp,tn,J,H2,rfl,I2,T,st2,f2,R⟩:=h2
  refine comp_run hc S hix hb (RR:=fun acc C=>compPost (model X.prog X.w) X.A X.xe (some (assign (.Name y py) X.env)) (fun _ s'=>SP X pins Dn .next s') acc C) (Q:=fun v H'=>Dn.nx (σ.set i (some v)) H') I2 T st2 f2 R ?_
  intro D C H' s' m hn ap I' q
  show wpAny _ X.A (assign (.Name y py) X.env (.ref D)) _ _ _
  refine wpAny_assign_Name (store_ok2 I' hN hi0 hx (v:=.ref D) rfl (fun s'' I'' hsb=>?_) hf)
  obtain ⟨a,hsb,ha⟩:=hsb
  have ne:C ≠ a:=by
    rcases ha with z | z
    · rw [z]; exact ap.lo
    · exact Ne.symm (ap.ce y a z)
  exact ⟨m,hn.sameBut hsb ne,fun h'' hb''=>⟨_,H',ap.turn I'' hb'',q⟩⟩
end
end L2
namespace L2
open PySem PySem.Spec PyProof.Rows
section
variable {X:Cx} {pins:List (Addr × Obj)} {σ:St} {H:Hp} {s:Shared} {h':Heap}
theorem Inv.turnedNew {t':Nat} {ch:List Addr} {T:Addr} {o:HO} (I:Inv X pins σ H s) (k:∀ b u,b ∉ ch→s.heap.get? b=some u→h'.get? b=some u) (hf:∀ b ∈ ch,FpOk X pins H b) (hT:s.heap.objs.size≤T)
    (new:ObjOk X.prog X.w (upd H T o) h' T o):Inv X pins σ (upd H T o) { s with heap:=h',toks:=t' }:=by
  have nit:∀ b u,H b=some u→b ∉ ch:=fun b u e z=>by rw [(hf b z).1] at e; cases e
  have hn:H T=none:=I.hok.fresh hT
  have lt:∀ b u,s.heap.get? b=some u→b ≠ T:=fun b u e=>Nat.ne_of_lt (Nat.lt_of_lt_of_le (Heap.lt_size e) hT)
  refine I.step (g':=s.gens) (d':=s.drawn) (ch:=ch) (fun b hb=>?_) (fun b u _ _ hc e _=>k b u hc e) (fun b u _ _ hc e _=>⟨u.slots,k b u hc e⟩) (fun b u _ e n=>by rw [upd_ne (lt b u e)]; exact n) (fun b u hc e=>⟨u,k b u hc e⟩)
    (fun b xs e=>by rw [upd_ne (ne_of_none e hn)]; exact e) (fun b ob u e=>by rw [upd_ne (ne_of_none e hn)]; exact e) (fun b ps e=>⟨#[],by rw [upd_ne (ne_of_none e hn),e]; simp⟩) (fun m hm=>?_) (fun b u e=>?_) I.bare
  · obtain ⟨_,h2,_,h4,h5,h6⟩:=hf b hb
    exact ⟨h4,h2,h5,h6⟩
  · obtain ⟨ob,es,ep,ho,r⟩:=hm
    exact ⟨ob,es,ep,k _ ob (fun z=>(hf _ z).2.1 rfl) ho,r⟩
  · by_cases hb:b=T
    · subst hb
      rw [upd_same] at e
      cases e
      exact new
    · rw [upd_ne hb] at e
      refine (I.hok b u e).stay (fun c v hc q=>k c v ?_ q) (fun c q=>by rw [upd_ne (ne_of_none q hn)]; exact q) fun c xs q=>by rw [upd_ne (ne_of_none q hn)]; exact q
      rcases hc with z | z
      · rw [z]; exact nit b u e
      · exact nit c _ z
theorem Inv.turnedL {t':Nat} {ch:List Addr} (I:Inv X pins σ H s) (k:∀ b u,b ∉ ch→s.heap.get? b=some u→h'.get? b=some u) (hf:∀ b ∈ ch,FpOk X pins H b):Inv X pins σ H { s with heap:=h',toks:=t' }:=by
  have nit:∀ b u,H b=some u→b ∉ ch:=fun b u e z=>by rw [(hf b z).1] at e; cases e
  refine I.step (g':=s.gens) (d':=s.drawn) (ch:=ch) (fun b hb=>?_) (fun b u _ _ hc e _=>k b u hc e) (fun b u _ _ hc e _=>⟨u.slots,k b u hc e⟩) (fun _ _ _ _ n=>n) (fun b u hc e=>⟨u,k b u hc e⟩)
    (fun _ _ e=>e) (fun _ _ _ e=>e) (fun b ps e=>⟨#[],by rw [e]; simp⟩) (fun m hm=>?_) (fun b u e=>?_) I.bare
  · obtain ⟨_,h2,_,h4,h5,h6⟩:=hf b hb
    exact ⟨h4,h2,h5,h6⟩
  · obtain ⟨ob,es,ep,ho,r⟩:=hm
    exact ⟨ob,es,ep,k _ ob (fun z=>(hf _ z).2.1 rfl) ho,r⟩
  · refine (I.hok b u e).stay (fun c v hc q=>k c v ?_ q) (fun _ q=>q) fun _ _ q=>q
    rcases hc with z | z
    · rw [z]; exact nit b u e
    · exact nit c _ z
end
def Ite (K:PySem.W.Frag) (a:Addr):It :=
  ⟨fun i H=>∃ xs x,SqL K H a xs∧xs[i]?=some x,fun i H y H'=>∃ t,y=.ref t∧H t=none∧∀ xs x,SqL K H a xs→xs[i]?=some x→H'=upd H t (.tup [.int i,x]),fun i H=>∃ xs,SqL K H a xs∧xs.length≤i⟩
section
variable {X:Cx} {elts:List Expr} {k:Nat} {tpos:Pos}
def iEnum (K:PySem.W.Frag) (tl:TE):TI:=fun σ H R=>tl σ H fun x H1=>∃ a,x=.ref a∧(∃ xs,SqL K H1 a xs)∧R (Ite K a) H1
end
end L2
namespace L2
open PySem PySem.Spec PyProof.Rows
mutual
inductive Rep (K:PySem.W.Frag) (H:Hp):V→PyData→Prop
  | non:Rep K H .non .none
  | bl (b:Bool):Rep K H (.bl b) (.bool b)
  | int (i:Int):Rep K H (.int i) (.int i)
  | str (x:Str):Rep K H (.str x) (.str x)
  | tup {a:Addr} {xs:List V} {ds:List PyData}:SqT K H a xs→RepAll K H xs ds→Rep K H (.ref a) (.tuple ds)
  | lst {a:Addr} {xs:List V} {ds:List PyData}:SqL K H a xs→RepAll K H xs ds→Rep K H (.ref a) (.list ds)
inductive RepAll (K:PySem.W.Frag) (H:Hp):List V→List PyData→Prop
  | nil:RepAll K H [] []
  | cons {x:V} {d:PyData} {xs:List V} {ds:List PyData}:Rep K H x d→RepAll K H xs ds→RepAll K H (x::xs) (d::ds)
end
section
variable {X:Cx} {pins:List (Addr × Obj)} {σ:St} {H:Hp} {s:Shared}
mutual
theorem Rep.reads (I:Inv X pins σ H s):∀ {x:V} {d:PyData} {v:Value},Rep X.K H x d→RelV x v→∃ as,Reads s.heap v d as
  | _,_,v,.non,r=>by cases (show v=Value.none from r); exact ⟨_,Reads.none⟩
  | _,_,v,.bl b,r=>by cases (show v=Value.bool b from r); exact ⟨_,Reads.bool b⟩
  | _,_,v,.int i,r=>by obtain ⟨t,e⟩:=(show ∃ t,v=Value.int i t from r); cases e; exact ⟨_,Reads.int i t⟩
  | _,_,v,.str x,r=>by obtain ⟨t,e⟩:=(show ∃ t,v=Value.str x t from r); cases e; exact ⟨_,Reads.str x t⟩
  | _,_,v,.tup (a:=a) h q,r=>by
    cases (show v=Value.ref a from r)
    obtain ⟨its,rv,⟨o,ho,hc,n,hd⟩,_⟩:=I.tuple h
    obtain ⟨as,z⟩:=RepAll.reads I q rv
    exact ⟨_,reads_tuple_at ho hc hd (by simpa using z)⟩
  | _,_,v,.lst (a:=a) h q,r=>by
    cases (show v=Value.ref a from r)
    obtain ⟨its,rv,⟨o,n,ho,hc,_,hd⟩,_⟩:=I.list h
    obtain ⟨as,z⟩:=RepAll.reads I q rv
    exact ⟨_,reads_list_at ho hc hd (by simpa using z)⟩
theorem RepAll.reads (I:Inv X pins σ H s):∀ {xs:List V} {ds:List PyData} {vs:List Value},RepAll X.K H xs ds→Vals xs vs→∃ as,ReadsAll s.heap vs ds as
  | _,_,_,.nil,.nil=>⟨_,ReadsAll.nil⟩
  | _,_,_,.cons h q,.cons r rs=>by
    obtain ⟨as,z⟩:=Rep.reads I h r
    obtain ⟨bs,y⟩:=RepAll.reads I q rs
    exact ⟨_,ReadsAll.cons z y⟩
end
end
theorem rep_ints {K:PySem.W.Frag} {H:Hp}:∀ ns:List Int,RepAll K H (ns.map V.int) (ns.map PyData.int)
  | []=>.nil
  | n::r=>.cons (.int n) (rep_ints r)
section
variable {X:Cx}
def rEqD (K:PySem.W.Frag):R2:=fun x y H Q=>∃ d e,Rep K H x d∧Rep K H y e∧SeqAt.shaped d=true∧SeqAt.shaped e=true∧Q (.bl (PyData.eqv d e)) H
def rNeD (K:PySem.W.Frag):R2:=fun x y H Q=>∃ d e,Rep K H x d∧Rep K H y e∧SeqAt.shaped d=true∧SeqAt.shaped e=true∧Q (.bl (!PyData.eqv d e)) H
theorem op_eqD (hu:X.A.units+64 < cLine):OpR X (compareOp .Eq) (rEqD X.K):=by
  intro pins s σ H x y v u Q I rx ry h
  obtain ⟨d,e,hd,he,sd,se,q⟩:=h
  obtain ⟨as,r1⟩:=Rep.reads I hd rx
  obtain ⟨bs,r2⟩:=Rep.reads I he ry
  exact eq_dataH r1 r2 sd se hu ⟨.bl _,H,I,rfl,q⟩
theorem op_neD (hu:X.A.units+64 < cLine):OpR X (compareOp .NotEq) (rNeD X.K):=by
  intro pins s σ H x y v u Q I rx ry h
  obtain ⟨d,e,hd,he,sd,se,q⟩:=h
  obtain ⟨as,r1⟩:=Rep.reads I hd rx
  obtain ⟨bs,r2⟩:=Rep.reads I he ry
  exact ne_dataH r1 r2 sd se hu ⟨.bl _,H,I,rfl,q⟩
def rCatT0 (K:PySem.W.Frag):R2:=fun x y H Q=>∃ a b ys,x=.ref a∧y=.ref b∧SqT K H a []∧SqT K H b ys∧Q (.ref b) H
theorem op_catT0:OpR X (binaryOp .Add) (rCatT0 X.K):=by
  intro pins s σ H x y v u Q I rx ry h
  obtain ⟨a,b,ys,rfl,rfl,ha,hb,q⟩:=h
  cases rx
  cases ry
  obtain ⟨its,r1,p1,_⟩:=I.tuple ha
  obtain ⟨its2,r2,p2,_⟩:=I.tuple hb
  obtain ⟨⟨cls,dd,data,sl⟩,ho,hc,n,hd⟩:=id p1
  obtain ⟨⟨cls2,dd2,data2,sl2⟩,ho2,hc2,n2,hd2⟩:=id p2
  simp only at hc hd hc2 hd2
  subst hc hd hc2 hd2
  have e:its=[]:=r1.nil_iff.mpr rfl
  exact concat_meets ⟨_,ho,rfl⟩ ⟨_,ho2,rfl⟩ noFill_tuple_add seq_tuple_add PySem.F.slot_tuple_add PySem.F.entry_tuple_add (PySem.F.args_tuple_add_2 _ _)
    (tuple_addW0 a b its.toArray its2.toArray n n2 dd dd2 sl sl2 (by simp [e])) ⟨ho,ho2,⟨.ref b,H,I,rfl,q⟩⟩
end
end L2
namespace L2
open PySem PySem.Spec PyProof.Rows
section
variable {prog:Program} {w:World} {A:Around} {E:Value→Shared→Prop} {s:Shared} {R:Result→Shared→Prop}
end
section
variable {X:Cx}
def tListRev (K:PySem.W.Frag) (te:TE):TE:=fun σ H Q=>te σ H fun x H1=>∃ l ys,x=.ref l∧SqL K H1 l ys∧∀ p,H1 p=none→Q (.ref p) (upd H1 p (.lst ys.reverse))
end
end L2
namespace L2
open PySem PySem.Spec PyProof.Rows
def Nx (n i:Nat) (Pv:Nat→Hp→Prop) (H:Hp):Prop:=∃ m',m' < n - i∧(m'=n - (i+1)∧i+1≤n∧Pv (i+1) H)
theorem Nx.of {n i:Nat} {Pv:Nat→Hp→Prop} {H:Hp} (h:i < n) (p:Pv (i+1) H):Nx n i Pv H:=⟨n - (i+1),by omega,rfl,h,p⟩
theorem comp_tup {K:PySem.W.Frag} {a D:Addr} {xs:List V} {ix:List Nat} {tb:TBl} {σ:St} {H:Hp} {Q:VK} (Pv:Nat→Hp→Prop) (h0:Pv 0 (upd H D (.lst []))) (hl:∀ i H,i≤xs.length→Pv i H→SqT K H a xs)
    (hs:∀ i x H,xs[i]?=some x→Pv i H→tb (some x::outs ix σ) H (Nx xs.length i Pv) fun z H'=>∃ ys,H' D=some (.lst ys)∧ys.length < sizeLine∧Nx xs.length i Pv (upd H' D (.lst (ys++[z])))) (hd:∀ H,Pv xs.length H→Q (.ref D) H) :
    CompEx (Itt K a) D ix tb σ H Q:=by
  refine ⟨fun i m H=>m=xs.length - i∧i≤xs.length∧Pv i H,⟨xs.length,by simp,Nat.zero_le _,h0⟩,?_⟩
  rintro i m H ⟨rfl,hi,p⟩
  have q:=hl i H hi p
  by_cases hlt:i < xs.length
  · refine .inr ⟨⟨xs,xs[i],q,by simp [hlt]⟩,fun x H' y=>?_⟩
    obtain ⟨e,y⟩:=y
    subst e
    exact hs i x _ (y xs q) p
  · have e:i=xs.length:=by omega
    subst e
    exact .inl ⟨⟨xs,q,Nat.le_refl _⟩,hd H p⟩
theorem comp_list {K:PySem.W.Frag} {a D:Addr} {xs:List V} {ix:List Nat} {tb:TBl} {σ:St} {H:Hp} {Q:VK} (Pv:Nat→Hp→Prop) (h0:Pv 0 (upd H D (.lst []))) (hl:∀ i H,i≤xs.length→Pv i H→SqL K H a xs)
    (hs:∀ i x H,xs[i]?=some x→Pv i H→tb (some x::outs ix σ) H (Nx xs.length i Pv) fun z H'=>∃ ys,H' D=some (.lst ys)∧ys.length < sizeLine∧Nx xs.length i Pv (upd H' D (.lst (ys++[z])))) (hd:∀ H,Pv xs.length H→Q (.ref D) H) :
    CompEx (Itl K a) D ix tb σ H Q:=by
  refine ⟨fun i m H=>m=xs.length - i∧i≤xs.length∧Pv i H,⟨xs.length,by simp,Nat.zero_le _,h0⟩,?_⟩
  rintro i m H ⟨rfl,hi,p⟩
  have q:=hl i H hi p
  by_cases hlt:i < xs.length
  · refine .inr ⟨⟨xs,xs[i],q,by simp [hlt]⟩,fun x H' y=>?_⟩
    obtain ⟨e,y⟩:=y
    subst e
    exact hs i x _ (y xs q) p
  · have e:i=xs.length:=by omega
    subst e
    exact .inl ⟨⟨xs,q,Nat.le_refl _⟩,hd H p⟩
theorem comp_range {lo:Int} {n:Nat} {D:Addr} {ix:List Nat} {tb:TBl} {σ:St} {H:Hp} {Q:VK} (Pv:Nat→Hp→Prop) (h0:Pv 0 (upd H D (.lst [])))
    (hs:∀ i H,i < n→Pv i H→tb (some (.int (lo+i))::outs ix σ) H (Nx n i Pv) fun z H'=>∃ ys,H' D=some (.lst ys)∧ys.length < sizeLine∧Nx n i Pv (upd H' D (.lst (ys++[z])))) (hd:∀ H,Pv n H→Q (.ref D) H) :
    CompEx (Itr lo n) D ix tb σ H Q:=by
  refine ⟨fun i m H=>m=n - i∧i≤n∧Pv i H,⟨n,by simp,Nat.zero_le _,h0⟩,?_⟩
  rintro i m H ⟨rfl,hi,p⟩
  by_cases hlt:i < n
  · refine .inr ⟨hlt,fun x H' y=>?_⟩
    obtain ⟨e,y⟩:=y
    subst e y
    exact hs i _ hlt p
  · have e:i=n:=by omega
    subst e
    exact .inl ⟨Nat.le_refl _,hd H p⟩
theorem CompScope.closed {X:Cx} {x:Str} {scope:Scope} (c1:closureFor scope X.env=pure []) (c2:∀ y ∈ scope.names,y.2 ≠ .cell) (c3:scope.kind=.function) (c4:∀ y ∈ scope.names,y.2=.local→scope.names.lookup y.1=some .local)
    (c5:scope.names.lookup x=some .local) (c6:((relabel scope X.env).names.all fun p=>!(p.2 == .cell || p.2 == .free) || ((([]:List (Str × Addr))).lookup p.1).isSome)=true):CompScope X x [] [] scope [] where
  clos:=c1
  nocell:=c2
  kind:=c3
  names:=c4
  own:=c5
  nd:=by simp
  sub:=fun p hp=>absurd hp (by simp)
  has:=c6
  outs:=fun j y h=>by simp at h
end L2
namespace L2
open PySem PySem.Spec PyProof.Rows
section
variable {X:Cx}
def rIsi (K:PySem.W.Frag):List V→Hp→VK→Prop:=fun xs H Q=>∃ x t n b,xs=[x,.ty n]∧TyOf K H x t∧PySem.W.kitOne K t (.type n)=some b∧Q (.bl b) H
def rLen (K:PySem.W.Frag):List V→Hp→VK→Prop:=fun xs H Q=>∃ p ys,xs=[.ref p]∧(SqL K H p ys∨SqT K H p ys)∧Q (.int ys.length) H
theorem ix_listK (K:PySem.W.Frag) (hK:X.K=K:=by rfl):IxR X (rIxL K):=by subst hK; exact ix_list
end
end L2
namespace L2
open PySem PySem.Spec PyProof.Rows
def Its (z:Str):It:=⟨fun i _=>i < z.cps.size,fun i H x H'=>H'=H∧∃ c,z.cps[i]?=some c∧x=.str ⟨#[c]⟩,fun i _=>z.cps.size≤i⟩
section
variable {X:Cx} {y:Str} {py:Pos}
def iStr (tl:TE):TI:=fun σ H R=>tl σ H fun x H1=>∃ z,x=.str z∧R (Its z) H1
end
section
variable {X:Cx}
def rSlS:V→Option Int→Option Int→Hp→VK→Prop:=fun x lo hi H Q=>∃ z,x=.str z∧z.length≤sizeLine∧Q (.str (Txt.slice z lo hi)) H
theorem sl_str:SlR X rSlS:=by
  intro pins s σ H x v vl vu lo hi sl Q I rx hs pl pu h
  obtain ⟨z,rfl,hz,q⟩:=h
  obtain ⟨t,rfl⟩:=rx
  refine ⟨"str", _,F.slot_str_getitem.lookup,typeIs_str _ _ _,?_⟩
  have fin:∀ t' k,EP X pins σ Q (.str (Txt.slice z lo hi) t') { s with toks:=k }:=fun t' k=>⟨.str _,H,I.tok k,⟨_,rfl⟩,q⟩
  obtain ⟨o,ho,hc,hd⟩:=hs
  cases pl with
  | none =>
    cases pu with
    | none=>exact wpAny_getItem_str_slice (l:=none) (u:=none) (st:=none) ⟨o,ho,hc,hd⟩ rfl (post_val_or_str ⟨Nat.le_trans (Txt.slice_le z _ _) hz,fin⟩)
    | int j u=>exact wpAny_getItem_str_slice (l:=none) (u:=some (j,u)) (st:=none) ⟨o,ho,hc,hd⟩ rfl (post_val_or_str ⟨Nat.le_trans (Txt.slice_le z _ _) hz,fin⟩)
  | int i u' =>
    cases pu with
    | none=>exact wpAny_getItem_str_slice (l:=some (i,u')) (u:=none) (st:=none) ⟨o,ho,hc,hd⟩ rfl (post_val_or_str ⟨Nat.le_trans (Txt.slice_le z _ _) hz,fin⟩)
    | int j u=>exact wpAny_getItem_str_slice (l:=some (i,u')) (u:=some (j,u)) (st:=none) ⟨o,ho,hc,hd⟩ rfl (post_val_or_str ⟨Nat.le_trans (Txt.slice_le z _ _) hz,fin⟩)
def rStarts:V→List V→Hp→VK→Prop:=fun x vs H Q=>∃ z u,x=.str z∧vs=[.str u]∧Q (.bl (Txt.startswith z u)) H
theorem strsAre_of:∀ {zs:List Str} {us:List Value},Vals (zs.map V.str) us→StrsAre us zs
  | [],_,.nil=>.nil
  | _::_,_,.cons ⟨t,e⟩ r=>by subst e; exact .cons _ t (strsAre_of r)
def rJoin (K:PySem.W.Frag):V→List V→Hp→VK→Prop:=fun x vs H Q=>∃ z a ys,x=.str z∧vs=[.ref a]∧SqL K H a (ys.map V.str)∧z.length≤16∧(ys.map (·.length)).sum+ys.length≤1048576∧Q (.str (Txt.join z ys)) H
theorem mt_join:MtR X "str.join" (rJoin X.K):=by
  intro pins s σ H x vs v us Q I rx rv h
  obtain ⟨z,a,ys,rfl,rfl,hq,hz,hw,q⟩:=h
  obtain ⟨t,rfl⟩:=rx
  obtain ⟨w',rfl,ra⟩:=rv.one
  cases ra
  obtain ⟨its,r',p,_⟩:=I.list hq
  exact join_listW p.isList (by simpa using strsAre_of r') hz hw fun t' k=>⟨.str _,H,I.tok k,⟨_,rfl⟩,q⟩
def rMulS:R2:=fun x y H Q=>∃ z n,x=.str z∧y=.int n∧MulOk z n∧Q (.str (Txt.mul z n)) H
def rAll (K:PySem.W.Frag):List V→Hp→VK→Prop:=fun xs H Q=>∃ (a:Addr) (bs:List Bool),xs=[.ref a]∧SqL K H a (bs.map V.bl)∧Q (.bl (bs.all id)) H
theorem bools_get:∀ {bs:List Bool} {us:List Value} {i:Nat} {v:Value},Vals (bs.map V.bl) us→us[i]?=some v→∃ b,bs[i]?=some b∧v=.bool b
  | [],_,_,_,.nil,h=>by simp at h
  | b::_,_,0,_,.cons r _,h=>by
    simp at h
    subst h
    exact ⟨b,rfl,r⟩
  | _::_,_,i+1,_,.cons _ t,h=>by
    obtain ⟨b,h1,h2⟩:=bools_get (i:=i) t (by simpa using h)
    exact ⟨b,by simpa using h1,h2⟩
theorem call_all (hc:X.calm=true):CallR X (.builtin "all") (rAll X.K):=by
  intro pins s σ H xs us Q I r h
  obtain ⟨a,bs,rfl,hq,q⟩:=h
  obtain ⟨u,rfl,ru⟩:=vals1 r
  cases ru
  obtain ⟨its,r',p,hz⟩:=I.list hq
  have hl:=r'.length
  rw [List.length_map] at hl
  have hlt:a < s.heap.objs.size:=by obtain ⟨o,n,e,_⟩:=p; exact Heap.lt_size e
  refine call_all_walk (wpAny_pyIter_list p.isList ?_)
  refine ⟨s.heap.objs.size,_,_,_,_,_,fun i=>bs[i]?.getD true,rfl,Walks.list (A:=X.A.in1) (I.ok.hd hc) s.heap.objs.size a (Nat.ne_of_lt hlt) its.toArray,⟨⟨_,Heap.get?_push_size _ rfl,rfl,rfl⟩,p.isList.push _⟩,?_,?_⟩
  · intro i v s' Q' E' hP hQ
    obtain ⟨b,hb,rfl⟩:=bools_get r' (i:=i) (v:=v) (by simpa using hP)
    have hQ':Q' b s':=by simpa [hb] using hQ
    exact wpAny_truthy_bool hQ'
  · intro h' tk hk
    have e:(List.range its.toArray.size).all (fun i=>bs[i]?.getD true)=bs.all id:=by
      rw [List.size_toArray,← hl]
      rw [Bool.eq_iff_iff,List.all_eq_true,List.all_eq_true]
      constructor
      · intro h b hb
        obtain ⟨i,hi,e⟩:=List.getElem_of_mem hb
        have:=h i (List.mem_range.mpr hi)
        rw [List.getElem?_eq_getElem hi] at this
        simpa [e] using this
      · intro h i hi
        have hi':=List.mem_range.mp hi
        rw [List.getElem?_eq_getElem hi']
        exact h _ (List.getElem_mem hi')
    rw [e]
    refine ⟨.bl _,H,?_,rfl,q⟩
    have I1:Inv X pins σ H { s with heap:=s.heap.push { cls:=.type "list_iterator", data:=.fields #[.ref a,.int 0 0] } }:=I.kept (t':=s.toks) fun b o e=>Heap.get?_push_of_some _ e
    refine I1.turnedL (t':=tk) (ch:=[s.heap.objs.size]) (fun b o hb e=>hk b o (by simpa using hb) e) fun b hb=>?_
    rw [List.mem_singleton.mp hb]
    exact I.fpOk (Nat.le_refl _) (I.hok.fresh (Nat.le_refl _))
end
end L2
namespace L2
open PySem PySem.Spec PyProof.Rows
inductive Consts:List Expr→List Str→Prop
  | nil:Consts [] []
  | cons {x:Str} {j:Nat} {pos:Pos} {es:List Expr} {zs:List Str}:Consts es zs→Consts (.Constant (.str x) j pos::es) (x::zs)
theorem pa_consts {X:Cx}:∀ {es:List Expr} {zs:List Str},Consts es zs→PA X es (fun _ H Q=>Q (zs.map V.str) H)
  | _,_,.nil=>pa_nil
  | _,_,.cons h=>fun pos pins s σ H Q I q=>pa_cons pe_str (pa_consts h) (by rfl) pos pins s σ H Q I q
theorem CompScope.one {X:Cx} {x y:Str} {scope:Scope} {k:Nat} {c:Addr} (c1:closureFor scope X.env=pure [(y,c)]) (c2:∀ y ∈ scope.names,y.2 ≠ .cell) (c3:scope.kind=.function) (c4:∀ y ∈ scope.names,y.2=.local→scope.names.lookup y.1=some .local)
    (c5:scope.names.lookup x=some .local) (nd:[x,y].Nodup) (hc:X.env.cells.lookup y=some c) (c6:((relabel scope X.env).names.all fun p=>!(p.2 == .cell || p.2 == .free) || (([(y,c)]:List (Str × Addr)).lookup p.1).isSome)=true)
    (hr:(relabel scope X.env).names.lookup y=some .cell) (hk:X.N[k]?=some y) (hs:X.env.scope.names.lookup y=some .cell):CompScope X x [y] [k] scope [(y,c)] where
  clos:=c1
  nocell:=c2
  kind:=c3
  names:=c4
  own:=c5
  nd:=nd
  sub:=fun p hp=>by
    rw [List.mem_singleton.mp hp]
    exact hc
  has:=c6
  outs:=fun j z h=>by
    cases j with
    | zero =>
      have e:y=z:=Option.some.inj h
      subst e
      exact ⟨hr,k,c,rfl,hk,by simp [List.lookup],hs⟩
    | succ j=>simp at h
theorem CompScope.two {X:Cx} {x y z:Str} {scope:Scope} {k l:Nat} {c d:Addr} {cl:List (Str × Addr)} (c1:closureFor scope X.env=pure cl) (c2:∀ y ∈ scope.names,y.2 ≠ .cell) (c3:scope.kind=.function) (c4:∀ y ∈ scope.names,y.2=.local→scope.names.lookup y.1=some .local)
    (c5:scope.names.lookup x=some .local) (nd:[x,y,z].Nodup) (hcl:cl=[(z,d),(y,c)]∨cl=[(y,c),(z,d)]) (hc:X.env.cells.lookup y=some c) (hd:X.env.cells.lookup z=some d) (c6:((relabel scope X.env).names.all fun p=>!(p.2 == .cell || p.2 == .free) || (cl.lookup p.1).isSome)=true)
    (hr:(relabel scope X.env).names.lookup y=some .cell) (hk:X.N[k]?=some y) (hs:X.env.scope.names.lookup y=some .cell)
    (hr2:(relabel scope X.env).names.lookup z=some .cell) (hk2:X.N[l]?=some z) (hs2:X.env.scope.names.lookup z=some .cell):CompScope X x [y,z] [k,l] scope cl where
  clos:=c1
  nocell:=c2
  kind:=c3
  names:=c4
  own:=c5
  nd:=nd
  sub:=fun p hp=>by
    rcases hcl with rfl | rfl
    all_goals
      rcases List.mem_cons.mp hp with e | e
      · rw [e]; assumption
      · rw [List.mem_singleton.mp e]; assumption
  has:=c6
  outs:=fun j w h=>by
    have nyz:y ≠ z:=fun e=>by simp [e] at nd
    match j,h with
    | 0,h =>
      have e:y=w:=Option.some.inj h
      subst e
      refine ⟨hr,k,c,rfl,hk,?_,hs⟩
      rcases hcl with rfl | rfl
      · have:(y == z)=false:=by simpa using nyz
        simp [List.lookup,this]
      · simp [List.lookup]
    | 1,h =>
      have e:z=w:=Option.some.inj h
      subst e
      refine ⟨hr2,l,d,rfl,hk2,?_,hs2⟩
      rcases hcl with rfl | rfl
      · simp [List.lookup]
      · have:(z == y)=false:=by simpa using Ne.symm nyz
        simp [List.lookup,this]
    | j+2,h=>simp at h
end L2
namespace Mine
open PySem L2
def NmOk (x:Str):Prop:=x.length≤20∧(∀ c ∈ x.cps.toList,97≤c∧c≤122)∧x ≠ "aa"
theorem mem_slice {x:Str} {l u:Option Int} {c:Nat} (h:c ∈ (Txt.slice x l u).cps.toList):c ∈ x.cps.toList:=by
  have e:Txt.slice x l u=StrLaws.sliceText x l u:=rfl
  rw [e] at h
  unfold StrLaws.sliceText at h
  split at h
  · exact h
  · obtain ⟨i,_,hi⟩:=List.mem_filterMap.mp (show c ∈ (List.filterMap _ _) by simpa using h)
    have:=Array.mem_of_getElem? hi
    simpa using this
theorem mem_append {x y:Str} {c:Nat} (h:c ∈ (x++y).cps.toList):c ∈ x.cps.toList∨c ∈ y.cps.toList:=by
  have e:(x++y).cps.toList=x.cps.toList++y.cps.toList:=by simp [Str.cps_append]
  rw [e] at h
  exact List.mem_append.mp h
theorem mem_join0 {zs:List Str} {c:Nat} (h:c ∈ (Txt.join "" zs).cps.toList):∃ z ∈ zs,c ∈ z.cps.toList:=by
  have e:Txt.join "" zs=Str.join "" zs:=by
    cases zs with
    | nil=>rfl
    | cons a r=>exact StrLaws.glued_cons "" r a
  rw [e] at h
  rcases (PyProof.Rows.mem_join "" c zs).mp h with h | ⟨_,h⟩
  · exact h
  · have e0:(("" : Str)).cps.toList=[]:=by decide +kernel
    rw [e0] at h
    cases h
inductive Tr where
  | is (x:Str) | yes | no | not (a:Tr) | bin (w:Str) (a b:Tr)
def Tr.size:Tr→Nat
  | .is _=>1 | .yes=>1 | .no=>1 | .not a=>a.size+1 | .bin _ a b=>a.size+b.size+1
def Tr.depth:Tr→Nat
  | .is _=>1 | .yes=>1 | .no=>1 | .not a=>a.depth+1 | .bin _ a b=>max a.depth b.depth+1
def Tr.names:Tr→List Str
  | .is x=>[x] | .yes=>[] | .no=>[] | .not a=>a.names | .bin _ a b=>a.names++b.names
def joinW:List Str:=["and", "or", "odd", "same"]
def Tr.ok (ns:List Str):Tr→Prop
  | .is x=>x ∈ ns | .yes=>True | .no=>True | .not a=>a.ok ns | .bin w a b=>w ∈ joinW∧a.ok ns∧b.ok ns
inductive TreeAt (H:Hp):V→Tr→Prop
  | is {a:Addr} {x:Str}:H a=some (.tup [.str "is", .str x])→TreeAt H (.ref a) (.is x)
  | yes {a:Addr}:H a=some (.tup [.str "yes"])→TreeAt H (.ref a) .yes
  | no {a:Addr}:H a=some (.tup [.str "no"])→TreeAt H (.ref a) .no
  | not {a:Addr} {v:V} {t:Tr}:H a=some (.tup [.str "not", v])→TreeAt H v t→TreeAt H (.ref a) (.not t)
  | bin {a:Addr} {w:Str} {v u:V} {t r:Tr}:H a=some (.tup [.str w,v,u])→TreeAt H v t→TreeAt H u r→TreeAt H (.ref a) (.bin w t r)
abbrev KeepT (H H':Hp):Prop:=∀ a xs,H a=some (.tup xs)→H' a=some (.tup xs)
theorem TreeAt.mono {H H':Hp} (k:KeepT H H') {v:V} {t:Tr} (h:TreeAt H v t):TreeAt H' v t:=by
  induction h with
  | is e=>exact .is (k _ _ e)
  | yes e=>exact .yes (k _ _ e)
  | no e=>exact .no (k _ _ e)
  | not e _ ih=>exact .not (k _ _ e) ih
  | bin e _ _ i1 i2=>exact .bin (k _ _ e) i1 i2
theorem keepT_same {H H':Hp} (s:Same H H'):KeepT H H':=fun a _ h=>s a _ h
theorem keepT_feed {H H':Hp} {f:Addr} (F:FeedAt H f) (s:SameBut f H H'):KeepT H H':=fun a xs h=>s a _ (fun z=>by
  obtain ⟨o,t,e,_⟩:=F
  rw [z,e] at h
  cases h) h
def NamesAt (H:Hp) (a:Addr) (ns:List Str):Prop:=H a=some (.lst (ns.map V.str))∨H a=some (.tup (ns.map V.str))
theorem NamesAt.ne {H:Hp} {f a:Addr} {ns:List Str} (F:FeedAt H f) (h:NamesAt H a ns):a ≠ f:=fun z=>by
  obtain ⟨o,t,e,_⟩:=F
  subst z
  rcases h with h | h
  · rw [e] at h
    have h':=HO.lst.inj (Option.some.inj h)
    cases ns with
    | nil=>cases h'
    | cons x r=>simp at h'
  · rw [e] at h
    cases h
theorem NamesAt.feed {H H':Hp} {f a:Addr} {ns:List Str} (F:FeedAt H f) (s:SameBut f H H') (h:NamesAt H a ns):NamesAt H' a ns:=by
  have ne:=h.ne F
  rcases h with h | h
  · exact .inl (s _ _ ne h)
  · exact .inr (s _ _ ne h)
theorem NamesAt.same {H H':Hp} {a:Addr} {ns:List Str} (s:Same H H') (h:NamesAt H a ns):NamesAt H' a ns:=by
  rcases h with h | h
  · exact .inl (s _ _ h)
  · exact .inr (s _ _ h)
theorem NamesAt.seq {K:PySem.W.Frag} {H:Hp} {a:Addr} {ns:List Str} (h:NamesAt H a ns):SqL K H a (ns.map V.str)∨SqT K H a (ns.map V.str):=by
  rcases h with h | h
  · exact .inl (SqL.of h)
  · exact .inr (SqT.of h)
theorem NamesAt.ix {K:PySem.W.Frag} {H:Hp} {a:Addr} {ns:List Str} {i:Int} {x:V} {Q:VK} (h:NamesAt H a ns) (hx:atI (ns.map V.str) i=some x) (q:Q x H):rIxL K (.ref a) (.int i) H Q∨rIxT K (.ref a) (.int i) H Q:=by
  rcases h with h | h
  · exact .inl ⟨a,_,i,x,rfl,rfl,SqL.of h,hx,q⟩
  · exact .inr ⟨a,_,i,x,rfl,rfl,SqT.of h,hx,q⟩
def spNames:Sp:=fun vs H Q _=>∃ (f:Addr) (m:Int),vs=[.ref f,.int m]∧FeedAt H f∧0≤m∧m≤6∧∀ (l:Addr) (ns:List Str) (H':Hp),H l=none→l ≠ f→H' l=some (.lst (ns.map V.str))→ns.length=m.toNat→(∀ x ∈ ns,NmOk x)→FeedAt H' f→SameBut f H H'→Q (.ref l) H'
def spTree (n:Nat):Sp:=fun vs H Q _=>∃ (f a:Addr) (room deep:Int) (ns:List Str),vs=[.ref f,.ref a,.int room,.int deep]∧FeedAt H f∧NamesAt H a ns∧ns.length≤6∧1≤room∧room≤100∧1≤deep∧deep+1≤(n:Int)+1 ∧
  ∀ (v:V) (t:Tr) (H':Hp),FeedAt H' f→SameBut f H H'→TreeAt H' v t→t.ok ns→(t.size:Int)≤room→(t.depth:Int)≤deep→Q v H'
theorem at_in {α:Type} {l:List α} {i:Int} (h0:0≤i) (h:i < (l.length:Int)):∃ v,atI l i=some v∧v ∈ l:=by
  have hk:i.toNat < l.length:=by omega
  have q:atI l ((i.toNat:Nat):Int)=some l[i.toNat]:=atI_nat (List.getElem?_eq_getElem hk)
  have ek:((i.toNat:Nat):Int)=i:=by omega
  rw [ek] at q
  exact ⟨_,q,List.getElem_mem hk⟩
end Mine
namespace L2
open PySem PySem.Spec PyProof.Rows
section
variable {X:Cx}
def rngV (lo:Int) (n:Nat):List Int:=(List.range n).map fun i:Nat=>lo+(i:Int)
theorem rngV_len (lo:Int) (n:Nat):(rngV lo n).length=n:=by unfold rngV; rw [List.length_map,List.length_range]
theorem rng_items {lo:Int} {n:Nat} {acc:List Value} (h:ItemsOf (fun i v=>∃ t,v=Value.int (lo+(i:Int)*1) t) acc.toArray n):Vals ((rngV lo n).map V.int) acc:=by
  obtain ⟨h1,h2⟩:=h
  have l1:acc.length=n:=by simpa using h1
  have key:∀ (k:Nat) (l:List Value),(∀ i v,l[i]?=some v→∃ t,v=Value.int (lo+((k+i:Nat):Int)) t)→Vals (((List.range' k l.length).map fun i:Nat=>lo+(i:Int)).map V.int) l:=by
    intro k l
    induction l generalizing k with
    | nil=>intro _; exact .nil
    | cons a r ih =>
      intro h
      obtain ⟨t,e⟩:=h 0 a rfl
      rw [List.length_cons,List.range'_succ,List.map_cons,List.map_cons]
      refine .cons ⟨t,by simpa using e⟩ (ih (k+1) fun i v hv=>?_)
      obtain ⟨t,e⟩:=h (i+1) v (by simpa using hv)
      exact ⟨t,by rw [e]; congr 2; omega⟩
  have:=key 0 acc fun i v hv=>by
    obtain ⟨t,e⟩:=h2 i v (by simpa using hv)
    exact ⟨t,by simpa using e⟩
  unfold rngV
  rw [← l1,List.range_eq_range']
  exact this
def tListRng (ta:TA):TE:=fun σ H Q=>ta σ H fun vs H1=>∃ i j:Int,vs=[.int i,.int j]∧(-(2 ^ 62)≤i∧i < 2 ^ 62∧-(2 ^ 62)≤j∧j < 2 ^ 62)∧j - i≤1000∧∀ p,H1 p=none→Q (.ref p) (upd H1 p (.lst ((rngV i (j - i).toNat).map V.int)))
theorem pe_listrng {a b:Expr} {ta:TA} {p1 p2 pos1 pos2:Pos} (hc:X.calm=true) (hg1:Gl X "list") (hm1:X.mg "list" = none) (hg2:Gl X "range") (hm2:X.mg "range" = none) (ha:PA X [a,b] ta)
    (hs1:starEach [(.Call (.Name "range" p2) [a,b] [] pos2:Expr)] X.env=[(false,eval (.Call (.Name "range" p2) [a,b] [] pos2) X.env)]:=by rfl) (hs:starEach [a,b] X.env=[(false,eval a X.env),(false,eval b X.env)]:=by rfl) (hs2:starEach [b] X.env=[(false,eval b X.env)]:=by rfl) :
    PE X (.Call (.Name "list" p1) [.Call (.Name "range" p2) [a,b] [] pos2] [] pos1) (tListRng ta):=by
  intro pins s σ H Q I h
  refine wpAny_Call_Name_kw (ld_blt I hg1 hm1 boot_list' ?_)
  refine PyProof.Rows.callWith_type1 ?_ hs1 rfl
  rw [hs1]
  show wpAny _ _ (spliced ((false,eval (.Call (.Name "range" p2) [a,b] [] pos2) X.env)::backTo pos1 (starEach [] X.env))) _ _ s
  have step:wpAny (model X.prog X.w) X.A (eval (.Call (.Name "range" p2) [a,b] [] pos2) X.env) (fun v s1=>∃ (r:Addr) (i j:Int) (t u k:Tok) (H1:Hp),v=.ref r∧Inv X pins σ H1 s1∧IsRange s1.heap r i j 1 t u k∧(-(2 ^ 62)≤i∧i < 2 ^ 62∧-(2 ^ 62)≤j∧j < 2 ^ 62)∧j - i≤1000 ∧
      ∀ p,H1 p=none→Q (.ref p) (upd H1 p (.lst ((rngV i (j - i).toNat).map V.int)))) X.xe s:=by
    refine Call_ (ld_blt I hg2 hm2 boot_range (PyProof.Rows.callWith_type1 (thn (ha pos2 pins s σ H _ I h) fun us s1 ⟨vs,H1,I1,r1,q1⟩=>?_) (by rw [hs,hs2]) (by rw [hs2]; rfl)))
    obtain ⟨i,j,e,q1,q2,q⟩:=q1
    subst e
    cases r1 with
    | cons r rr =>
      cases rr with
      | cons r' rr =>
        cases rr
        obtain ⟨t,rfl⟩:=r
        obtain ⟨t',rfl⟩:=r'
        refine call_range_2 ⟨_,i,j,_,_,_,H1,rfl,I1.kept fun b o e=>Heap.get?_push_of_some _ e,IsRange.new ..,q1,q2,q⟩
  refine Calls.spliced_cons (thn step fun v s1 hv=>?_)
  obtain ⟨r,i,j,t,u,k,H1,rfl,I1,hr,⟨a1,a2,a3,a4⟩,hle,q⟩:=hv
  refine Calls.spliced_nil ?_
  have e2:Builtin.Range.rangeSize i j 1=(((j - i).toNat:Nat):Int):=by rw [rangeSize_one]; split <;> omega
  refine call_list_range (I1.ok.hd hc) hr (small_one a1 a2 a3 a4) e2 (by omega) fun h' tk acc' c' hk hS hacc=>?_
  obtain ⟨acc,rfl⟩:∃ acc:List Value,acc'=acc.toArray:=⟨acc'.toList,by simp⟩
  have rr:=rng_items hacc
  have I2:Inv X pins σ (upd H1 s1.heap.objs.size (.lst ((rngV i (j - i).toNat).map V.int))) { s1 with heap:=h',toks:=tk }:=by
    refine I1.turnedNew (ch:=[]) (fun b ob _ eb=>hk b ob eb) (fun b hb=>absurd hb (by simp)) (Nat.le_refl _) ⟨?_,acc,c',rr,hS⟩
    rw [List.length_map,rngV_len]
    exact small (by omega)
  exact ⟨.ref s1.heap.objs.size,_,I2,rfl,q _ (I1.hok.fresh (Nat.le_refl _))⟩
def rSum (K:PySem.W.Frag):List V→Hp→VK→Prop:=fun xs H Q=>∃ (a:Addr) (ns:List Int),xs=[.ref a]∧SqL K H a (ns.map V.int)∧(∀ n ∈ ns,0≤n)∧ns.sum < 2 ^ 63∧Q (.int ns.sum) H
theorem ints_get:∀ {bs:List Int} {us:List Value} {i:Nat} {v:Value},Vals (bs.map V.int) us→us[i]?=some v→∃ b t,bs[i]?=some b∧v=.int b t
  | [],_,_,_,.nil,h=>by simp at h
  | b::_,_,0,_,.cons r _,h=>by
    simp at h
    subst h
    obtain ⟨t,e⟩:=r
    exact ⟨b,t,rfl,e⟩
  | _::_,_,i+1,_,.cons _ t,h=>by
    obtain ⟨b,t,h1,h2⟩:=ints_get (i:=i) t (by simpa using h)
    exact ⟨b,t,by simpa using h1,h2⟩
theorem sum_take_le {ns:List Int} (h:∀ n ∈ ns,0≤n) (j:Nat):0≤(ns.take j).sum∧(ns.take j).sum≤ns.sum:=by
  induction ns generalizing j with
  | nil=>simp
  | cons a r ih =>
    cases j with
    | zero =>
      have:=ih (fun n hn=>h n (List.mem_cons_of_mem _ hn)) r.length
      rw [List.take_length] at this
      have a0:=h a List.mem_cons_self
      simp only [List.take_zero,List.sum_nil,List.sum_cons]
      omega
    | succ j =>
      have:=ih (fun n hn=>h n (List.mem_cons_of_mem _ hn)) j
      have a0:=h a List.mem_cons_self
      simp only [List.take_succ_cons,List.sum_cons]
      omega
theorem preSum_take (ns:List Int) (j:Nat):preSum (fun i=>ns[i]?.getD 0) j=(ns.take j).sum:=by
  induction j with
  | zero=>simp; rfl
  | succ j ih =>
    show preSum (fun i=>ns[i]?.getD 0) j+(fun i=>ns[i]?.getD 0) j=_
    rw [ih,List.take_add_one,List.sum_append]
    cases e:ns[j]? with
    | none=>simp [e]
    | some x=>simp [e]
theorem call_sum (hc:X.calm=true):CallR X (.builtin "sum") (rSum X.K):=by
  intro pins s σ H xs us Q I r h
  obtain ⟨a,ns,rfl,hq,n0,nb,q⟩:=h
  obtain ⟨u,rfl,ru⟩:=vals1 r
  cases ru
  obtain ⟨its,r',p,hz⟩:=I.list hq
  have hl:=r'.length
  rw [List.length_map] at hl
  have hlt:a < s.heap.objs.size:=by obtain ⟨o,n,e,_⟩:=p; exact Heap.lt_size e
  refine call_sum_walk (wpAny_pyIter_list p.isList ?_)
  refine ⟨s.heap.objs.size,_,_,_,_,_,fun i=>ns[i]?.getD 0,rfl,Walks.list (A:=X.A.in1) (I.ok.hd hc) s.heap.objs.size a (Nat.ne_of_lt hlt) its.toArray,⟨⟨_,Heap.get?_push_size _ rfl,rfl,rfl⟩,p.isList.push _⟩,?_,?_,?_,?_⟩
  · intro b hb
    have hpz:∀ o:Obj,(s.heap.push o).objs.size=s.heap.objs.size+1:=fun o=>by simp [Heap.push]
    show b < (s.heap.push _).objs.size
    rw [hpz]
    rcases List.mem_cons.mp hb with e | e
    · rw [e]; exact Nat.lt_succ_self _
    · rw [List.mem_singleton.mp e]; exact Nat.lt_succ_of_lt hlt
  · intro i v hP
    obtain ⟨b,t,hb,rfl⟩:=ints_get r' (i:=i) (v:=v) (by simpa using hP)
    exact ⟨t,by simp [hb]⟩
  · intro j hj
    have hj':j < ns.length:=by rw [hl]; simpa using hj
    have s1:=sum_take_le n0 (j+1)
    rw [preSum_take]
    refine ⟨?_,by unfold InLong; omega⟩
    have s2:=sum_take_le n0 j
    have e:(ns.take (j+1)).sum=(ns.take j).sum+ns[j]:=by rw [List.take_add_one,List.sum_append,List.getElem?_eq_getElem hj']; simp
    have n1:=n0 _ (List.getElem_mem hj')
    show InLong (ns[j]?.getD 0)
    rw [List.getElem?_eq_getElem hj']
    show InLong ns[j]
    unfold InLong
    omega
  · intro h' tk t' hk
    rw [preSum_take,List.size_toArray,← hl,List.take_length]
    refine ⟨.int _,H,?_,⟨_,rfl⟩,q⟩
    have I1:Inv X pins σ H { s with heap:=s.heap.push { cls:=.type "list_iterator", data:=.fields #[.ref a,.int 0 0] } }:=I.kept (t':=s.toks) fun b o e=>Heap.get?_push_of_some _ e
    refine I1.turnedL (t':=tk) (ch:=[s.heap.objs.size]) (fun b o hb e=>hk b o (by simpa using hb) e) fun b hb=>?_
    rw [List.mem_singleton.mp hb]
    exact I.fpOk (Nat.le_refl _) (I.hok.fresh (Nat.le_refl _))
end
end L2
namespace L2
open PySem PySem.Spec PyProof.Rows
theorem rv_iter:Slot "reversed" "__iter__" "reversed.__iter__" := Slot.of (owner := "reversed") (n := "__iter__") (by rw [typeLookup_type,builtinLookup_eq_fast]; kernel_rfl) (by decide +kernel) (by decide +kernel) (by decide +kernel) (by first | exact .inl (by decide +kernel) | exact .inr (by decide +kernel)) (by rw [isSubtype_type]; kernel_rfl) (by decide +kernel)
theorem rv_next:Slot "reversed" "__next__" "reversed.__next__" := Slot.of (owner := "reversed") (n := "__next__") (by rw [typeLookup_type,builtinLookup_eq_fast]; kernel_rfl) (by decide +kernel) (by decide +kernel) (by decide +kernel) (by first | exact .inl (by decide +kernel) | exact .inr (by decide +kernel)) (by rw [isSubtype_type]; kernel_rfl) (by decide +kernel)
theorem tp_norev:typeLookup (.type "tuple") "__reversed__" = pure none:=by rw [typeLookup_type,builtinLookup_eq_fast]; kernel_rfl
theorem rv_e_iter:entryFor table "reversed.__iter__" = some Builtin.«dict_keyiterator.__iter__»:=entryFor_alias (by kernel_rfl) rfl (show _ = "dict_keyiterator.__iter__" by decide +kernel) (by kernel_rfl)
theorem rv_e_next:entryFor table "reversed.__next__" = some Builtin.«reversed.__next__»:=entryFor_of_tree (by kernel_rfl)
def RevT (h:Heap) (it t:Addr) (i:Int):Prop:=h.get? it=some { cls:=.type "reversed", data:=.fields #[.ref t,rawInt i] }
section
variable {prog:Program} {w:World} {A:Around} {E:Value→Shared→Prop} {s:Shared} {R:Result→Shared→Prop} {it t:Addr}
theorem RevT.typeIs {i:Int} (h:RevT s.heap it t i):s.TypeIs (.ref it) "reversed" := ⟨_,h,rfl⟩
theorem iter_revT {i:Int} {Q:Value→Shared→Prop} (h:RevT s.heap it t i) (q:Q (.ref it) s):wpAny (model prog w) A (pyIter (.ref it)) Q E s :=
  wpAny_pyIter_slot h.typeIs rv_iter (wpAny_call_entry rv_iter h.typeIs rv_e_iter (wpAny_pure ⟨_,rfl, "reversed", _,h.typeIs,rv_next.lookup,q⟩) (by rfl))
theorem next_revT_item {i:Nat} {items:Array Value} {x:Value} {Q:Option Value→Shared→Prop} (h:RevT s.heap it t (i:Int)) (ht:IsTup s.heap t items) (hx:items[i]?=some x) (hi:(i:Int) < 2 ^ 63)
    (q:∀ h' tk,RevT h' it t ((i:Int) - 1)→Heap.SameBut it s.heap h'→Q (some x) { s with heap:=h',toks:=tk }):wpAny (model prog w) A (pyNext (.ref it)) Q E s:=by
  have hT:=h.typeIs
  have hs:i < items.size:=(Array.getElem?_eq_some_iff.mp hx).1
  unfold pyNext
  refine wpAny_bind (wpAny_attempt (wpAny_callSpecial?_slot hT rv_next (wpAny_call_entry rv_next hT rv_e_next ?_ (by rfl))))
  unfold Builtin.«reversed.__next__»
  refine wpAny_bind (wpAny_of_eq (show slotArgs "__next__" 0 ⟨[.ref it],[]⟩=pure (.ref it,[]) from rfl) ?_)
  refine wpAny_bind (wpAny_field h rfl rfl ?_)
  refine wpAny_bind (wpAny_field h rfl rfl ?_)
  refine wpAny_ite_split (fun hab=>absurd hab (by omega)) (fun _=>?_)
  refine wpAny_bind (wpAny_specialOf (show s.TypeIs (.ref t) "tuple" from ht.typeIs) PyProof.Rows.slot_tuple_getitem.lookup ?_)
  refine wpAny_ite_split (fun hab=>absurd hab (by simp)) (fun _=>?_)
  refine wpAny_bind (wpAny_mkInt ?_)
  have e1:seqIndex? (i:Int) items.size=some i:=(ixN_seq (by unfold ixN; rw [if_pos (by omega),if_pos (by omega)]; simp)).1
  refine wpAny_bind (wpAny_attempt (PyProof.Rows.getItem_tuple (items:=items) (x:=x) ht (by omega) hi e1 hx ?_))
  refine wpAny_bind (wpAny_field h rfl rfl ?_)
  refine wpAny_bind (wpAny_setField_rec h (by simp) fun h' e hb=>?_)
  refine wpAny_pure ⟨_,rfl,wpAny_pure (q h' _ ?_ hb)⟩
  exact e
theorem next_revT_end {Q:Option Value→Shared→Prop} (hh:A.handled=none) (h:RevT s.heap it t (-1))
    (q:∀ h' tk,Heap.ExtBut it s.heap h'→Q none { s with heap:=h',toks:=tk }):wpAny (model prog w) A (pyNext (.ref it)) Q E s:=by
  have hT:=h.typeIs
  unfold pyNext
  refine wpAny_bind (wpAny_attempt (wpAny_callSpecial?_slot hT rv_next (wpAny_call_entry rv_next hT rv_e_next ?_ (by rfl))))
  unfold Builtin.«reversed.__next__»
  refine wpAny_bind (wpAny_of_eq (show slotArgs "__next__" 0 ⟨[.ref it],[]⟩=pure (.ref it,[]) from rfl) ?_)
  refine wpAny_bind (wpAny_field h rfl rfl ?_)
  refine wpAny_bind (wpAny_field h rfl rfl ?_)
  refine wpAny_ite_split (fun _=>?_) (fun hab=>absurd (by decide) hab)
  refine wpAny_bind (wpAny_rule ?_)
  refine wpAny_bind ?_
  show wpAny _ _ (setField (.ref it) 1 (rawInt (-1)) >>= fun _=>setField (.ref it) 0 Value.none) _ _ _
  refine wpAny_bind (wpAny_setField_rec h (by simp) fun h1 e1 b1=>?_)
  refine wpAny_setField_rec e1 (by simp) fun h2 e2 b2=>?_
  refine wpAny_bind ?_
  unfold Builtin.SmallTypes.stopIteration newExc newTuple
  refine wpAny_bind (wpAny_bind (wpAny_newObj_type ?_ (by show 0≤sizeLine; decide)))
  refine wpAny_bind (wpAny_of_eq (show firstArgMember (.type "StopIteration") []=pure .none by with_unfolding_all rfl) ?_)
  refine wpAny_newObj_type ?_ (sizeOk_excFields ..)
  refine wpAny_raiseNew_none hh ?_
  refine wpAny_bind (wpAny_isInstance (T := "StopIteration") ⟨_,Heap.get?_push_size _ rfl,rfl⟩ isSubtype_stop ?_)
  refine wpAny_ite_split (fun _=>?_) (fun hab=>absurd rfl hab)
  refine wpAny_pure (q _ _ ?_)
  exact (b1.extBut.trans b2.extBut).trans fun b o hb e=>Heap.get?_push_of_some _ (Heap.get?_push_of_some _ e)
theorem rv_init:Slot "reversed" "__init__" "object.__init__" := Slot.of (owner := "object") (n := "__init__") (by rw [typeLookup_type,builtinLookup_eq_fast]; kernel_rfl) (by decide +kernel) (by decide +kernel) (by decide +kernel) (by first | exact .inl (by decide +kernel) | exact .inr (by decide +kernel)) (by rw [isSubtype_type]; kernel_rfl) (by decide +kernel)
theorem rv_called:TypeCalled "reversed" "reversed.__new__" "object.__init__" := ⟨by decide,F.create_reversed,⟨_,_,F.mro_reversed⟩,F.made_reversed,F.plain_reversed_new,F.sub_reversed_self,rv_init⟩
theorem tp_nodict:isSubtype (.type "tuple") (.type "dict")=pure false:=by rw [isSubtype_type]; kernel_rfl
theorem call_reversed_tup {items:Array Value} {Q:Value→Shared→Prop} (ht:IsTup s.heap t items) (hz:items.size≤sizeLine)
    (q:∀ tk,Q (.ref s.heap.objs.size) { s with heap:=s.heap.push { cls:=.type "reversed", data:=.fields #[.ref t,rawInt ((items.size:Int) - 1)] },toks:=tk }):wpAny (model prog w) A (call (.type "reversed") [.ref t]) Q E s:=by
  have h63:=line63
  refine callType_newIn rv_called (by decide) (F.typeCall_reversed_1 _) (F.newCall_reversed_1 _) (fun _=>by rfl) F.entry_reversed_new
    (S:=fun A R s=>wpAny (model prog w) A.in1 (Builtin.«reversed.__new__» ⟨[.type "reversed", .ref t],[]⟩) (fun fin s'=>match fin with | .done f=>R (.ok f) s' | .again c'=>c'.quiet=true∧codeAny (model prog w) A c' R s') (fun e s'=>R (.error e) s') s) (fun A R s h=>h) ?_
  unfold Builtin.«reversed.__new__»
  refine wpAny_bind (wpAny_of_eq (newClass_reversed _) ?_)
  refine wpAny_bind (wpAny_of_eq (a:=()) rfl ?_)
  refine wpAny_bind (wpAny_of_eq (a:=()) rfl ?_)
  refine wpAny_bind (wpAny_specialOf ht.typeIs tp_norev ?_)
  refine wpAny_bind ?_
  refine wpAny_bind (wpAny_isInstance ht.typeIs tp_nodict ?_)
  refine wpAny_ite_split (fun hab=>absurd hab (by decide)) (fun _=>?_)
  refine wpAny_bind (wpAny_specialOf ht.typeIs PyProof.Rows.slot_tuple_getitem.lookup ?_)
  refine wpAny_ite_split (fun _=>?_) (fun hab=>absurd (by decide +kernel) hab)
  refine wpAny_pure ?_
  refine wpAny_ite_split (fun hab=>absurd hab (by decide)) (fun _=>?_)
  refine wpAny_bind (len_tuple ht (by omega) ?_)
  refine wpAny_bind (wpAny_pure ?_)
  refine wpAny_bind (wpAny_newObj_type (data:=.fields #[.ref t,rawInt ((items.size:Int) - 1)]) ?_ (by show 2≤sizeLine+2; decide))
  refine wpAny_pure ?_
  exact ⟨⟨_,Heap.get?_push_size _ rfl,rfl⟩,q _⟩
end
section
variable {X:Cx}
def tListRevT (K:PySem.W.Frag) (te:TE):TE:=fun σ H Q=>te σ H fun x H1=>∃ l ys,x=.ref l∧SqT K H1 l ys∧∀ p,H1 p=none→Q (.ref p) (upd H1 p (.lst ys.reverse))
end
end L2
namespace Mine
open PySem L2
def Tr.wf:Tr→Prop
  | .is x=>NmOk x | .yes=>True | .no=>True | .not a=>a.wf | .bin w a b=>w ∈ joinW∧a.wf∧b.wf
def Tr.parts:Tr→List Tr
  | .is _=>[] | .yes=>[] | .no=>[] | .not a=>[a] | .bin _ a b=>[a,b]
theorem Tr.ok_wf {ns:List Str} (hn:∀ x ∈ ns,NmOk x):∀ t:Tr,t.ok ns→t.wf
  | .is _,h=>hn _ h
  | .yes,_=>trivial
  | .no,_=>trivial
  | .not a,h=>Tr.ok_wf hn a h
  | .bin _ a b,⟨h,h1,h2⟩=>⟨h,Tr.ok_wf hn a h1,Tr.ok_wf hn b h2⟩
theorem Tr.depth_pos:∀ t:Tr,1≤t.depth
  | .is _=>Nat.le_refl _ | .yes=>Nat.le_refl _ | .no=>Nat.le_refl _ | .not a=>Nat.le_add_left .. | .bin _ a b=>Nat.le_add_left ..
def sizes (ts:List Tr):Nat:=(ts.map Tr.size).sum
def namesL (ts:List Tr):List Str:=(ts.map Tr.names).flatten
theorem Tr.size_parts (t:Tr):t.size=sizes t.parts+1:=by
  cases t <;> simp [Tr.size,Tr.parts,sizes]
theorem Tr.names_parts (t:Tr) (h:∀ x,t ≠ .is x):t.names=namesL t.parts:=by
  cases t with
  | is x=>exact absurd rfl (h x)
  | _=>simp [Tr.names,Tr.parts,namesL]
theorem Tr.parts_mem {t u:Tr} (h:u ∈ t.parts) (w:t.wf):u.wf∧u.depth+1≤t.depth∧u.size+1≤t.size:=by
  cases t with
  | is x=>simp [Tr.parts] at h
  | yes=>simp [Tr.parts] at h
  | no=>simp [Tr.parts] at h
  | not a =>
    rw [List.mem_singleton.mp h]
    exact ⟨w,Nat.le_refl _,Nat.le_refl _⟩
  | bin o a b =>
    obtain ⟨_,w1,w2⟩:=w
    rcases List.mem_cons.mp h with e | e
    · rw [e]
      refine ⟨w1,?_,?_⟩
      · show a.depth+1≤max a.depth b.depth+1
        omega
      · show a.size+1≤a.size+b.size+1
        omega
    · rw [List.mem_singleton.mp e]
      refine ⟨w2,?_,?_⟩
      · show b.depth+1≤max a.depth b.depth+1
        omega
      · show b.size+1≤a.size+b.size+1
        omega
inductive TreesAt (H:Hp):List V→List Tr→Prop
  | nil:TreesAt H [] []
  | cons {v:V} {t:Tr} {vs:List V} {ts:List Tr}:TreeAt H v t→TreesAt H vs ts→TreesAt H (v::vs) (t::ts)
theorem TreesAt.mono {H H':Hp} (k:KeepT H H') {vs:List V} {ts:List Tr} (h:TreesAt H vs ts):TreesAt H' vs ts:=by
  induction h with
  | nil=>exact .nil
  | cons a _ ih=>exact .cons (a.mono k) ih
theorem TreesAt.append {H:Hp} {vs us:List V} {ts rs:List Tr} (h:TreesAt H vs ts) (g:TreesAt H us rs):TreesAt H (vs++us) (ts++rs):=by
  induction h with
  | nil=>exact g
  | cons a _ ih=>exact .cons a ih
theorem TreesAt.length {H:Hp} {vs:List V} {ts:List Tr} (h:TreesAt H vs ts):vs.length=ts.length:=by
  induction h with
  | nil=>rfl
  | cons _ _ ih=>rw [List.length_cons,List.length_cons,ih]
theorem TreesAt.get {H:Hp} {vs:List V} {ts:List Tr} (h:TreesAt H vs ts):∀ {i:Nat} {v:V},vs[i]?=some v→∃ t,ts[i]?=some t∧TreeAt H v t:=by
  induction h with
  | nil=>intro i v e; simp at e
  | cons a _ ih =>
    intro i v e
    cases i with
    | zero=>cases (Option.some.inj e); exact ⟨_,rfl,a⟩
    | succ i=>exact ih (i:=i) (by simpa using e)
theorem join_ne_is {w:Str} (h:w ∈ joinW):w ≠ "is" := (by decide +kernel:∀ w ∈ joinW,w ≠ ("is" : Str)) w h
theorem TreeAt.view {H:Hp} {v:V} {t:Tr} (h:TreeAt H v t) (w:t.wf):(∃ (a:Addr) (x:Str),v=.ref a∧t=.is x∧NmOk x∧H a=some (.tup [.str "is", .str x])) ∨
    ∃ (a:Addr) (o:Str) (xs:List V),v=.ref a∧o ≠ "is" ∧ xs.length≤2∧H a=some (.tup (.str o::xs))∧TreesAt H xs t.parts∧(∀ x,t ≠ .is x):=by
  cases h with
  | is e=>exact .inl ⟨_,_,rfl,rfl,w,e⟩
  | yes e=>exact .inr ⟨_,_,[],rfl,by decide +kernel,by simp,e,.nil,fun x z=>by cases z⟩
  | no e=>exact .inr ⟨_,_,[],rfl,by decide +kernel,by simp,e,.nil,fun x z=>by cases z⟩
  | not e g=>exact .inr ⟨_,_,[_],rfl,by decide +kernel,by simp,e,.cons g .nil,fun x z=>by cases z⟩
  | bin e g g2=>exact .inr ⟨_,_,[_,_],rfl,join_ne_is w.1,by simp,e,.cons g (.cons g2 .nil),fun x z=>by cases z⟩
theorem cut1 (o:V):∀ xs:List V,xs.length≤2→cutV (o::xs) (some 1) none=xs∧¬ (HT.sIx (o::xs).length 0 (some 1)=0∧HT.sIx (o::xs).length (o::xs).length none=(o::xs).length)
  | [],_=>⟨rfl,fun h=>absurd h.1 (show ¬ HT.sIx 1 0 (some 1)=0 by decide)⟩
  | [_],_=>⟨rfl,fun h=>absurd h.1 (show ¬ HT.sIx 2 0 (some 1)=0 by decide)⟩
  | [_,_],_=>⟨rfl,fun h=>absurd h.1 (show ¬ HT.sIx 3 0 (some 1)=0 by decide)⟩
  | _::_::_::_,h=>absurd h (by simp)
def Tr.data:Tr→PyData
  | .is x=>.tuple [.str "is", .str x] | .yes=>.tuple [.str "yes"] | .no=>.tuple [.str "no"] | .not a=>.tuple [.str "not", a.data] | .bin w a b=>.tuple [.str w,a.data,b.data]
theorem Tr.names_len:∀ t:Tr,t.names.length≤t.size
  | .is _=>Nat.le_refl _
  | .yes=>Nat.zero_le _
  | .no=>Nat.zero_le _
  | .not a=>Nat.le_succ_of_le (Tr.names_len a)
  | .bin _ a b=>by
    have:=Tr.names_len a
    have:=Tr.names_len b
    show (a.names++b.names).length≤a.size+b.size+1
    rw [List.length_append]
    omega
end Mine
namespace L2
open PySem PySem.Spec PyProof.Rows
section
variable {prog:Program} {w:World} {A:Around} {E:Value→Shared→Prop} {s:Shared}
def idxF (xs:Array Value) (x:Value):Nat→Option PySem.Fin × Unit→Sem (ForInStep (Option PySem.Fin × Unit)):=fun i _=>match xs[i]? with
  | some y=>do
    let b ← eqBool y x
    if b=true then do
        let r ← retInt (i:Int)
        pure (ForInStep.done (some r,()))
      else pure (ForInStep.yield (none,()))
  | _=>pure (ForInStep.yield (none,()))
theorem idx_loop {xs:Array Value} {x:Value} {e:Value→Bool} (he:∀ y ∈ xs,SeqAt.EqAt A s y x (e y)) {j:Nat} (hj:j < xs.size) (ej:e xs[j]=true) (bf:∀ (m:Nat) (hm:m < xs.size),m < j→e xs[m]=false) {Q:Option PySem.Fin × Unit→Shared→Prop}
    (q:Q (some (.done (.ret (.int (j:Int) s.toks))),()) { s with toks:=s.toks+1 }):∀ (n k:Nat),k≤j→j < k+n→k+n≤xs.size→wpAny (model prog w) A (forIn (List.range' k n 1) ((none:Option PySem.Fin),()) (idxF xs x)) Q E s
  | 0,k,h1,h2,_=>absurd h2 (by omega)
  | n+1,k,h1,h2,h3=>by
    have hk:k < xs.size:=by omega
    rw [List.range'_succ,List.forIn_cons]
    refine wpAny_bind ?_
    have e1:idxF xs x k ((none:Option PySem.Fin),())=(do
        let b ← eqBool xs[k] x
        if b=true then do
            let r ← retInt (k:Int)
            pure (ForInStep.done (some r,()))
          else pure (ForInStep.yield (none,()))):=by
      unfold idxF
      rw [Array.getElem?_eq_getElem hk]
    rw [e1]
    refine wpAny_bind (he _ (Array.getElem_mem hk) prog w _ _ ?_)
    by_cases c:k=j
    · subst c
      rw [ej]
      refine wpAny_ite_split (fun _=>?_) (fun hab=>absurd rfl hab)
      refine wpAny_bind ?_
      refine wpAny_bind (wpAny_mkInt ?_)
      refine wpAny_pure ?_
      refine wpAny_pure ?_
      exact wpAny_pure q
    · rw [bf k hk (by omega)]
      refine wpAny_ite_split (fun hab=>absurd hab (by decide)) (fun _=>?_)
      refine wpAny_pure ?_
      exact idx_loop he hj ej bf q n (k+1) (by omega) (by omega) (by omega)
theorem meets_tupIndex (l:Addr) (items:Array Value) (n:Nat) (dd:Option Addr) (sl:Array (Option Value)) (x:Value) (e:Value→Bool) (j:Nat) (hj:j < items.size) (ej:e items[j]=true) (bf:∀ (m:Nat) (hm:m < items.size),m < j→e items[m]=false) :
    Meets (Builtin.«tuple.index» { pos:=[.ref l,x] }) fun A R s=>s.heap.get? l=some { cls:=.type "tuple", dict:=dd,data:=.seq items n,slots:=sl }∧(∀ y ∈ items,SeqAt.EqAt A.in1 s y x (e y))∧R (.ok (.ret (.int (j:Int) s.toks))) { s with toks:=s.toks+1 }:=by
  intro prog w A R s ⟨hl,he,q⟩
  unfold Builtin.«tuple.index»
  refine wpAny_bind (wpAny_of_eq (a:=(Value.ref l,[x])) rfl ?_)
  refine wpAny_bind (wpAny_tupleItemsOf hl rfl ?_)
  refine wpAny_bind (wpAny_pure ?_)
  refine wpAny_bind (wpAny_pure ?_)
  refine wpAny_bind ?_
  rw [Std.Legacy.Range.forIn_eq_forIn_range']
  have e1:Std.Legacy.Range.size [0:min items.size items.size]=items.size:=by simp [Std.Legacy.Range.size]
  rw [e1]
  refine idx_loop he hj ej bf ?_ items.size 0 (Nat.zero_le _) (by omega) (by omega)
  exact wpAny_pure q
end
section
variable {X:Cx}
def posOf (z:Str):List Str→Option Nat
  | []=>none
  | a::r=>if a=z then some 0 else (posOf z r).map (·+1)
theorem posOf_lt {z:Str}:∀ {ns:List Str} {j:Nat},posOf z ns=some j→ns[j]?=some z∧∀ m,m < j→∀ y,ns[m]?=some y→y ≠ z
  | [],_,h=>by simp [posOf] at h
  | a::r,j,h=>by
    unfold posOf at h
    by_cases c:a=z
    · rw [if_pos c] at h
      cases h
      exact ⟨by simp [c],fun m hm=>absurd hm (by omega)⟩
    · rw [if_neg c] at h
      obtain ⟨i,hi,rfl⟩:=Option.map_eq_some_iff.mp h
      obtain ⟨h1,h2⟩:=posOf_lt hi
      refine ⟨by simpa using h1,fun m hm y hy=>?_⟩
      cases m with
      | zero=>cases (Option.some.inj hy); exact c
      | succ m=>exact h2 m (by omega) y (by simpa using hy)
theorem strs_get:∀ {bs:List Str} {us:List Value} {i:Nat} {v:Value},Vals (bs.map V.str) us→us[i]?=some v→∃ b t,bs[i]?=some b∧v=.str b t
  | [],_,_,_,.nil,h=>by simp at h
  | b::_,_,0,_,.cons r _,h=>by
    simp at h
    subst h
    obtain ⟨t,e⟩:=r
    exact ⟨b,t,rfl,e⟩
  | _::_,_,i+1,_,.cons _ t,h=>by
    obtain ⟨b,t,h1,h2⟩:=strs_get (i:=i) t (by simpa using h)
    exact ⟨b,t,by simpa using h1,h2⟩
theorem flat_strs (ns:List Str):(ns.map V.str).all flatV=true:=by
  induction ns with
  | nil=>rfl
  | cons a r ih=>rw [List.map_cons,List.all_cons,ih]; rfl
theorem index_facts {ns:List Str} {its:List Value} {z:Str} {j:Nat} (r:Vals (ns.map V.str) its) (h:posOf z ns=some j) :
    ∃ hj:j < its.toArray.size,eqU (.str z) its.toArray[j]=true∧∀ (m:Nat) (hm:m < its.toArray.size),m < j→eqU (.str z) its.toArray[m]=false:=by
  obtain ⟨h1,h2⟩:=posOf_lt h
  have hl:=r.length
  rw [List.length_map] at hl
  have jl:j < ns.length:=(List.getElem?_eq_some_iff.mp h1).1
  have hj:j < its.toArray.size:=by rw [List.size_toArray,← hl]; exact jl
  refine ⟨hj,?_,fun m hm mj=>?_⟩
  · obtain ⟨b,t,e1,e2⟩:=strs_get r (i:=j) (v:=its.toArray[j]) (by simp)
    rw [e2]
    rw [h1] at e1
    cases e1
    show (z == z)=true
    simp
  · obtain ⟨b,t,e1,e2⟩:=strs_get r (i:=m) (v:=its.toArray[m]) (by simp)
    rw [e2]
    show (b == z)=false
    have:=h2 m mj b e1
    simpa using this
def rIndexT (K:PySem.W.Frag):V→List V→Hp→VK→Prop:=fun x vs H Q=>∃ (a:Addr) (ns:List Str) (z:Str) (j:Nat),x=.ref a∧vs=[.str z]∧SqT K H a (ns.map V.str)∧posOf z ns=some j∧Q (.int (j:Int)) H
theorem mt_indexT:MtR X "tuple.index" (rIndexT X.K):=by
  intro pins s σ H x vs v us Q I rx rv h
  obtain ⟨a,ns,z,j,rfl,rfl,hq,hp,q⟩:=h
  cases rx
  obtain ⟨u,rfl,ru⟩:=rv.one
  obtain ⟨its,r,⟨⟨cls,dd,data,sl⟩,ho,hc,n,hd⟩,hz⟩:=I.tuple hq
  simp only at hc hd
  subst hc hd
  obtain ⟨hj,e1,e2⟩:=index_facts r hp
  refine call_meets F.slot_tuple_index ⟨_,ho,rfl⟩ F.entry_tuple_index (F.args_tuple_index_2 _ _) (meets_tupIndex a its.toArray n dd sl u (eqU (.str z)) j hj e1 e2) ⟨ho,fun y hy=>?_,?_⟩
  · exact mem_eqAt ru rfl r (flat_strs ns) y (by simpa using hy)
  · exact ⟨.int (j:Int),H,I.tok _,⟨_,rfl⟩,q⟩
def rIndexL (K:PySem.W.Frag):V→List V→Hp→VK→Prop:=fun x vs H Q=>∃ (a:Addr) (ns:List Str) (z:Str) (j:Nat),x=.ref a∧vs=[.str z]∧SqL K H a (ns.map V.str)∧posOf z ns=some j∧Q (.int (j:Int)) H
theorem mt_indexL:MtR X "list.index" (rIndexL X.K):=by
  intro pins s σ H x vs v us Q I rx rv h
  obtain ⟨a,ns,z,j,rfl,rfl,hq,hp,q⟩:=h
  cases rx
  obtain ⟨u,rfl,ru⟩:=rv.one
  obtain ⟨its,r,⟨⟨cls,dd,data,sl⟩,n,ho,hc,hdd,hd⟩,hz⟩:=I.list hq
  simp only at hc hd
  subst hc hd
  obtain ⟨hj,e1,e2⟩:=index_facts r hp
  have h63:=line63
  have hl:=r.length
  refine call_meets F.slot_list_index ⟨_,ho,rfl⟩ F.entry_list_index (F.args_list_index_2 _ _) (SeqAt.list_indexAt a its.toArray n dd sl u (eqU (.str z)) j hj (by rw [List.size_toArray] at hj; omega) e1 e2) ⟨ho,fun y hy=>?_,?_⟩
  · exact mem_eqAt ru rfl r (flat_strs ns) y (by simpa using hy)
  · exact ⟨.int (j:Int),H,I.tok _,⟨_,rfl⟩,q⟩
end
end L2
namespace L2
open PySem PySem.Spec PyProof.Rows
section
variable {κ:Type} [DecidableEq κ]
def valV (kvs:List (κ × V)) (k:κ):Option V:=(kvs.find? fun kv=>decide (kv.1=k)).map (·.2)
def putK (kvs:List (κ × V)) (k:κ) (v:V):List (κ × V) :=
  if (kvs.any fun kv=>decide (kv.1=k))=true then kvs.map (fun kv=>if kv.1=k then (kv.1,v) else kv) else kvs++[(k,v)]
def dropK (kvs:List (κ × V)) (k:κ):List (κ × V):=kvs.filter fun kv=>decide (kv.1 ≠ k)
end
abbrev KT (H:Hp):List (List Key × V)→List (List Key × Addr × Value)→Prop:=Paired fun p q=>p.1=q.1∧H q.2.1=some (.tup (p.1.map kV))∧RelV p.2 q.2.2
section
variable {P:Program} {w:World} {H:Hp} {h:Heap} {a:Addr}
end
def DGet (H:Hp) (a:Addr) (y:V) (r:Option V):Prop :=
  (∃ kvs k,Rd H a (.dK kvs)∧y=kV k∧r=valV kvs k)∨∃ kvs k b,Rd H a (.dT kvs)∧y=.ref b∧H b=some (.tup (k.map kV))∧r=valV kvs k
def DPut (H:Hp) (a:Addr) (y v:V) (H':Hp):Prop :=
  (∃ kvs k,H a=some (.dK kvs)∧y=kV k∧kvs.length < sizeLine∧H'=upd H a (.dK (putK kvs k v))) ∨
  ∃ kvs k b,H a=some (.dT kvs)∧y=.ref b∧H b=some (.tup (k.map kV))∧kvs.length < sizeLine∧H'=upd H a (.dT (putK kvs k v))
section
variable {X:Cx} {pins:List (Addr × Obj)} {σ:St} {H:Hp} {s:Shared} {a:Addr} {y v:V} {u r:Value} {o:Option V} {A:Around} {E:Value→Shared→Prop}
end
section
variable {X:Cx} {pins:List (Addr × Obj)} {σ:St} {H:Hp} {s:Shared} {a:Addr} {kvs:List (Key × V)} {k:Key} {u:Value} {A:Around} {E:Value→Shared→Prop}
end
def NoSl (i:Expr):Prop:=∀ ov iv,subscripted i false ov iv=operate [ov,iv] (getItem ov iv)
def tDGet (td ty:TE):TE:=fun σ H Q=>td σ H fun x H1=>ty σ H1 fun y H2=>∃ a v,x=.ref a∧DGet H2 a y (some v)∧Q v H2
def tDIn (ty td:TE):TE:=fun σ H Q=>ty σ H fun y H1=>td σ H1 fun x H2=>∃ a o,x=.ref a∧DGet H2 a y o∧Q (.bl o.isSome) H2
def tDNotIn (ty td:TE):TE:=fun σ H Q=>ty σ H fun y H1=>td σ H1 fun x H2=>∃ a o,x=.ref a∧DGet H2 a y o∧Q (.bl (!o.isSome)) H2
def sDPut (td ty tv:TE):TS:=fun D σ H=>tv σ H fun v H1=>td σ H1 fun x H2=>ty σ H2 fun y H3=>∃ a H4,x=.ref a∧DPut H3 a y v H4∧D.nx σ H4
def sDAug (td ty tv:TE) (rd:V→V→Hp→VK→Prop):TS:=fun D σ H=>td σ H fun x H1=>ty σ H1 fun y H2=>∃ a v,x=.ref a∧DGet H2 a y (some v) ∧
  tv σ H2 fun y2 H3=>rd v y2 H3 fun z H4=>∃ H5,DPut H4 a y z H5∧D.nx σ H5
def sDDel (td ty:TE):TS:=fun D σ H=>td σ H fun x H1=>ty σ H1 fun y H2=>∃ a kvs k,x=.ref a∧H2 a=some (.dK kvs)∧y=kV k∧(valV kvs k).isSome=true∧D.nx σ (upd H2 a (.dK (dropK kvs k)))
section
variable {X:Cx} {o i e value:Expr} {pos pos' tpos:Pos} {td ty tv:TE}
end
def tDNewK:TE:=fun _ H Q=>∀ p,H p=none→Q (.ref p) (upd H p (.dK []))
def tDNewT:TE:=fun _ H Q=>∀ p,H p=none→Q (.ref p) (upd H p (.dT []))
section
variable {X:Cx} {pos:Pos}
end
def tPairs:List (TE × TE)→St→Hp→(List (V × V)→Hp→Prop)→Prop
  | [],_,H,Q=>Q [] H
  | (tk,tv)::r,σ,H,Q=>tk σ H fun x H1=>tv σ H1 fun y H2=>tPairs r σ H2 fun ps H3=>Q ((x,y)::ps) H3
abbrev VV:List (V × V)→List (Value × Value)→Prop:=Paired fun p q=>RelV p.1 q.1∧RelV p.2 q.2
def PPs (X:Cx) (pos:Pos) (keys:List (Option Expr)) (values:List Expr) (trs:List (TE × TE)):Prop :=
  ∀ (pins:List (Addr × Obj)) (s:Shared) (σ:St) (H:Hp) (Q:List (V × V)→Hp→Prop),Inv X pins σ H s→tPairs trs σ H Q →
    wpAny (model X.prog X.w) X.A (evalPairs (pairTrees keys values X.env pos)) (fun vs s'=>∃ ps H',Inv X pins σ H' s'∧VV ps vs∧Q ps H') X.xe s
def mergeK (kvs more:List (Key × V)):List (Key × V):=more.foldl (fun acc kv=>putK acc kv.1 kv.2) kvs
def tDisp (trs:List (TE × TE)):TE:=fun σ H Q=>∀ p,H p=none→tPairs trs σ (upd H p (.dK [])) fun ps H2=>H2 p=some (.dK [])∧∃ kvs:List (Key × V),ps=kvs.map (fun kv=>(kV kv.1,kv.2))∧kvs.length≤15∧Q (.ref p) (upd H2 p (.dK (mergeK [] kvs)))
structure M1 (X:Cx) (o:Expr) (m:Str) (apos:Pos) (e:Expr) (cpos:Pos):Prop where
  base:attributeBase o m X.env (eval o X.env)=eval o X.env
  few:((backTo cpos (starEach [e] X.env)).all (fun x=>!x.1) && (backToKw cpos (keywordEach [] X.env)).all (fun x=>x.1.isSome)
    && decide (([e]:List Expr).length+([]:List Keyword).length+(if ([]:List Keyword).isEmpty then 0 else 1) < 30))=true
  line:(apos.endLine == cpos.line)=true
  trees:backTo cpos (starEach [e] X.env)=[(false,eval e X.env)]
structure M2 (X:Cx) (o:Expr) (m:Str) (apos:Pos) (e f:Expr) (cpos:Pos):Prop where
  base:attributeBase o m X.env (eval o X.env)=eval o X.env
  few:((backTo cpos (starEach [e,f] X.env)).all (fun x=>!x.1) && (backToKw cpos (keywordEach [] X.env)).all (fun x=>x.1.isSome)
    && decide (([e,f]:List Expr).length+([]:List Keyword).length+(if ([]:List Keyword).isEmpty then 0 else 1) < 30))=true
  line:(apos.endLine == cpos.line)=true
  trees:backTo cpos (starEach [e,f] X.env)=[(false,eval e X.env),(false,eval f X.env)]
def IsD (H:Hp) (a:Addr):Prop:=(∃ kvs,Rd H a (.dK kvs))∨∃ kvs,Rd H a (.dT kvs)
section
variable {X:Cx} {pins:List (Addr × Obj)} {σ:St} {H:Hp} {s:Shared} {a:Addr} {y d:V} {u r:Value} {o:Option V} {A:Around} {E:Value→Shared→Prop}
end
def tDGet1 (td ty:TE):TE:=fun σ H Q=>td σ H fun x H1=>∃ a,x=.ref a∧IsD H1 a∧ty σ H1 fun y H2=>∃ o,DGet H2 a y o∧Q (o.getD .non) H2
def tDGet2 (td ty tx:TE):TE:=fun σ H Q=>td σ H fun x H1=>∃ a,x=.ref a∧IsD H1 a∧ty σ H1 fun y H2=>tx σ H2 fun z H3=>∃ o,DGet H3 a y o∧Q (o.getD z) H3
def tDPop1 (td ty:TE):TE:=fun σ H Q=>td σ H fun x H1=>∃ a,x=.ref a∧IsD H1 a∧ty σ H1 fun y H2=>∃ kvs k v,H2 a=some (.dK kvs)∧y=kV k∧valV kvs k=some v∧Q v (upd H2 a (.dK (dropK kvs k)))
def tDPop2 (td ty tx:TE):TE:=fun σ H Q=>td σ H fun x H1=>∃ a,x=.ref a∧IsD H1 a∧ty σ H1 fun y H2=>tx σ H2 fun z H3=>∃ kvs k,H3 a=some (.dK kvs)∧y=kV k ∧
  (∀ v,valV kvs k=some v→Q v (upd H3 a (.dK (dropK kvs k))))∧(valV kvs k=none→Q z H3)
section
variable {X:Cx} {o e f:Expr} {apos cpos:Pos} {td ty tx:TE}
end
section
variable {X:Cx} {pins:List (Addr × Obj)} {σ:St} {H:Hp} {s:Shared} {a:Addr} {kvs:List (Key × V)} {A:Around} {E:Value→Shared→Prop}
end
section
variable {X:Cx} {pins:List (Addr × Obj)} {σ:St} {H:Hp} {s:Shared} {a:Addr} {y:V} {u:Value} {A:Around} {E:Value→Shared→Prop}
end
end L2
namespace L2
open PySem PySem.Spec PyProof.Rows
section
variable {X:Cx}
theorem Inv.tupD {pins:List (Addr × Obj)} {σ:St} {H:Hp} {s:Shared} {a:Addr} {xs:List V} (I:Inv X pins σ H s) (h:H a=some (.tup xs)):∃ ob,s.heap.get? a=some ob∧ob.dict=none:=by
  obtain ⟨_,_,_,_,o,e,d⟩:=(show ObjOk X.prog X.w H s.heap a (.tup xs) from I.hok a _ h)
  exact ⟨o,e,d⟩
def tIndex (K:PySem.W.Frag) (to:TE) (t:TA):TE:=fun σ H Q=>to σ H fun x H1=>∃ (a:Addr) (ns:List Str),x=.ref a∧(H1 a=some (.lst (ns.map V.str))∨H1 a=some (.tup (ns.map V.str)))∧t σ H1 fun vs H2=>(H2 a=H1 a)∧∃ (z:Str) (j:Nat),vs=[.str z]∧posOf z ns=some j∧Q (.int (j:Int)) H2
variable {o e:Expr} {es:List Expr} {to:TE} {t:TA} {apos cpos:Pos}
theorem pe_index (pl:PlainAttrs "list") (pt:PlainAttrs "tuple") (ho:PE X o to) (ha:PA X (e::es) t)
    (hbase:attributeBase o "index" X.env (eval o X.env)=eval o X.env:=by rfl)
    (hfew:((backTo cpos (starEach (e::es) X.env)).all (fun x=>!x.1) && (backToKw cpos (keywordEach [] X.env)).all (fun x=>x.1.isSome)
      && decide ((e::es).length+([]:List Keyword).length+(if ([]:List Keyword).isEmpty then 0 else 1) < 30))=true:=by rfl)
    (hline:(apos.endLine == cpos.line)=true:=by rfl) (hs:starEach (e::es) X.env=(false,eval e X.env)::starEach es X.env:=by rfl) (hplain:(backTo cpos (starEach es X.env)).any (·.1)=false:=by rfl) :
    PE X (.Call (.Attribute o "index" apos) (e::es) [] cpos) (tIndex X.K to t):=by
  intro pins s σ H Q I h
  refine wpAny_Call_method_late hbase hfew hline rfl (thn (ho pins s σ H _ I h) fun v s1 ⟨x,H1,I1,r1,a,ns,ex,hh,q1⟩=>?_)
  subst ex
  cases r1
  have hA:=ha cpos pins s1 σ H1 _ I1 q1
  rw [hs] at hA ⊢
  rcases hh with hh | hh
  · obtain ⟨its,_,p,_⟩:=I1.list (SqL.of hh)
    obtain ⟨ob,n,e1,c,d,_⟩:=id p
    refine ⟨"list", "list.index", pl,F.slot_list_index,F.type_list_index,p.isList.typeIs,fun b eb=>?_,?_⟩
    · cases eb
      exact ⟨ob,e1,d⟩
    · refine Calls.callWith_builtin (by show (false || (backTo cpos (starEach es X.env)).any (·.1))=false; rw [hplain] <;> rfl) (Calls.evalArgs_plain ?_)
      exact thn hA fun us s2 ⟨vs,H2,I2,r2,ek,z,j,ez,hp,q2⟩=>mt_indexL pins s2 σ H2 (.ref a) vs (.ref a) us Q I2 rfl r2 ⟨a,ns,z,j,rfl,ez,SqL.of (ek.trans hh),hp,q2⟩
  · obtain ⟨its,_,p,_⟩:=I1.tuple (SqT.of hh)
    refine ⟨"tuple", "tuple.index", pt,F.slot_tuple_index,F.type_tuple_index,p.typeIs,fun b eb=>?_,?_⟩
    · cases eb
      exact I1.tupD hh
    · refine Calls.callWith_builtin (by show (false || (backTo cpos (starEach es X.env)).any (·.1))=false; rw [hplain] <;> rfl) (Calls.evalArgs_plain ?_)
      exact thn hA fun us s2 ⟨vs,H2,I2,r2,ek,z,j,ez,hp,q2⟩=>mt_indexT pins s2 σ H2 (.ref a) vs (.ref a) us Q I2 rfl r2 ⟨a,ns,z,j,rfl,ez,SqT.of (ek.trans hh),hp,q2⟩
end
end L2
namespace L2
open PySem PySem.Spec PyProof.Rows
theorem CompScope.three {X:Cx} {x y z u:Str} {scope:Scope} {k l m:Nat} {c d e:Addr} {cl:List (Str × Addr)} (c1:closureFor scope X.env=pure cl) (c2:∀ y ∈ scope.names,y.2 ≠ .cell) (c3:scope.kind=.function) (c4:∀ y ∈ scope.names,y.2=.local→scope.names.lookup y.1=some .local)
    (c5:scope.names.lookup x=some .local) (nd:[x,y,z,u].Nodup) (hcl:cl=[(y,c),(z,d),(u,e)]) (hc:X.env.cells.lookup y=some c) (hd:X.env.cells.lookup z=some d) (he:X.env.cells.lookup u=some e) (c6:((relabel scope X.env).names.all fun p=>!(p.2 == .cell || p.2 == .free) || (cl.lookup p.1).isSome)=true)
    (hr:(relabel scope X.env).names.lookup y=some .cell) (hk:X.N[k]?=some y) (hs:X.env.scope.names.lookup y=some .cell)
    (hr2:(relabel scope X.env).names.lookup z=some .cell) (hk2:X.N[l]?=some z) (hs2:X.env.scope.names.lookup z=some .cell)
    (hr3:(relabel scope X.env).names.lookup u=some .cell) (hk3:X.N[m]?=some u) (hs3:X.env.scope.names.lookup u=some .cell):CompScope X x [y,z,u] [k,l,m] scope cl where
  clos:=c1
  nocell:=c2
  kind:=c3
  names:=c4
  own:=c5
  nd:=nd
  sub:=fun p hp=>by
    subst hcl
    rcases List.mem_cons.mp hp with h | h
    · rw [h]; assumption
    · rcases List.mem_cons.mp h with h | h
      · rw [h]; assumption
      · rw [List.mem_singleton.mp h]; assumption
  has:=c6
  outs:=fun j w h=>by
    have nyz:y ≠ z:=fun e=>by simp [e] at nd
    have nyu:y ≠ u:=fun e=>by simp [e] at nd
    have nzu:z ≠ u:=fun e=>by simp [e] at nd
    subst hcl
    match j,h with
    | 0,h =>
      have e:y=w:=Option.some.inj h
      subst e
      exact ⟨hr,k,c,rfl,hk,by simp [List.lookup],hs⟩
    | 1,h =>
      have e:z=w:=Option.some.inj h
      subst e
      have:(z == y)=false:=by simpa using Ne.symm nyz
      exact ⟨hr2,l,d,rfl,hk2,by simp [List.lookup,this],hs2⟩
    | 2,h =>
      have ew:u=w:=Option.some.inj h
      subst ew
      have h1:(u == y)=false:=by simpa using Ne.symm nyu
      have h2:(u == z)=false:=by simpa using Ne.symm nzu
      exact ⟨hr3,m,e,rfl,hk3,by simp [List.lookup,h1,h2],hs3⟩
    | j+3,h=>simp at h
end L2
namespace L2
open PySem PySem.Spec PyProof.Rows
section
variable {X:Cx}
theorem count_eqU {x:V}:∀ {xs:List V} {us:List Value},Vals xs us→xs.all flatV=true→us.countP (eqU x)=xs.countP fun y=>eqV y x
  | _,_,.nil,_=>rfl
  | y::xs,u::us,.cons r t,f=>by
    rw [List.all_cons,Bool.and_eq_true] at f
    rw [List.countP_cons,List.countP_cons,eqU_of r f.1,count_eqU t f.2]
def rCountL (K:PySem.W.Frag):V→List V→Hp→VK→Prop:=fun x vs H Q=>∃ (a:Addr) (xs:List V) (z:V),x=.ref a∧vs=[z]∧SqL K H a xs∧xs.all flatV=true∧flatV z=true∧Q (.int ((xs.countP fun y=>eqV y z:Nat):Int)) H
theorem mt_count:MtR X "list.count" (rCountL X.K):=by
  intro pins s σ H x vs v us Q I rx rv h
  obtain ⟨a,xs,z,rfl,rfl,hq,fs,fz,q⟩:=h
  cases rx
  obtain ⟨u,rfl,ru⟩:=rv.one
  obtain ⟨its,r,⟨⟨cls,dd,data,sl⟩,n,ho,hc,hdd,hd⟩,hz⟩:=I.list hq
  simp only at hc hd
  subst hc hd
  refine call_meets F.slot_list_count ⟨_,ho,rfl⟩ F.entry_list_count (F.args_list_count_2 _ _) (SeqAt.list_countAt a its.toArray n dd sl u (eqU z)) ⟨ho,fun y hy=>?_,?_⟩
  · exact mem_eqAt ru fz r fs y (by simpa using hy)
  · rw [show its.toArray.toList=its from rfl,count_eqU r fs]
    exact ⟨.int ((xs.countP fun y=>eqV y z:Nat):Int),H,I.tok _,⟨_,rfl⟩,q⟩
end
section
variable {prog:Program} {w:World} {A:Around} {E:Value→Shared→Prop} {s:Shared}
end
section
variable {X:Cx} {e k:Expr} {te tk:TE} {pos p2:Pos}
def tRev (K:PySem.W.Frag) (te tk:TE):TE:=fun σ H Q=>te σ H fun x H1=>tk σ H1 fun y H2=>y=.int (-1)∧∃ a xs,x=.ref a ∧
  ((SqL K H2 a xs∧∀ p,H2 p=none→Q (.ref p) (upd H2 p (.lst xs.reverse)))∨(SqT K H2 a xs∧∀ p,H2 p=none→Q (.ref p) (upd H2 p (.tup xs.reverse))))
end
def bestI (g:Nat→Int):Nat→Int
  | 0=>g 0
  | k+1=>if bestI g k < g (k+1) then g (k+1) else bestI g k
def maxD (ns:List Int) (d:Int):Int:=match ns with | []=>d | _::_=>bestI (fun i=>ns[i]?.getD 0) (ns.length - 1)
section
variable {prog:Program} {w:World} {A:Around} {R:Result→Shared→Prop} {I S:Addr} {fp wr:List Addr} {n:Nat} {P:Nat→Value→Prop} {St:Nat→Heap→Prop} {g:Nat→Int} {kw:List (Str × Value)}
theorem mx_name:(toString "max" ++ toString ".loop" : String) = "max.loop" := by decide
theorem mx_turns (W:Walks prog w A.in1 I fp wr n P St) (gv:∀ i v,P i v→∃ t,v=Value.int (g i) t) (nS:S ∉ fp):∀ (k j:Nat) (s:Shared) (t:Tok) (c:Nat),j+1+k=n→St (j+1) s.heap →
    s.heap.get? S=some { cls:=.type "list", dict:=none,data:=.seq #[.int (bestI g j) t,.int (bestI g j) t] c,slots:=#[] } →
    (∀ t' h' tk,(∀ b o,b ∉ wr→b ≠ S→s.heap.get? b=some o→h'.get? b=some o)→R (.ok (.ret (.int (bestI g (n - 1)) t'))) { s with heap:=h',toks:=tk }) →
    codeAny (model prog w) A (.builtin "max.loop" ⟨[.ref I,.none,.ref S],kw⟩) R s:=by
  have nw:S ∉ wr:=fun z=>nS (W.sub _ z)
  intro k
  induction k with
  | zero =>
    intro j s t c ek st eS q
    refine codeAny_builtin F.entry_max_loop ?_; rw [Around.under_plainId F.plain_max_loop _]
    show wpAny _ A.in1 (seqItems? (.ref S) >>= _) _ _ s; refine wpAny_bind (wpAny_seqItems eS rfl ?_)
    show wpAny _ A.in1 (tryCatch (pyNext (.ref I)) _ >>= _) _ _ s; refine wpAny_bind (wpAny_tryCatch (W.done s _ _ (by rw [← ek]; exact st) fun h' tk kp=>?_))
    show wpAny _ A.in1 (updateSeq S (fun _=>#[]) >>= _) _ _ _; refine wpAny_bind ?_
    refine wpAny_updateSeq (kp S _ nw eS) rfl (wpAny_bind (wpAny_letGo (wpAny_pure ?_)))
    have e:n - 1=j:=by omega
    rw [e] at q
    exact q t _ tk fun b o h1 h2 eb=>(Heap.get?_update_other _ _ (Ne.symm h2)).trans (kp b o h1 eb)
  | succ k ih =>
    intro j s t c ek st eS q
    refine codeAny_builtin F.entry_max_loop ?_; rw [Around.under_plainId F.plain_max_loop _]
    show wpAny _ A.in1 (seqItems? (.ref S) >>= _) _ _ s; refine wpAny_bind (wpAny_seqItems eS rfl ?_)
    show wpAny _ A.in1 (tryCatch (pyNext (.ref I)) _ >>= _) _ _ s; refine wpAny_bind (wpAny_tryCatch (W.item (j+1) s _ _ (by omega) st fun v h' tk pv st' kp=>?_))
    obtain ⟨tv,rfl⟩:=gv _ _ pv
    have eS':=kp S _ nw eS
    show wpAny _ A.in1 (tryCatch (holding [Value.int (g (j+1)) tv,Value.int (g (j+1)) tv] (richCompare .Gt (Value.int (g (j+1)) tv) (Value.int (bestI g j) t) >>= _)) _ >>= _) _ _ _
    refine wpAny_bind (wpAny_tryCatch (wpAny_holding (wpAny_bind (CmpOf.ints_gt (prog:=prog) (w:=w) (A:=A.in1) (P:=fun i v=>∃ t,v=Value.int (if i=0 then bestI g j else g (j+1)) t) (fun i=>if i=0 then bestI g j else g (j+1)) (fun i v h=>h) 1 0 _ _ _ _ _ ⟨tv,rfl⟩ ⟨t,rfl⟩ ?_))))
    refine wpAny_bind (wpAny_holding (wpAny_truthy_bool ?_)); refine wpAny_bind (wpAny_letGo (wpAny_pure ?_))
    by_cases c1:bestI g j < g (j+1)
    · have e1:bestI g (j+1)=g (j+1):=by unfold bestI; rw [if_pos c1]
      refine wpAny_ite_split (fun _=>?_) (fun hab=>absurd (decide_eq_true c1) hab)
      refine wpAny_bind ?_
      refine wpAny_updateSeq eS' rfl (wpAny_bind (wpAny_letGo ?_)); rw [mx_name]
      refine wpAny_pure ⟨plainId_quiet F.plain_max_loop _,ih (j+1) _ tv _ (by omega) (W.frame _ _ _ st' fun b hb o eb=>?_) (by rw [e1]; exact Heap.get?_update_self _ eS' rfl) fun t' h2 tk2 kp2=>?_⟩
      · exact (Heap.get?_update_other _ _ (fun z:S=b=>nS (by rw [z]; exact hb))).trans eb
      · exact q t' h2 tk2 fun b o h1 h3 eb=>kp2 b o h1 h3 ((Heap.get?_update_other _ _ (Ne.symm h3)).trans (kp b o h1 eb))
    · have e1:bestI g (j+1)=bestI g j:=by unfold bestI; rw [if_neg c1]; cases j <;> rfl
      refine wpAny_ite_split (fun hab=>absurd (of_decide_eq_true hab) c1) (fun _=>?_)
      refine wpAny_bind (wpAny_letGo ?_); rw [mx_name]
      refine wpAny_pure ⟨plainId_quiet F.plain_max_loop _,ih (j+1) _ t c (by omega) st' (by rw [e1]; exact eS') fun t' h2 tk2 kp2=>?_⟩
      exact q t' h2 tk2 fun b o h1 h3 eb=>kp2 b o h1 h3 (kp b o h1 eb)
theorem mx_first (W:Walks prog w A.in1 I fp wr n P St) (gv:∀ i v,P i v→∃ t,v=Value.int (g i) t) (nS:S ∉ fp) (hn:0 < n) {s:Shared} {c:Nat} (st:St 0 s.heap) (eS:s.heap.get? S=some { cls:=.type "list", dict:=none,data:=.seq #[] c,slots:=#[] })
    (q:∀ t' h' tk,(∀ b o,b ∉ wr→b ≠ S→s.heap.get? b=some o→h'.get? b=some o)→R (.ok (.ret (.int (bestI g (n - 1)) t'))) { s with heap:=h',toks:=tk }) :
    codeAny (model prog w) A (.builtin "max.loop" ⟨[.ref I,.none,.ref S],kw⟩) R s:=by
  have nw:S ∉ wr:=fun z=>nS (W.sub _ z)
  refine codeAny_builtin F.entry_max_loop ?_; rw [Around.under_plainId F.plain_max_loop _]
  show wpAny _ A.in1 (seqItems? (.ref S) >>= _) _ _ s; refine wpAny_bind (wpAny_seqItems eS rfl ?_)
  show wpAny _ A.in1 (tryCatch (pyNext (.ref I)) _ >>= _) _ _ s; refine wpAny_bind (wpAny_tryCatch (W.item 0 s _ _ hn st fun v h' tk pv st' kp=>?_))
  obtain ⟨tv,rfl⟩:=gv _ _ pv
  have eS':=kp S _ nw eS
  show wpAny _ A.in1 (updateSeq S (fun _=>#[Value.int (g 0) tv,Value.int (g 0) tv]) >>= _) _ _ _; refine wpAny_bind ?_
  refine wpAny_updateSeq eS' rfl ?_; rw [mx_name]
  refine wpAny_pure ⟨plainId_quiet F.plain_max_loop _,mx_turns W gv nS (n - 1) 0 _ tv _ (by omega) (W.frame _ _ _ st' fun b hb o eb=>?_) (Heap.get?_update_self _ eS' rfl) fun t' h2 tk2 kp2=>?_⟩
  · exact (Heap.get?_update_other _ _ (fun z:S=b=>nS (by rw [z]; exact hb))).trans eb
  · exact q t' h2 tk2 fun b o h1 h3 eb=>kp2 b o h1 h3 ((Heap.get?_update_other _ _ (Ne.symm h3)).trans (kp b o h1 eb))
end
section
variable {X:Cx} {e k:Expr} {te tk:TE} {pos p1 kp:Pos}
def tMaxD (K:PySem.W.Frag) (te tk:TE):TE:=fun σ H Q=>te σ H fun x H1=>tk σ H1 fun y H2=>∃ a ns d,x=.ref a∧y=.int d∧SqT K H2 a (ns.map V.int)∧Q (.int (maxD ns d)) H2
def rMax1 (K:PySem.W.Frag):List V→Hp→VK→Prop:=fun xs H Q=>∃ a ns,xs=[.ref a]∧SqL K H a (ns.map V.int)∧ns ≠ []∧Q (.int (maxD ns 0)) H
theorem call_max1 (hc:X.calm=true):CallR X (.builtin "max") (rMax1 X.K):=by
  intro pins s2 σ H2 xs us Q I2 r h
  obtain ⟨a,ns,rfl,hq,hn,q⟩:=h
  obtain ⟨u,rfl,ru⟩:=vals1 r
  cases ru
  obtain ⟨its,r',p,hz⟩:=I2.list hq
  have hl:=r'.length
  rw [List.length_map] at hl
  have hlt:a < s2.heap.objs.size:=by obtain ⟨o,n,e,_⟩:=p; exact Heap.lt_size e
  refine call_function_tree F.kind_max F.plain_max F.entry_max (F.args_max1 _) ?_
  show wpAny _ X.A.in1 (Builtin.Builtins.bindParams "max" ["key", "default"] 0 ⟨[],[]⟩ >>= fun _=>_) _ _ s2
  refine wpAny_bind (wpAny_of_eq (a:=[none,none]) rfl ?_)
  refine wpAny_bind (wpAny_pure ?_)
  refine wpAny_bind (wpAny_pyIter_list p.isList ?_)
  refine wpAny_bind (wpAny_newObj_type ?_); rw [mx_name]
  have hne:a ≠ s2.heap.objs.size:=Nat.ne_of_lt hlt
  have W:=Walks.list (prog:=X.prog) (w:=X.w) (A:=X.A.in1) (I2.ok.hd hc) s2.heap.objs.size a hne its.toArray
  have I3:Inv X pins σ H2 { s2 with heap:=s2.heap.push { cls:=.type "list_iterator", data:=.fields #[.ref a,.int 0 0] } }:=I2.kept (t':=s2.toks) fun b o eb=>Heap.get?_push_of_some _ eb
  have I4:Inv X pins σ H2 { s2 with heap:=(s2.heap.push { cls:=.type "list_iterator", data:=.fields #[.ref a,.int 0 0] }).push { cls:=.type "list", data:=.seq #[] } }:=I3.kept (t':=s2.toks) fun b o eb=>Heap.get?_push_of_some _ eb
  have hz1:∀ o:Obj,(s2.heap.push o).objs.size=s2.heap.objs.size+1:=fun o=>by simp [Heap.push]
  have nS:(s2.heap.push { cls:=.type "list_iterator", data:=.fields #[.ref a,.int 0 0] }).objs.size ∉ [s2.heap.objs.size,a]:=by
    intro hm
    rcases List.mem_cons.mp hm with z | z
    · rw [hz1] at z
      exact absurd z (Nat.succ_ne_self _)
    · have z:=List.mem_singleton.mp z
      rw [hz1] at z
      exact absurd z (Nat.ne_of_gt (Nat.lt_succ_of_lt hlt))
  have gv:∀ i v,its.toArray[i]?=some v→∃ t,v=Value.int (ns[i]?.getD 0) t:=fun i v hv=>by
    obtain ⟨b,t,hb,rfl⟩:=ints_get r' (i:=i) (v:=v) (by first | exact hv | simpa using hv | (rw [List.getElem?_toArray] at hv; exact hv))
    exact ⟨t,by rw [hb]; rfl⟩
  have n0:0 < ns.length:=List.length_pos_iff.mpr hn
  refine wpAny_pure ⟨plainId_quiet F.plain_max_loop _,mx_first (g:=fun i=>ns[i]?.getD 0) W gv nS (by rw [List.size_toArray,← hl]; exact n0) ⟨⟨_,Heap.get?_push_of_some _ (Heap.get?_push_size _ rfl),rfl,rfl⟩,(p.isList.push _).push _⟩ (Heap.get?_push_size _ rfl) fun t' h' tk kp=>?_⟩
  rw [List.size_toArray,← hl]
  have em:bestI (fun i=>ns[i]?.getD 0) (ns.length - 1)=maxD ns 0:=by
    cases ns with
    | nil=>exact absurd rfl hn
    | cons _ _=>rfl
  rw [em]
  refine ⟨.int _,H2,?_,⟨_,rfl⟩,q⟩
  have J:=Inv.turnedL (h':=h') (t':=tk) (ch:=[s2.heap.objs.size,s2.heap.objs.size+1]) I4 (fun b o hb eb=>kp b o (fun z=>hb (by rw [List.mem_singleton.mp z]; exact List.mem_cons_self)) (fun z=>hb (by rw [z,hz1]; exact List.mem_cons_of_mem _ List.mem_cons_self)) eb)
  refine J fun b hb=>?_
  rcases List.mem_cons.mp hb with h | h
  · rw [h]
    exact I2.fpOk (Nat.le_refl _) (I2.hok.fresh (Nat.le_refl _))
  · rw [List.mem_singleton.mp h]
    exact I2.fpOk (Nat.le_succ _) (I2.hok.fresh (Nat.le_succ _))
end
end L2
namespace L2
open PySem PySem.Spec PyProof.Rows
section
variable {prog:Program} {w:World} {A:Around} {E:Value→Shared→Prop} {s:Shared}
theorem tn_item {it t:Addr} {i:Nat} {items:Array Value} {x:Value} {Q:Value→Shared→Prop} (hit:s.heap.IsTupleIter it t i) (ht:s.heap.IsTuple t items) (hx:items[i]?=some x)
    (q:∀ h',h'.IsTupleIter it t (i+1)→Heap.SameBut it s.heap h'→Q x { s with heap:=h' }):wpAny (model prog w) A (Builtin.SmallTypes.nextOf (.ref it)) Q E s:=by
  obtain ⟨o,ho,hc,hd⟩:=id hit; obtain ⟨ol,hol,_,nl,hdl⟩:=ht
  unfold Builtin.SmallTypes.nextOf
  refine wpAny_bind (wpAny_callSpecial?_slot (name:=Str.ofString "__next__") hit.typeIs F.slot_tuple_iterator_next (wpAny_call_entry F.slot_tuple_iterator_next hit.typeIs F.entry_tuple_iterator_next ?_ (F.args_tuple_iterator_next_1 _)))
  show wpAny _ _ (field (.ref it) 0 >>= _) _ _ s; refine wpAny_bind (wpAny_field ho hd (x:=.ref t) rfl ?_)
  show wpAny _ _ (if (Value.ref t == Value.none)=true then _ else _) _ _ s; rw [if_neg (show ¬ ((Value.ref t == Value.none)=true) from Bool.false_ne_true)]
  show wpAny _ _ (field (.ref it) 1 >>= _) _ _ s; refine wpAny_bind (wpAny_field ho hd (x:=.int i 0) rfl ?_)
  show wpAny _ _ (seqItems? (.ref t) >>= _) _ _ s; refine wpAny_bind (wpAny_seqItems hol hdl ?_)
  simp only [Int.toNat_natCast,hx]
  refine wpAny_bind (wpAny_setField ho hd (by simp) (wpAny_pure ⟨x,rfl,wpAny_pure (q _ ?_ (Heap.SameBut.update ..))⟩))
  exact ⟨_,Heap.get?_update_self _ ho (Obj.isFreed_of_fields (Obj.data_mapFields hd _)),(Obj.cls_mapFields ..).trans hc,by rw [Obj.data_mapFields hd]; simp [rawInt]⟩
theorem tn_end {it t:Addr} {i:Nat} {items:Array Value} {Q:Value→Shared→Prop} (hh:A.handled=none) (hit:s.heap.IsTupleIter it t i) (ht:s.heap.IsTuple t items) (hx:items[i]?=none)
    (q:∀ h' e,Heap.ExtBut it s.heap h'→(∃ o,h'.get? e=some o∧o.cls=.type "StopIteration")→E (.ref e) { s with heap:=h' }):wpAny (model prog w) A (Builtin.SmallTypes.nextOf (.ref it)) Q E s:=by
  obtain ⟨o,ho,hc,hd⟩:=id hit; obtain ⟨ol,hol,_,nl,hdl⟩:=ht
  unfold Builtin.SmallTypes.nextOf
  refine wpAny_bind (wpAny_callSpecial?_slot (name:=Str.ofString "__next__") hit.typeIs F.slot_tuple_iterator_next (wpAny_call_entry F.slot_tuple_iterator_next hit.typeIs F.entry_tuple_iterator_next ?_ (F.args_tuple_iterator_next_1 _)))
  show wpAny _ _ (field (.ref it) 0 >>= _) _ _ s; refine wpAny_bind (wpAny_field ho hd (x:=.ref t) rfl ?_)
  show wpAny _ _ (if (Value.ref t == Value.none)=true then _ else _) _ _ s; rw [if_neg (show ¬ ((Value.ref t == Value.none)=true) from Bool.false_ne_true)]
  show wpAny _ _ (field (.ref it) 1 >>= _) _ _ s; refine wpAny_bind (wpAny_field ho hd (x:=.int i 0) rfl ?_)
  show wpAny _ _ (seqItems? (.ref t) >>= _) _ _ s; refine wpAny_bind (wpAny_seqItems hol hdl ?_)
  simp only [Int.toNat_natCast,hx]
  first
    | refine wpAny_bind (wpAny_rule (wpAny_bind (wpAny_setField ho hd (by simp) (wpAny_bind (wpAny_letGo ?_)))))
    | refine wpAny_bind (wpAny_rule (wpAny_bind (wpAny_setField ho hd (by simp) ?_)))
  show wpAny _ _ (newExc (.type "StopIteration") [] >>= _) _ _ _; refine wpAny_bind ?_
  simp only [newExc,newTuple]; refine wpAny_bind (wpAny_newObj_type ?_ (by size_fits))
  refine wpAny_bind (m:=firstArgMember _ _) (wpAny_of_eq (a:=Value.none) (by first | rfl | (simp only [firstArgMember]; rfl)) ?_); refine wpAny_newObj_type ?_ (by size_fits)
  simp only [raiseNew]; refine wpAny_bind (wpAny_handled ?_)
  first | rw [show A.in1.handled=none from hh] | rw [hh]
  refine wpAny_bind (wpAny_pure (wpAny_throw ?_)); exact q _ _ (((Heap.SameBut.update ..).extBut.push _).push _) ⟨_,Heap.get?_push_size _ rfl,rfl⟩
theorem enumT_end {e it t:Addr} {j:Nat} {i:Int} {old:Value} {items:Array Value} {Q:Option Value→Shared→Prop} (hh:A.handled=none) (he:IsEnum s.heap e it i old) (hit:s.heap.IsTupleIter it t j) (ht:s.heap.IsTuple t items) (hx:items[j]?=none)
    (q:∀ h',Heap.ExtBut it s.heap h'→Q none { s with heap:=h' }):wpAny (model prog w) A (pyNext (.ref e)) Q E s:=by
  have hT:s.TypeIs (.ref e) "enumerate" := ⟨_,he,rfl⟩
  unfold pyNext
  refine wpAny_bind (wpAny_attempt (wpAny_callSpecial?_slot (name:=Str.ofString "__next__") hT F.slot_enumerate_next (wpAny_call_entry F.slot_enumerate_next hT F.entry_enumerate_next ?_ (F.args_enumerate_next_1 _))))
  show wpAny _ _ (field (.ref e) 2 >>= _) _ _ _; refine wpAny_bind (wpAny_field he rfl (x:=.ref it) rfl ?_)
  refine wpAny_bind (tn_end hh hit ht hx fun h' x he' hx'=>?_)
  obtain ⟨o,ho,hc⟩:=hx'
  refine wpAny_bind (wpAny_isInstance (T := "StopIteration") (b:=true) ⟨o,ho,hc⟩ isSubtype_stop ?_); exact wpAny_pure (q h' he')
end
theorem draws_tup {prog:Program} {w:World} {A:Around} (hh:A.handled=none) (it l:Addr) (hne:l ≠ it) (items:Array Value):Draws prog w A it [it,l] items.size (fun i v=>items[i]?=some v) (fun i h=>h.IsTupleIter it l i∧h.IsTuple l items) where
  live:=fun _ _ st=>let ⟨o,ho,_⟩:=st.1; ⟨o,ho⟩
  frame:=fun _ _ _ st k=>⟨st.1.at fun o e=>k it (by simp) o e,st.2.at fun o e=>k l (by simp) o e⟩
  item:=fun i s Q E hi st q=>by
    refine tn_item st.1 st.2 (x:=items[i]) (by simp [hi]) fun h' a b=>?_
    exact q _ h' s.toks (by simp [hi]) ⟨a,st.2.extBut b.extBut hne⟩ b
  done:=fun s Q E st q=>tn_end hh st.1 st.2 (by simp) q
open AutoSeq1 (wpAny_loadPart') in
set_option maxHeartbeats 1000000 in
theorem meets_enumT (l:Addr) (items:Array Value) (n:Nat) (dct:Option Addr) (sl:Array (Option Value)) :
    Meets (Builtin.«enumerate.__new__» ⟨[.type "enumerate", .ref l],[]⟩) (fun _ R s=>s.heap.get? l=some { cls:=.type "tuple", dict:=dct,data:=.seq items n,slots:=sl } ∧
      R (.ok (.ret (.ref (s.heap.push { cls:=.type "tuple_iterator", data:=.fields #[.ref l,.int 0 0] }).objs.size)))
        { s with heap:=(s.heap.push { cls:=.type "tuple_iterator", data:=.fields #[.ref l,.int 0 0] }).push { cls:=.type "enumerate", data:=.fields #[.none,.bool false,.ref s.heap.objs.size,rawInt 0,.none,.none] } }) :=
  .of_wp fun prog w A R s h=>by
    obtain ⟨hp,g,d,tk,os⟩:=s; obtain ⟨hl,h⟩:=h
    have hsub:=sub_enumerate; have hL:Heap.IsTuple (Shared.heap ⟨hp,g,d,tk,os⟩) l items:=⟨_,hl,rfl,n,rfl⟩
    wp_walk using wpAny_loadPart' hl
    refine wpAny_stack_any fun st=>wpAny_pure ?_
    split
    · rename_i c _ _ _ _ _
      cases (c == Value.type "enumerate")
      · wp_walk using wpAny_loadPart' hl,wpAny_pyIter_tuple hL
        exact ⟨_,rfl,h⟩
      · wp_walk using wpAny_loadPart' hl,wpAny_pyIter_tuple hL
        exact ⟨_,rfl,h⟩
    · wp_walk using wpAny_loadPart' hl,wpAny_pyIter_tuple hL
      exact ⟨_,rfl,h⟩
section
variable {prog:Program} {w:World} {A:Around} {E:Value→Shared→Prop} {s:Shared}
theorem call_enumT {l:Addr} {items:Array Value} {Q:Value→Shared→Prop} (hL:s.heap.IsTuple l items)
    (q:∀ h',IsEnum h' (s.heap.objs.size+1) s.heap.objs.size 0 .none→h'.IsTupleIter s.heap.objs.size l 0→(∀ b o,s.heap.get? b=some o→h'.get? b=some o)→Q (.ref (s.heap.objs.size+1)) { s with heap:=h' }) :
    wpAny (model prog w) A (call (.type "enumerate") [.ref l]) Q E s:=by
  obtain ⟨⟨c,dct,dt,sl⟩,hl,hc,n,hd⟩:=hL
  replace hc:c=.type "tuple" := hc
  replace hd:dt=.seq items n:=hd
  subst hc hd
  refine callType_new F.called_enumerate (by decide) (F.typeCall_enumerate_1 _) (F.newCall_enumerate_1 _) (fun obj=>F.args_object_init_2 obj _) F.entry_enumerate_new (meets_enumT l items n dct sl) ⟨hl,?_⟩
  have hz:(s.heap.push { cls:=.type "tuple_iterator", data:=.fields #[.ref l,.int 0 0] }).objs.size=s.heap.objs.size+1:=Heap.size_push ..
  show _∧_
  rw [hz]
  have he:IsEnum ((s.heap.push { cls:=.type "tuple_iterator", data:=.fields #[.ref l,.int 0 0] }).push { cls:=.type "enumerate", data:=.fields #[.none,.bool false,.ref s.heap.objs.size,rawInt 0,.none,.none] }) (s.heap.objs.size+1) s.heap.objs.size 0 .none:=by
    have:=Heap.get?_push_size (s.heap.push { cls:=.type "tuple_iterator", data:=.fields #[.ref l,.int 0 0] }) (o:={ cls:=.type "enumerate", data:=.fields #[.none,.bool false,.ref s.heap.objs.size,rawInt 0,.none,.none] }) rfl
    rw [hz] at this; exact this
  exact ⟨⟨_,he,rfl⟩,q _ he ⟨_,Heap.get?_push_of_some _ (Heap.get?_push_size _ rfl),rfl,rfl⟩ fun b o x=>Heap.get?_push_of_some _ (Heap.get?_push_of_some _ x)⟩
end
def IteT (K:PySem.W.Frag) (a:Addr):It :=
  ⟨fun i H=>∃ xs x,SqT K H a xs∧xs[i]?=some x,fun i H y H'=>∃ t,y=.ref t∧H t=none∧∀ xs x,SqT K H a xs→xs[i]?=some x→H'=upd H t (.tup [.int i,x]),fun i H=>∃ xs,SqT K H a xs∧xs.length≤i⟩
theorem turn_enumT {P:Program} {w:World} {K:PySem.W.Frag} {elts:List Expr} {k:Nat} {pos:Pos} (a e it:Addr) (hei:e ≠ it) (hai:a ≠ it) (hae:a ≠ e) :
    Turn P w K (.Tuple elts k pos) (IteT K a) [e,it] e (fun i h=>(∃ old,IsEnum h e it i old)∧h.IsTupleIter it a i) where
  mem:=by simp
  obj:=fun i h st b hb=>by
    obtain ⟨⟨old,he⟩,o,e2,c,d⟩:=st
    rcases List.mem_cons.mp hb with z | z
    · subst z
      exact ⟨_,he,fun v z=>nomatch z⟩
    · have z':=List.mem_singleton.mp z
      subst z'
      exact ⟨o,e2,fun v z=>by rw [d] at z; cases z⟩
  keep:=fun i h h' st k=>by
    obtain ⟨⟨old,he⟩,hit⟩:=st
    exact ⟨⟨old,k e (by simp) _ he⟩,hit.at fun o x=>k it (by simp) o x⟩
  item:=by
    intro X hP hw hK hc i pins s σ H E I hf st hg
    subst hP hw hK
    obtain ⟨xs,x,hq,hx⟩:=hg
    obtain ⟨its,rv,p,hz⟩:=I.tuple hq
    obtain ⟨u,hu,ru⟩:=rv.get hx
    obtain ⟨⟨old,he⟩,hit⟩:=st
    have hi:i < its.toArray.size:=by
      rw [List.size_toArray]
      exact (List.getElem?_eq_some_iff.mp hu).1
    refine wpAny_pyNext_enum_itemD (draws_tup (prog:=X.prog) (w:=X.w) (A:=X.A.in1) (I.ok.hd hc) it a hai its.toArray) he ⟨hit,p⟩ hi hei (by simp [hei,Ne.symm hae]) fun y h1 tk hy ho hst1 hT hsz hk=>?_
    have ey:y=u:=by
      have h1:its.toArray[i]?=some u:=by simpa using hu
      rw [h1] at hy
      exact (Option.some.inj hy).symm
    subst ey
    refine ⟨_,rfl,wpAny_letOwnedTupleGo_enum ho fun h2 he2 hs2=>?_⟩
    have elt:e < s.heap.objs.size:=Heap.lt_size he
    have hT2:h2.get? s.heap.objs.size=some { cls:=.type "tuple", data:=.seq #[.int i tk,y] }:=(hs2.2 _ (Ne.symm (Nat.ne_of_lt elt))).trans hT
    have I2:Inv X pins σ (upd H s.heap.objs.size (.tup [.int i,x])) { s with heap:=h2,toks:=tk+1 }:=by
      refine I.turnedNew (ch:=[e,it]) (fun b ob hb eb=>?_) hf (Nat.le_refl _) ⟨by show 2≤sizeLine; decide,[.int i tk,y],.cons ⟨_,rfl⟩ (.cons ru .nil),⟨_,hT2,rfl,_,rfl⟩,_,hT2,rfl⟩
      have b1:b ≠ e:=fun z=>hb (by simp [z])
      have b2:b ≠ it:=fun z=>hb (by simp [z])
      exact (hs2.2 b b1).trans (hk b ob b1 b2 eb)
    refine ⟨.ref s.heap.objs.size,_,I2,rfl,⟨_,rfl,I.hok.fresh (Nat.le_refl _),fun ys z hy hyi=>?_⟩,⟨⟨y,by simpa using he2⟩,hst1.1.at fun o z=>(hs2.2 it (Ne.symm hei)).trans z⟩,fun b hb=>?_⟩
    · have e1:=I.tuple_inj hy hq
      subst e1
      rw [hx] at hyi
      cases hyi
      rfl
    · have z:=hf b hb
      have hlt:b < s.heap.objs.size:=by
        rcases List.mem_cons.mp hb with y | y
        · rw [y]; exact elt
        · rw [List.mem_singleton.mp y]
          obtain ⟨o,e2,_⟩:=hit
          exact Heap.lt_size e2
      rw [upd_ne (Nat.ne_of_lt hlt)]
      exact z.1
  done:=by
    intro X hP hw hK hc i pins s σ H E I hf st hg
    subst hP hw hK
    obtain ⟨xs,hq,hx⟩:=hg
    obtain ⟨its,rv,p,hz⟩:=I.tuple hq
    obtain ⟨⟨old,he⟩,hit⟩:=st
    have hl:=rv.length
    exact enumT_end (I.ok.hd hc) he hit p (Array.getElem?_eq_none (by simp; omega)) fun h' eb=>⟨rfl,I.turnedL (t':=s.toks) (ch:=[e,it]) (fun b o hb eo=>eb b o (fun z=>hb (by simp [z])) eo) hf⟩
  self:=fun _ _ _ _ _ st h=>by
    obtain ⟨⟨old,he⟩,_⟩:=st
    exact wpAny_pyIter_enum he h
section
variable {X:Cx} {elts:List Expr} {k:Nat} {tpos:Pos}
def iEnumT (K:PySem.W.Frag) (tl:TE):TI:=fun σ H R=>tl σ H fun x H1=>∃ a,x=.ref a∧(∃ xs,SqT K H1 a xs)∧R (IteT K a) H1
theorem pi_enumT {l:Expr} {tl:TE} {p pos:Pos} (hg:Gl X "enumerate") (hm:X.mg "enumerate" = none) (hl:PE X l tl) (hs:starEach [l] X.env=[(false,eval l X.env)]:=by rfl) :
    PI X (.Tuple elts k tpos) (.Call (.Name "enumerate" p) [l] [] pos) (iEnumT X.K tl):=by
  intro pins s σ H R I h
  refine Call_ (ld_blt I hg hm boot_enumerate (PyProof.Rows.callWith_type1 ?_ hs rfl))
  rw [hs]
  show wpAny _ _ (spliced ((false,eval l X.env)::backTo pos (starEach [] X.env))) _ _ s
  refine Calls.spliced_cons (thn (hl pins s σ H _ I h) fun u s1 ⟨x,H1,I1,r1,a,ex,⟨xs,hq⟩,q⟩=>?_)
  subst ex
  cases r1
  obtain ⟨its,rv,p,hz⟩:=I1.tuple hq
  have alt:=p.lt
  refine Calls.spliced_nil ?_
  refine call_enumT p fun h' he hit hk=>?_
  refine wpAny_pyIter_enum he ?_
  have I2:Inv X pins σ H1 { s1 with heap:=h' }:=I1.kept (t':=s1.toks) hk
  refine ⟨s1.heap.objs.size+1,[s1.heap.objs.size+1,s1.heap.objs.size],_,_,H1,rfl,I2,turn_enumT a _ _ (Nat.ne_of_gt (Nat.lt_succ_self _)) (Nat.ne_of_lt alt) (Nat.ne_of_lt (Nat.lt_succ_of_lt alt)),⟨⟨_,he⟩,hit⟩,fun b hb=>?_,q⟩
  rcases List.mem_cons.mp hb with z | z
  · rw [z]
    exact I1.fpOk (Nat.le_succ _) (I1.hok.fresh (Nat.le_succ _))
  · rw [List.mem_singleton.mp z]
    exact I1.fpOk (Nat.le_refl _) (I1.hok.fresh (Nat.le_refl _))
end
theorem for_enumT {K:PySem.W.Frag} {a:Addr} {xs:List V} {g:TG} {tb:TS} {D:Ends} {σ:St} {H:Hp} (Pv:Nat→St→Hp→Prop) (h0:Pv 0 σ H) (hl:∀ i σ H,i≤xs.length→Pv i σ H→SqT K H a xs)
    (hs:∀ i x σ H t,xs[i]?=some x→Pv i σ H→H t=none→g (.ref t) σ (upd H t (.tup [.int i,x])) fun σ2 H2=>tb { D with nx:=Pv (i+1),ct:=Pv (i+1),bk:=D.nx } σ2 H2) (hd:∀ σ H,Pv xs.length σ H→D.nx σ H) :
    ∃ W:Nat→Nat→St→Hp→Prop,(∃ m,W 0 m σ H)∧∀ i m σ H,W i m σ H →
      ((IteT K a).stop i H∧D.nx σ H)∨((IteT K a).go i H∧∃ N:St→Hp→Prop,(∀ σ' H',N σ' H'→∃ m',m' < m∧W (i+1) m' σ' H')∧∀ x H',(IteT K a).yld i H x H'→g x σ H' fun σ2 H2=>tb { D with nx:=N,ct:=N,bk:=D.nx } σ2 H2):=by
  refine ⟨fun i m σ H=>m=xs.length - i∧i≤xs.length∧Pv i σ H,⟨xs.length,by simp,Nat.zero_le _,h0⟩,?_⟩
  rintro i m σ H ⟨rfl,hi,p⟩
  have q:=hl i σ H hi p
  by_cases hlt:i < xs.length
  · refine .inr ⟨⟨xs,xs[i],q,by simp [hlt]⟩,Pv (i+1),fun σ' H' p'=>⟨xs.length - (i+1),by omega,rfl,hlt,p'⟩,fun x H' y=>?_⟩
    obtain ⟨t,rfl,ht,e⟩:=y
    have e':=e xs xs[i] q (by simp [hlt])
    subst e'
    exact hs i xs[i] σ H t (by simp [hlt]) p ht
  · have e:i=xs.length:=by omega
    subst e
    exact .inl ⟨⟨xs,q,Nat.le_refl _⟩,hd σ H p⟩
end L2
namespace L2
open PySem PySem.Spec PyProof.Rows
def ItV (K:PySem.W.Frag) (a:Addr) (xs:List V):It:=⟨fun i H=>SqL K H a xs∧i < xs.length,fun i H y H'=>H'=H∧xs.reverse[i]?=some y,fun i _=>xs.length≤i⟩
theorem turn_revl {P:Program} {w:World} {K:PySem.W.Frag} {tg:Expr} (a it:Addr) (xs:List V):Turn P w K tg (ItV K a xs) [it] it (fun i h=>i≤xs.length∧h.IsRevIter it a ((xs.length:Int) - 1 - (i:Int))) where
  mem:=by simp
  obj:=fun i h st b hb=>by
    have e:b=it:=by simpa using hb
    subst e
    obtain ⟨_,o,e,c,d⟩:=st
    exact ⟨o,e,fun v z=>by rw [d] at z; cases z⟩
  keep:=fun i h h' st k=>⟨st.1,st.2.at fun o e=>k it (by simp) o e⟩
  item:=by
    intro X hP hw hK hc i pins s σ H E I hf st hg
    subst hP hw hK
    obtain ⟨hq,hi⟩:=hg
    obtain ⟨its,rv,p,hz⟩:=I.list hq
    have hj:xs.length - 1 - i < xs.length:=by omega
    have hx:xs[xs.length - 1 - i]?=some xs[xs.length - 1 - i]:=List.getElem?_eq_getElem hj
    obtain ⟨u,hu,ru⟩:=rv.get hx
    obtain ⟨f0,f1,f2,f3,f4,f5⟩:=hf it (by simp)
    obtain ⟨_,hit⟩:=st
    have e1:((xs.length:Int) - 1 - (i:Int))=((xs.length - 1 - i:Nat):Int):=by omega
    rw [e1] at hit
    refine wpAny_pyNext_rev_item hit p.isList (x:=u) (by simpa using hu) fun h' st' sb=>?_
    have I1:Inv X pins σ H { s with heap:=h' }:=I.turned (t':=s.toks) (fun b o hb e=>(sb.2 b hb).trans e) f0 f1 f3 f4 f5
    have e2:((xs.length - 1 - i:Nat):Int) - 1=(xs.length:Int) - 1 - ((i+1:Nat):Int):=by omega
    rw [e2] at st'
    obtain ⟨o,e,c,d⟩:=id st'
    refine ⟨u,rfl,go_of (s:={ s with heap:=h' }) e c d (by decide) ⟨xs[xs.length - 1 - i],H,I1,ru,⟨rfl,?_⟩,⟨by omega,st'⟩,fun b hb=>(hf b hb).1⟩⟩
    rw [List.getElem?_reverse hi,hx]
  done:=by
    intro X hP hw hK hc i pins s σ H E I hf st hg
    subst hP hw hK
    have hg:xs.length≤i:=hg
    obtain ⟨f0,f1,f2,f3,f4,f5⟩:=hf it (by simp)
    obtain ⟨hi,hit⟩:=st
    have e1:(xs.length:Int) - 1 - (i:Int)=-1:=by omega
    rw [e1] at hit
    exact wpAny_pyNext_rev_end (I.ok.hd hc) hit fun h' eb=>⟨rfl,I.turned (t':=s.toks) (fun b o hb e=>eb b o hb e) f0 f1 f3 f4 f5⟩
  self:=fun _ _ _ _ _ st h=>wpAny_pyIter_revIter st.2 h
section
variable {X:Cx} {tg:Expr}
def iRevL (K:PySem.W.Frag) (tl:TE):TI:=fun σ H R=>tl σ H fun x H1=>∃ a xs,x=.ref a∧SqL K H1 a xs∧R (ItV K a xs) H1
end
theorem for_revl {K:PySem.W.Frag} {a:Addr} {xs:List V} {g:TG} {tb:TS} {D:Ends} {σ:St} {H:Hp} (Pv:Nat→St→Hp→Prop) (h0:Pv 0 σ H) (hl:∀ i σ H,i≤xs.length→Pv i σ H→SqL K H a xs)
    (hs:∀ i x σ H,i < xs.length→xs.reverse[i]?=some x→Pv i σ H→g x σ H fun σ2 H2=>tb { D with nx:=Pv (i+1),ct:=Pv (i+1),bk:=D.nx } σ2 H2) (hd:∀ σ H,Pv xs.length σ H→D.nx σ H) :
    ∃ W:Nat→Nat→St→Hp→Prop,(∃ m,W 0 m σ H)∧∀ i m σ H,W i m σ H →
      ((ItV K a xs).stop i H∧D.nx σ H)∨((ItV K a xs).go i H∧∃ N:St→Hp→Prop,(∀ σ' H',N σ' H'→∃ m',m' < m∧W (i+1) m' σ' H')∧∀ x H',(ItV K a xs).yld i H x H'→g x σ H' fun σ2 H2=>tb { D with nx:=N,ct:=N,bk:=D.nx } σ2 H2):=by
  refine ⟨fun i m σ H=>m=xs.length - i∧i≤xs.length∧Pv i σ H,⟨xs.length,by simp,Nat.zero_le _,h0⟩,?_⟩
  rintro i m σ H ⟨rfl,hi,p⟩
  have q:=hl i σ H hi p
  by_cases hlt:i < xs.length
  · refine .inr ⟨⟨q,hlt⟩,Pv (i+1),fun σ' H' p'=>⟨xs.length - (i+1),by omega,rfl,hlt,p'⟩,fun x H' y=>?_⟩
    obtain ⟨e,ex⟩:=y
    subst e
    exact hs i x σ _ hlt ex p
  · have e:i=xs.length:=by omega
    subst e
    exact .inl ⟨Nat.le_refl _,hd σ H p⟩
end L2
namespace L2
open PySem PySem.Spec PyProof.Rows
theorem mt_countK {X:Cx} (K:PySem.W.Frag) (h:X.K=K:=by rfl):MtR X "list.count" (rCountL K):=by subst h; exact mt_count
section
variable {X:Cx} {o e:Expr} {es:List Expr} {to ta:TE} {t:TA} {T id:String} {name f:Str} {r:V→List V→Hp→VK→Prop} {apos cpos pos:Pos}
theorem pe_bmK (K:PySem.W.Frag) (pa:PlainAttrs T) (slot:Slot T name id) (hty:typeOf (.builtin id)=pure (.type "method_descriptor")) (hm:MtR X id r) (ho:PE X o to) (ha:PA X (e::es) t) (hK:X.K=K:=by rfl)
    (hbase:attributeBase o name X.env (eval o X.env)=eval o X.env:=by rfl)
    (hfew:((backTo cpos (starEach (e::es) X.env)).all (fun x=>!x.1) && (backToKw cpos (keywordEach [] X.env)).all (fun x=>x.1.isSome) && decide ((e::es).length+([]:List Keyword).length+(if ([]:List Keyword).isEmpty then 0 else 1) < 30))=true:=by rfl)
    (hline:(apos.endLine == cpos.line)=true:=by rfl) (hs:starEach (e::es) X.env=(false,eval e X.env)::starEach es X.env:=by rfl) (hplain:(backTo cpos (starEach es X.env)).any (·.1)=false:=by rfl) :
    PE X (.Call (.Attribute o name apos) (e::es) [] cpos) (tBM K T r to t):=by subst hK; exact pe_bm pa slot hty hm ho ha hbase hfew hline hs hplain
theorem pe_fldK (K:PySem.W.Frag) (he:PE X e ta) (hK:X.K=K:=by rfl) (hb:attributeBase e f X.env (eval e X.env)=eval e X.env:=by rfl):PE X (.Attribute e f pos) (tFld K ta f):=by subst hK; exact pe_fld he hb
end
end L2
namespace L2
open PySem PySem.Spec PyProof.Rows
@[reducible] def cxCompO (X:Cx) (x:Str) (N:List Str) (scope:Scope) (cl:List (Str × Addr)) (s:Shared) (H:Hp) (fp:List Addr):Cx where
  prog:=X.prog
  w:=X.w
  K:=X.K
  mg:=X.mg
  base:=X.base
  A:=X.A
  N:=x::N
  s₀:=s
  H₀:=H
  env:=compEnvC scope ((x,s.heap.objs.size+1)::cl) s.heap.objs.size X.env
  outer:=X.stack
  stack:=X.stack
  ex:=fp
  fn:=fun y=>y == x
  calm:=X.calm
  pn:=[]
  xe:=fun _ _=>False
structure CompScopeO (X:Cx) (x:Str) (N:List Str) (ix:List Nat) (scope:Scope) (cl:List (Str × Addr)):Prop where
  clos:closureFor scope X.env=pure cl
  lay:∀ (n:Addr) (h:Heap),cellsFrom n scope.names cl=(x,n)::cl∧pushCells h scope.names=h.push { cls:=.type "cell", data:=.cell none }
  kind:scope.kind=.function
  names:∀ y ∈ scope.names,y.2=.local→scope.names.lookup y.1=some .local
  own:(relabel scope X.env).names.lookup x=some .cell
  nd:(x::N).Nodup
  sub:∀ p ∈ cl,X.env.cells.lookup p.1=some p.2
  has:((relabel scope X.env).names.all fun p=>!(p.2 == .cell || p.2 == .free) || (p.1 == x || (cl.lookup p.1).isSome))=true
  outs:∀ (j:Nat) (y:Str),N[j]?=some y→(relabel scope X.env).names.lookup y=some .cell∧∃ k c,ix[j]?=some k∧X.N[k]?=some y∧cl.lookup y=some c∧X.env.scope.names.lookup y=some .cell
section
variable {X:Cx} {pins:List (Addr × Obj)} {σ:St} {x:Str} {N:List Str} {ix:List Nat} {scope:Scope} {cl:List (Str × Addr)} {fp:List Addr} {H3:Hp} {s3:Shared}
end
section
variable {M:Model} {A:Around} {E:Value→Shared→Prop} {s:Shared}
end
section
variable {X:Cx} {x:Str} {N:List Str} {ix:List Nat} {scope:Scope} {cl:List (Str × Addr)} {elt iter:Expr} {ifs:List Expr} {px pos:Pos} {wi:TI} {tb:TBl}
end
end L2
namespace L2
open PySem PySem.Spec PyProof.Rows
theorem CompScope.four {X:Cx} {x y z u v:Str} {scope:Scope} {k l m n:Nat} {c d e g:Addr} {cl:List (Str × Addr)} (c1:closureFor scope X.env=pure cl) (c2:∀ y ∈ scope.names,y.2 ≠ .cell) (c3:scope.kind=.function) (c4:∀ y ∈ scope.names,y.2=.local→scope.names.lookup y.1=some .local)
    (c5:scope.names.lookup x=some .local) (nd:[x,y,z,u,v].Nodup) (hcl:cl=[(y,c),(z,d),(u,e),(v,g)]) (hc:X.env.cells.lookup y=some c) (hd:X.env.cells.lookup z=some d) (he:X.env.cells.lookup u=some e) (hg:X.env.cells.lookup v=some g) (c6:((relabel scope X.env).names.all fun p=>!(p.2 == .cell || p.2 == .free) || (cl.lookup p.1).isSome)=true)
    (hr:(relabel scope X.env).names.lookup y=some .cell) (hk:X.N[k]?=some y) (hs:X.env.scope.names.lookup y=some .cell)
    (hr2:(relabel scope X.env).names.lookup z=some .cell) (hk2:X.N[l]?=some z) (hs2:X.env.scope.names.lookup z=some .cell)
    (hr3:(relabel scope X.env).names.lookup u=some .cell) (hk3:X.N[m]?=some u) (hs3:X.env.scope.names.lookup u=some .cell)
    (hr4:(relabel scope X.env).names.lookup v=some .cell) (hk4:X.N[n]?=some v) (hs4:X.env.scope.names.lookup v=some .cell):CompScope X x [y,z,u,v] [k,l,m,n] scope cl where
  clos:=c1
  nocell:=c2
  kind:=c3
  names:=c4
  own:=c5
  nd:=nd
  sub:=fun p hp=>by
    subst hcl
    rcases List.mem_cons.mp hp with h | h
    · rw [h]; assumption
    · rcases List.mem_cons.mp h with h | h
      · rw [h]; assumption
      · rcases List.mem_cons.mp h with h | h
        · rw [h]; assumption
        · rw [List.mem_singleton.mp h]; assumption
  has:=c6
  outs:=fun j w h=>by
    have nyz:y ≠ z:=fun e=>by simp [e] at nd
    have nyu:y ≠ u:=fun e=>by simp [e] at nd
    have nyv:y ≠ v:=fun e=>by simp [e] at nd
    have nzu:z ≠ u:=fun e=>by simp [e] at nd
    have nzv:z ≠ v:=fun e=>by simp [e] at nd
    have nuv:u ≠ v:=fun e=>by simp [e] at nd
    subst hcl
    match j,h with
    | 0,h =>
      have e:y=w:=Option.some.inj h
      subst e
      exact ⟨hr,k,c,rfl,hk,by simp [List.lookup],hs⟩
    | 1,h =>
      have e:z=w:=Option.some.inj h
      subst e
      have:(z == y)=false:=by simpa using Ne.symm nyz
      exact ⟨hr2,l,d,rfl,hk2,by simp [List.lookup,this],hs2⟩
    | 2,h =>
      have ew:u=w:=Option.some.inj h
      subst ew
      have h1:(u == y)=false:=by simpa using Ne.symm nyu
      have h2:(u == z)=false:=by simpa using Ne.symm nzu
      exact ⟨hr3,m,e,rfl,hk3,by simp [List.lookup,h1,h2],hs3⟩
    | 3,h =>
      have ew:v=w:=Option.some.inj h
      subst ew
      have h1:(v == y)=false:=by simpa using Ne.symm nyv
      have h2:(v == z)=false:=by simpa using Ne.symm nzv
      have h3:(v == u)=false:=by simpa using Ne.symm nuv
      exact ⟨hr4,n,g,rfl,hk4,by simp [List.lookup,h1,h2,h3],hs4⟩
    | j+4,h=>simp at h
end L2
namespace L2
open PySem PySem.Spec PyProof.Rows
def ItrS (lo c:Int) (n:Nat):It:=⟨fun i _=>i < n,fun i H x H'=>H'=H∧x=.int (lo+i*c),fun i _=>n≤i⟩
section
variable {X:Cx} {tg:Expr}
def iRng3 (ta:TA):TI:=fun σ H R=>ta σ H fun vs H1=>∃ i j c:Int,vs=[.int i,.int j,.int c]∧0 < c∧c < 1000000∧Builtin.Range.small i j c=true∧R (ItrS i c (Builtin.Range.rangeSize i j c).toNat) H1
end
end L2
namespace L2
open PySem PySem.Spec PyProof.Rows
section
variable {X:Cx}
def tListRng1 (ta:TA):TE:=fun σ H Q=>ta σ H fun vs H1=>∃ j:Int,vs=[.int j]∧0≤j∧j≤1000∧∀ p,H1 p=none→Q (.ref p) (upd H1 p (.lst ((rngV 0 j.toNat).map V.int)))
def rSorted (K:PySem.W.Frag):List V→Hp→VK→Prop:=fun xs H Q=>∃ a ns,xs=[.ref a]∧SqL K H a (ns.map V.int)∧ns.length < 64∧∀ p ms,H p=none→List.Perm ms ns→ms.Pairwise (·≤·)→Q (.ref p) (upd H p (.lst (ms.map V.int)))
end
end L2
namespace L2
open PySem PySem.Spec PyProof.Rows PySem.Builtin PySem.Builtin.Str
section
variable {prog:Program} {w:World} {A:Around} {E:Value→Shared→Prop} {s:Shared} {Q:Value→Shared→Prop} {x:PySem.Str} {t:Tok}
end
section
variable {X:Cx}
def rSplit:V→List V→Hp→VK→Prop:=fun x vs H Q=>∃ z u,x=.str z∧vs=[.str u]∧0 < u.length∧z.length≤100000∧(Txt.split z u).length≤100000∧∀ p,H p=none→Q (.ref p) (upd H p (.lst ((Txt.split z u).map V.str)))
end
end L2
namespace L2
open PySem PySem.Spec PyProof.Rows
section
variable {X:Cx} {e:Expr} {te:TE} {p pos pos1:Pos}
def tIsiT (te:TE):TE:=fun σ H Q=>te σ H fun x H1=>∃ a xs,x=.ref a∧(H1 a=some (.lst xs)∨H1 a=some (.tup xs))∧Q (.bl true) H1
end
end L2
namespace HT
open PySem PyProof.Rows
section
variable {prog:Program} {w:World} {A:Around} {E:Value→Shared→Prop} {s:Shared}
end
end HT
namespace L2
open PySem PySem.Spec PyProof.Rows
section
variable {X:Cx}
def rSlTW (K:PySem.W.Frag):V→Option Int→Option Int→Hp→VK→Prop:=fun x lo hi H Q=>∃ a xs,x=.ref a∧SqT K H a xs ∧
  (HT.sIx xs.length 0 lo=0∧HT.sIx xs.length xs.length hi=xs.length)∧Q (.ref a) H
def rSlTA (K:PySem.W.Frag):V→Option Int→Option Int→Hp→VK→Prop:=fun x lo hi H Q=>∃ a xs,x=.ref a∧SqT K H a xs∧H a=some (.tup xs)∧∀ p H',Same H H'→H' p=some (.tup (cutV xs lo hi))→Q (.ref p) H'
end
end L2
namespace L2
open PySem PySem.Spec PyProof.Rows
def SqIt (h:Heap) (i l:Addr) (k:Nat) (xs:Array Value):Prop:=(h.IsListIter i l k∧h.IsList l xs)∨(h.IsTupleIter i l k∧h.IsTuple l xs)
section
variable {prog:Program} {w:World} {A:Around} {E:Value→Shared→Prop} {s:Shared}
end
def itO (b:Bool) (l:Addr):Obj:={ cls:=.type (if b=true then "list_iterator" else "tuple_iterator"),data:=.fields #[.ref l,.int 0 0] }
def SqO (b:Bool) (h:Heap) (l:Addr) (xs:Array Value):Prop:=if b=true then h.IsList l xs else h.IsTuple l xs
abbrev zqH (h:Heap) (b1 b2:Bool) (l1 l2:Addr):Heap:=((((h.push (itO b1 l1)).push (itO b2 l2)).push { cls:=.type "tuple", data:=.seq #[.ref h.objs.size,.ref (h.push (itO b1 l1)).objs.size] }).push { cls:=.type "tuple", data:=.seq #[.none,.none] }).push
  { cls:=.type "zip", data:=.fields #[.none,.bool false,.bool false,.ref ((h.push (itO b1 l1)).push (itO b2 l2)).objs.size,.ref (((h.push (itO b1 l1)).push (itO b2 l2)).push { cls:=.type "tuple", data:=.seq #[.ref h.objs.size,.ref (h.push (itO b1 l1)).objs.size] }).objs.size] }
abbrev zqA (h:Heap) (b1 b2:Bool) (l1 l2:Addr):Addr:=((((h.push (itO b1 l1)).push (itO b2 l2)).push { cls:=.type "tuple", data:=.seq #[.ref h.objs.size,.ref (h.push (itO b1 l1)).objs.size] }).push { cls:=.type "tuple", data:=.seq #[.none,.none] }).objs.size
end L2
namespace L2
open PySem PySem.Spec PyProof.Rows
section
variable {prog:Program} {w:World} {A:Around} {E:Value→Shared→Prop} {s:Shared}
end
def SqB (K:PySem.W.Frag) (b:Bool) (H:Hp) (a:Addr) (xs:List V):Prop:=if b=true then SqL K H a xs else SqT K H a xs
def Itz (K:PySem.W.Frag) (c d:Bool) (a b:Addr):It :=
  ⟨fun i H=>∃ xs ys x y,SqB K c H a xs∧SqB K d H b ys∧xs[i]?=some x∧ys[i]?=some y,fun i H v H'=>∃ t,v=.ref t∧H t=none∧∀ xs ys x y,SqB K c H a xs→SqB K d H b ys→xs[i]?=some x→ys[i]?=some y→H'=upd H t (.tup [x,y]),
    fun i H=>∃ xs ys,SqB K c H a xs∧SqB K d H b ys∧(xs.length≤i∨ys.length≤i)⟩
end L2
namespace L2
open PySem PySem.Spec PyProof.Rows
section
variable {X:Cx} {elts:List Expr} {k:Nat} {tpos:Pos}
def iZip (K:PySem.W.Frag) (tl:TA):TI:=fun σ H R=>tl σ H fun vs H1=>∃ a b c d,vs=[.ref a,.ref b]∧(∃ xs,SqB K c H1 a xs)∧(∃ ys,SqB K d H1 b ys)∧R (Itz K c d a b) H1
end
end L2
namespace L2
open PySem PySem.Spec PyProof.Rows
section
variable {X:Cx} {pins:List (Addr × Obj)} {σ:St} {x y2:Str} {N:List Str} {ix:List Nat} {scope:Scope} {cl:List (Str × Addr)} {fp:List Addr} {H3:Hp} {s3:Shared}
end
section
variable {X:Cx} {x y2:Str} {N:List Str} {ix:List Nat} {scope:Scope} {cl:List (Str × Addr)} {elt iter:Expr} {ifs:List Expr} {px py pt pos:Pos} {kt:Nat} {wi:TI} {tb:TBl}
def CompEx2 (K:PySem.W.Frag) (J:It) (D:Addr) (ix:List Nat) (tb:TBl) (σ:St) (H:Hp) (Q:VK):Prop:=∃ W:Nat→Nat→Hp→Prop,(∃ m,W 0 m (upd H D (.lst [])))∧∀ i m H2,W i m H2 →
  (J.stop i H2∧Q (.ref D) H2)∨(J.go i H2∧∀ y H3,J.yld i H2 y H3→∃ t v1 v2,y=.ref t∧SqT K H3 t [v1,v2]∧tb (some v1::some v2::outs ix σ) H3 (fun H4=>∃ m',m' < m∧W (i+1) m' H4)
    fun z H4=>∃ ys,H4 D=some (.lst ys)∧ys.length < sizeLine∧∃ m',m' < m∧W (i+1) m' (upd H4 D (.lst (ys++[z]))))
def tCompR2 (K:PySem.W.Frag) (wi:TI) (ix:List Nat) (tb:TBl):TE:=fun σ H Q=>wi σ H fun J H1=>∀ D,H1 D=none→CompEx2 K J D ix tb σ H1 Q
end
end L2
namespace L2
open PySem PyProof.Rows HT
section
variable {X:Cx}
def rAny (K:PySem.W.Frag):List V→Hp→VK→Prop:=fun xs H Q=>∃ (a:Addr) (bs:List Bool),xs=[.ref a]∧SqL K H a (bs.map V.bl)∧Q (.bl (bs.any id)) H
end
end L2
namespace L2
open PySem PySem.Spec PyProof.Rows
section
variable {X:Cx}
def startsAt (z u:Str) (i:Int):Bool:=decide (PySem.fromIndex z.length i+u.length≤z.length) && Builtin.Str.subAt z u (PySem.fromIndex z.length i)
def rStartsAt:V→List V→Hp→VK→Prop:=fun x vs H Q=>∃ z u i,x=.str z∧vs=[.str u,.int i]∧Q (.bl (startsAt z u i)) H
abbrev TJ:=St→Hp→Str→VK→Prop
def PJ (X:Cx) (es:List Expr) (t:TJ):Prop :=
  ∀ (pins:List (Addr × Obj)) (s:Shared) (σ:St) (H:Hp) (out:Str) (Q:VK),Inv X pins σ H s→t σ H out Q→wpAny (model X.prog X.w) X.A (joinParts out (evalEach es X.env)) (EP X pins σ Q) X.xe s
theorem pj_nil:PJ X [] (fun _ H out Q=>out.length≤sizeLine∧Q (.str out) H):=by
  intro pins s σ H out Q I h
  exact joinParts_nil ⟨.str out,H,I.tok _,⟨_,rfl⟩,h.2⟩ h.1
theorem pj_cons {e:Expr} {es:List Expr} {te:TE} {t:TJ} (he:PE X e te) (ht:PJ X es t):PJ X (e::es) (fun σ H out Q=>te σ H fun v H1=>∃ y,v=.str y∧(out++y).length≤sizeLine∧t σ H1 (out++y) Q):=by
  intro pins s σ H out Q I h
  show wpAny _ _ (joinParts out (eval e X.env::evalEach es X.env)) _ _ s
  refine joinParts_cons (thn (he pins s σ H _ I h) fun v s1 ⟨x,H1,I1,r1,y,ex,hz,q⟩=>?_)
  subst ex
  obtain ⟨t',rfl⟩:=r1
  exact ⟨hz,ht pins s1 σ H1 _ Q I1 q⟩
theorem pe_fstr {e1 e2:Expr} {es:List Expr} {t:TJ} {pos:Pos} (h:PJ X (e1::e2::es) t):PE X (.JoinedStr (e1::e2::es) pos) (fun σ H Q=>t σ H Str.empty Q) :=
  fun pins s σ H Q I k=>JoinedStr_many (h pins s σ H Str.empty Q I k)
end
end L2
namespace L2
open PySem PySem.Spec PyProof.Rows
section
variable {X:Cx}
end
end L2
namespace L2
open PySem PySem.Spec PyProof.Rows
abbrev IsZipB (h:Heap) (z TI TO:Addr) (f0:Value) (b:Bool):Prop :=
  h.get? z=some { cls:=.type "zip", dict:=none,data:=.fields #[f0,.bool b,.bool false,.ref TI,.ref TO],slots:=#[] }
section
variable {prog:Program} {w:World} {A:Around} {E:Value→Shared→Prop} {s:Shared}
end
end L2
namespace L2
open PySem PySem.Spec PyProof.Rows
def ItK (c:Bool) (h:Heap) (i1 a:Addr) (k:Nat):Prop:=∃ o,h.get? i1=some o∧o.cls=.type (if c=true then "list_iterator" else "tuple_iterator")∧o.data=.fields #[.ref a,.int k 0]
def ZSt (c d:Bool) (a b z TI TO i1 i2:Addr) (cs:List Addr) (i:Nat) (h:Heap):Prop :=
  ((i=0∧IsZip h z TI TO .none)∨∃ (t:Addr) (f:Bool),cs[0]?=some t∧IsZipB h z TI TO (rawInt t) f)∧IsPair h TI (.ref i1) (.ref i2)∧(∃ p q,IsPair h TO p q)∧ItK c h i1 a i∧ItK d h i2 b i
def PairsAt (H:Hp) (cs:List Addr) (xs ys:List V):Prop:=∀ (j:Nat) (t:Addr) (x y:V),cs[j]?=some t→xs[j]?=some x→ys[j]?=some y→H t=some (.tup [x,y])
section
variable {X:Cx} {pins:List (Addr × Obj)} {σ:St}
end
end L2
namespace L2
open PySem PySem.Spec PyProof.Rows
section
variable {X:Cx} {pins:List (Addr × Obj)} {σ:St}
def tListZip (K:PySem.W.Frag) (t:TA):TE:=fun σ H Q=>t σ H fun vs H1=>∃ a b c d xs ys,vs=[.ref a,.ref b]∧SqB K c H1 a xs∧SqB K d H1 b ys∧xs.length=ys.length∧xs.length≤sizeLine ∧
  ∀ S cs H2,H1 S=none→H2 S=some (.lst (cs.map V.ref))→cs.length=xs.length→PairsAt H2 cs xs ys→(∀ t ∈ cs,H1 t=none∧t ≠ S)→Same H1 H2→Q (.ref S) H2
def rNeNil (K:PySem.W.Frag):R2:=fun x y H Q=>∃ a b xs,x=.ref a∧y=.ref b∧SqL K H a xs∧SqL K H b []∧Q (.bl (!xs.isEmpty)) H
theorem op_neNil (hu:X.A.units < cLine):OpR X (compareOp .NotEq) (rNeNil X.K):=by
  intro pins s σ H x y v u Q I rx ry h
  obtain ⟨a,b,xs,rfl,rfl,ha,hb,q⟩:=h
  cases rx
  cases ry
  obtain ⟨its,r1,p1,_⟩:=I.list ha
  obtain ⟨its2,r2,p2,_⟩:=I.list hb
  have e2:its2=[]:=r2.nil_iff.mpr rfl
  subst e2
  cases xs with
  | nil =>
    have e1:its=[]:=r1.nil_iff.mpr rfl
    subst e1
    exact (SeqAt.RcNeAt.lists (e:=fun _=>true) p1.isList p2.isList rfl hu fun j h1=>absurd h1 (by simp)) X.prog X.w X.xe _ ⟨.bl false,H,I,rfl,q⟩
  | cons z r =>
    have l1:=r1.length
    exact (SeqAt.RcNeAt.lists_lengths p1.isList p2.isList (by simp at l1 ⊢; intro e; rw [e] at l1; simp at l1) hu) X.prog X.w X.xe _ ⟨.bl true,H,I,rfl,q⟩
end
end L2
namespace L2
open PySem PySem.Spec PyProof.Rows
section
variable {X:Cx}
end
end L2
namespace L2
open PySem
section
variable {M:Model} {A:Around} {E:Value→Shared→Prop} {h:Heap} {g:Array GenState} {d:Drawn} {t:Nat} {os:OsState}
variable {nm q:Str} {C N:Addr} {bs bm:List Value} {hdct:Bool} {sn:List Str} {sub:List Value} {ab:Bool} {col:Option Bool} {dd:Option Addr} {k0 k1 k2 k3 k5:Option Value} {Bn newId inN:String} {bmN:List Value}
theorem check_newX (Fn:ExcBaseFacts Bn newId inN bmN) (hcont:(Value.ref C::bm).contains (.type Bn)=true) {rest:List Value} {Q:Unit→Shared→Prop} (hC:h.get? C=some (excClassObj nm q C N bs bm hdct sn sub ab col dd k0 k1 k2 k3 k5 newId))
    (hq:Q () ⟨h,g,d,t,os⟩):wpAny M A (checkBuiltinCall newId ⟨.ref C::rest,[]⟩) Q E ⟨h,g,d,t,os⟩:=by
  have hstar:=Fn.noStar
  simp only [checkBuiltinCall,Fn.newKind,Fn.newSplit,Fn.newRow]
  repeat (first | refine wpAny_loadPart_at hC ?_ | (refine wpAny_isSubtype_exc hC ?_; rw [hcont]) | refine wpAny_staticBase_exc hC ?_ | refine wpAny_madeBy_exc hC ?_ | simp only [bne_self_eq_false,Bool.false_eq_true,if_false] | wp_step)
  exact hq
end
section
variable {prog:Program} {w:World} {A:Around} {R:Result→Shared→Prop} {h:Heap} {g:Array GenState} {d:Drawn} {t:Nat} {os:OsState}
variable {nm q:Str} {C N:Addr} {bs bm:List Value} {hdct:Bool} {sn:List Str} {sub:List Value} {ab:Bool} {col:Option Bool} {dd:Option Addr} {k0 k1 k2 k3 k5:Option Value} {Bn newId inN:String} {bmN:List Value}
theorem exc_newX (Fn:ExcBaseFacts Bn newId inN bmN) (hcB:(Value.ref C::bm).contains (.type Bn)=true) (hcA:(Value.ref C::bm).contains (.type "AttributeError")=false) (hcN:(Value.ref C::bm).contains (.type "NameError")=false) {rest:List Value} (hC:h.get? C=some (excClassObj nm q C N bs bm hdct sn sub ab col dd k0 k1 k2 k3 k5 newId))
    (hq:R (.ok (.ret (.ref (h.objs.size+1)))) ⟨(h.push { cls:=.type "tuple", data:=.seq rest.toArray }).push
      { cls:=.ref C,data:=.fields #[.ref h.objs.size,.none,.none,.none,.bool false,.none] },g,d,t,os⟩) (hrest:rest.length≤sizeLine:=by size_fits) :
    codeAny (model prog w) A (.builtin newId ⟨.ref C::rest,[]⟩) R ⟨h,g,d,t,os⟩:=by
  have hends:=Fn.ends
  refine codeAny_builtinAt Fn.entry ?_
  unfold Builtin.«BaseException.__new__»
  refine wpAt_bind ?_
  show wpAt _ _ _ (stack >>= _) _ _ _
  refine wpAt_bind (wpAt_stack fun p below=>wpAt_of_wpAny ?_)
  wp_walk
  refine wpAt_of_wpAny ?_
  rw [Fn.owner]
  repeat (first | with_reducible refine wpAny_madeHere_exc Fn.canon hC ?_ | with_reducible refine wpAny_loadPart_at hC ?_ | (with_reducible refine wpAny_isSubtype_exc hC ?_; first | rw [hcB] | rw [hcA] | rw [hcN]) | wp_step)
  show R _ _
  rw [Heap.size_push]
  exact hq
end
section
variable {prog:Program} {w:World} {A:Around} {E:Value→Shared→Prop} {h:Heap} {g:Array GenState} {d:Drawn} {t:Nat} {os:OsState}
variable {nm q:Str} {C N:Addr} {bs bm:List Value} {hdct:Bool} {sn:List Str} {sub:List Value} {ab:Bool} {col:Option Bool} {dd:Option Addr} {k0 k1 k2 k3 k5:Option Value} {Bn newId inN:String} {bmN:List Value}
abbrev excObj (C:Addr) (dx:Option Addr) (vs:Array Value):Obj:={ cls:=.ref C,dict:=dx,data:=.fields vs }
abbrev excNew (C a:Addr):Obj:=excObj C none #[.ref a,.none,.none,.none,.bool false,.none]
theorem type_call_initX (Fn:ExcBaseFacts Bn newId inN bmN) (hcB:(Value.ref C::bm).contains (.type Bn)=true) (hcA:(Value.ref C::bm).contains (.type "AttributeError")=false) (hcN:(Value.ref C::bm).contains (.type "NameError")=false) {rest:List Value} {fI:Addr} {oI:Obj} {Q:Fin→Shared→Prop}
    (hC:h.get? C=some (excClassObj nm q C N bs bm hdct sn sub ab col dd k0 k1 k2 k3 k5 newId)) (hi:PySem.W.Looks (model prog w) h (typeLookup (.ref C) "__init__") (some (.ref fI)))
    (hfI:h.get? fI=some oI) (hfc:oI.cls=.type "function")
    (hq:wpAny (model prog w) A (call (.ref fI) (.ref (h.objs.size+1)::rest)) (fun r s'=>r=.none∧Q (.done (.ret (.ref (h.objs.size+1)))) s') E ⟨(h.push { cls:=.type "tuple", data:=.seq rest.toArray }).push (excNew C h.objs.size),g,d,t,os⟩) (hrest:rest.length≤sizeLine:=by size_fits) :
    wpAny (model prog w) A (Builtin.«type.__call__» ⟨.ref C::rest,[]⟩) Q E ⟨h,g,d,t,os⟩:=by
  repeat (first | with_reducible refine wpAny_loadPart_at hC ?_ | with_reducible refine wpAny_madeBy_exc hC ?_ | wp_step)
  refine codeAny_call_builtin_code (Code.quiet_builtin _ Fn.quiet) (check_newX Fn hcB hC ?_)
  refine exc_newX Fn hcB hcA hcN hC ?_ hrest
  show wpAny _ _ _ _ _ _
  have hC₁:=Heap.get?_push_of_some (excNew C h.objs.size) (Heap.get?_push_of_some { cls:=.type "tuple", data:=.seq rest.toArray } hC)
  have hfI₁:=Heap.get?_push_of_some (excNew C h.objs.size) (Heap.get?_push_of_some { cls:=.type "tuple", data:=.seq rest.toArray } hfI)
  have hget:((h.push { cls:=.type "tuple", data:=.seq rest.toArray }).push (excNew C h.objs.size)).get? (h.objs.size+1)=some (excNew C h.objs.size):=by heap_get
  have hcC:(Value.ref C::bm).contains (.ref C)=true:=by simp
  unfold isInstance
  repeat (first | with_reducible refine wpAny_loadPart_at hget ?_ | (with_reducible refine wpAny_isSubtype_exc hC₁ ?_; rw [hcC]) | wp_step)
  show wpAny _ _ (typeLookup (.ref C) _) _ _ _
  refine hi _ _ _ _ (fun b o e=>Heap.get?_push_of_some _ (Heap.get?_push_of_some _ e)) ?_
  refine wpAny_holding (wpAny_bind ?_)
  unfold bindSpecial
  refine wpAny_bind (wpAny_typeOf (T := "function") ⟨_,hfI₁,hfc⟩ ?_)
  rw [if_pos (by decide)]
  refine wpAny_pure (wpAny_bind (wpAny_mono hq (fun r s' hr=>?_) fun _ _ x=>x))
  obtain ⟨rfl,hQ⟩:=hr
  wp_walk
  exact hQ
theorem call_exc_initX (Fn:ExcBaseFacts Bn newId inN bmN) (hcB:(Value.ref C::bm).contains (.type Bn)=true) (hcA:(Value.ref C::bm).contains (.type "AttributeError")=false) (hcN:(Value.ref C::bm).contains (.type "NameError")=false) {rest:List Value} {fI:Addr} {oI:Obj} {Q:Value→Shared→Prop}
    (hC:h.get? C=some (excClassObj nm q C N bs bm hdct sn sub ab col dd k0 k1 k2 k3 k5 newId)) (hi:PySem.W.Looks (model prog w) h (typeLookup (.ref C) "__init__") (some (.ref fI)))
    (hfI:h.get? fI=some oI) (hfc:oI.cls=.type "function")
    (hq:wpAny (model prog w) (A.under (.builtin "type.__call__" ⟨.ref C::rest,[]⟩)) (call (.ref fI) (.ref (h.objs.size+1)::rest)) (fun r s'=>r=.none∧Q (.ref (h.objs.size+1)) s') E ⟨(h.push { cls:=.type "tuple", data:=.seq rest.toArray }).push (excNew C h.objs.size),g,d,t,os⟩) (hrest:rest.length≤sizeLine:=by size_fits) :
    wpAny (model prog w) A (call (.ref C) rest) Q E ⟨h,g,d,t,os⟩:=by
  have f1:=tc_lookup
  have f2:=tc_bind (.ref C)
  have hT:(⟨h,g,d,t,os⟩:Shared).TypeIs (.ref C) "type" := ⟨_,hC,rfl⟩
  refine wpAny_call (codeAny_of_tree ?_)
  show wpAny _ _ (callAny (.ref C) _) _ _ _
  repeat (any_goals (first | assumption | with_reducible refine wpAny_loadPart_at hC ?_ | wp_step))
  refine ⟨rfl,?_⟩
  refine codeAny_call_builtin_at (Code.quiet_builtin _ (by decide +kernel)) entry_typeCall (wpAny_check_type_call_sub hC (type_call_initX (hrest:=hrest) Fn hcB hcA hcN hC hi hfI hfc ?_))
  exact hq
end
end L2
namespace L2
open PySem PySem.Spec PyProof.Rows
def ObP (e:Addr) (p:Obj→Prop):HO:=.ext fun h=>∃ o,h.get? e=some o∧p o
theorem ObP.ok {P:Program} {w:World} {H:Hp} {h:Heap} {e:Addr} {p:Obj→Prop} {o:Obj} (ho:h.get? e=some o) (hp:p o):ObjOk P w H h e (ObP e p) :=
  ⟨⟨o,ho,hp⟩,⟨o,ho⟩,fun _ _ ⟨o,ho,hp⟩ k=>⟨o,k o ho,hp⟩⟩
theorem ObP.get {P:Program} {w:World} {H:Hp} {h:Heap} {e:Addr} {p:Obj→Prop} (x:HOk P w H h) (he:H e=some (ObP e p)):∃ o,h.get? e=some o∧p o:=(x e _ he).1
abbrev vs6 (a:Addr):Array Value:=#[.ref a,.none,.none,.none,.bool false,.none]
def ExcN (C e:Addr):HO:=ObP e fun o=>∃ a,o=excObj C none (vs6 a)
def ExcD (C e dx:Addr):HO:=ObP e fun o=>∃ a,o=excObj C (some dx) (vs6 a)
def ExcT (C e dx:Addr):HO:=ObP e fun o=>∃ vs,o=excObj C (some dx) vs∧vs.size=6
structure MkX (K:PySem.W.Frag) (C f:Addr):Prop where
  obj:∃ (nm q:Str) (N:Addr) (bs bm:List Value) (hdct:Bool) (sn:List Str) (sub:List Value) (ab:Bool) (col:Option Bool) (dd:Option Addr) (k0 k1 k2 k3 k5:Option Value),K.lookup C=some (excClassObj nm q C N bs bm hdct sn sub ab col dd k0 k1 k2 k3 k5 "ValueError.__new__") ∧
    (Value.ref C::bm).contains (.type "ValueError")=true∧(Value.ref C::bm).contains (.type "AttributeError")=false∧(Value.ref C::bm).contains (.type "NameError")=false
  init:PySem.W.findIn K (.ref C) "__init__" = some (some (.ref f))
  fn:∃ o,K.lookup f=some o∧o.cls=.type "function"
  kp:PySem.W.keepIn K (.ref C)=true
section
variable {X:Cx} {CX:CXT} {k:Nat} {f C:Addr} {fd:FuncData} {ps:List Str} {sp:Sp} {dvs:List V} {ds:List Value} {E:XK} {x m:Str} {p pos apos:Pos} {e o:Expr} {es:List Expr} {ta:TE} {t:TA}
theorem run_makeX {pins:List (Addr × Obj)} {σ:St} {H:Hp} {s:Shared} {Q:VK} {us:List Value} {vs:List V} (M:MkX X.K C f) (Fo:FnOk X.prog X.w X.K X.mg X.base CX k f fd ps sp) (hr:Room (k+1) X.A) (hb:Binds X.K fd ps ds) (hd:Vals dvs ds)
    (hx:Passes CX X E) (I:Inv X pins σ H s) (r:Vals vs us) (hz:vs.length≤sizeLine)
    (h:∀ e,H e=none→sp (.ref e::(vs++dvs)) (upd H e (ExcN C e)) (fun v H2=>v=.non∧Q (.ref e) H2) E) :
    wpAny (model X.prog X.w) X.A (call (.ref C) us) (EP X pins σ Q) X.xe s:=by
  have hf:H (s.heap.objs.size+1)=none:=I.hok.fresh (Nat.le_succ _)
  have hq:=h (s.heap.objs.size+1) hf
  obtain ⟨nm,q,N,bs,bm,hdct,sn,sub,ab,col,dd,k0,k1,k2,k3,k5,lk,c1,c2,c3⟩:=M.obj
  obtain ⟨oI,lf,hfc⟩:=M.fn
  obtain ⟨hh,g,d,tk,os⟩:=s
  have I1:Inv X pins σ H { heap:=hh.push { cls:=.type "tuple", data:=.seq us.toArray },gens:=g,drawn:=d,toks:=tk,os:=os }:=I.kept (t':=tk) fun b o e=>Heap.get?_push_of_some _ e
  have sz1:(hh.push { cls:=.type "tuple", data:=.seq us.toArray }).objs.size=hh.objs.size+1:=Heap.size_push ..
  have I2:Inv X pins σ (upd H (hh.objs.size+1) (ExcN C (hh.objs.size+1))) { heap:=(hh.push { cls:=.type "tuple", data:=.seq us.toArray }).push (excNew C hh.objs.size),gens:=g,drawn:=d,toks:=tk,os:=os } :=
    I1.laid (t':=tk) (fun b o e=>Heap.get?_push_of_some _ e) (Nat.le_of_eq sz1) (ObP.ok (o:=excNew C hh.objs.size) (by rw [← sz1]; exact Heap.get?_push_size _ rfl) ⟨_,rfl⟩)
  have r2:Vals (V.ref (hh.objs.size+1)::(vs++dvs)) (Value.ref (hh.objs.size+1)::(us++ds)):=.cons rfl (r.append hd)
  have hl:(Value.ref (hh.objs.size+1)::us++ds).length=ps.length:=by
    have e:=r2.length
    rw [Fo.len _ _ _ _ hq] at e
    exact e.symm
  refine call_exc_initX PySem.F.excBase_ValueError c1 c2 c3 (I.kIn _ _ lk) (PySem.W.looks_findIn I.kIn M.init) (I.kIn _ _ lf) hfc ?_ (by rw [← r.length]; exact hz)
  refine wpAny_call (codeAny_mono (Fo.run _ X.stack _ _ ⟨Value.ref (hh.objs.size+1)::us,[]⟩ (Value.ref (hh.objs.size+1)::(us++ds)) _ _ E (hr.make C us []) (I2.env0.make C us []) (hb _ (Value.ref (hh.objs.size+1)::us) I2.kIn hl) r2 hq) fun r s' hq'=>?_)
  cases r with
  | error e=>exact hx pins σ _ _ e s' I2 hq'
  | ok fl =>
    cases fl with
    | ret u =>
      obtain ⟨v,H',I3,rv,ev,q3⟩:=I2.after hq'
      subst ev
      exact ⟨rv,⟨V.ref (hh.objs.size+1),H',I3,rfl,q3⟩⟩
    | next=>exact False.elim hq'
    | brk=>exact False.elim hq'
    | cont=>exact False.elim hq'
def tMakeX (C:Addr) (sp:Sp) (dvs:List V) (E:XK) (t:TA):TE:=fun σ H Q=>t σ H fun vs H1=>vs.length≤sizeLine∧∀ e,H1 e=none →
  sp (.ref e::(vs++dvs)) (upd H1 e (ExcN C e)) (fun v H2=>v=.non∧Q (.ref e) H2) E
theorem pe_makeX0 (M:MkX X.K C f) (F:FnOk X.prog X.w X.K X.mg X.base CX k f fd ps sp) (hr:Room (k+1) X.A) (hg:Gl X x) (hm:X.mg x=some (.ref C)) (hb:Binds X.K fd ps ds) (hd:Vals dvs ds) (hx:Passes CX X E)
    (hdb:(x == ("__debug__" : Str))=false:=by decide):PE X (.Call (.Name x p) [] [] pos) (tMakeX C sp dvs E tNil):=by
  intro pins s σ H Q I h
  refine wpAny_Call_Name_kw (ld_glob I hg hm ?_ hdb)
  exact PySem.W.callWith_K0 I.kIn M.kp (run_makeX (us:=[]) M F hr hb hd hx I .nil h.1 h.2)
end
end L2
namespace L2
open PySem PySem.Spec PyProof.Rows
structure ClsFn (K:PySem.W.Frag) (C f:Addr) (name:Str):Prop where
  ga:PySem.W.specialIn K (.ref C) "__getattribute__" = some (some (.builtin "type.__getattribute__"))
  rd:PySem.W.readsIn K C (.type "type")=true
  fc:(match PySem.W.findCls K (.ref C) (.type "type") name with | some (.val v)=>some v | _=>none)=some (.ref f)
  kp:PySem.W.keepIn K (.ref f)=true
theorem ClsFn.find {K:PySem.W.Frag} {C f:Addr} {name:Str} (c:ClsFn K C f name):PySem.W.findCls K (.ref C) (.type "type") name=some (.val (.ref f)):=by
  have h:=c.fc
  split at h
  · rename_i v e
    cases h
    exact e
  · cases h
section
variable {X:Cx} {CX:CXT} {k:Nat} {f C:Addr} {fd:FuncData} {ps:List Str} {sp:Sp} {dvs:List V} {ds:List Value} {E:XK} {x m:Str} {p pos apos:Pos} {e o:Expr} {es:List Expr} {ta:TE} {t:TA}
theorem pe_clscall {pl:Sem Bool} (hg:Gl X x) (hm:X.mg x=some (.ref C)) (c:ClsFn X.K C f m) (Fo:FnOk X.prog X.w X.K X.mg X.base CX k f fd ps sp) (hr:Room k X.A) (hb:Binds X.K fd ps ds) (hd:Vals dvs ds) (hx:Passes CX X E) (ha:PA X (e::es) t) (hdb:(x == ("__debug__" : Str))=false:=by decide)
    (hst:starEach (e::es) X.env=(false,eval e X.env)::starEach es X.env:=by rfl) (hpl:(backTo pos (starEach es X.env)).any (·.1)=false:=by rfl)
    (ht:eval (.Call (.Attribute (.Name x p) m apos) (e::es) [] pos) X.env=(do
      let ov ← eval (.Name x p) X.env
      standAt apos.atName
      let (f,first) ← holding [ov] (getMethod ov m pl)
      callWith pos f first (backTo pos (starEach (e::es) X.env)) (backToKw pos (keywordEach [] X.env))):=by rfl) :
    PE X (.Call (.Attribute (.Name x p) m apos) (e::es) [] pos) (tCall sp dvs E t):=by
  intro pins s σ H Q I h
  refine PySem.W.methodCall_KW (pl:=pl) ?_ ht
  refine thn (pe_glob (v:=.ref C) hg hm rfl hdb pins s σ H (fun v H'=>v=.ref C∧H'=H) I ⟨rfl,rfl⟩) fun u s1 ⟨v,H1,I1,r1,ev,eH⟩=>?_
  subst ev eH
  cases r1
  refine PySem.W.method_cls I1.kIn c.ga (PySem.W.cls_value I1.kIn c.rd c.find rfl ?_)
  have I2:=I1.tok (s1.toks+1)
  refine PySem.W.callWith_K (first:=[]) (h₀:=X.base) I2.ok.mod.kin c.kp (thn (ha pos pins _ σ H1 _ I2 h) fun us s2 ⟨vs,H2,I3,r,q⟩=>⟨I3.kIn,?_⟩) hst hpl
  exact run_fn Fo hr hb hd hx I3 r q
end
section
variable {prog:Program} {w:World} {A:Around} {E:Value→Shared→Prop} {h:Heap} {g:Array GenState} {d:Drawn} {t:Nat} {os:OsState}
variable {nm q:Str} {C N:Addr} {bs bm:List Value} {hdct:Bool} {sn:List Str} {sub:List Value} {ab:Bool} {col:Option Bool} {dd:Option Addr} {k0 k1 k2 k3 k5:Option Value} {B newId nid initId inN:String} {bmN bmB:List Value}
theorem check_initX (Fb:ExcBaseFacts B nid initId bmB) (hcB:(Value.ref C::bm).contains (.type B)=true) {M:Model} {e:Addr} {oe:Obj} {rest:List Value} {Q:Unit→Shared→Prop}
    (hC:h.get? C=some (excClassObj nm q C N bs bm hdct sn sub ab col dd k0 k1 k2 k3 k5 newId)) (he:h.get? e=some oe) (hcls:oe.cls=.ref C) (hq:Q () ⟨h,g,d,t,os⟩) :
    wpAny M A (checkBuiltinCall initId ⟨.ref e::rest,[]⟩) Q E ⟨h,g,d,t,os⟩:=by
  have hshort:=Fb.noStar
  simp only [checkBuiltinCall,Fb.initKind,Fb.initSplit,Fb.initRow]
  repeat (first | (with_reducible refine wpAny_loadPart_at he ?_; rw [hcls]) | with_reducible refine wpAny_loadPart_at hC ?_ | (with_reducible refine wpAny_isSubtype_exc hC ?_; rw [hcB]) | wp_step)
  refine wpAny_onRaise ?_
  rw [show ∀ (a b:String) (n:Nat),Bind.check ⟨.positional, "*", B,.self,[⟨"args", .varPos,false⟩]⟩ a b n (List.map (fun x=>x.fst) ({ pos:=Value.ref e::rest }:Args).kw)=pure () from
    fun a b n=>check_star_args _ _ _ _ _ _]
  exact wpAny_pure hq
theorem exc_initX (Fb:ExcBaseFacts B nid initId bmB) (hcB:(Value.ref C::bm).contains (.type B)=true) {e a:Addr} {dx:Option Addr} {rest:List Value} {Q:Value→Shared→Prop}
    (hC:h.get? C=some (excClassObj nm q C N bs bm hdct sn sub ab col dd k0 k1 k2 k3 k5 newId)) (he:h.get? e=some (excObj C dx (vs6 a))) (hrest:rest.length≤sizeLine)
    (hq:Q .none ⟨(h.push { cls:=.type "tuple", data:=.seq rest.toArray }).update e (Obj.mapFields (·.setIfInBounds 0 (.ref h.objs.size))),g,d,t,os⟩) :
    wpAny (model prog w) A (call (.builtin initId) (.ref e::rest)) Q E ⟨h,g,d,t,os⟩:=by
  refine wpAny_call (codeAny_call_builtin Fb.init.plain Fb.initEntry (check_initX Fb hcB hC he rfl ?_))
  wp_walk
  exact hq
end
end L2
namespace L2
open PySem PySem.Spec PyProof.Rows
theorem val_find {K:PySem.W.Frag}:PySem.W.findCls K (.type "ValueError") (.type "type") "__init__" = some (.val (.builtin "ValueError.__init__")):=by
  with_unfolding_all rfl
theorem val_type:typeOf (.type "ValueError")=pure (.type "type"):=by
  kernel_rfl
theorem upd_id {H:Hp} {e:Addr} {o:HO} (h:H e=some o):upd H e o=H:=by
  funext b
  unfold upd
  split
  · rename_i z
    rw [z,h]
  · rfl
section
variable {prog:Program} {w:World} {A:Around} {E:Value→Shared→Prop} {s:Shared} {K:PySem.W.Frag} {name:Str}
theorem method_typeX {T:String} {v:Value} {pl:Sem Bool} {Q:Value × List Value→Shared→Prop} (X:K.In s.heap) (ht:typeOf (.type T)=pure (.type "type")) (hs:Manifest.isStub T=false)
    (e:PySem.W.findCls K (.type T) (.type "type") name=some (.val v)) (hh:PySem.W.handedIn v=true) (h:Q (v,[]) { s with toks:=s.toks+1 }):wpAny (model prog w) A (getMethod (.type T) name pl) Q E s:=by
  have hstub:opaqueClassAbove (.type T)=pure none:=by unfold opaqueClassAbove; dsimp only; rw [hs]; rfl
  have L0:PySem.W.Looks (model prog w) s.heap (typeOf (.type T)) (.type "type"):=PySem.W.Looks.of_pure ht
  have hg:PySem.W.findIn K (.type "type") "__getattribute__" = some (some (.builtin "type.__getattribute__")):=PySem.W.type_tga
  unfold getMethod specialOf
  refine wpAny_bind (wpAny_bind (L0.here ((PySem.W.looks_findIn X hg).here ?_)))
  dsimp only
  rw [if_pos PySem.W.canon_tga]
  refine wpAny_bind (wpAny_mono (Q:=fun v=>Q (v,[])) (E:=E) ?_ (fun _ _ z=>wpAny_pure z) fun _ _ z=>z)
  have LO:PySem.W.Looks (model prog w) s.heap (opaqueClassAbove (.type T)) none:=PySem.W.Looks.of_pure hstub
  refine PySem.W.cls_open X LO L0 hg (PySem.W.looks_hook X (r:=none) (by rfl)) (by show PySem.W.subIn K _ _=_; rfl) e
    (wpAny_pure (by show wpAny _ _ (PySem.handedOut v) _ _ _; rw [PySem.W.handedOut_of hh]; exact wpAny_pure h))
end
section
variable {X:Cx} {p pos apos:Pos} {e1 e2:Expr} {t:TA}
theorem boot_val:bootBuiltins ("ValueError" : Str)=some (.type "ValueError"):=by decide +kernel
theorem pe_valinit {pl:Sem Bool} (hg:Gl X "ValueError") (hm:X.mg "ValueError" = none) (ha:PA X [e1,e2] t)
    (hst:starEach [e1,e2] X.env=(false,eval e1 X.env)::starEach [e2] X.env:=by rfl) (hpl:(backTo pos (starEach [e2] X.env)).any (·.1)=false:=by rfl)
    (ht:eval (.Call (.Attribute (.Name "ValueError" p) "__init__" apos) [e1,e2] [] pos) X.env=(do
      let ov ← eval (.Name "ValueError" p) X.env
      standAt apos.atName
      let (f,first) ← holding [ov] (getMethod ov "__init__" pl)
      callWith pos f first (backTo pos (starEach [e1,e2] X.env)) (backToKw pos (keywordEach [] X.env))):=by rfl) :
    PE X (.Call (.Attribute (.Name "ValueError" p) "__init__" apos) [e1,e2] [] pos) (fun σ H Q=>t σ H fun vs H1=>∃ e C f x,vs=[.ref e,x]∧H1 e=some (ExcN C e)∧MkX X.K C f∧Q .non H1):=by
  intro pins s σ H Q I h
  refine PySem.W.methodCall_KW (pl:=pl) ?_ ht
  have hP:PE X (.Name "ValueError" p) (tC (V.ty "ValueError")):=pe_bltn hg hm boot_val rfl
  refine thn (hP pins s σ H (fun v H'=>v=.ty "ValueError" ∧ H'=H) I ⟨rfl,rfl⟩) fun u s1 ⟨v,H1,I1,r1,ev,eH⟩=>?_
  subst ev eH
  cases r1
  refine method_typeX I1.kIn val_type (by decide +kernel) val_find rfl ?_
  have I2:=I1.tok (s1.toks+1)
  have hA:=ha pos pins _ σ H1 _ I2 h
  rw [hst] at hA ⊢
  refine Calls.callWith_builtin (by show (false || (backTo pos (starEach [e2] X.env)).any (·.1))=false; rw [hpl] <;> rfl) (Calls.evalArgs_plain ?_)
  refine thn hA fun us s2 ⟨vs,H2,I3,r2,e,C,f,x,ev,he,M,q⟩=>?_
  subst ev
  cases r2 with
  | cons r rr =>
    cases rr with
    | @cons _ u2 _ _ r' rr =>
      cases rr
      cases r
      obtain ⟨nm,qn,N,bs,bm,hdct,sn,sub,ab,col,dd,k0,k1,k2,k3,k5,lk,c1,c2,c3⟩:=M.obj
      obtain ⟨o,ho,a,rfl⟩:=ObP.get I3.hok he
      obtain ⟨hh,g,d,tk,os⟩:=s2
      show wpAny _ _ (call (.builtin "ValueError.__init__") (.ref e::[u2])) _ _ _
      refine exc_initX PySem.F.excBase_ValueError c1 (I3.kIn _ _ lk) ho (by show 1≤sizeLine; decide) ?_
      have I4:Inv X pins σ H2 { heap:=hh.push { cls:=.type "tuple", data:=.seq [u2].toArray },gens:=g,drawn:=d,toks:=tk,os:=os }:=I3.kept (t':=tk) fun b o e=>Heap.get?_push_of_some _ e
      have ho4:=Heap.get?_push_of_some { cls:=.type "tuple", data:=.seq [u2].toArray } ho
      have hu:=Heap.get?_update_self (Obj.mapFields (·.setIfInBounds 0 (Value.ref hh.objs.size))) ho4 rfl
      have I5:Inv X pins σ (upd H2 e (ExcN C e)) { heap:=(hh.push { cls:=.type "tuple", data:=.seq [u2].toArray }).update e (Obj.mapFields (·.setIfInBounds 0 (Value.ref hh.objs.size))),gens:=g,drawn:=d,toks:=tk,os:=os } :=
        I4.write (x:=e) (e:=e) (t':=tk) (by rw [he]; exact trivial) (.inl rfl) (fun b u hb hu=>(Heap.get?_update_other _ _ (Ne.symm hb)).trans hu) ⟨_,hu⟩ (ObP.ok hu ⟨hh.objs.size,rfl⟩)
      rw [upd_id he] at I5
      exact ⟨.non,H2,I5,rfl,q⟩
end
end L2
namespace L2
open PySem Builtin Builtin.ObjectAttr
section
variable {prog:Program} {w:World} {A:Around} {E:Value→Shared→Prop} {h:Heap} {g:Array GenState} {d:Drawn} {t:Nat} {os:OsState}
variable {nm q:Str} {C N x:Addr} {bs bm:List Value} {sn:List Str} {sub:List Value} {ab:Bool} {col:Option Bool} {dd:Option Addr} {k0 k1 k2 k3 k5:Option Value} {newId:String} {name:Str} {v:Value} {vs:Array Value}
theorem check_saX {M:Model} {B sa owner:String} {bmB:List Value} {o:Obj} {nameV:Value} {Q:Unit→Shared→Prop} (SF:StoreFacts B bmB sa owner) (hcB:(Value.ref C::bm).contains (.type owner)=true)
    (hC:h.get? C=some (excClassObj nm q C N bs bm true sn sub ab col dd k0 k1 k2 k3 k5 newId)) (hx:h.get? x=some o) (hc:o.cls=.ref C) (hq:Q () ⟨h,g,d,t,os⟩) :
    wpAny M A (checkBuiltinCall sa ⟨[.ref x,nameV,v],[]⟩) Q E ⟨h,g,d,t,os⟩:=by
  have ha:=SF.args (.ref x) nameV v
  simp only [checkBuiltinCall,SF.kind,SF.split]
  refine wpAny_bind ?_
  · unfold isInstance
    repeat (first | (with_reducible refine wpAny_loadPart_at hx ?_; rw [hc]) | (with_reducible refine wpAny_isSubtype_exc hC ?_; rw [hcB]) | wp_step)
    cases hsig:Manifest.signature? sa with
    | none=>exact wpAny_pure hq
    | some sig =>
      simp only [argsOk,hsig] at ha
      have h2:Bind.checkArgs sa sig ⟨[.ref x,nameV,v],[]⟩=pure ():=ha
      show wpAny M A (Bind.checkArgs sa sig ⟨[.ref x,nameV,v],[]⟩) Q E _
      rw [h2]; exact wpAny_pure hq
theorem store_entryX {tk:Tok} {Q:Fin→Shared→Prop} (hpass:refuseLoop (.ref x) "__setattr__" (.ref C::bm)=pure ())
    (hC:h.get? C=some (excClassObj nm q C N bs bm true sn sub ab col dd k0 k1 k2 k3 k5 newId)) (hL:PySem.W.Looks (model prog w) h (typeLookup (.ref C) name) none) {o:Obj} (hx:h.get? x=some o) (hc:o.cls=.ref C) (hdn:o.dict=none) (hnc:∀ c,o.data ≠ .cls c)
    (hq:∀ h' tk',h'.get? x=some { cls:=o.cls,dict:=some h.objs.size,data:=o.data,slots:=o.slots }→h'.Ns1 h.objs.size (fun y=>if y=name then some v else none)→(∀ b o,b ≠ x→h.get? b=some o→h'.get? b=some o)→Q (.done (.ret .none)) ⟨h',g,d,tk',os⟩) :
    wpAny (model prog w) A (Builtin.«object.__setattr__» ⟨[.ref x,.str name tk,v],[]⟩) Q E ⟨h,g,d,t,os⟩:=by
  have hL':∀ {A':Around} {E':Value→Shared→Prop} {Q':Option Value→Shared→Prop} {t':Nat},Q' none ⟨h,g,d,t',os⟩→wpAny (model prog w) A' (typeLookup (.ref C) name) Q' E' ⟨h,g,d,t',os⟩:=fun q'=>hL _ _ _ _ (fun _ _ e=>e) q'
  unfold Builtin.«object.__setattr__»
  repeat (first | rw [refuse_eq] | (rw [hpass]) | (with_reducible refine wpAny_loadPart_at hx ?_; rw [hc]) | with_reducible refine wpAny_mroOf_exc hC ?_ | (with_reducible refine hL' ?_) | wp_step)
  rw [hdn,if_neg (by simp [typeHasDict])]
  split
  · rename_i hcd
    cases hcd
  split
  · rename_i c hcd
    exact absurd hcd (hnc c)
  · have hx₁:(h.push { cls:=.type "dict", data:=.dict #[] }).get? x=some o:=Heap.get?_push_of_some _ hx
    have hxs:x ≠ h.objs.size:=Nat.ne_of_lt (Heap.lt_size hx)
    refine wpAny_bind (wpAny_alloc' ?_)
    refine wpAny_bind (wpAny_update' hx₁ ?_)
    refine wpAny_pure ?_
    have hgd:((h.push { cls:=.type "dict", data:=.dict #[] }).update x fun o=>{ cls:=o.cls,dict:=some h.objs.size,data:=o.data,slots:=o.slots }).get? h.objs.size
        = some { cls:=.type "dict", data:=.dict #[] } :=
      (Heap.get?_update_ne _ _ _ _ hxs.symm).trans (Heap.get?_push_at rfl rfl)
    have hnd:((h.push { cls:=.type "dict", data:=.dict #[] }).update x fun o=>{ cls:=o.cls,dict:=some h.objs.size,data:=o.data,slots:=o.slots }).Ns h.objs.size (fun _=>none) :=
      ⟨_,#[],_,hgd,rfl,fun e he=>absurd he (by simp),fun _=>rfl⟩
    show wpAny _ _ (storeInDict h.objs.size (.str name tk) name v) _ _ _
    unfold storeInDict newKeyGuard
    refine wpAny_bind (wpAny_pure (wpAny_bind (wpAny_nsSet1 (Heap.Ns1.of_empty hnd) fun h' hn' hs=>?_)))
    obtain ⟨oD,esD,epD,hoD,hdD,hcD⟩:=hn'.count (Within.cons name v Within.nil)
    refine wpAny_bind (wpAny_lookBehind hoD (by rw [hdD]; exact pastItsLine_dict (Nat.le_trans hcD (by rw [List.length_cons,List.length_nil,sizeLine_eq]; omega))) ?_)
    wp_walk
    refine hq h' _ ?_ hn' fun b ob hbx hb=>?_
    · refine (hs.2 x hxs).trans (Heap.get?_update_self _ hx₁ ?_)
      have hfr:=(Heap.get?_some_iff.mp hx).2
      obtain ⟨oc,od,odt,osl⟩:=o
      cases odt <;> first | rfl | exact hfr
    · exact (hs.2 b (Nat.ne_of_lt (Heap.lt_size hb))).trans ((Heap.get?_update_ne _ _ _ _ hbx).trans (Heap.get?_push_of_some _ hb))
theorem store_attrX {B sa owner:String} {bmB:List Value} {Q:Unit→Shared→Prop} (SF:StoreFacts B bmB sa owner) (hcO:(Value.ref C::bm).contains (.type owner)=true) (hpass:refuseLoop (.ref x) "__setattr__" (.ref C::bm)=pure ())
    (hC:h.get? C=some (excClassObj nm q C N bs bm true sn sub ab col dd k0 k1 k2 k3 k5 newId)) (hS:PySem.W.Looks (model prog w) h (typeLookup (.ref C) "__setattr__") (some (.builtin sa)))
    (hL:PySem.W.Looks (model prog w) h (typeLookup (.ref C) name) none) {o:Obj} (hx:h.get? x=some o) (hc:o.cls=.ref C) (hdn:o.dict=none) (hnc:∀ c,o.data ≠ .cls c)
    (hq:∀ h' tk',h'.get? x=some { cls:=o.cls,dict:=some h.objs.size,data:=o.data,slots:=o.slots }→h'.Ns1 h.objs.size (fun y=>if y=name then some v else none)→(∀ b o,b ≠ x→h.get? b=some o→h'.get? b=some o)→Q () ⟨h',g,d,tk',os⟩) :
    wpAny (model prog w) A (setAttr (.ref x) name v) Q E ⟨h,g,d,t,os⟩:=by
  have f3:=SF.slot.bind (.ref x)
  have hS':∀ {A':Around} {E':Value→Shared→Prop} {Q':Option Value→Shared→Prop} {t':Nat},Q' (some (.builtin sa)) ⟨h,g,d,t',os⟩→wpAny (model prog w) A' (typeLookup (.ref C) "__setattr__") Q' E' ⟨h,g,d,t',os⟩:=fun q'=>hS _ _ _ _ (fun _ _ e=>e) q'
  unfold setAttr callSpecial? specialOf
  repeat (any_goals (first | assumption | (with_reducible refine wpAny_loadPart_at hx ?_; rw [hc]) | (with_reducible refine hS' ?_) | wp_step))
  refine codeAny_call_builtin SF.slot.plain SF.entry (check_saX SF hcO hC hx hc (store_entryX hpass hC hL hx hc hdn hnc fun h' tk' i1 i2 i3=>?_))
  repeat (any_goals (first | assumption | wp_step))
  exact hq h' tk' i1 i2 i3
end
end L2
namespace L2
open PySem Builtin Builtin.ObjectAttr
section
variable {prog:Program} {w:World} {A:Around} {E:Value→Shared→Prop} {h:Heap} {g:Array GenState} {d:Drawn} {t:Nat} {os:OsState} {a dx:Addr} {o:Obj} {v:Value}
  {nm q:Str} {C N:Addr} {bs bm:List Value} {sn:List Str} {sub:List Value} {ab:Bool} {col:Option Bool} {dd:Option Addr} {k0 k1 k2 k3 k5:Option Value} {newId:String} {mA:Str→Option Value} {name:Str}
end
end L2
namespace L2
open PySem Builtin Builtin.ObjectAttr
section
variable {prog:Program} {w:World} {A:Around} {E:Value→Shared→Prop} {h:Heap} {g:Array GenState} {d:Drawn} {t:Nat} {os:OsState} {a dx:Addr} {o:Obj} {v:Value}
  {nm q:Str} {C N:Addr} {bs bm:List Value} {sn:List Str} {sub:List Value} {ab:Bool} {col:Option Bool} {dd:Option Addr} {k0 k1 k2 k3 k5:Option Value} {newId:String} {mA:Str→Option Value} {name:Str}
end
end L2
namespace L2
open PySem Builtin Builtin.ObjectAttr
section
variable {prog:Program} {w:World} {A:Around} {E:Value→Shared→Prop} {h:Heap} {g:Array GenState} {d:Drawn} {t:Nat} {os:OsState} {a:Addr} {o:Obj}
  {nm q:Str} {C N:Addr} {bs bm:List Value} {sn:List Str} {sub:List Value} {ab:Bool} {col:Option Bool} {dd:Option Addr} {k0 k1 k2 k3 k5:Option Value} {newId:String}
end
end L2
namespace L2
open PySem PySem.Spec PyProof.Rows
abbrev bmV:List Value:=[.type "ValueError", .type "Exception", .type "BaseException", .type "object"]
structure ClsX (K:PySem.W.Frag) (C CA:Addr):Prop where
  obj:∃ (nm q:Str) (N:Addr) (bs:List Value) (sn:List Str) (sub:List Value) (ab:Bool) (col:Option Bool) (dd:Option Addr) (k0 k1 k2 k3 k5:Option Value),K.lookup C=some (excClassObj nm q C N bs (.ref CA::bmV) true sn sub ab col dd k0 k1 k2 k3 k5 "ValueError.__new__")
  set:PySem.W.findIn K (.ref C) "__setattr__" = some (some (.builtin "object.__setattr__"))
  ga:PySem.W.findIn K (.ref C) "__getattribute__" = some (some (.builtin "BaseException.__getattribute__"))
  gt:PySem.W.findIn K (.ref C) "__getattr__" = some none
  cl:PySem.W.findIn K (.ref C) "__class__" = some (some (.builtin "object.__class__"))
section
variable {C CA:Addr}
theorem cX_val:(Value.ref C::.ref CA::bmV).contains (.type "ValueError")=true:=by simp [bmV]
theorem cX_base:(Value.ref C::.ref CA::bmV).contains (.type "BaseException")=true:=by simp [bmV]
theorem cX_obj:(Value.ref C::.ref CA::bmV).contains (.type "object")=true:=by simp [bmV]
theorem cX_attr:(Value.ref C::.ref CA::bmV).contains (.type "AttributeError")=false:=by
  rw [List.contains_cons,List.contains_cons]
  rfl
theorem cX_name:(Value.ref C::.ref CA::bmV).contains (.type "NameError")=false:=by
  rw [List.contains_cons,List.contains_cons]
  rfl
theorem pass_X (self:Value):refuseLoop self "__setattr__" (.ref C::.ref CA::bmV)=pure ():=by
  rw [refuseLoop_ref,refuseLoop_ref]
  exact PySem.F.store_ValueError.passes self
theorem ClsX.mk' {K:PySem.W.Frag} {f:Addr} (c:ClsX K C CA) (init:PySem.W.findIn K (.ref C) "__init__" = some (some (.ref f))) (fn:∃ o,K.lookup f=some o∧o.cls=.type "function") (kp:PySem.W.keepIn K (.ref C)=true):MkX K C f:=by
  obtain ⟨nm,q,N,bs,sn,sub,ab,col,dd,k0,k1,k2,k3,k5,lk⟩:=c.obj
  exact ⟨⟨nm,q,N,bs,_,_,sn,sub,ab,col,dd,k0,k1,k2,k3,k5,lk,cX_val,cX_attr,cX_name⟩,init,fn,kp⟩
end
def XAt (H:Hp) (e C dx:Addr):Prop:=H e=some (ExcD C e dx)∨H e=some (ExcT C e dx)
section
variable {X:Cx} {pins:List (Addr × Obj)} {σ:St} {H:Hp} {s:Shared} {h':Heap} {e dx:Addr} {φ:Heap→Prop} {o1 o2:HO}
theorem Inv.ext2 {t':Nat} (I:Inv X pins σ H s) (he:H e=some (.ext φ)) (hp:s.heap.objs.size≤dx) (k:∀ b u,b ≠ e→s.heap.get? b=some u→h'.get? b=some u) (heo:∃ u,h'.get? e=some u)
    (n1:ObjOk X.prog X.w (upd (upd H dx o1) e o2) h' dx o1) (n2:ObjOk X.prog X.w (upd (upd H dx o1) e o2) h' e o2):Inv X pins σ (upd (upd H dx o1) e o2) { s with heap:=h',toks:=t' }:=by
  have hdn:H dx=none:=I.hok.fresh hp
  have ne:∀ b u,H b=some u→(∀ ψ,u ≠ .ext ψ)→b ≠ e∧b ≠ dx:=fun b u hb hu=>⟨fun z=>by rw [z,he] at hb; cases hb; exact hu _ rfl,ne_of_none hb hdn⟩
  have old:∀ b,b ≠ e→b ≠ dx→upd (upd H dx o1) e o2 b=H b:=fun b h1 h2=>by rw [upd_ne h1,upd_ne h2]
  have fr:∀ b u,s.heap.get? b=some u→b ≠ dx:=fun b u q=>Nat.ne_of_lt (Nat.lt_of_lt_of_le (Heap.lt_size q) hp)
  have nn:∀ b,H b=none→b ≠ e:=fun b n z=>by rw [z,he] at n; cases n
  refine I.un ⟨fun b u q n _ _=>k b u (nn b n) q,fun b u q n _ _=>⟨u.slots,k b u (nn b n) q⟩,fun b u q n _=>?_,fun b u q _=>?_,fun b xs q=>?_,fun b u xs q=>?_,fun b ps q=>⟨#[],?_⟩⟩ fun b u q=>?_
  · rw [old b (nn b n) (fr b u q)]
    exact n
  · by_cases hb:b=e
    · rw [hb]; exact heo
    · exact ⟨u,k b u hb q⟩
  · obtain ⟨h1,h2⟩:=ne b _ q (fun ψ z=>by cases z)
    rw [old b h1 h2]
    exact q
  · obtain ⟨h1,h2⟩:=ne b _ q (fun ψ z=>by cases z)
    rw [old b h1 h2]
    exact q
  · obtain ⟨h1,h2⟩:=ne b _ q (fun ψ z=>by cases z)
    rw [old b h1 h2,q]
    simp
  · by_cases hb:b=e
    · subst hb
      rw [upd_same] at q
      cases q
      exact n2
    · by_cases hb2:b=dx
      · subst hb2
        rw [upd_ne hb,upd_same] at q
        cases q
        exact n1
      · rw [old b hb hb2] at q
        refine (I.hok b u q).stay (fun c v hc r=>k c v ?_ r) (fun c r=>?_) fun c xs r=>?_
        · rcases hc with rfl | hc
          · exact hb
          · exact (ne c _ hc (fun ψ z=>by cases z)).1
        · obtain ⟨h1,h2⟩:=ne c _ r (fun ψ z=>by cases z)
          rw [old c h1 h2]
          exact r
        · obtain ⟨h1,h2⟩:=ne c _ r (fun ψ z=>by cases z)
          rw [old c h1 h2]
          exact r
end
section
variable {X:Cx} {o e value:Expr} {f:Str} {pos pos' tpos:Pos} {ta tv:TE}
theorem ps_fldX (ha:PE X o ta) (hv:PE X value tv) (hs:swapsWith value (some (.Attribute o f pos')) pos.line X.env=pure false) :
    PS X (.Assign [.Attribute o f pos'] value pos) (fun D σ H=>tv σ H fun y H1=>ta σ H1 fun x H2=>∃ e C CA,x=.ref e∧H2 e=some (ExcN C e)∧ClsX X.K C CA∧NoAttr X.K C f∧∀ dx,H2 dx=none→dx ≠ e→D.nx σ (upd (upd H2 dx (.xd [(f,y)])) e (ExcD C e dx))):=by
  intro pins s σ H D I h
  refine plainObj_wpAny_Assign_Attribute (thn (hv pins s σ H _ I h) fun u s1 ⟨y,H1,I1,ry,q⟩=>thn (ha pins s1 σ H1 _ I1 q) fun ov s2 ⟨x,H2,I2,rx,e,C,CA,ex,he,c,n,q2⟩=>?_) hs
  subst ex
  obtain rfl:ov=Value.ref e:=rx
  obtain ⟨nm,qn,N,bs,sn,sub,ab,col,dd,k0,k1,k2,k3,k5,lk⟩:=c.obj
  obtain ⟨ob,ho,a,rfl⟩:=ObP.get I2.hok he
  obtain ⟨hh,g,d,tk,os⟩:=s2
  refine store_attrX PySem.F.store_ValueError cX_obj (pass_X _) (I2.kIn _ _ lk) (PySem.W.looks_findIn I2.kIn c.set) (PySem.W.looks_findIn I2.kIn n) ho rfl rfl (fun _ z=>by cases z) fun h' tk' i1 i2 i3=>?_
  have hd:H2 hh.objs.size=none:=I2.hok.fresh (Nat.le_refl _)
  have hde:hh.objs.size ≠ e:=fun z=>by rw [z,he] at hd; cases hd
  refine ⟨σ,_,I2.ext2 (t':=tk') (dx:=hh.objs.size) (e:=e) (o1:=.xd [(f,y)]) (o2:=ExcD C e hh.objs.size) he (Nat.le_refl _) (fun b u hb q=>i3 b u hb q) ⟨_,i1⟩ ⟨_,i2,fun z=>?_⟩ (ObP.ok i1 ⟨a,rfl⟩),q2 _ hd hde⟩
  by_cases hz:z=f
  · subst hz
    rw [if_pos rfl,show ([(z,y)]:List (Str × V)).lookup z=some y by simp [List.lookup]]
    exact ry
  · rw [if_neg hz]
    have:([(f,y)]:List (Str × V)).lookup z=none:=by
      have hb:(z == f)=false:=beq_eq_false_iff_ne.mpr hz
      simp only [List.lookup,hb]
    rw [this]
    trivial
end
end L2
namespace L2
open PySem PySem.Spec PyProof.Rows
section
variable {X:Cx}
def rIsiX (K:PySem.W.Frag):List V→Hp→VK→Prop:=fun xs H Q=>∃ e C CA dx c b,xs=[.ref e,c]∧XAt H e C dx∧ClsX K C CA ∧
  ((∃ D,c=.ref D∧PySem.W.kitOne K (.ref C) (.ref D)=some b)∨(∃ T,c=.ty T∧PySem.W.kitOne K (.ref C) (.type T)=some b)∨∃ (tp:Addr) (Ds:List Addr),c=.ref tp∧H tp=some (.tup (Ds.map V.ref))∧PySem.W.kitAny K (.ref C) (Ds.map Value.ref)=some b)∧Q (.bl b) H
end
end L2
namespace L2
open PySem PySem.Spec PyProof.Rows
section
variable {X:Cx}
def FmV (v:V) (y:Str):Prop:=(∃ i:Int,v=.int i∧i.natAbs.log2 < 1920∧y=toString i)∨v=.str y∨(v=.non∧y = "None")
theorem pe_fmtV {e:Expr} {te:TE} {pos:Pos} (he:PE X e te):PE X (.FormattedValue e (-1) none pos) (fun σ H Q=>te σ H fun v H1=>∃ y,FmV v y∧y.length≤sizeLine∧Q (.str y) H1):=by
  intro pins s σ H Q I h
  refine FormattedValue_plain (thn (he pins s σ H _ I h) fun v s1 ⟨x,H1,I1,r1,y,ex,hz,q⟩=>?_)
  rcases ex with ⟨i,rfl,hl,rfl⟩ | rfl | ⟨rfl,rfl⟩
  · obtain ⟨t',rfl⟩:=r1
    exact formatField_int_small hl ⟨.str (toString i),H1,I1.tok _,⟨_,rfl⟩,q⟩
  · obtain ⟨t',rfl⟩:=r1
    exact formatField_str (fun t'' tk=>⟨.str y,H1,I1.tok _,⟨_,rfl⟩,q⟩) hz
  · obtain rfl:v=Value.none:=r1
    exact PySem.wpAny_formatField_none ⟨.str "None", H1,I1.tok _,⟨_,rfl⟩,q⟩
end
structure FunD (K:PySem.W.Frag) (x qual:Str) (st:Stmt) (f:Addr) (fd:FuncData) (dV:Value):Prop where
  ex:∃ (oc:Value) (od:Option Addr) (kV doc pm:Value) (an:Option Addr) (cdv ct:Value) (osl:Array (Option Value)),
    fd=PySem.W.fnOf x qual (defArgs st) (defBody st) (defScope st) dV kV doc pm an cdv ct∧K.lookup f=some ⟨oc,od,.func fd,osl⟩∧PySem.W.codeIn K cdv qual=true
  kp:PySem.W.keepIn K (.ref f)=true
section
variable {P:Program} {w:World} {K:PySem.W.Frag} {mg:Str→Option Value} {base:Heap} {dV:Value}
theorem FunD.ok {x qual:Str} {st:Stmt} {f:Addr} {fd:FuncData} {N ps:List Str} {k:Nat} {sp:Sp} (F:FunD K x qual st f fd dV) (S:FnScope N ps (defScope st)) (len:∀ vs H Q E,sp vs H Q E→vs.length=ps.length)
    (hbody:∀ (cdv:Value) (A:Around) (outer:List Env) (s:Shared) (H:Hp) (vs:List V) (Q:VK) (E:XK),Room k (A.deeper (envOfC qual (defScope st) s.heap.objs.size f cdv))→sp vs H Q E →
      ∃ t,PSs (cxOf CX0 P w K mg base N qual (defScope st) f cdv A outer s H E).nox (defBody st) t∧t { nx:=fun _ H'=>Q .non H',rt:=Q } (start N vs) H):FnOk P w K mg base CX0 (k+1) f fd ps sp:=by
  obtain ⟨oc,od,kV,doc,pm,an,cdv,ct,osl,rfl,lk,hcd⟩:=F.ex
  refine fn_of lk hcd S len fun A outer s H vs Q E hr hsp=>?_
  obtain ⟨t,h,q⟩:=hbody cdv A outer s H vs Q E hr hsp
  exact ⟨t,h.nox,q⟩
theorem funD_mk {x qual:Str} {st:Stmt} {f:Addr} {oc:Value} {od an:Option Addr} {osl:Array (Option Value)} {kV doc pm cdv ct:Value} (l:K.lookup f=some ⟨oc,od,.func (PySem.W.fnOf x qual (defArgs st) (defBody st) (defScope st) dV kV doc pm an cdv ct),osl⟩)
    (c:PySem.W.codeIn K cdv qual=true) (k:PySem.W.keepIn K (.ref f)=true):FunD K x qual st f (PySem.W.fnOf x qual (defArgs st) (defBody st) (defScope st) dV kV doc pm an cdv ct) dV:=⟨⟨oc,od,kV,doc,pm,an,cdv,ct,osl,rfl,l,c⟩,k⟩
theorem Fun.toD {x qual:Str} {st:Stmt} {f:Addr} {fd:FuncData} (F:Fun K x qual st f fd):FunD K x qual st f fd .none:=⟨F.ex,F.kp⟩
end
section
variable {K:PySem.W.Frag} {C D CA:Addr}
end
def Ex (H:Hp) (e C:Addr) (f:Str) (v:V):Prop:=∃ dx,H e=some (ExcD C e dx)∧H dx=some (.xd [(f,v)])
end L2
namespace L2
open PySem PySem.Spec PyProof.Rows
def Fly (h:Heap) (e C dx:Addr):Prop:=∃ vs,h.get? e=some (excObj C (some dx) vs)∧vs.size=6∧(vs[1]?=some .none∨∃ T oT ts,vs[1]?=some (.ref T)∧T ≠ e∧h.get? T=some oT∧oT.data=.fields ts∧ts[3]?=some .none)
structure Lft (fs:List Addr) (e:Addr) (h h':Heap):Prop where
  keep:∀ b o,h.get? b=some o→b ∉ fs→b ≠ e→h'.get? b=some o
  slot:∀ b o,h.get? b=some o→b ≠ e→∃ sl,h'.get? b=some { o with slots:=sl }
section
variable {M:Model} {A:Around} {E:Value→Shared→Prop} {s:Shared}
theorem newEntryX {base:Heap} {env:Env} {outer:List Env} {L e C dx:Addr} {vs:Array Value} {head:Value} {hadNext:Bool} {Q:Unit→Shared→Prop}
    (hfr:A.frames=some (env::outer)) (hl:s.heap.FunFrames base (env::outer)) (hf:env.frame=some L)
    (he:s.heap.get? e=some (excObj C (some dx) vs)) (hsz:vs.size=6)
    (h:∀ h',Lft ((env::outer).filterMap (·.frame)) e s.heap h'→Fly h' e C dx→Q () { s with heap:=h' }) :
    wpAny M A (do let a ← frameOf env; let pl ← entryPlaceOf L hadNext; let b ← EntryCells.newEntry head a .none (rawInt L) .none pl; setField (.ref e) 1 b) (fun _ s'=>wpAny M A (setFlight (.ref e) none) Q E s') E s:=by
  have hd:(excObj C (some dx) vs).data=.fields vs:=rfl
  have hs1:1 < vs.size:=by omega
  have hene:e ∉ (env::outer).filterMap (·.frame):=fun hm=>by
    obtain ⟨_,o,ho,hnf⟩:=hl.mem hm
    rw [he] at ho; injection ho with ho; subst ho; exact hnf vs hd
  refine wpAny_bind (wpAny_frameOf_fun hfr hl hf fun h₁ hs₁=>?_)
  refine wpAny_bind (wpAny_entryPlaceOf fun pl hpl=>?_)
  unfold EntryCells.newEntry newFields
  refine wpAny_bind (wpAny_newObj_type ?_ (hpl.sizeOk5 _ _ _ _ _))
  have he₁:h₁.get? e=some (excObj C (some dx) vs):=(hs₁.2.1 e hene).trans he
  have he₂:=Heap.get?_push_of_some (h:=h₁) { cls:=.type "traceback", dict:=none,data:=.fields ([head,.ref L,.none,rawInt L,.none]++(if pl.isEmpty then List.replicate 6 Value.none else pl)).toArray } he₁
  refine wpAny_setField he₂ hd hs1 ?_
  have hTe:h₁.objs.size ≠ e:=Nat.ne_of_gt (Heap.lt_size he₁)
  have hd₃:=Obj.data_mapFields hd (·.setIfInBounds 1 (Value.ref h₁.objs.size))
  have he₃:=Heap.get?_update_self (Obj.mapFields (·.setIfInBounds 1 (Value.ref h₁.objs.size))) he₂ (Obj.isFreed_of_fields hd₃)
  have hT₃:=(Heap.get?_update_other (h₁.push { cls:=.type "traceback", dict:=none,data:=.fields ([head,.ref L,.none,rawInt L,.none]++(if pl.isEmpty then List.replicate 6 Value.none else pl)).toArray })
    (Obj.mapFields (·.setIfInBounds 1 (Value.ref h₁.objs.size))) (Ne.symm hTe)).trans (Heap.get?_push_size h₁ rfl)
  unfold setFlight
  refine wpAny_bind (wpAny_field he₃ hd₃ (x:=.ref h₁.objs.size) (by simp [hs1]) ?_)
  rw [if_pos (show (Value.ref h₁.objs.size != Value.none)=true from by simp)]
  refine wpAny_setField hT₃ rfl (by simp only [List.size_toArray,List.length_append,List.length_cons,List.length_nil] <;> omega) ?_
  have keep:∀ b o,b ≠ e→h₁.get? b=some o →
      (((h₁.push { cls:=.type "traceback", dict:=none,data:=.fields ([head,.ref L,.none,rawInt L,.none]++(if pl.isEmpty then List.replicate 6 Value.none else pl)).toArray }).update e (Obj.mapFields (·.setIfInBounds 1 (Value.ref h₁.objs.size)))).update h₁.objs.size
        (Obj.mapFields (·.setIfInBounds 3 ((none:Option Addr).elim Value.none fun f=>rawInt f)))).get? b=some o:=fun b o hbe hb=>by
    have hbT:h₁.objs.size ≠ b:=Nat.ne_of_gt (Heap.lt_size hb)
    rw [Heap.get?_update_other _ _ hbT,Heap.get?_update_other _ _ (Ne.symm hbe)]
    exact Heap.get?_push_of_some _ hb
  refine h _ ⟨fun b o hb hn hbe=>keep b o hbe ((hs₁.2.1 b hn).trans hb),fun b o hb hbe=>?_⟩ ⟨vs.setIfInBounds 1 (.ref h₁.objs.size),?_,?_,.inr ⟨h₁.objs.size,_,_,?_,hTe,Heap.get?_update_self _ hT₃ (Obj.isFreed_of_fields (Obj.data_mapFields rfl _)),Obj.data_mapFields rfl _,?_⟩⟩
  · obtain ⟨sl,hs⟩:=hs₁.2.2 b o hb
    exact ⟨sl,keep b _ hbe hs⟩
  · rw [Heap.get?_update_other _ _ hTe]
    exact he₃
  · simp [hsz]
  · simp [hs1]
  · first | (simp; done) | (rcases hpl with rfl | ⟨_,_,_,_,_,_,_,rfl⟩ <;> simp)
theorem set_same {ts:Array Value} {i:Nat} {v:Value} (h:ts[i]?=some v):ts.setIfInBounds i v=ts:=by
  obtain ⟨hi,e⟩:=Array.getElem?_eq_some_iff.mp h
  refine Array.ext (by simp) fun j h1 h2=>?_
  rw [Array.getElem_setIfInBounds]
  · by_cases hj:i=j
    · subst hj
      rw [if_pos rfl,← e]
    · rw [if_neg hj]
theorem note_run {base:Heap} {env:Env} {outer:List Env} {L e C dx:Addr} {Q:Unit→Shared→Prop}
    (hfr:A.frames=some (env::outer)) (hl:s.heap.FunFrames base (env::outer)) (hf:env.frame=some L) (he:Fly s.heap e C dx)
    (h:∀ h',Lft ((env::outer).filterMap (·.frame)) e s.heap h'→Fly h' e C dx→Q () { s with heap:=h' }) :
    wpAny M A (noteFrame (.ref e) env) (fun _ s'=>wpAny M A (setFlight (.ref e) none) Q E s') E s:=by
  obtain ⟨vs,he,hz,hv⟩:=he
  have hd:(excObj C (some dx) vs).data=.fields vs:=rfl
  unfold noteFrame
  simp only [hf]
  rcases hv with h1 | ⟨T,oT,ts,h1,hTe,hT,hdT,h3⟩
  · refine wpAny_bind (wpAny_field he hd h1 ?_)
    rw [if_neg (by decide)]
    exact newEntryX hfr hl hf he hz h
  · refine wpAny_bind (wpAny_field he hd h1 ?_)
    rw [if_pos (show (Value.ref T != Value.none)=true from by simp)]
    refine wpAny_bind (wpAny_field hT hdT h3 ?_)
    rw [if_neg (show ¬ ((Value.none == rawInt L)=true) from by simp [rawInt])]
    refine wpAny_bind (wpAny_setField hT hdT (Array.getElem?_eq_some_iff.mp h3).1 ?_)
    have id:∀ b o,s.heap.get? b=some o→(s.heap.update T (Obj.mapFields (·.setIfInBounds 3 Value.none))).get? b=some o:=fun b o hb=>by
      by_cases hbT:b=T
      · subst hbT
        rw [hT] at hb
        cases hb
        have hm:Obj.mapFields (·.setIfInBounds 3 Value.none) oT=oT:=by
          obtain ⟨c,d,dt,sl⟩:=oT
          cases hdT
          show ({ cls:=c,dict:=d,data:=.fields (ts.setIfInBounds 3 Value.none),slots:=sl }:Obj)=_
          rw [set_same h3]
        have:=Heap.get?_update_self (Obj.mapFields (·.setIfInBounds 3 Value.none)) hT (by rw [hm]; exact (Heap.get?_some_iff.mp hT).2)
        rw [this,hm]
      · rw [Heap.get?_update_other _ _ (Ne.symm hbT)]
        exact hb
    refine newEntryX (s:={ s with heap:=_ }) hfr (hl.of_keeps fun b o hb _=>⟨o,id b o hb,rfl⟩) hf (id _ _ he) hz fun h' x1 x2=>h h' ⟨fun b o hb hn hbe=>x1.keep b o (id b o hb) hn hbe,fun b o hb hbe=>x1.slot b o (id b o hb) hbe⟩ x2
theorem leave_run {base:Heap} {env:Env} {outer:List Env} {L e C dx:Addr} {Q:Unit→Shared→Prop}
    (hfr:A.frames=some (env::outer)) (hl:s.heap.FunFrames base (env::outer)) (hf:env.frame=some L) (he:Fly s.heap e C dx)
    (h:∀ h',Lft ((env::outer).filterMap (·.frame)) e s.heap h'→Fly h' e C dx→Q () { s with heap:=h' }):wpAny M A (leaving env (.ref e)) Q E s:=by
  unfold leaving
  exact wpAny_bind (note_run hfr hl hf he h)
theorem flight_run {e C dx:Addr} {Q:Unit→Shared→Prop} (he:Fly s.heap e C dx) (h:∀ h',(∀ b o,s.heap.get? b=some o→h'.get? b=some o)→Q () { s with heap:=h' }):wpAny M A (setFlight (.ref e) none) Q E s:=by
  obtain ⟨vs,he,hz,hv⟩:=he
  have hd:(excObj C (some dx) vs).data=.fields vs:=rfl
  unfold setFlight
  rcases hv with h1 | ⟨T,oT,ts,h1,hTe,hT,hdT,h3⟩
  · refine wpAny_bind (wpAny_field he hd h1 ?_)
    rw [if_neg (by decide)]
    exact wpAny_pure (h s.heap fun _ _ q=>q)
  · refine wpAny_bind (wpAny_field he hd h1 ?_)
    rw [if_pos (show (Value.ref T != Value.none)=true from by simp)]
    refine wpAny_setField hT hdT (Array.getElem?_eq_some_iff.mp h3).1 (h _ fun b o hb=>?_)
    show (s.heap.update T (Obj.mapFields (·.setIfInBounds 3 Value.none))).get? b=some o
    by_cases hbT:b=T
    · subst hbT
      rw [hT] at hb
      cases hb
      have hm:Obj.mapFields (·.setIfInBounds 3 Value.none) oT=oT:=by
        obtain ⟨c,d,dt,sl⟩:=oT
        cases hdT
        show ({ cls:=c,dict:=d,data:=.fields (ts.setIfInBounds 3 Value.none),slots:=sl }:Obj)=_
        rw [set_same h3]
      have:=Heap.get?_update_self (Obj.mapFields (·.setIfInBounds 3 Value.none)) hT (by rw [hm]; exact (Heap.get?_some_iff.mp hT).2)
      rw [this,hm]
    · rw [Heap.get?_update_other _ _ (Ne.symm hbT)]
      exact hb
end
end L2
namespace L2
open PySem PySem.Spec PyProof.Rows
section
variable {P:Program} {w:World} {H:Hp} {h h':Heap} {fs:List Addr} {e C dx:Addr} {φ:Heap→Prop}
theorem Fly.ofD (x:HOk P w H h) (he:H e=some (ExcD C e dx)):Fly h e C dx:=by
  obtain ⟨o,ho,a,rfl⟩:=ObP.get x he
  exact ⟨_,ho,rfl,.inl rfl⟩
theorem lft_un (l:Lft fs e h h') (he:H e=some (.ext φ)) (fl:Fly h' e C dx):Un fs [] H (upd H e (ExcT C e dx)) h h':=by
  have nn:∀ b,H b=none→b ≠ e:=fun b n z=>by rw [z,he] at n; cases n
  have ne:∀ b u,H b=some u→(∀ ψ,u ≠ .ext ψ)→b ≠ e:=fun b u hb hu z=>by rw [z,he] at hb; cases hb; exact hu _ rfl
  refine ⟨fun b o q n hb _=>l.keep b o q hb (nn b n),fun b o q n _ _=>l.slot b o q (nn b n),fun b o _ n _=>by rw [upd_ne (nn b n)]; exact n,fun b o q _=>?_,fun b xs q=>?_,fun b o u q=>?_,fun b ps q=>⟨#[],?_⟩⟩
  · by_cases hb:b=e
    · obtain ⟨vs,h1,_⟩:=fl
      exact ⟨_,by rw [hb]; exact h1⟩
    · obtain ⟨sl,h1⟩:=l.slot b o q hb
      exact ⟨_,h1⟩
  · rw [upd_ne (ne b _ q fun ψ z=>by cases z)]
    exact q
  · rw [upd_ne (ne b _ q fun ψ z=>by cases z)]
    exact q
  · rw [upd_ne (ne b _ q fun ψ z=>by cases z),q]
    simp
theorem lft_hok (x:HOk P w H h) (l:Lft fs e h h') (hfs:∀ b ∈ fs,H b=none) (he:H e=some (.ext φ)) (fl:Fly h' e C dx):HOk P w (upd H e (ExcT C e dx)) h':=by
  have ne:∀ b u,H b=some u→(∀ ψ,u ≠ .ext ψ)→b ≠ e:=fun b u hb hu z=>by rw [z,he] at hb; cases hb; exact hu _ rfl
  have nf:∀ b u,H b=some u→b ∉ fs:=fun b u hb z=>by rw [hfs b z] at hb; cases hb
  intro b u q
  by_cases hb:b=e
  · subst hb
    rw [upd_same] at q
    cases q
    obtain ⟨vs,h1,h2,_⟩:=fl
    exact ObP.ok h1 ⟨vs,rfl,h2⟩
  · rw [upd_ne hb] at q
    refine (x b u q).stay (fun c v hc r=>?_) (fun c r=>?_) fun c xs r=>?_
    · rcases hc with rfl | hc
      · exact l.keep _ _ r (nf _ _ q) hb
      · exact l.keep _ _ r (nf _ _ hc) (ne _ _ hc fun ψ z=>by cases z)
    · rw [upd_ne (ne _ _ r fun ψ z=>by cases z)]
      exact r
    · rw [upd_ne (ne _ _ r fun ψ z=>by cases z)]
      exact r
end
def CXr (P:Program) (w:World):CXT:=fun outer H s E e s'=>∃ e0 C dx H',e=.ref e0∧s'.os=s.os∧AllBare s'.gens∧Un (frs outer) [] H H' s.heap s'.heap∧HOk P w H' s'.heap∧H' e0=some (ExcT C e0 dx)∧Fly s'.heap e0 C dx∧E (.ref e0) (some dx) H'
section
variable {P:Program} {w:World} {K:PySem.W.Frag} {mg:Str→Option Value} {base:Heap} {N:List Str} {qual:Str} {scope:Scope} {f:Addr} {cd:Value} {A:Around} {outer:List Env} {s s1:Shared} {H H1:Hp} {E:XK} {pins:List (Addr × Obj)} {σ:St} {e C dx:Addr} {φ:Heap→Prop}
theorem xe_fly (I:Inv (cxOf (CXr P w) P w K mg base N qual scope f cd A outer s H E) pins σ H1 s1) (he:H1 e=some (.ext φ)) (fl:Fly s1.heap e C dx) (q:E (.ref e) (some dx) (upd H1 e (ExcT C e dx))) :
    (cxOf (CXr P w) P w K mg base N qual scope f cd A outer s H E).xe (.ref e) s1:=by
  show wpAny _ _ (leaving _ (.ref e)) _ _ s1
  refine leave_run (base:=base) I.ok.frames I.stack rfl fl fun h' l fl'=>?_
  have u1:=lft_un (H:=H1) l he fl'
  have k1:=lft_hok I.hok l I.stkFree he fl'
  have b0:Un (frs outer) [] H H1 s.heap s1.heap:=I.base
  have above:s.heap.objs.size≤(cxOf (CXr P w) P w K mg base N qual scope f cd A outer s H E).env.locals:=I.ok.above
  have sub:∀ b o,s.heap.get? b=some o→b ∉ frs outer→b ∉ frs (cxOf (CXr P w) P w K mg base N qual scope f cd A outer s H E).stack:=fun b o q hb z=>by
    rcases List.mem_cons.mp (I.stkSub b z) with z | z
    · have:=Heap.lt_size q
      rw [z] at this
      exact absurd above (Nat.not_le.mpr this)
    · exact hb z
  have u2:=(b0.mono (fs':=frs (cxOf (CXr P w) P w K mg base N qual scope f cd A outer s H E).stack) (ex':=[]) (fun b hb=>by
    show b ∈ List.filterMap _ (_::outer)
    rw [List.filterMap_cons]
    exact List.mem_cons_of_mem _ hb) fun _ z=>z).trans u1
  refine ⟨e,C,dx,_,rfl,I.os,I.bare,⟨fun b o q n hb hx=>u2.keep b o q n (sub b o q hb) hx,fun b o q n _ hx=>u2.any q n hx,u2.free,u2.there,u2.tups,u2.frzs,u2.tbls⟩,k1,upd_same,fl',q⟩
end
section
variable {X:Cx} {x:Expr} {te:TE} {pos:Pos}
end
end L2
namespace L2
open PySem PySem.Spec PyProof.Rows
theorem raise_objX2 {M:Model} {A:Around} {E:Value→Shared→Prop} {s:Shared} {env:Env} {K:PySem.W.Frag} {x:Sem Value} {Q:Flow→Shared→Prop} (hh:A.handled=none)
    (h:wpAny M A x (fun v s₁=>∃ e dx a C CA,v=.ref e∧ClsX K C CA∧K.In s₁.heap∧s₁.heap.get? e=some (excObj C (some dx) (vs6 a))∧E (.ref e) s₁) E s):wpAny M A (raiseStmt env (some x) none) Q E s:=by
  unfold raiseStmt
  refine wpAny_bind (wpAny_mono h (fun v s₁ h₁=>?_) fun _ _ x=>x)
  obtain ⟨e,dx,a,C,CA,rfl,c,KX,he,hE⟩:=h₁
  obtain ⟨nm,q,N,bs,sn,sub,ab,col,dd,k0,k1,k2,k3,k5,lk⟩:=c.obj
  have hcB:=cX_base (C:=C) (CA:=CA)
  have hC:=KX _ _ lk
  obtain ⟨hp,g,d,tk,os⟩:=s₁
  repeat (first | with_reducible refine wpAny_loadPart_at he ?_ | with_reducible refine wpAny_loadPart_at hC ?_ | (with_reducible refine wpAny_isSubtype_exc hC ?_; rw [hcB]) | wp_step)
  exact wpAny_raiseNew_none hh hE
section
variable {P:Program} {w:World} {K:PySem.W.Frag} {mg:Str→Option Value} {base:Heap} {N:List Str} {qual:Str} {scope:Scope} {f:Addr} {cd:Value} {A:Around} {outer:List Env} {s:Shared} {H:Hp} {E:XK}
theorem ps_raise {x:Expr} {te:TE} {pos:Pos} (he:PE (cxOf (CXr P w) P w K mg base N qual scope f cd A outer s H E) x te) :
    PS (cxOf (CXr P w) P w K mg base N qual scope f cd A outer s H E) (.Raise (some x) none pos) (fun _ σ H1=>te σ H1 fun v H2=>∃ e C CA dx,v=.ref e∧H2 e=some (ExcD C e dx)∧ClsX K C CA∧E (.ref e) (some dx) (upd H2 e (ExcT C e dx))):=by
  intro pins s1 σ H1 D I h
  rw [arm_exec_Raise]
  refine wpAny_bind (wpAny_standAt (raise_objX2 (K:=K) (I.ok.hd rfl) ?_))
  refine wpAny_bind (thn (he pins s1 σ H1 _ I h) fun u s2 ⟨v,H2,I2,r,e,C,CA,dx,ev,e2,c,q⟩=>wpAny_bind (wpAny_standAt (wpAny_pure ?_)))
  subst ev
  obtain rfl:u=Value.ref e:=r
  obtain ⟨o,ho,a,rfl⟩:=ObP.get I2.hok e2
  exact ⟨e,dx,a,C,CA,rfl,c,I2.kIn,ho,xe_fly I2 e2 (Fly.ofD I2.hok e2) q⟩
end
section
variable {P:Program} {w:World} {K:PySem.W.Frag} {mg:Str→Option Value} {base:Heap} {dV:Value}
theorem FunD.okX {x qual:Str} {st:Stmt} {f:Addr} {fd:FuncData} {N ps:List Str} {k:Nat} {sp:Sp} (F:FunD K x qual st f fd dV) (S:FnScope N ps (defScope st)) (len:∀ vs H Q E,sp vs H Q E→vs.length=ps.length)
    (hbody:∀ (cdv:Value) (A:Around) (outer:List Env) (s:Shared) (H:Hp) (vs:List V) (Q:VK) (E:XK),Room k (A.deeper (envOfC qual (defScope st) s.heap.objs.size f cdv))→sp vs H Q E →
      ∃ t,PSs (cxOf (CXr P w) P w K mg base N qual (defScope st) f cdv A outer s H E) (defBody st) t∧t { nx:=fun _ H'=>Q .non H',rt:=Q } (start N vs) H):FnOk P w K mg base (CXr P w) (k+1) f fd ps sp:=by
  obtain ⟨oc,od,kV,doc,pm,an,cdv,ct,osl,rfl,lk,hcd⟩:=F.ex
  exact fn_of lk hcd S len fun A outer s H vs Q E hr hsp=>hbody cdv A outer s H vs Q E hr hsp
theorem Fun.okX {x qual:Str} {st:Stmt} {f:Addr} {fd:FuncData} {N ps:List Str} {k:Nat} {sp:Sp} (F:Fun K x qual st f fd) (S:FnScope N ps (defScope st)) (len:∀ vs H Q E,sp vs H Q E→vs.length=ps.length)
    (hbody:∀ (cdv:Value) (A:Around) (outer:List Env) (s:Shared) (H:Hp) (vs:List V) (Q:VK) (E:XK),Room k (A.deeper (envOfC qual (defScope st) s.heap.objs.size f cdv))→sp vs H Q E →
      ∃ t,PSs (cxOf (CXr P w) P w K mg base N qual (defScope st) f cdv A outer s H E) (defBody st) t∧t { nx:=fun _ H'=>Q .non H',rt:=Q } (start N vs) H):FnOk P w K mg base (CXr P w) (k+1) f fd ps sp:=F.toD.okX S len hbody
structure CalR (P:Program) (w:World) (K:PySem.W.Frag) (mg:Str→Option Value) (base:Heap) (n:Nat) (x:Str) (ps:List Str) (sp:Sp):Prop where
  ex:∃ (f:Addr) (fd:FuncData),FnOk P w K mg base (CXr P w) n f fd ps sp∧Binds K fd ps []∧PySem.W.keepIn K (.ref f)=true∧mg x=some (.ref f)
theorem noRaise {X:Cx}:Passes (CXr X.prog X.w) X E0:=by
  rintro pins σ H1 s1 _ s2 I ⟨e0,C,dx,H',rfl,os,bare,un,hok,he,fl,q⟩
  exact q.elim
end
end L2
namespace L2
open PySem PySem.Spec PyProof.Rows
section
variable {M:Model} {A:Around} {E:Value→Shared→Prop}
theorem excMatches_up {K:PySem.W.Frag} {C CA:Addr} {s:Shared} {e:Addr} {oe:Obj} {Q:Bool→Shared→Prop} (c:ClsX K C CA) (X:K.In s.heap) (he:s.heap.get? e=some oe) (hcls:oe.cls=.ref C)
    (hA:∃ (nm q:Str) (N:Addr) (bs:List Value) (sn:List Str) (sub:List Value) (ab:Bool) (col:Option Bool) (dd:Option Addr) (k0 k1 k2 k3 k5:Option Value),K.lookup CA=some (excClassObj nm q CA N bs bmV true sn sub ab col dd k0 k1 k2 k3 k5 "ValueError.__new__"))
    (hq:Q true s):wpAny M A (excMatches (.ref e) (.ref CA)) Q E s:=by
  obtain ⟨nm,q,N,bs,sn,sub,ab,col,dd,k0,k1,k2,k3,k5,lk⟩:=c.obj
  obtain ⟨nm',q',N',bs',sn',sub',ab',col',dd',k0',k1',k2',k3',k5',lk'⟩:=hA
  have hC:=X _ _ lk
  have hA:=X _ _ lk'
  obtain ⟨h,g,d,t,os⟩:=s
  have hcB:(Value.ref CA::bmV).contains (.type "BaseException")=true:=by simp [bmV]
  have hcC:(Value.ref C::.ref CA::bmV).contains (.ref CA)=true:=by simp
  have f:=tc_notTuple
  unfold excMatches
  repeat (first | (with_reducible refine wpAny_loadPart_at he ?_; rw [hcls]) | with_reducible refine wpAny_loadPart_at hA ?_ | (with_reducible refine wpAny_isSubtype_exc hA ?_; rw [hcB]) | (with_reducible refine wpAny_isSubtype_exc hC ?_; rw [hcC]) | wp_step)
  exact hq
end
section
variable {prog:Program} {w:World} {A:Around} {s:Shared} {env:Env} {R:Result→Shared→Prop}
end
abbrev Cx.marked (X:Cx) (e:Addr):Cx:={ X with A:=X.A.mark (some (.ref e)),calm:=false,xe:=fun _ _=>False }
section
variable {X:Cx} {pins:List (Addr × Obj)} {σ:St} {H:Hp} {s:Shared} {e:Addr}
theorem Inv.marked (I:Inv X pins σ H s):Inv (X.marked e) pins σ H s :=
  ⟨⟨I.ok.mod,I.ok.kind,I.ok.glob,I.ok.blt,I.ok.above,I.ok.inj,I.ok.has,I.ok.cab,(fun z=>by cases z),I.ok.frames,I.ok.stk,I.ok.exf,I.ok.bs,I.ok.bsz,I.ok.noex,I.ok.exfs,I.ok.funs,I.ok.frf⟩,I.os,I.bare,I.base,I.loc,I.cell,I.free,I.freeC,I.pin,I.hok,I.len⟩
theorem Inv.unmarked (ok:X.Ok) (I:Inv (X.marked e) pins σ H s):Inv X pins σ H s:=⟨ok,I.os,I.bare,I.base,I.loc,I.cell,I.free,I.freeC,I.pin,I.hok,I.len⟩
theorem SP.unmarked {D:Ends} {f:Flow} {s':Shared} (ok:X.Ok) (h:SP (X.marked e) pins D f s'):SP X pins D f s':=by
  cases f with
  | next=>obtain ⟨σ',H',I,q⟩:=h; exact ⟨σ',H',I.unmarked ok,q⟩
  | brk=>obtain ⟨σ',H',I,q⟩:=h; exact ⟨σ',H',I.unmarked ok,q⟩
  | cont=>obtain ⟨σ',H',I,q⟩:=h; exact ⟨σ',H',I.unmarked ok,q⟩
  | ret u=>obtain ⟨v,σ',H',I,r,q⟩:=h; exact ⟨v,σ',H',I.unmarked ok,r,q⟩
end
end L2
namespace L2
open PySem PySem.Spec PyProof.Rows
def PSw (X:Cx) (EE:Ends→St→XK) (st:List Stmt) (t:TS):Prop :=
  ∀ (W:Value→Shared→Prop) (pins:List (Addr × Obj)) (s:Shared) (σ:St) (H:Hp) (D:Ends),(∀ H1 s1 ev s2,Inv X pins σ H1 s1→CXr X.prog X.w X.stack H1 s1 (EE D σ) ev s2→W ev s2)→Inv X pins σ H s→t D σ H →
    wpAny (model X.prog X.w) X.A (execs st X.env) (SP X pins D) W s
section
variable {X:Cx} {EE:Ends→St→XK} {n k:Nat} {x:Str} {ps:List Str} {sp:Sp} {e:Expr} {es:List Expr} {ta:TA} {p pos:Pos}
def Ends.un (D:Ends) (i:Nat):Ends:={ nx:=fun σ H=>D.nx (σ.set i none) H,rt:=D.rt,bk:=fun σ H=>D.bk (σ.set i none) H,ct:=fun σ H=>D.ct (σ.set i none) H }
def isBaseX (K:PySem.W.Frag) (CA:Addr):Prop:=∃ (nm q:Str) (N:Addr) (bs:List Value) (sn:List Str) (sub:List Value) (ab:Bool) (col:Option Bool) (dd:Option Addr) (k0 k1 k2 k3 k5:Option Value),K.lookup CA=some (excClassObj nm q CA N bs bmV true sn sub ab col dd k0 k1 k2 k3 k5 "ValueError.__new__")
end
end L2
namespace L2
open PySem PySem.Spec PyProof.Rows
section
variable {X:Cx} {e:Expr} {f:Str} {pos:Pos} {ta:TE}
end
end L2
namespace L2
open PySem PySem.Spec PyProof.Rows
def ItVT (K:PySem.W.Frag) (a:Addr) (xs:List V):It:=⟨fun i H=>SqT K H a xs∧i < xs.length,fun i H y H'=>H'=H∧xs.reverse[i]?=some y,fun i _=>xs.length≤i⟩
theorem RevT.keep {h h':Heap} {it t:Addr} {i:Int} (x:RevT h it t i) (k:∀ o,h.get? it=some o→h'.get? it=some o):RevT h' it t i:=k _ x
theorem turn_revT {P:Program} {w:World} {K:PySem.W.Frag} {tg:Expr} (a it:Addr) (xs:List V):Turn P w K tg (ItVT K a xs) [it] it (fun i h=>i≤xs.length∧RevT h it a ((xs.length:Int) - 1 - (i:Int))) where
  mem:=by simp
  obj:=fun i h st b hb=>by
    have e:b=it:=by simpa using hb
    subst e
    exact ⟨_,st.2,fun v z=>by cases z⟩
  keep:=fun i h h' st k=>⟨st.1,st.2.keep fun o e=>k it (by simp) o e⟩
  item:=by
    intro X hP hw hK hc i pins s σ H E I hf st hg
    subst hP hw hK
    obtain ⟨hq,hi⟩:=hg
    obtain ⟨its,rv,p,hz⟩:=I.tuple hq
    have hj:xs.length - 1 - i < xs.length:=by omega
    have hx:xs[xs.length - 1 - i]?=some xs[xs.length - 1 - i]:=List.getElem?_eq_getElem hj
    obtain ⟨u,hu,ru⟩:=rv.get hx
    obtain ⟨f0,f1,f2,f3,f4,f5⟩:=hf it (by simp)
    obtain ⟨_,hit⟩:=st
    have e1:((xs.length:Int) - 1 - (i:Int))=((xs.length - 1 - i:Nat):Int):=by omega
    rw [e1] at hit
    have h63:=line63
    refine next_revT_item hit p (x:=u) (by simpa using hu) (by omega) fun h' tk st' sb=>?_
    have I1:Inv X pins σ H { s with heap:=h',toks:=tk }:=I.turned (t':=tk) (fun b o hb e=>(sb.2 b hb).trans e) f0 f1 f3 f4 f5
    have e2:((xs.length - 1 - i:Nat):Int) - 1=(xs.length:Int) - 1 - ((i+1:Nat):Int):=by omega
    rw [e2] at st'
    refine ⟨u,rfl,go_of (s:={ s with heap:=h',toks:=tk }) st' rfl rfl (by decide) ⟨xs[xs.length - 1 - i],H,I1,ru,⟨rfl,?_⟩,⟨by omega,st'⟩,fun b hb=>(hf b hb).1⟩⟩
    rw [List.getElem?_reverse hi,hx]
  done:=by
    intro X hP hw hK hc i pins s σ H E I hf st hg
    subst hP hw hK
    have hg:xs.length≤i:=hg
    obtain ⟨f0,f1,f2,f3,f4,f5⟩:=hf it (by simp)
    obtain ⟨hi,hit⟩:=st
    have e1:(xs.length:Int) - 1 - (i:Int)=-1:=by omega
    rw [e1] at hit
    exact next_revT_end (I.ok.hd hc) hit fun h' tk eb=>⟨rfl,I.turned (t':=tk) (fun b o hb e=>eb b o hb e) f0 f1 f3 f4 f5⟩
  self:=fun _ _ _ _ _ st h=>iter_revT st.2 h
def ItVB (K:PySem.W.Frag) (c:Bool) (a:Addr) (xs:List V):It:=if c=true then ItV K a xs else ItVT K a xs
section
variable {X:Cx} {tg:Expr}
def iRevB (K:PySem.W.Frag) (tl:TE):TI:=fun σ H R=>tl σ H fun x H1=>∃ c a xs,x=.ref a∧SqB K c H1 a xs∧R (ItVB K c a xs) H1
theorem pi_revb {l:Expr} {tl:TE} {p pos:Pos} (hg:Gl X "reversed") (hm:X.mg "reversed" = none) (hl:PE X l tl) (hs:starEach [l] X.env=[(false,eval l X.env)]:=by rfl) :
    PI X tg (.Call (.Name "reversed" p) [l] [] pos) (iRevB X.K tl):=by
  intro pins s σ H R I h
  refine wpAny_Call_Name_kw (ld_blt I hg hm boot_reversed' ?_)
  refine PyProof.Rows.callWith_type1 ?_ hs rfl
  rw [hs]
  show wpAny _ _ (spliced ((false,eval l X.env)::backTo pos (starEach [] X.env))) _ _ s
  refine Calls.spliced_cons (thn (hl pins s σ H _ I h) fun u s1 ⟨x,H1,I1,r1,c,a,xs,ex,hq,q⟩=>?_)
  subst ex
  cases r1
  refine Calls.spliced_nil ?_
  cases c with
  | true =>
    have hq:SqL X.K H1 a xs:=hq
    have q:R (ItV X.K a xs) H1:=q
    obtain ⟨its,rv,p,hz⟩:=I1.list hq
    have hlen:=rv.length
    refine call_reversed_list p.isList ?_
    have hr:(s1.heap.push (revObj a ((its.toArray.size:Int) - 1))).IsRevIter s1.heap.objs.size a ((xs.length:Int) - 1 - ((0:Nat):Int)):=by
      have e:(xs.length:Int) - 1 - ((0:Nat):Int)=(its.toArray.size:Int) - 1:=by rw [List.size_toArray]; omega
      rw [e]
      exact ⟨_,Heap.get?_push_size _ rfl,rfl,rfl⟩
    refine wpAny_pyIter_revIter hr ?_
    refine ⟨s1.heap.objs.size,[s1.heap.objs.size],_,_,H1,rfl,I1.kept (t':=s1.toks) fun b o e=>Heap.get?_push_of_some _ e,turn_revl a _ xs,⟨Nat.zero_le _,hr⟩,fun b hb=>?_,q⟩
    have e:b=s1.heap.objs.size:=by simpa using hb
    subst e
    exact I1.fpOk (Nat.le_refl _) (I1.hok.fresh (Nat.le_refl _))
  | false =>
    have hq:SqT X.K H1 a xs:=hq
    have q:R (ItVT X.K a xs) H1:=q
    obtain ⟨its,rv,p,hz⟩:=I1.tuple hq
    have hlen:=rv.length
    refine call_reversed_tup p (by rw [List.size_toArray,← rv.length]; exact hz) fun tk=>?_
    have hr:RevT (s1.heap.push { cls:=.type "reversed", data:=.fields #[.ref a,rawInt ((its.toArray.size:Int) - 1)] }) s1.heap.objs.size a ((xs.length:Int) - 1 - ((0:Nat):Int)):=by
      have e:(xs.length:Int) - 1 - ((0:Nat):Int)=(its.toArray.size:Int) - 1:=by rw [List.size_toArray]; omega
      rw [e]
      exact Heap.get?_push_size _ rfl
    refine iter_revT hr ?_
    refine ⟨s1.heap.objs.size,[s1.heap.objs.size],_,_,H1,rfl,I1.kept (t':=tk) fun b o e=>Heap.get?_push_of_some _ e,turn_revT a _ xs,⟨Nat.zero_le _,hr⟩,fun b hb=>?_,q⟩
    have e:b=s1.heap.objs.size:=by simpa using hb
    subst e
    exact I1.fpOk (Nat.le_refl _) (I1.hok.fresh (Nat.le_refl _))
end
theorem for_revb {K:PySem.W.Frag} {c:Bool} {a:Addr} {xs:List V} {g:TG} {tb:TS} {D:Ends} {σ:St} {H:Hp} (Pv:Nat→St→Hp→Prop) (h0:Pv 0 σ H) (hl:∀ i σ H,i≤xs.length→Pv i σ H→SqB K c H a xs)
    (hs:∀ i x σ H,i < xs.length→xs.reverse[i]?=some x→Pv i σ H→g x σ H fun σ2 H2=>tb { D with nx:=Pv (i+1),ct:=Pv (i+1),bk:=D.nx } σ2 H2) (hd:∀ σ H,Pv xs.length σ H→D.nx σ H) :
    ∃ W:Nat→Nat→St→Hp→Prop,(∃ m,W 0 m σ H)∧∀ i m σ H,W i m σ H →
      ((ItVB K c a xs).stop i H∧D.nx σ H)∨((ItVB K c a xs).go i H∧∃ N:St→Hp→Prop,(∀ σ' H',N σ' H'→∃ m',m' < m∧W (i+1) m' σ' H')∧∀ x H',(ItVB K c a xs).yld i H x H'→g x σ H' fun σ2 H2=>tb { D with nx:=N,ct:=N,bk:=D.nx } σ2 H2):=by
  cases c with
  | true=>exact for_revl Pv h0 hl hs hd
  | false =>
    refine ⟨fun i m σ H=>m=xs.length - i∧i≤xs.length∧Pv i σ H,⟨xs.length,by simp,Nat.zero_le _,h0⟩,?_⟩
    rintro i m σ H ⟨rfl,hi,p⟩
    have q:=hl i σ H hi p
    by_cases hlt:i < xs.length
    · refine .inr ⟨⟨q,hlt⟩,Pv (i+1),fun σ' H' p'=>⟨xs.length - (i+1),by omega,rfl,hlt,p'⟩,fun x H' y=>?_⟩
      obtain ⟨e,ex⟩:=y
      subst e
      exact hs i x σ _ hlt ex p
    · have e:i=xs.length:=by omega
      subst e
      exact .inl ⟨Nat.le_refl _,hd σ H p⟩
end L2
namespace L2
open PySem PySem.Spec PyProof.Rows
set_option maxRecDepth 100000
section
variable {X:Cx}
def rRepT (K:PySem.W.Frag):R2:=fun x y H Q=>∃ a v k,x=.ref a∧y=.int k∧SqT K H a [v]∧0≤k∧k≤1000∧(k=1→Q (.ref a) H)∧(k ≠ 1→∀ p,H p=none→Q (.ref p) (upd H p (.tup (List.replicate k.toNat v))))
end
end L2
namespace L2
open PySem PySem.Spec PyProof.Rows
end L2
namespace L2
open PySem PySem.Spec PyProof.Rows
section
variable {M:Model} {A:Around} {E:Value→Shared→Prop}
end
section
variable {X:Cx} {EE:Ends→St→XK} {k:Nat} {m:Str} {ps:List Str} {sp:Sp} {e o:Expr} {es:List Expr} {ta:TE} {t:TA} {f C:Addr} {fd:FuncData} {apos pos:Pos}
theorem methW {pl:Sem Bool} {W:Value→Shared→Prop} {E:XK} {pins:List (Addr × Obj)} {s:Shared} {σ:St} {H:Hp} {Q:VK} (he:PE (X.wish W) o ta) (c:Cls X.K C) (hm:Meth X.K C m f) (F:FnOk X.prog X.w X.K X.mg X.base (CXr X.prog X.w) k f fd ps sp) (hr:Room k X.A) (hb:Binds X.K fd ps []) (ha:PA (X.wish W) (e::es) t)
    (hW:∀ H1 s1 ev s2,Inv X pins σ H1 s1→CXr X.prog X.w X.stack H1 s1 E ev s2→W ev s2) (I:Inv X pins σ H s) (h:tMeth C m sp [] E ta t σ H Q)
    (hst:starEach (e::es) X.env=(false,eval e X.env)::starEach es X.env:=by rfl) (hpl:(backTo pos (starEach es X.env)).any (·.1)=false:=by rfl)
    (ht:eval (.Call (.Attribute o m apos) (e::es) [] pos) X.env=(do
      let ov ← eval o X.env
      standAt apos.atName
      let (f,first) ← holding [ov] (getMethod ov m pl)
      callWith pos f first (backTo pos (starEach (e::es) X.env)) (backToKw pos (keywordEach [] X.env))):=by rfl) :
    wpAny (model X.prog X.w) X.A (eval (.Call (.Attribute o m apos) (e::es) [] pos) X.env) (EP X pins σ Q) W s:=by
  refine PySem.W.methodCall_KW (pl:=pl) (thn (he pins s σ H _ (I.wish W) h) fun u s1 ⟨x,H1,I1,rx,a,dx,fs,ex,ea,l,q⟩=>?_) ht
  subst ex
  obtain rfl:u=Value.ref a:=rx
  refine getmeth_ok (X:=X.wish W) I1 ea c hm l ?_
  refine PySem.W.callWith_K (first:=[.ref a]) (h₀:=X.base) I.ok.mod.kin hm.kp (thn (ha pos pins s1 σ H1 _ I1 q) fun us s2 ⟨vs,H2,I2,r,q2⟩=>⟨I2.kIn,?_⟩) hst hpl
  have I2':=I2.unwish
  have r2:Vals (.ref a::(vs++[])) (.ref a::(us++[])):=.cons rfl (r.append .nil)
  have hl:((.ref a::us)++[]:List Value).length=ps.length:=by
    have:=F.len _ _ _ _ q2
    rw [← this,List.append_nil,List.append_nil]
    simp [r.length]
  refine wpAny_call (codeAny_mono (F.run X.A X.stack s2 H2 ⟨.ref a::us,[]⟩ ((.ref a::us)++[]) (.ref a::(vs++[])) Q E hr I2'.env0 (hb s2 (.ref a::us) I2'.kIn hl) r2 q2) fun r s' hq=>?_)
  cases r with
  | error ev=>exact hW H2 s2 ev s' I2' hq
  | ok fl =>
    cases fl with
    | ret u=>exact I2'.after hq
    | next=>exact False.elim hq
    | brk=>exact False.elim hq
    | cont=>exact False.elim hq
theorem psw_meth {pl:Sem Bool} {p1:Pos} (he:∀ W,PE (X.wish W) o ta) (c:Cls X.K C) (hm:Meth X.K C m f) (F:FnOk X.prog X.w X.K X.mg X.base (CXr X.prog X.w) k f fd ps sp) (hr:Room k X.A) (hb:Binds X.K fd ps []) (ha:∀ W,PA (X.wish W) (e::es) t)
    (hs:swapsWith (.Call (.Attribute o m apos) (e::es) [] pos) none p1.line X.env=pure false:=by rfl)
    (hst:starEach (e::es) X.env=(false,eval e X.env)::starEach es X.env:=by rfl) (hpl:(backTo pos (starEach es X.env)).any (·.1)=false:=by rfl)
    (ht:eval (.Call (.Attribute o m apos) (e::es) [] pos) X.env=(do
      let ov ← eval o X.env
      standAt apos.atName
      let (f,first) ← holding [ov] (getMethod ov m pl)
      callWith pos f first (backTo pos (starEach (e::es) X.env)) (backToKw pos (keywordEach [] X.env))):=by rfl) :
    PSw X EE [.Expr (.Call (.Attribute o m apos) (e::es) [] pos) p1] (fun D σ H=>tMeth C m sp [] (EE D σ) ta t σ H fun _ H1=>D.nx σ H1):=by
  intro W pins s σ H D hW I h
  refine wpAny_execs_cons (wpAny_Expr_any (thn (methW (pl:=pl) (he W) c hm F hr hb (ha W) hW I h hst hpl ht) fun v s1 ⟨z,H1,I1,r1,q1⟩=>wpAny_execs_nil ⟨σ,H1,I1,q1⟩) I.quiet hs)
theorem psw_if {c:Expr} {a b:List Stmt} {tc:TT} {t u:TS} (hc:∀ W,PT (X.wish W) c tc) (ha:PSw X EE a t) (hb:PSw X EE b u):PSw X EE [.If c a b pos] (tIfS tc t u):=by
  intro W pins s σ H D hW I h
  have fin:∀ f s2,SP X pins D f s2→(match f with | .next=>wpAny (model X.prog X.w) X.A (execs [] X.env) (SP X pins D) W s2 | f=>SP X pins D f s2):=fun f s2 q=>by
    cases f with
    | next=>exact wpAny_execs_nil q
    | brk=>exact q
    | cont=>exact q
    | ret v=>exact q
  refine wpAny_execs_cons (wpAny_If (thn (hc W pins s σ H _ (I.wish W) h) fun d s1 ⟨H1,I1,q1⟩=>?_))
  cases d with
  | true=>exact wpAny_mono (ha W pins s1 σ H1 D hW I1.unwish q1) fin fun _ _ z=>z
  | false=>exact wpAny_mono (hb W pins s1 σ H1 D hW I1.unwish q1) fin fun _ _ z=>z
end
end L2
namespace L2
open PySem PySem.Spec PyProof.Rows
def ItB (K:PySem.W.Frag) (c:Bool) (a:Addr):It:=if c=true then Itl K a else Itt K a
section
variable {X:Cx} {tg:Expr}
def iAny (K:PySem.W.Frag) (tl:TE):TI:=fun σ H R=>tl σ H fun x H1=>∃ c a,x=.ref a∧(∃ xs,SqB K c H1 a xs)∧R (ItB K c a) H1
end
end L2
namespace L2
open PySem PySem.Spec PyProof.Rows
section
variable {X:Cx} {EE:Ends→St→XK} {pos:Pos}
theorem ps_tryNA {c:Str} {CA:Addr} {st body:List Stmt} {b₀:Stmt} {pc ph:Pos} {t tb:TS} (hg:Gl X c) (hm:X.mg c=some (.ref CA)) (hA:isBaseX X.K CA)
    (hb:PSw X (fun D σ ev dxo H'=>∃ e C dx,ev=.ref e∧dxo=some dx∧H' e=some (ExcT C e dx)∧ClsX X.K C CA∧tb D σ H') st t) (hh:∀ e,PSs (X.marked e) (b₀::body) tb)
    (hst:X.stack=X.env::X.outer:=by rfl) (hfr:X.env.frame=some X.env.locals:=by rfl) (hdb:(c == ("__debug__" : Str))=false:=by decide) :
    PS X (.Try st [.ExceptHandler (some (.Name c pc)) none (b₀::body) ph] [] [] pos) t:=by
  intro pins s σ H D I h
  refine wpAny_Try_except (wpAny_mono (hb _ pins s σ H D ?_ I h) (fun f s1 q=>?_) fun _ _ z=>z)
  · rintro H1 s1 _ s2 I1 ⟨e,C1,dx0,H2,rfl,os,bare,un,hok,he0,fl,e',C,dx,ee,ed,he,cls,q⟩
    cases ee
    cases ed
    have I2:=I1.call' (ch:=[]) os un hok bare (fun b z=>absurd z (by simp))
    refine note_run (base:=X.base) (env:=X.env) (outer:=X.outer) (by rw [← hst]; exact I2.ok.frames) (by rw [← hst]; exact I2.stack) hfr fl fun h' l fl'=>?_
    have u:=lft_un (H:=H2) l he0 fl'
    have kk:=lft_hok I2.hok l (by
      have z:=I2.stkFree
      rw [hst] at z
      exact z) he0 fl'
    rw [upd_id he0] at u kk
    have I3:Inv X pins σ H2 { s2 with heap:=h' }:=I2.call' (ch:=[]) rfl (by rw [hst]; exact u) kk I2.bare (fun b z=>absurd z (by simp))
    refine wpAny_handleBy_cons (codeAny_handlers_test (ld_glob (X:=X.marked e) (I3.marked (e:=e)) hg hm ?_ hdb)) (by intro z; cases z)
    obtain ⟨o,ho,vs,rfl,_⟩:=ObP.get I3.hok he
    refine excMatches_up cls I3.kIn ho rfl hA ?_
    refine codeAny_handlers_suite ?_
    refine flight_run fl' fun h'' kp=>?_
    have I4:Inv X pins σ H2 { s2 with heap:=h'' }:=I3.kept (t':=s2.toks) kp
    refine wpAny_mono (hh e pins _ σ H2 D (I4.marked (e:=e)) q) (fun f s6 q6=>?_) fun _ _ z=>z.elim
    exact SP.unmarked I.ok q6
  · cases f with
    | next=>exact wpAny_execs_nil q
    | brk=>exact q
    | cont=>exact q
    | ret v=>exact q
end
end L2
namespace Mine
def Pr (n:Int):Prop:=2≤n∧∀ k:Int,2≤k→k≤1000→k*k≤n→n % k ≠ 0
def PrUpTo (n:Int) (j:Int):Prop:=∀ k:Int,2≤k→k < j→k*k≤n∧n % k ≠ 0
theorem sq_le {a b:Int} (h0:0≤a) (h:a≤b):a*a≤b*b:=Int.mul_le_mul h h h0 (Int.le_trans h0 h)
theorem pr_big {n k:Int} (h2:2≤n) (h0:2≤k) (u:PrUpTo n k) (h:n < k*k):Pr n:=by
  refine ⟨h2,fun j j2 _ js=>?_⟩
  by_cases c:j < k
  · exact (u j j2 c).2
  · have:=sq_le (a:=k) (b:=j) (by omega) (by omega)
    omega
theorem pr_all {n:Int} (h2:2≤n) (u:PrUpTo n 1001):Pr n:=⟨h2,fun j j2 j3 _=>(u j j2 (by omega)).2⟩
theorem pr_not {n k:Int} (h0:2≤k) (h1:k≤1000) (hs:k*k≤n) (h:n % k=0):¬ Pr n:=fun p=>p.2 k h0 h1 hs h
theorem upTo_start (n:Int):PrUpTo n 2:=fun k a b=>by omega
theorem upTo_next {n k:Int} (u:PrUpTo n k) (hs:k*k≤n) (h:n % k ≠ 0):PrUpTo n (k+1):=fun j a b=>by
  by_cases c:j < k
  · exact u j a c
  · have e:j=k:=by omega
    subst e; exact ⟨hs,h⟩
def prB (n:Int):Bool:=decide (2≤n) && (List.range 999).all fun i=>decide (n < ((i:Int)+2)*((i:Int)+2)) || decide (n % ((i:Int)+2) ≠ 0)
theorem pr_of_b {n:Int} (h:prB n=true):Pr n:=by
  unfold prB at h
  rw [Bool.and_eq_true] at h
  refine ⟨of_decide_eq_true h.1,fun k k2 k3 ks=>?_⟩
  have q:=List.all_eq_true.mp h.2 (k.toNat - 2) (List.mem_range.mpr (by omega))
  have e:(((k.toNat - 2:Nat):Int)+2)=k:=by omega
  rw [e,Bool.or_eq_true] at q
  rcases q with q | q
  · have:=of_decide_eq_true q; omega
  · exact of_decide_eq_true q
theorem pr_999983:Pr 999983:=pr_of_b (by decide +kernel)
theorem pr_dvd {p d:Int} (h:Pr p) (hp:p < 1002001) (d0:1 < d) (d1:d < p) (hd:d ∣ p):False:=by
  obtain ⟨e,he⟩:=hd
  have e0:1 < e:=by
    by_cases c:e≤1
    · have:d*e≤d*1:=Int.mul_le_mul_of_nonneg_left c (by omega)
      omega
    · omega
  by_cases c:d≤e
  · have s:d*d≤p:=by
      have:=Int.mul_le_mul_of_nonneg_left c (show (0:Int)≤d by omega)
      omega
    have t:d≤1000:=by
      by_cases c2:1001≤d
      · have:=sq_le (a:=1001) (b:=d) (by omega) c2
        omega
      · omega
    refine h.2 d (by omega) t s ?_
    rw [he]; exact Int.mul_emod_right d e
  · have c':e≤d:=by omega
    have s:e*e≤p:=by
      have:=Int.mul_le_mul_of_nonneg_right c' (show (0:Int)≤e by omega)
      omega
    have t:e≤1000:=by
      by_cases c2:1001≤e
      · have:=sq_le (a:=1001) (b:=e) (by omega) c2
        omega
      · omega
    refine h.2 e (by omega) t s ?_
    rw [he,Int.mul_comm]; exact Int.mul_emod_right e d
def Cop (x y:Int):Prop:=∀ d:Int,0 < d→d ∣ x→d ∣ y→d=1
theorem cop_pr {p a:Int} (h:Pr p) (hp:p < 1002001) (a0:0 < a) (a1:a < p):Cop p a:=fun d d0 h1 h2=>by
  have:=Int.le_of_dvd a0 h2
  by_cases c:1 < d
  · exact (pr_dvd h hp c (by omega) h1).elim
  · omega
structure Eu (a p former ff rest f:Int):Prop where
  r0:0 < rest
  rp:rest < p
  fr:rest < former
  f0:0≤f
  f1:f < p
  g0:0≤ff
  g1:ff < p
  cop:Cop former rest
  d1:p ∣ former - a*ff
  d2:p ∣ rest - a*f
theorem eu_start {a p:Int} (h:Pr p) (hp:p < 1002001) (a0:0 < a) (a1:a < p):Eu a p p 0 (a % p) 1:=by
  have e:a % p=a:=Int.emod_eq_of_lt (by omega) a1
  rw [e]
  exact ⟨a0,a1,a1,by omega,by omega,by omega,by omega,cop_pr h hp a0 a1,by rw [Int.mul_zero,Int.sub_zero]; exact Int.dvd_refl p,by rw [Int.mul_one,Int.sub_self]; exact Int.dvd_zero p⟩
theorem eu_next {a p former ff rest f:Int} (E:Eu a p former ff rest f) (h1:rest ≠ 1):Eu a p rest f (former - former / rest*rest) ((ff - former / rest*f) % p)∧(former - former / rest*rest).toNat < rest.toNat:=by
  have r0:=E.r0
  have rp:=E.rp
  have em:former - former / rest*rest=former % rest:=by
    have:=Int.emod_add_mul_ediv former rest
    rw [Int.mul_comm] at this
    omega
  have l0:0≤former % rest:=Int.emod_nonneg _ (by omega)
  have l1:former % rest < rest:=Int.emod_lt_of_pos _ r0
  have cop':Cop rest (former % rest):=fun d d0 x y=>by
    refine E.cop d d0 ?_ x
    have:=Int.emod_add_mul_ediv former rest
    rw [← this]
    exact Int.dvd_add y (Int.dvd_trans x (Int.dvd_mul_right _ _))
  have lz:former % rest ≠ 0:=fun z=>by
    have:=cop' rest r0 (Int.dvd_refl _) (by rw [z]; exact Int.dvd_zero _)
    exact h1 this
  rw [em]
  refine ⟨⟨by omega,by omega,l1,Int.emod_nonneg _ (by omega),Int.emod_lt_of_pos _ (by omega),E.f0,E.f1,cop',E.d2,?_⟩,by omega⟩
  have q:p ∣ (former - a*ff) - former / rest*(rest - a*f):=Int.dvd_sub E.d1 (Int.dvd_trans E.d2 (Int.dvd_mul_left _ _))
  have q2:p ∣ (ff - former / rest*f) - (ff - former / rest*f) % p:=Int.dvd_self_sub_emod
  have q3:p ∣ a*((ff - former / rest*f) - (ff - former / rest*f) % p):=Int.dvd_trans q2 (Int.dvd_mul_left _ _)
  have q4:=Int.dvd_add q q3
  have e2:former - a*ff - former / rest*(rest - a*f)+a*(ff - former / rest*f - (ff - former / rest*f) % p)=former % rest - a*((ff - former / rest*f) % p):=by
    rw [← em]
    generalize former / rest=t
    generalize (ff - t*f) % p=u
    rw [Int.mul_sub,Int.mul_sub,Int.mul_sub,Int.mul_left_comm t a f]
    omega
  rw [e2] at q4
  exact q4
theorem eu_end {a p former ff rest f:Int} (E:Eu a p former ff rest f) (h1:rest=1) (hp:1 < p):0 < f∧f < p∧f*a % p=1:=by
  subst h1
  have d2:=E.d2
  have f0:=E.f0
  have hm:f*a % p=1:=by
    obtain ⟨c,hc⟩:=d2
    have e:f*a=1+p*(-c):=by
      rw [Int.mul_comm f a,Int.mul_neg]; omega
    rw [e,Int.add_mul_emod_self_left]
    exact Int.emod_eq_of_lt (by omega) hp
  refine ⟨?_,E.f1,hm⟩
  by_cases c:f=0
  · subst c; simp at hm
  · omega
end Mine
namespace Mine
def OddUp (n d:Int):Prop:=∀ k:Int,3≤k→k % 2=1→k < d→n % k ≠ 0
theorem odd_start (n:Int):OddUp n 3:=fun k a _ c=>by omega
theorem odd_next {n d:Int} (u:OddUp n d) (hd:d % 2=1) (h:n % d ≠ 0):OddUp n (d+2):=fun k a b c=>by
  by_cases e:k < d
  · exact u k a b e
  · have:k=d:=by omega
    subst this; exact h
theorem field_yes {n d:Int} (h3:3≤n) (h2:n % 2 ≠ 0) (h0:3≤d) (u:OddUp n d) (hd:n < d*d):Pr n:=by
  refine ⟨by omega,fun k k2 k3 ks z=>?_⟩
  obtain ⟨q,hq⟩:=Int.dvd_of_emod_eq_zero z
  by_cases e:k % 2=1
  · by_cases c:k < d
    · exact u k (by omega) e c z
    · have:=sq_le (a:=d) (b:=k) (by omega) (by omega)
      omega
  · obtain ⟨j,hj⟩:∃ j,k=2*j:=⟨k / 2,by omega⟩
    rw [hj,Int.mul_assoc] at hq
    omega
theorem field_no2 {n:Int} (h2:n % 2=0) (h3:2 < n):¬ Pr n:=fun p=>p.2 2 (by omega) (by omega) (by omega) h2
theorem field_nod {n d:Int} (h9:n≤999999) (h0:3≤d) (hs:d*d≤n) (h:n % d=0):¬ Pr n:=fun p=>by
  have t:d≤1000:=by
    by_cases c2:1001≤d
    · have:=sq_le (a:=1001) (b:=d) (by omega) c2
      omega
    · omega
  exact p.2 d (by omega) t hs h
theorem small_root {n d:Int} (h9:n≤999999) (h0:3≤d) (hs:d*d≤n):d≤999:=by
  by_cases c2:1000≤d
  · have:=sq_le (a:=1000) (b:=d) (by omega) c2
    omega
  · omega
theorem root_le {n d:Int} (h0:3≤d) (hs:d*d≤n):d≤n:=by
  have:=Int.mul_le_mul_of_nonneg_left (show (1:Int)≤d by omega) (show (0:Int)≤d by omega)
  omega
end Mine
namespace Mine
def setts:Nat→List (List Int)
  | 0=>[[]]
  | n+1=>(setts n).flatMap fun s=>[s++[0],s++[1]]
def byTwos (k:Int):Nat→List Int
  | 0=>[]
  | j+1=>(k / 2 ^ j % 2)::byTwos k j
end Mine
namespace Mine
def Pm (p:Int):Prop:=1 < p∧∀ a:Int,¬ p ∣ a→∃ f:Int,p ∣ f*a - 1
theorem eu_run {a p:Int} (hp:1 < p):∀ (n:Nat) {former ff rest f:Int},rest.toNat≤n→Eu a p former ff rest f→∃ g:Int,g*a % p=1
  | 0,former,ff,rest,f,hn,E=>by
    have:=E.r0
    omega
  | n+1,former,ff,rest,f,hn,E=>by
    by_cases c:rest=1
    · exact ⟨f,(eu_end E c hp).2.2⟩
    · obtain ⟨E2,lt⟩:=eu_next E c
      exact eu_run hp n (by omega) E2
theorem pm_of {p:Int} (h:Pr p) (hp:p < 1002001):Pm p:=by
  have p1:1 < p:=by have:=h.1; omega
  refine ⟨p1,fun a ha=>?_⟩
  have a0:0 < a % p:=by
    have:=Int.emod_nonneg a (show p ≠ 0 by omega)
    by_cases c:a % p=0
    · exact absurd (Int.dvd_of_emod_eq_zero c) ha
    · omega
  have a1:a % p < p:=Int.emod_lt_of_pos _ (by omega)
  obtain ⟨g,hg⟩:=eu_run p1 _ (Nat.le_refl _) (eu_start h hp a0 a1)
  refine ⟨g,?_⟩
  have e1:g*a % p=1:=by rw [← hg,Int.mul_emod g (a % p),Int.emod_emod,← Int.mul_emod]
  have:=Int.emod_add_mul_ediv (g*a) p
  exact ⟨g*a / p,by omega⟩
theorem Pm.mul {p a b:Int} (h:Pm p) (hd:p ∣ a*b) (ha:¬ p ∣ a):p ∣ b:=by
  obtain ⟨f,k,hk⟩:=h.2 a ha
  obtain ⟨m,hm⟩:=hd
  exact ⟨f*m - k*b,by grind⟩
theorem Pm.not_mul {p a b:Int} (h:Pm p) (ha:¬ p ∣ a) (hb:¬ p ∣ b):¬ p ∣ a*b:=fun z=>hb (h.mul z ha)
def ch:Nat→Nat→Nat
  | _,0=>1
  | 0,_+1=>0
  | n+1,k+1=>ch n k+ch n (k+1)
theorem ch_zero (n:Nat):ch n 0=1:=by cases n <;> rfl
theorem ch_big:∀ (n k:Nat),n < k→ch n k=0
  | 0,k+1,_=>rfl
  | n+1,k+1,h=>by
    show ch n k+ch n (k+1)=0
    rw [ch_big n k (by omega),ch_big n (k+1) (by omega)]
theorem ch_self (n:Nat):ch n n=1:=by
  induction n with
  | zero=>rfl
  | succ n ih =>
    show ch n n+ch n (n+1)=1
    rw [ih,ch_big n (n+1) (by omega)]
theorem ch_abs:∀ (n k:Nat),(k+1)*ch (n+1) (k+1)=(n+1)*ch n k
  | 0,0=>rfl
  | 0,k+1=>by
    show (k+2)*(ch 0 (k+1)+ch 0 (k+2))=1*ch 0 (k+1)
    rw [ch_big 0 (k+1) (by omega),ch_big 0 (k+2) (by omega)]
    simp
  | n+1,0=>by
    have h:=ch_abs n 0
    rw [ch_zero n] at h
    show (0+1)*(ch (n+1) 0+ch (n+1) (0+1))=(n+1+1)*ch (n+1) 0
    rw [ch_zero (n+1)]
    omega
  | n+1,k+1=>by
    have h1:=ch_abs n k
    have h2:=ch_abs n (k+1)
    show (k+2)*(ch (n+1) (k+1)+ch (n+1) (k+2))=(n+2)*ch (n+1) (k+1)
    have e:ch (n+1) (k+1)=ch n k+ch n (k+1):=rfl
    grind
def sm (f:Nat→Int):Nat→Int
  | 0=>0
  | n+1=>sm f n+f n
theorem sm_congr {f g:Nat→Int}:∀ n,(∀ k,k < n→f k=g k)→sm f n=sm g n
  | 0,_=>rfl
  | n+1,h=>by
    show sm f n+f n=sm g n+g n
    rw [sm_congr n (fun k hk=>h k (by omega)),h n (by omega)]
theorem sm_add (f g:Nat→Int):∀ n,sm (fun k=>f k+g k) n=sm f n+sm g n
  | 0=>rfl
  | n+1=>by
    show sm (fun k=>f k+g k) n+(f n+g n)=(sm f n+f n)+(sm g n+g n)
    rw [sm_add f g n]
    omega
theorem sm_mul (c:Int) (f:Nat→Int):∀ n,sm (fun k=>c*f k) n=c*sm f n
  | 0=>by simp [sm]
  | n+1=>by
    show sm (fun k=>c*f k) n+c*f n=c*(sm f n+f n)
    rw [sm_mul c f n]
    grind
theorem sm_front (f:Nat→Int):∀ n,sm f (n+1)=f 0+sm (fun k=>f (k+1)) n
  | 0=>by simp [sm]
  | n+1=>by
    show sm f (n+1)+f (n+1)=f 0+(sm (fun k=>f (k+1)) n+f (n+1))
    rw [sm_front f n]
    omega
theorem sm_dvd {p:Int} {f:Nat→Int}:∀ n,(∀ k,k < n→p ∣ f k)→p ∣ sm f n
  | 0,_=>⟨0,by simp [sm]⟩
  | n+1,h=>Int.dvd_add (sm_dvd n fun k hk=>h k (by omega)) (h n (by omega))
theorem binom (a:Int):∀ n:Nat,(a+1) ^ n=sm (fun k=>(ch n k:Int)*a ^ k) (n+1)
  | 0=>by simp [sm,ch]
  | n+1=>by
    have ih:=binom a n
    rw [Int.pow_succ,ih,sm_front (fun k=>((ch (n+1) k:Nat):Int)*a ^ k) (n+1)]
    have e1:sm (fun k=>((ch (n+1) (k+1):Nat):Int)*a ^ (k+1)) (n+1)=a*sm (fun k=>(ch n k:Int)*a ^ k) (n+1)+sm (fun k=>(ch n (k+1):Int)*a ^ (k+1)) (n+1):=by
      rw [← sm_mul,← sm_add]
      refine sm_congr _ fun k _=>?_
      have:ch (n+1) (k+1)=ch n k+ch n (k+1):=rfl
      rw [this,Int.natCast_add,Int.pow_succ]
      grind
    have e2:sm (fun k=>(ch n k:Int)*a ^ k) (n+1)=1+sm (fun k=>(ch n (k+1):Int)*a ^ (k+1)) (n+1):=by
      rw [sm_front]
      have:sm (fun k=>(ch n (k+1):Int)*a ^ (k+1)) (n+1)=sm (fun k=>(ch n (k+1):Int)*a ^ (k+1)) n:=by
        show _+(ch n (n+1):Int)*a ^ (n+1)=_
        rw [ch_big n (n+1) (by omega)]
        simp
      rw [this,ch_zero]
      simp
    rw [e1,ch_zero]
    grind
theorem ch_dvd {p:Int} (h:Pm p) {n k:Nat} (hn:(n:Int)+1=p) (hk:k < n):p ∣ ((ch (n+1) (k+1):Nat):Int):=by
  have e:((k:Int)+1)*((ch (n+1) (k+1):Nat):Int)=p*((ch n k:Nat):Int):=by
    have:=ch_abs n k
    rw [← hn]
    exact_mod_cast this
  refine h.mul (a:=(k:Int)+1) ⟨_,e⟩ fun hd=>?_
  have:=Int.le_of_dvd (by omega) hd
  omega
theorem fermat_nat {p:Int} (h:Pm p):∀ a:Nat,p ∣ (a:Int) ^ p.toNat - a
  | 0=>by
    have:p.toNat ≠ 0:=by have:=h.1; omega
    simp [Int.zero_pow this]
  | a+1=>by
    have ih:=fermat_nat h a
    obtain ⟨n,hn⟩:∃ n:Nat,p.toNat=n+1:=⟨p.toNat - 1,by have:=h.1; omega⟩
    have hp:(n:Int)+1=p:=by have:=h.1; omega
    rw [hn] at ih ⊢
    have b:=binom (a:Int) (n+1)
    have e:sm (fun k=>(ch (n+1) k:Int)*(a:Int) ^ k) (n+1+1)=sm (fun k=>(ch (n+1) (k+1):Int)*(a:Int) ^ (k+1)) n+(a:Int) ^ (n+1)+1:=by
      rw [sm_front]
      show _+(sm _ n+(ch (n+1) (n+1):Int)*(a:Int) ^ (n+1))=_
      rw [ch_self,ch_zero]
      simp
      omega
    have d:p ∣ sm (fun k=>(ch (n+1) (k+1):Int)*(a:Int) ^ (k+1)) n:=sm_dvd n fun k hk=>Int.dvd_mul_of_dvd_left (ch_dvd h hp hk)
    obtain ⟨u,hu⟩:=ih
    obtain ⟨v,hv⟩:=d
    refine ⟨u+v,?_⟩
    rw [Int.natCast_add]
    show ((a:Int)+1) ^ (n+1) - ((a:Int)+1)=_
    rw [b,e]
    grind
theorem fermat {p a:Int} (h:Pm p) (ha:¬ p ∣ a) (a0:0≤a):p ∣ a*a ^ (p - 2).toNat - 1:=by
  obtain ⟨n,hn⟩:∃ n:Nat,p.toNat=n+2:=⟨p.toNat - 2,by have:=h.1; omega⟩
  have e:(p - 2).toNat=n:=by omega
  have f:=fermat_nat h a.toNat
  rw [Int.toNat_of_nonneg a0,hn] at f
  rw [e]
  have g:a ^ (n+2) - a=a*(a*a ^ n - 1):=by
    rw [Int.pow_succ,Int.pow_succ]
    grind
  rw [g] at f
  exact h.mul f ha
def IsPoly:Nat→(Int→Int)→Prop
  | 0,f=>∀ x,f x=0
  | n+1,f=>∃ (a:Int) (g:Int→Int),IsPoly n g∧∀ x,f x=a+x*g x
theorem IsPoly.congr:∀ {n:Nat} {f g:Int→Int},IsPoly n f→(∀ x,g x=f x)→IsPoly n g
  | 0,_,_,h,e=>fun x=>(e x).trans (h x)
  | _+1,_,_,⟨a,k,hk,h⟩,e=>⟨a,k,hk,fun x=>(e x).trans (h x)⟩
theorem IsPoly.zero:∀ n:Nat,IsPoly n fun _=>0
  | 0=>fun _=>rfl
  | n+1=>⟨0,fun _=>0,IsPoly.zero n,fun x=>by simp⟩
theorem IsPoly.up:∀ {n:Nat} {f:Int→Int},IsPoly n f→IsPoly (n+1) f
  | 0,f,h=>⟨0,fun _=>0,fun _=>rfl,fun x=>by rw [h x]; simp⟩
  | n+1,f,⟨a,g,hg,h⟩=>⟨a,g,hg.up,h⟩
theorem IsPoly.add:∀ {n:Nat} {f g:Int→Int},IsPoly n f→IsPoly n g→IsPoly n fun x=>f x+g x
  | 0,f,g,h,k=>fun x=>by show f x+g x=0; rw [h x,k x]; rfl
  | n+1,f,g,⟨a,u,hu,h⟩,⟨b,v,hv,k⟩=>⟨a+b,fun x=>u x+v x,hu.add hv,fun x=>by show f x+g x=a+b+x*(u x+v x); rw [h x,k x]; grind⟩
theorem IsPoly.mul (c:Int):∀ {n:Nat} {f:Int→Int},IsPoly n f→IsPoly n fun x=>c*f x
  | 0,f,h=>fun x=>by show c*f x=0; rw [h x]; simp
  | n+1,f,⟨a,u,hu,h⟩=>⟨c*a,fun x=>c*u x,hu.mul c,fun x=>by show c*f x=c*a+x*(c*u x); rw [h x]; grind⟩
theorem IsPoly.lin {n:Nat} {f:Int→Int} (h:IsPoly n f) (r:Int):IsPoly (n+1) fun x=>(x - r)*f x:=by
  have h1:IsPoly (n+1) fun x=>x*f x:=⟨0,f,h,fun x=>by simp⟩
  exact (h1.add (h.up.mul (-r))).congr fun x=>by grind
theorem IsPoly.div:∀ {n:Nat} {f:Int→Int},IsPoly (n+1) f→∀ r:Int,∃ q,IsPoly n q∧∀ x,f x - f r=(x - r)*q x
  | 0,f,⟨a,g,hg,h⟩,r=>⟨fun _=>0,fun _=>rfl,fun x=>by rw [h x,h r,hg x,hg r]; simp⟩
  | n+1,f,⟨a,g,hg,h⟩,r=>by
    obtain ⟨q,hq,e⟩:=IsPoly.div hg r
    refine ⟨fun x=>g x+r*q x,hg.add (hq.up.mul r),fun x=>?_⟩
    have:=e x
    rw [h x,h r]
    grind
theorem IsPoly.roots {p:Int} (hp:Pm p):∀ {n:Nat} {f:Int→Int} (rs:List Int),IsPoly n f→rs.length=n→rs.Pairwise (fun a b=>¬ p ∣ b - a)→(∀ r ∈ rs,p ∣ f r)→∀ x,p ∣ f x
  | 0,f,_,h,_,_,_,x=>⟨0,by rw [h x]; simp⟩
  | n+1,f,[],_,hl,_,_,_=>by simp at hl
  | n+1,f,r::rs,h,hl,hd,hr,x=>by
    obtain ⟨q,hq,e⟩:=h.div r
    have hd':=List.pairwise_cons.mp hd
    have z:=IsPoly.roots hp rs hq (by simpa using hl) hd'.2 (fun s hs=>by
      have h1:p ∣ (s - r)*q s:=by
        rw [← e s]
        exact Int.dvd_sub (hr s (List.mem_cons_of_mem _ hs)) (hr r List.mem_cons_self)
      exact hp.mul h1 (hd'.1 s hs)) x
    have:f x=f r+(x - r)*q x:=by have:=e x; omega
    rw [this]
    exact Int.dvd_add (hr r List.mem_cons_self) (Int.dvd_mul_of_dvd_right z)
end Mine
namespace Mine
def pr (g:Nat→Int):Nat→Int
  | 0=>1
  | n+1=>pr g n*g n
theorem pr_congr {f g:Nat→Int}:∀ n,(∀ k,k < n→f k=g k)→pr f n=pr g n
  | 0,_=>rfl
  | n+1,h=>by
    show pr f n*f n=pr g n*g n
    rw [pr_congr n (fun k hk=>h k (by omega)),h n (by omega)]
theorem pr_front (g:Nat→Int):∀ n,pr g (n+1)=g 0*pr (fun k=>g (k+1)) n
  | 0=>by simp [pr]
  | n+1=>by
    show pr g (n+1)*g (n+1)=g 0*(pr (fun k=>g (k+1)) n*g (n+1))
    rw [pr_front g n,Int.mul_assoc]
def px (x:Int) (i:Nat):Nat→Int
  | 0=>1
  | n+1=>if n=i then px x i n else px x i n*(x - n)
theorem px_poly (i:Nat):∀ n,IsPoly (if i < n then n else n+1) fun x=>px x i n
  | 0=>⟨1,fun _=>0,fun _=>rfl,fun x=>by simp [px]⟩
  | n+1=>by
    have ih:=px_poly i n
    by_cases c:n=i
    · subst c
      rw [if_neg (Nat.lt_irrefl n)] at ih
      rw [if_pos (Nat.lt_succ_self n)]
      exact ih.congr fun x=>by simp [px]
    · have e:∀ x,px x i (n+1)=(x - n)*px x i n:=fun x=>by
        show (if n=i then px x i n else px x i n*(x - n))=_
        rw [if_neg c,Int.mul_comm]
      by_cases c2:i < n
      · rw [if_pos c2] at ih
        rw [if_pos (by omega)]
        exact (ih.lin n).congr e
      · rw [if_neg c2] at ih
        rw [if_neg (by omega)]
        exact (ih.lin n).congr e
theorem px_zero {k i:Nat} (h:k ≠ i):∀ n,k < n→px (k:Int) i n=0
  | n+1,hk=>by
    show (if n=i then px (k:Int) i n else px (k:Int) i n*((k:Int) - n))=0
    by_cases c:n=i
    · rw [if_pos c]
      exact px_zero h n (by omega)
    · rw [if_neg c]
      by_cases c2:k=n
      · subst c2
        simp
      · rw [px_zero h n (by omega)]
        simp
def lag (v u:Nat→Int) (n:Nat) (x:Int):Int:=sm (fun i=>v i*px x i n*u i) n
theorem sm_poly {n m:Nat} {f:Nat→Int→Int}:(∀ i,i < m→IsPoly n (f i))→IsPoly n fun x=>sm (fun i=>f i x) m:=by
  induction m with
  | zero=>exact fun _=>IsPoly.zero n
  | succ m ih=>exact fun h=>(ih fun i hi=>h i (by omega)).add (h m (by omega))
theorem lag_poly (v u:Nat→Int) (n:Nat):IsPoly n (lag v u n):=sm_poly fun i hi=>by
  have h:=px_poly i n
  rw [if_pos hi] at h
  exact (h.mul (v i*u i)).congr fun x=>by grind
theorem sm_one {f:Nat→Int} {k:Nat}:∀ n,k < n→(∀ i,i < n→i ≠ k→f i=0)→sm f n=f k
  | n+1,hk,h=>by
    show sm f n+f n=f k
    by_cases c:k=n
    · subst c
      have z:sm f k=0:=by
        have:sm f k=sm (fun _=>0) k:=sm_congr k fun i hi=>h i (by omega) (by omega)
        rw [this]
        clear this h hk
        induction k with
        | zero=>rfl
        | succ k ih=>show sm (fun _=>0) k+0=0; rw [ih]; rfl
      rw [z]
      simp
    · rw [sm_one n (by omega) (fun i hi=>h i (by omega)),h n (by omega) (by omega)]
      simp
def Wgt (p:Int) (n:Nat) (u:Nat→Int):Prop:=∀ i,i < n→p ∣ px (i:Int) i n*u i - 1
theorem lag_at {p:Int} {v u:Nat→Int} {n k:Nat} (hu:Wgt p n u) (hk:k < n):p ∣ lag v u n k - v k:=by
  unfold lag
  rw [sm_one n hk fun i hi hne=>by rw [px_zero (Ne.symm hne) n hk]; simp]
  obtain ⟨m,hm⟩:=hu k hk
  exact ⟨v k*m,by grind⟩
theorem far {p:Int} {n:Nat} (hn:(n:Int)≤p):((List.range n).map fun k:Nat=>(k:Int)).Pairwise fun a b=>¬ p ∣ b - a:=by
  rw [List.pairwise_map]
  refine List.Pairwise.imp_of_mem (fun {a b} ha hb h=>?_) List.pairwise_lt_range
  intro d
  have:=Int.le_of_dvd (by omega) d
  have hb':=List.mem_range.mp hb
  omega
theorem alike {p:Int} (hp:Pm p) {n:Nat} (hn:(n:Int)≤p) {f g:Int→Int} (hf:IsPoly n f) (hg:IsPoly n g) (h:∀ k:Nat,k < n→p ∣ f k - g k) (x:Int):p ∣ f x - g x:=by
  have hd:IsPoly n fun x=>f x - g x:=(hf.add (hg.mul (-1))).congr fun x=>by grind
  refine hd.roots hp ((List.range n).map fun k:Nat=>(k:Int)) (by simp) (far hn) (fun r hr=>?_) x
  obtain ⟨k,hk,rfl⟩:=List.mem_map.mp hr
  exact h k (List.mem_range.mp hk)
theorem lag_rule {p:Int} (hp:Pm p) {n:Nat} (hn:(n:Int)≤p) {v u:Nat→Int} {P:Int→Int} (hu:Wgt p n u) (hP:IsPoly n P) (h:∀ k:Nat,k < n→p ∣ v k - P k) (x:Int):p ∣ lag v u n x - P x :=
  alike hp hn (lag_poly v u n) hP (fun k hk=>by
    have h1:=lag_at (v:=v) hu hk
    have h2:=h k hk
    have:lag v u n k - P k=(lag v u n k - v k)+(v k - P k):=by omega
    rw [this]
    exact Int.dvd_add h1 h2) x
theorem lag_same {p:Int} (hp:Pm p) {n:Nat} (hn:(n:Int)≤p) {v u u':Nat→Int} (hu:Wgt p n u) (hu':Wgt p n u') (x:Int):p ∣ lag v u n x - lag v u' n x :=
  lag_rule hp hn hu (lag_poly v u' n) (fun k hk=>by
    obtain ⟨m,hm⟩:=lag_at (v:=v) hu' hk
    exact ⟨-m,by grind⟩) x
theorem px_split (x:Int) (i:Nat):∀ m,px x i (i+1+m)=pr (fun j=>x - j) i*pr (fun j=>x - (i+1+j:Nat)) m
  | 0=>by
    have h:∀ k,k≤i→px x i k=pr (fun j=>x - j) k:=fun k=>by
      induction k with
      | zero=>exact fun _=>rfl
      | succ k ih =>
        intro hk
        show (if k=i then px x i k else px x i k*(x - k))=pr (fun j=>x - j) k*(x - k)
        rw [if_neg (by omega),ih (by omega)]
    show (if i=i then px x i i else _)=_*1
    rw [if_pos rfl,h i (Nat.le_refl _),Int.mul_one]
  | m+1=>by
    show (if i+1+m=i then _ else px x i (i+1+m)*(x - (i+1+m:Nat)))=pr (fun j=>x - j) i*(pr (fun j=>x - (i+1+j:Nat)) m*(x - (i+1+m:Nat)))
    rw [if_neg (by omega),px_split x i m,Int.mul_assoc]
theorem pr_turn (x:Int) (i:Nat):∀ m,pr (fun j=>x - (i+m:Nat)+j) m=pr (fun j=>x - (i+1+j:Nat)) m
  | 0=>rfl
  | m+1=>by
    rw [pr_front]
    show _=pr (fun j=>x - (i+1+j:Nat)) m*(x - (i+1+m:Nat))
    have e:pr (fun k=>x - (i+(m+1):Nat)+(k+1:Nat)) m=pr (fun j=>x - (i+m:Nat)+j) m:=pr_congr m fun k _=>by omega
    rw [e,pr_turn x i m,Int.mul_comm]
    congr 1
    omega
def fac:Nat→Int
  | 0=>1
  | n+1=>fac n*((n:Int)+1)
theorem fac_down:∀ n:Nat,pr (fun j=>(n:Int) - j) n=fac n
  | 0=>rfl
  | n+1=>by
    rw [pr_front]
    have e:pr (fun k=>((n+1:Nat):Int) - (k+1:Nat)) n=pr (fun j=>(n:Int) - j) n:=pr_congr n fun k _=>by omega
    rw [e,fac_down n]
    show ((n+1:Nat) - (0:Nat):Int)*fac n=fac n*((n:Int)+1)
    rw [Int.mul_comm]
    congr 1
theorem fac_neg (i:Nat):∀ m:Nat,pr (fun j=>(i:Int) - (i+1+j:Nat)) m=(-1) ^ m*fac m
  | 0=>rfl
  | m+1=>by
    show pr _ m*((i:Int) - (i+1+m:Nat))=(-1) ^ (m+1)*(fac m*((m:Int)+1))
    rw [fac_neg i m,Int.pow_succ]
    have:((i:Int) - (i+1+m:Nat))=-((m:Int)+1):=by omega
    rw [this]
    grind
theorem px_own (i m:Nat):px (i:Int) i (i+1+m)=fac i*((-1) ^ m*fac m):=by rw [px_split,fac_down,fac_neg]
theorem fac_part:∀ (k d:Nat),fac d*pr (fun j=>((d+k:Nat):Int) - j) k=fac (d+k)
  | 0,d=>by simp [pr]
  | k+1,d=>by
    have ih:=fac_part k (d+1)
    rw [show d+1+k=d+(k+1) by omega] at ih
    rw [← ih]
    show fac d*(pr (fun j=>((d+(k+1):Nat):Int) - j) k*(((d+(k+1):Nat):Int) - k))=fac d*((d:Int)+1)*pr (fun j=>((d+(k+1):Nat):Int) - j) k
    have:(((d+(k+1):Nat):Int) - k)=(d:Int)+1:=by omega
    rw [this]
    grind
theorem fac_ne {p:Int} (hp:Pm p):∀ n:Nat,(n:Int) < p→¬ p ∣ fac n
  | 0,_=>fun d=>by
    have:=Int.le_of_dvd (by decide) (show p ∣ 1 from d)
    have:=hp.1
    omega
  | n+1,h=>hp.not_mul (fac_ne hp n (by omega)) fun d=>by
    have:=Int.le_of_dvd (by omega) d
    omega
theorem sq_sign (m:Nat):((-1:Int) ^ m)*(-1) ^ m=1:=by
  induction m with
  | zero=>rfl
  | succ m ih=>rw [Int.pow_succ]; grind
theorem own_ne {p:Int} (hp:Pm p) {n i:Nat} (hn:(n:Int)≤p) (hi:i < n):¬ p ∣ px (i:Int) i n:=by
  obtain ⟨m,rfl⟩:∃ m,n=i+1+m:=⟨n - (i+1),by omega⟩
  rw [px_own]
  refine hp.not_mul (fac_ne hp i (by omega)) (hp.not_mul (fun d=>?_) (fac_ne hp m (by omega)))
  obtain ⟨k,hk⟩:=d
  have s:=sq_sign m
  have:p ∣ 1:=⟨k*(-1) ^ m,by grind⟩
  have:=Int.le_of_dvd (by decide) this
  have:=hp.1
  omega
theorem wgt_fac {p:Int} {last:Nat} {sh:Nat→Int} (h:∀ k,k≤last→p ∣ sh k*fac k - 1):Wgt p (last+1) fun i=>(-1) ^ (last - i)*(sh i*sh (last - i)):=fun i hi=>by
  obtain ⟨m,rfl⟩:∃ m,last=i+m:=⟨last - i,by omega⟩
  show p ∣ px (i:Int) i (i+m+1)*((-1) ^ (i+m - i)*(sh i*sh (i+m - i))) - 1
  rw [show i+m+1=i+1+m by omega,px_own,show i+m - i=m by omega]
  obtain ⟨a,ha⟩:=h i (by omega)
  obtain ⟨b,hb⟩:=h m (by omega)
  have s:=sq_sign m
  refine ⟨a*(sh m*fac m)+b,?_⟩
  have e:fac i*((-1) ^ m*fac m)*((-1) ^ m*(sh i*sh m))=((-1) ^ m*(-1) ^ m)*((sh i*fac i)*(sh m*fac m)):=by grind
  rw [e,s]
  grind
end Mine
namespace Mine
def fnd (g:Nat→Bool) (i:Nat):List Int:=((List.range i).filter g).map fun k:Nat=>(k:Int)
def pRt (x:Int):List Int→Int
  | []=>1
  | r::rs=>(x - r)*pRt x rs
def pRm (p x:Int):Int→List Int→Int
  | a,[]=>a
  | a,r::rs=>pRm p x (a*(x - r) % p) rs
end Mine
namespace Mine
end Mine
namespace Mine
open PySem L2
theorem len1 {us:List Value} (h:us.length=1):∃ a,us=[a]:=by
  cases us with
  | nil=>cases h
  | cons a r =>
    cases r with
    | nil=>exact ⟨a,rfl⟩
    | cons _ _=>cases h
theorem lenS {us:List Value} {n:Nat} (h:us.length=n+1):∃ a r,us=a::r∧r.length=n:=by
  cases us with
  | nil=>cases h
  | cons a r=>exact ⟨a,r,rfl,Nat.succ.inj h⟩
theorem len2 {us:List Value} (h:us.length=2):∃ a b,us=[a,b]:=by
  obtain ⟨a,r,rfl,h1⟩:=lenS h
  obtain ⟨b,rfl⟩:=len1 h1
  exact ⟨a,b,rfl⟩
theorem len3 {us:List Value} (h:us.length=3):∃ a b c,us=[a,b,c]:=by
  obtain ⟨a,r,rfl,h1⟩:=lenS h
  obtain ⟨b,c,rfl⟩:=len2 h1
  exact ⟨a,b,c,rfl⟩
theorem len4 {us:List Value} (h:us.length=4):∃ a b c d,us=[a,b,c,d]:=by
  obtain ⟨a,r,rfl,h1⟩:=lenS h
  obtain ⟨b,c,d,rfl⟩:=len3 h1
  exact ⟨a,b,c,d,rfl⟩
theorem len5 {us:List Value} (h:us.length=5):∃ a b c d e,us=[a,b,c,d,e]:=by
  obtain ⟨a,r,rfl,h1⟩:=lenS h
  obtain ⟨b,c,d,e,rfl⟩:=len4 h1
  exact ⟨a,b,c,d,e,rfl⟩
theorem len6 {us:List Value} (h:us.length=6):∃ a b c d e f,us=[a,b,c,d,e,f]:=by
  obtain ⟨a,r,rfl,h1⟩:=lenS h
  obtain ⟨b,c,d,e,f,rfl⟩:=len5 h1
  exact ⟨a,b,c,d,e,f,rfl⟩
def top (i:Nat):Stmt:=PySem.Challenge.pw_asktally_k46_twins_of_doubters.main.body.getD i (.Pass ⟨0,0,0,0⟩)
abbrev s_is_field:Stmt:=top 10
abbrev s_inverse_of:Stmt:=top 11
abbrev s_is_number:Stmt:=top 12
abbrev s_value_at:Stmt:=top 14
abbrev s_both_ends:Stmt:=top 15
abbrev s_value_behind:Stmt:=top 16
abbrev s_products:Stmt:=top 17
abbrev s_inverse_factorials:Stmt:=top 18
abbrev s_trees_within:Stmt:=top 20
abbrev s_size_of:Stmt:=top 21
abbrev s_names_in:Stmt:=top 22
abbrev s_all_sizes:Stmt:=top 25
abbrev s_worth_of:Stmt:=top 27
abbrev s_joined_worth:Stmt:=top 28
abbrev s_degree_of:Stmt:=top 32
abbrev s_look_switches:Stmt:=top 33
abbrev s_look_names:Stmt:=top 34
abbrev s_look_field:Stmt:=top 35
abbrev s_look_size:Stmt:=top 36
abbrev s_l_feed:Stmt:=top 38
abbrev s_l_take:Stmt:=top 39
abbrev s_l_names:Stmt:=top 40
abbrev s_l_tree:Stmt:=top 41
abbrev s_l_names_of:Stmt:=top 42
abbrev s_l_need:Stmt:=top 43
abbrev s_l_is_prime:Stmt:=top 44
abbrev s_l_field:Stmt:=top 45
abbrev s_l_game:Stmt:=top 46
abbrev s_l_degrees:Stmt:=top 47
abbrev s_l_size:Stmt:=top 48
abbrev s_l_worth:Stmt:=top 49
abbrev s_l_mix:Stmt:=top 50
abbrev s_l_inverse:Stmt:=top 51
abbrev s_l_value:Stmt:=top 52
abbrev s_l_coin:Stmt:=top 53
abbrev s_l_said:Stmt:=top 54
abbrev s_l_state:Stmt:=top 55
abbrev s_l_fresh:Stmt:=top 56
abbrev s_l_nudged:Stmt:=top 57
abbrev s_l_told:Stmt:=top 58
abbrev s_law:Stmt:=top 59
section
variable {P:Program} {w:World} {K:PySem.W.Frag} {mg:Str→Option Value} {base:Heap}
abbrev s_doubter:Stmt:=top 24
abbrev s_game:Stmt:=top 31
structure Bl (mg:Str→Option Value):Prop where
  len:mg "len" = none
  range:mg "range" = none
  isinstance:mg "isinstance" = none
  int:mg "int" = none
  bool:mg "bool" = none
  list:mg "list" = none
  tuple:mg "tuple" = none
  max:mg "max" = none
  min:mg "min" = none
  reversed:mg "reversed" = none
  enumerate:mg "enumerate" = none
  sum:mg "sum" = none
  all:mg "all" = none
  zip:mg "zip" = none
theorem feedB (z:Int):0≤z % 2147483646+1∧z % 2147483646+1≤2147483646:=by omega
theorem sc_l_feed:FnScope ["_law_script", "_law_k", "_law_cell", "_law_own"] ["_law_script", "_law_k"] (defScope s_l_feed):=⟨rfl,rfl,rfl,by decide +kernel,rfl,by decide +kernel,by decide +kernel⟩
theorem ok_l_feed {f:Addr} {fd:FuncData} (F:Fun K "_law_feed" "_law_feed" s_l_feed f fd) (hlen:mg "len" = none):FnOk P w K mg base CX0 1 f fd ["_law_script", "_law_k"] (spFeed K):=by
  refine F.ok sc_l_feed (fun vs H Q E h=>?_) (fun cdv A outer s H vs Q E hr h=>?_)
  · obtain ⟨a,ns,k,rfl,_⟩:=h
    rfl
  obtain ⟨a,ns,k,rfl,hS,h63,k0,k1,q⟩:=h
  refine ⟨_,(pss_cons (ps_set (i:=2) sc_l_feed.nd rfl (Or.inl rfl) (pe_op op_add (pe_op op_mul pe_int (pv 1)) pe_int))
      (pss_cons (ps_if (pt_cmpR op_lt (pv 1) (pe_callB call_len_seq rfl hlen PySem.boot_len (pa_cons (pv 0) pa_nil)) (nomark _)) (pss_one (ps_set (i:=2) sc_l_feed.nd rfl (Or.inl rfl) (pe_ix ix_list (pv 0) (pv 1) (fun _ _=>rfl)))) (pss_one (ps_if (pt_cmpR op_gt (pe_callB call_len_seq rfl hlen PySem.boot_len (pa_cons (pv 0) pa_nil)) pe_int (nomark _)) (pss_one (ps_set (i:=2) sc_l_feed.nd rfl (Or.inl rfl) (pe_op op_add (pe_op op_mul (pe_op op_mod (pe_ix ix_list (pv 0) (pe_op op_mod (pv 1) (pe_callB call_len_seq rfl hlen PySem.boot_len (pa_cons (pv 0) pa_nil))) (fun _ _=>rfl)) pe_int) pe_int) (pe_op op_mul pe_int (pv 1))))) pss_nil)))
      (pss_cons (ps_set (i:=3) sc_l_feed.nd rfl (Or.inl rfl) pe_int)
      (pss_cons (ps_if (pt_cmpR op_ge (pv 2) (pe_op op_pow pe_int pe_int) (nomark _)) (pss_one (ps_set (i:=3) sc_l_feed.nd rfl (Or.inl rfl) (pv 2))) pss_nil)
      (pss_one (ps_ret (pe_lst (pa_cons (pv 3) (pa_cons (pe_op op_add (pe_op op_mod (pe_op op_add (pe_op op_mul (pe_op op_mod (pv 2) pe_int) pe_int) (pe_op op_mul pe_int (pv 1))) pe_int) pe_int) pa_nil))))))))),?_⟩
  have hl:(ns.map V.int).length=ns.length:=List.length_map _
  have hp:(10:Int) ^ (18:Int).toNat=1000000000000000000:=by decide
  refine ⟨_,rfl,_,_,rfl,rfl,.inl ⟨by decide,by decide⟩,_,_,rfl,rfl,?_⟩
  refine ⟨_,rfl,_,rfl,a,_,rfl,.inl hS,_,_,rfl,rfl,_,rfl,?_⟩
  refine ite2 (fun c=>?b1) (fun c=>?b2)
  case' b1 =>
    have c':k < (((ns.map V.int).length:Nat):Int):=of_decide_eq_true c
    rw [hl] at c'
    obtain ⟨v,hv⟩:=at_int (ns:=ns) k0 c'
    refine ⟨_,rfl,_,rfl,a,_,_,_,rfl,rfl,hS,hv,?_⟩
  case' b2 =>
    refine ⟨_,rfl,a,_,rfl,.inl hS,_,_,rfl,rfl,_,rfl,?_⟩
    refine ite2 (fun c2=>?b3) (fun c2=>?b4)
    case' b3 =>
      have c':(0:Int) < (((ns.map V.int).length:Nat):Int):=of_decide_eq_true c2
      have m0:=Int.emod_nonneg k (b:=(((ns.map V.int).length:Nat):Int)) (by omega)
      have m1:=Int.emod_lt_of_pos k c'
      obtain ⟨v,hv⟩:=at_int (ns:=ns) m0 (by rw [hl] at m1 ⊢; exact m1)
      have n0:=Int.emod_nonneg v (b:=2147483629) (by decide)
      have n1:=Int.emod_lt_of_pos v (b:=2147483629) (by decide)
      refine ⟨_,rfl,_,rfl,_,rfl,a,_,rfl,.inl hS,_,_,rfl,rfl,c',a,_,_,_,rfl,rfl,hS,hv,_,_,rfl,rfl,(by show (0:Int) < _; decide),_,_,rfl,rfl,.inr ⟨by decide,by decide⟩,_,rfl,_,_,rfl,rfl,.inl ⟨by decide,by decide⟩,_,_,rfl,rfl,?_⟩
  all_goals
    refine ⟨_,rfl,_,_,rfl,rfl,⟨by decide,by decide,by decide⟩,_,_,rfl,rfl,_,rfl,?_⟩
    refine ite2 (fun c3=>?_) (fun c3=>?_)
    · have c4:=of_decide_eq_true c3
      rw [hp] at c4
      refine ⟨_,rfl,_,rfl,_,rfl,_,_,rfl,rfl,(by show (0:Int) < _; decide),_,_,rfl,rfl,.inr ⟨by decide,by decide⟩,_,rfl,_,_,rfl,rfl,.inl ⟨by decide,by decide⟩,_,_,rfl,rfl,_,_,rfl,rfl,(by show (0:Int) < _; decide),_,_,rfl,rfl,(by show 2≤sizeLine; decide),fun p hp=>?_⟩
      refine q p _ hp (Same.new hp _) ⟨_,_,upd_same,Int.le_trans (by decide) c4,(feedB _).1,(feedB _).2⟩
    · refine ⟨_,rfl,_,rfl,_,_,rfl,rfl,(by show (0:Int) < _; decide),_,_,rfl,rfl,.inr ⟨by decide,by decide⟩,_,rfl,_,_,rfl,rfl,.inl ⟨by decide,by decide⟩,_,_,rfl,rfl,_,_,rfl,rfl,(by show (0:Int) < _; decide),_,_,rfl,rfl,(by show 2≤sizeLine; decide),fun p hp=>?_⟩
      refine q p _ hp (Same.new hp _) ⟨_,_,upd_same,Int.le_refl 0,(feedB _).1,(feedB _).2⟩
theorem sc_l_take:FnScope ["_law_feed_here", "_law_many", "_law_digit", "_law_one"] ["_law_feed_here", "_law_many"] (defScope s_l_take):=⟨rfl,rfl,rfl,by decide +kernel,rfl,by decide +kernel,by decide +kernel⟩
theorem ok_l_take {f:Addr} {fd:FuncData} (F:Fun K "_law_take" "_law_take" s_l_take f fd):FnOk P w K mg base CX0 1 f fd ["_law_feed_here", "_law_many"] spTake:=by
  refine F.ok sc_l_take (fun vs H Q E h=>?_) (fun cdv A outer s H vs Q E hr h=>?_)
  · obtain ⟨f,m,rfl,_⟩:=h
    rfl
  obtain ⟨f,m,rfl,⟨own,st,hf,o0,s0,s1⟩,m0,m1,q⟩:=h
  refine ⟨_,(pss_cons (ps_if (pt_cmpR op_gt (pe_ix ix_list (pv 0) pe_int (fun _ _=>rfl)) pe_int (nomark _)) (pss_cons (ps_set (i:=2) sc_l_take.nd rfl (Or.inl rfl) (pe_op op_mod (pe_ix ix_list (pv 0) pe_int (fun _ _=>rfl)) (pv 1)))
        (pss_cons (ps_asg (pe_op op_fdivL (pe_ix ix_list (pv 0) pe_int (fun _ _=>rfl)) (pv 1)) (pg_sub (pv 0) pe_int set_list))
        (pss_one (ps_ret (pv 2))))) pss_nil)
      (pss_cons (ps_set (i:=3) sc_l_take.nd rfl (Or.inl rfl) (pe_op op_mod (pe_op op_mul (pe_ix ix_list (pv 0) pe_int (fun _ _=>rfl)) pe_int) pe_int))
      (pss_cons (ps_asg (pe_op op_add (pe_op op_mod (pe_op op_add (pe_op op_mul (pv 3) pe_int) pe_int) pe_int) pe_int) (pg_sub (pv 0) pe_int set_list))
      (pss_one (ps_ret (pe_op op_mod (pe_op op_fdiv (pe_op op_add (pe_op op_mul (pv 3) pe_int) (pe_ix ix_list (pv 0) pe_int (fun _ _=>rfl))) pe_int) (pv 1))))))),?_⟩
  refine ⟨_,rfl,f,_,0,_,rfl,rfl,SqL.of hf,rfl,_,_,rfl,rfl,_,rfl,?_⟩
  refine ite2 (fun c=>?_) (fun c=>?_)
  · refine ⟨_,rfl,f,_,0,_,rfl,rfl,SqL.of hf,rfl,_,rfl,_,_,rfl,rfl,m0,?_⟩
    refine ⟨_,rfl,f,_,0,_,rfl,rfl,SqL.of hf,rfl,_,rfl,_,_,rfl,rfl,⟨m0,m1⟩,_,rfl,f,_,0,0,rfl,rfl,hf,rfl,?_⟩
    refine ⟨_,rfl,?_⟩
    exact q _ _ (Int.emod_nonneg _ (by omega)) (Int.emod_lt_of_pos _ m0) ⟨_,_,upd_same,Int.ediv_nonneg o0 (by omega),s0,s1⟩ (SameBut.upd _)
  · have a0:=Int.emod_nonneg (st*69621) (b:=2147483647) (by decide)
    have a1:=Int.emod_lt_of_pos (st*69621) (b:=2147483647) (by decide)
    refine ⟨_,rfl,f,_,1,_,rfl,rfl,SqL.of hf,rfl,_,_,rfl,rfl,.inr ⟨by decide,by decide⟩,_,_,rfl,rfl,(by show (0:Int) < _; decide),?_⟩
    refine ⟨_,rfl,_,_,rfl,rfl,.inr ⟨by decide,by decide⟩,_,_,rfl,rfl,_,_,rfl,rfl,(by show (0:Int) < _; decide),_,_,rfl,rfl,_,rfl,f,_,1,1,rfl,rfl,hf,rfl,?_⟩
    have b0:=Int.emod_nonneg (st*69621 % 2147483647*48271+30103) (b:=2147483646) (by decide)
    have b1:=Int.emod_lt_of_pos (st*69621 % 2147483647*48271+30103) (b:=2147483646) (by decide)
    refine ⟨_,rfl,_,_,rfl,rfl,.inr ⟨by decide,by decide⟩,_,rfl,f,_,1,_,rfl,rfl,SqL.of upd_same,rfl,_,_,rfl,rfl,_,_,rfl,rfl,⟨by decide,by decide⟩,_,rfl,_,_,rfl,rfl,m0,?_⟩
    exact q _ _ (Int.emod_nonneg _ (by omega)) (Int.emod_lt_of_pos _ m0) ⟨_,_,upd_same,o0,by omega,by omega⟩ (SameBut.upd _)
theorem sc_l_tree:FnScope ["_law_feed_here", "_law_names_here", "_law_room", "_law_deep", "_law_form", "_law_more", "_law_one", "_law_word"] ["_law_feed_here", "_law_names_here", "_law_room", "_law_deep"] (defScope s_l_tree):=⟨rfl,rfl,rfl,by decide +kernel,rfl,by decide +kernel,by decide +kernel⟩
theorem lf {a X Y B:Prop} [Decidable a] (x:X) (h:¬ a→X→B):if decide a=true then (if true=true then X else Y) else B:=by
  by_cases c:a
  · rw [decide_eq_true c]
    exact iteT (iteT x)
  · rw [decide_eq_false c]
    exact iteF (h c x)
theorem tree_step {n:Nat} {f:Addr} {fd:FuncData} (F:Fun K "_law_tree" "_law_tree" s_l_tree f fd) (hlen:mg "len" = none) (C_l_take:Cal P w K mg base 1 "_law_take" ["_law_feed_here", "_law_many"] spTake)
    (C_l_tree:Cal P w K mg base (n+2) "_law_tree" ["_law_feed_here", "_law_names_here", "_law_room", "_law_deep"] (spTree n)):FnOk P w K mg base CX0 (n+3) f fd ["_law_feed_here", "_law_names_here", "_law_room", "_law_deep"] (spTree (n+1)):=by
  refine F.ok sc_l_tree (fun vs H Q E h=>?_) (fun cdv A outer s H vs Q E hr h=>?_)
  · obtain ⟨f,a,room,deep,ns,rfl,_⟩:=h
    rfl
  obtain ⟨f,a,room,deep,ns,rfl,hF,hN,nl,r1,r100,d1,dn,q⟩:=h
  refine ⟨_,(pss_cons (ps_set (i:=4) sc_l_tree.nd rfl (Or.inl rfl) (pe_cal C_l_take hr (Nat.succ_le_succ (Nat.zero_le _)) rfl (pa_cons (pv 0) (pa_cons pe_int pa_nil))))
      (pss_cons (ps_if (PW.pt (pw_or (pt_cmpR op_lt (pv 2) pe_int (nomark _)) (pw_or (pt_cmpR op_lt (pv 3) pe_int (nomark _)) (pw_or1 (pt_cmpR op_eq (pv 4) pe_int (nomark _)))))) (pss_cons (ps_if (PW.pt (pw_or (pt_cmpR op_eq (pe_op op_mod (pv 4) pe_int) pe_int (nomark _)) (pw_or1 (pt_cmpR op_eq (pe_callB call_len_seq rfl hlen PySem.boot_len (pa_cons (pv 1) pa_nil)) pe_int (nomark _))))) (pss_one (ps_ret (pe_ix ix_list (pe_lst (pa_cons (pe_tup (pa_cons pe_str pa_nil)) (pa_cons (pe_tup (pa_cons pe_str pa_nil)) pa_nil))) (pe_cal C_l_take hr (Nat.succ_le_succ (Nat.zero_le _)) rfl (pa_cons (pv 0) (pa_cons pe_int pa_nil))) (fun _ _=>rfl)))) pss_nil)
        (pss_one (ps_ret (pe_tup (pa_cons pe_str (pa_cons (pe_ix (ix_list.or ix_tup) (pv 1) (pe_cal C_l_take hr (Nat.succ_le_succ (Nat.zero_le _)) rfl (pa_cons (pv 0) (pa_cons (pe_callB call_len_seq rfl hlen PySem.boot_len (pa_cons (pv 1) pa_nil)) pa_nil))) (fun _ _=>rfl)) pa_nil)))))) pss_nil)
      (pss_cons (ps_if (PW.pt (pw_or (pt_cmpR op_lt (pv 2) pe_int (nomark _)) (pw_or1 (pt_cmpR op_eq (pv 4) pe_int (nomark _))))) (pss_one (ps_ret (pe_tup (pa_cons pe_str (pa_cons (pe_cal C_l_tree hr (Nat.le_refl _) rfl (pa_cons (pv 0) (pa_cons (pv 1) (pa_cons (pe_op op_sub (pv 2) pe_int) (pa_cons (pe_op op_sub (pv 3) pe_int) pa_nil))))) pa_nil))))) pss_nil)
      (pss_cons (ps_set (i:=5) sc_l_tree.nd rfl (Or.inl rfl) (pe_op op_add pe_int (pe_cal C_l_take hr (Nat.succ_le_succ (Nat.zero_le _)) rfl (pa_cons (pv 0) (pa_cons (pe_op op_sub (pv 2) pe_int) pa_nil)))))
      (pss_cons (ps_set (i:=6) sc_l_tree.nd rfl (Or.inl rfl) (pe_cal C_l_tree hr (Nat.le_refl _) rfl (pa_cons (pv 0) (pa_cons (pv 1) (pa_cons (pv 5) (pa_cons (pe_op op_sub (pv 3) pe_int) pa_nil))))))
      (pss_cons (ps_set (i:=7) sc_l_tree.nd rfl (Or.inl rfl) (pe_ix ix_list (pe_lst (pa_cons pe_str (pa_cons pe_str (pa_cons pe_str (pa_cons pe_str pa_nil))))) (pe_op op_mod (pv 4) pe_int) (fun _ _=>rfl)))
      (pss_one (ps_ret (pe_tup (pa_cons (pv 7) (pa_cons (pv 6) (pa_cons (pe_cal C_l_tree hr (Nat.le_refl _) rfl (pa_cons (pv 0) (pa_cons (pv 1) (pa_cons (pe_op op_sub (pe_op op_sub (pv 2) pe_int) (pv 5)) (pa_cons (pe_op op_sub (pv 3) pe_int) pa_nil))))) pa_nil)))))))))))),?_⟩
  refine ⟨_,rfl,f,10,rfl,hF,by decide,by decide,fun fm H1 f0 f10 F1 S1=>?_⟩
  have N1:=hN.feed hF S1
  refine ⟨_,rfl,_,_,rfl,rfl,_,rfl,?_⟩
  refine lf ?leaf fun c1 hX=>?_
  case leaf =>
    refine ⟨_,rfl,_,_,rfl,rfl,(by show (0:Int) < _; decide),rfl,_,rfl,?_⟩
    refine lf ?yn fun c6 hY=>?_
    case yn =>
      refine ⟨(by show 1≤sizeLine; decide),fun p1 h1=>?_⟩
      refine ⟨(by show 1≤sizeLine; decide),fun p2 h2=>?_⟩
      refine ⟨(by show 2≤sizeLine; decide),fun l hl=>?_⟩
      have ga:=Same.new h1 (.tup [.str "yes"])
      have gb:=Same.new h2 (.tup [.str "no"])
      have gc:=Same.new hl (.lst [.ref p1,.ref p2])
      have G:=ga.trans (gb.trans gc)
      have nlf:=(F1.same (ga.trans gb)).ne hl
      refine ⟨_,rfl,f,2,rfl,F1.same G,by decide,by decide,fun d H2 d0 d2 F2 S2=>?_⟩
      have y2:H2 p1=some (.tup [.str "yes"]):=keepT_feed (F1.same G) S2 _ _ (gc _ _ (gb _ _ upd_same))
      have n2:H2 p2=some (.tup [.str "no"]):=keepT_feed (F1.same G) S2 _ _ (gc _ _ upd_same)
      have l2:=S2 l _ nlf upd_same
      have:d=0∨d=1:=by omega
      rcases this with rfl | rfl
      · exact ⟨l,_,0,_,rfl,rfl,SqL.of l2,rfl,q (.ref p1) .yes H2 F2 (S1.trans ((SameBut.of G).trans S2)) (.yes y2) trivial (show (1:Int)≤room from r1) (show (1:Int)≤deep from d1)⟩
      · exact ⟨l,_,1,_,rfl,rfl,SqL.of l2,rfl,q (.ref p2) .no H2 F2 (S1.trans ((SameBut.of G).trans S2)) (.no n2) trivial (show (1:Int)≤room from r1) (show (1:Int)≤deep from d1)⟩
    refine ⟨_,rfl,a,_,rfl,N1.seq,rfl,_,rfl,?_⟩
    by_cases c7:V.int ((ns.map V.str).length:Int)=V.int 0
    · exact iteD c7 hY
    refine iteDF c7 ?_
    have nz:0 < ns.length:=by
      have z:¬ ((ns.map V.str).length:Int)=0:=fun z=>c7 (congrArg V.int z)
      rw [List.length_map] at z
      omega
    refine ⟨_,rfl,_,rfl,_,rfl,a,_,rfl,N1.seq,f,_,rfl,F1,(show (0:Int) < ((ns.map V.str).length:Int) by rw [List.length_map]; omega),by rw [List.length_map]; omega,fun d H2 d0 d9 F2 S2=>?_⟩
    obtain ⟨v,hv,vm⟩:=at_in (l:=ns.map V.str) (i:=d) d0 d9
    obtain ⟨x,hx,rfl⟩:=List.mem_map.mp vm
    refine (N1.feed F1 S2).ix hv ?_
    refine ⟨(by show 2≤sizeLine; decide),fun p hp=>?_⟩
    have G:=Same.new hp (.tup [.str "is", .str x])
    exact q (.ref p) (.is x) _ (F2.same G) (S1.trans (S2.trans (SameBut.of G))) (.is upd_same) hx (show (1:Int)≤room from r1) (show (1:Int)≤deep from d1)
  refine ⟨_,rfl,_,_,rfl,rfl,_,rfl,?_⟩
  by_cases c2:deep < 2
  · exact iteD c2 (iteT hX)
  refine iteDF c2 ?_
  refine ⟨_,rfl,rfl,_,rfl,?_⟩
  by_cases c3:V.int fm=V.int 9
  · exact iteD c3 hX
  refine iteDF c3 ?_
  refine ⟨_,rfl,_,_,rfl,rfl,_,rfl,?_⟩
  have d2:2≤deep:=by omega
  have dd:1≤deep - 1:=by omega
  have ddn:deep - 1+1≤(n:Int)+1:=by omega
  refine lf ?nt fun c4 hN=>?_
  case nt =>
    refine ⟨_,rfl,_,rfl,_,rfl,_,_,rfl,rfl,_,rfl,_,_,rfl,rfl,f,a,_,_,ns,rfl,F1,N1,nl,(show 1≤room - 1 by omega),by omega,dd,ddn,fun v1 t1 H3 F3 S3 T1 o1 z1 p1=>?_⟩
    refine ⟨(by show 2≤sizeLine; decide),fun p hp=>?_⟩
    have G5:=Same.new hp (.tup [.str "not", v1])
    refine q (.ref p) (.not t1) _ (F3.same G5) (S1.trans (S3.trans (SameBut.of G5))) (.not upd_same (T1.mono (keepT_same G5))) o1 ?_ ?_
    · show ((t1.size+1:Nat):Int)≤room
      omega
    · show ((t1.depth+1:Nat):Int)≤deep
      omega
  refine ⟨_,rfl,rfl,_,rfl,?_⟩
  by_cases c5:V.int fm=V.int 8
  · exact iteD c5 hN
  refine iteDF c5 ?_
  refine ⟨_,rfl,_,rfl,_,_,rfl,rfl,f,_,rfl,F1,(show (0:Int) < room - 2 by omega),(show room - 2 < 2 ^ 63 by omega),fun e H2 e0 e1 F2 S2=>?_⟩
  refine ⟨_,_,rfl,rfl,?_⟩
  have N2:=N1.feed F1 S2
  refine ⟨_,rfl,_,rfl,_,rfl,_,rfl,_,_,rfl,rfl,f,a,_,_,ns,rfl,F2,N2,nl,by omega,by omega,dd,ddn,fun v1 t1 H3 F3 S3 T1 o1 z1 p1=>?_⟩
  have N3:=N2.feed F2 S3
  refine ⟨(by show 4≤sizeLine; decide),fun l hl=>?_⟩
  obtain ⟨wd,hw,wm⟩:=at_in (l:=joinW.map V.str) (i:=fm % 4) (by omega) (by
    have:(joinW.map V.str).length=4:=by rfl
    omega)
  obtain ⟨x,hx,rfl⟩:=List.mem_map.mp wm
  refine ⟨_,rfl,_,_,rfl,rfl,(by show (0:Int) < _; decide),l,_,_,_,rfl,rfl,SqL.of upd_same,hw,?_⟩
  have G:=Same.new hl (.lst [.str "and", .str "or", .str "odd", .str "same"])
  refine ⟨_,rfl,_,rfl,_,rfl,_,rfl,_,rfl,_,_,rfl,rfl,_,rfl,_,_,rfl,rfl,_,rfl,_,_,rfl,rfl,f,a,_,_,ns,rfl,F3.same G,N3.same G,nl,(show 1≤room - 1 - (1+e) by omega),by omega,dd,ddn,fun v2 t2 H4 F4 S4 T2 o2 z2 p2=>?_⟩
  refine ⟨(by show 3≤sizeLine; decide),fun p hp=>?_⟩
  have G5:=Same.new hp (.tup [.str x,v1,v2])
  have T1':TreeAt H4 v1 t1:=(T1.mono (keepT_same G)).mono (keepT_feed (F3.same G) S4)
  refine q (.ref p) (.bin x t1 t2) _ (F4.same G5) (S1.trans (S2.trans (S3.trans ((SameBut.of G).trans (S4.trans (SameBut.of G5)))))) (.bin upd_same (T1'.mono (keepT_same G5)) (T2.mono (keepT_same G5))) ⟨hx,o1,o2⟩ ?_ ?_
  · show ((t1.size+t2.size+1:Nat):Int)≤room
    omega
  · show ((max t1.depth t2.depth+1:Nat):Int)≤deep
    omega
theorem tree_zero {f:Addr} {fd:FuncData}:FnOk P w K mg base CX0 2 f fd ["_law_feed_here", "_law_names_here", "_law_room", "_law_deep"] (spTree 0):=by
  have no:∀ vs H Q E,¬ spTree 0 vs H Q E:=fun vs H Q E h=>by
    obtain ⟨f,a,room,deep,ns,_,_,_,_,_,_,h1,h2,_⟩:=h
    omega
  exact ⟨fun vs H Q E h=>absurd h (no vs H Q E),fun A outer s H args us vs Q E _ _ _ _ h=>absurd h (no vs H Q E)⟩
theorem ok_l_tree {f:Addr} {fd:FuncData} (F:Fun K "_law_tree" "_law_tree" s_l_tree f fd) (hlen:mg "len" = none) (m:mg "_law_tree" = some (.ref f)) (C_l_take:Cal P w K mg base 1 "_law_take" ["_law_feed_here", "_law_many"] spTake) :
    ∀ n:Nat,FnOk P w K mg base CX0 (n+2) f fd ["_law_feed_here", "_law_names_here", "_law_room", "_law_deep"] (spTree n)
  | 0=>tree_zero
  | n+1=>tree_step F hlen C_l_take (Cal.of F (ok_l_tree F hlen m C_l_take n) m (fun _ _ _ _ _ _ us hl=>by obtain ⟨u0,u1,u2,u3,rfl⟩:=len4 hl; rfl))
def ifBody:Stmt→List Stmt
  | .If _ b _ _=>b
  | _=>[]
def ifTest:Stmt→Expr
  | .If c _ _ _=>c
  | _=>.Constant .none 0 ⟨0,0,0,0⟩
def valOf:Stmt→Expr
  | .Assign _ v _=>v
  | .Return (some v) _=>v
  | _=>.Constant .none 0 ⟨0,0,0,0⟩
def eltsOf:Expr→List Expr
  | .List es _=>es
  | .BinOp _ _ (.List es _) _=>es
  | .Subscript (.List es _) _ _=>es
  | _=>[]
abbrev stm (s:Stmt) (i:Nat):Stmt:=(defBody s).getD i (.Pass ⟨0,0,0,0⟩)
abbrev stmI (s:Stmt) (i j:Nat):Stmt:=(ifBody (stm s i)).getD j (.Pass ⟨0,0,0,0⟩)
def wordsA:List Str:=["is", "set", "say", "if", "go", "end", "num", "box", "op", "field", "holds", "claims"]
def wordsB:List Str:=["nota", "nob", "yesx", "andy", "ors", "oddly"]
def wordsC:List Str:=["samey", "rounds", "dues", "coins", "truex", "asks"]
@[irreducible] def namesA:List Expr:=eltsOf (valOf (stmI s_l_names 6 0))
@[irreducible] def namesB:List Expr:=eltsOf (valOf (stmI s_l_names 6 1))
@[irreducible] def namesC:List Expr:=eltsOf (valOf (stmI s_l_names 6 2))
theorem namesA_w:Consts namesA wordsA:=by
  unfold namesA
  exact .cons (.cons (.cons (.cons (.cons (.cons (.cons (.cons (.cons (.cons (.cons (.cons .nil)))))))))))
theorem namesB_w:Consts namesB wordsB:=by
  unfold namesB
  exact .cons (.cons (.cons (.cons (.cons (.cons .nil)))))
theorem namesC_w:Consts namesC wordsC:=by
  unfold namesC
  exact .cons (.cons (.cons (.cons (.cons (.cons .nil)))))
theorem names_body:∃ p1 p2 p3 p4 p5 p6 p7 p8 p9 q1 q2 q3 q4 q5,defBody s_l_names=[stm s_l_names 0,stm s_l_names 1,stm s_l_names 2,stm s_l_names 3,stm s_l_names 4,stm s_l_names 5,
    .If (ifTest (stm s_l_names 6)) [.Assign [.Name "_law_words" p1] (.List namesA p2) p3,.Assign [.Name "_law_words" p4] (.BinOp (.Name "_law_words" p5) .Add (.List namesB p6) p7) p8,.Assign [.Name "_law_words" p9] (.BinOp (.Name "_law_words" q1) .Add (.List namesC q2) q3) q4,stmI s_l_names 6 3] [] q5,stm s_l_names 7] :=
  ⟨_,_,_,_,_,_,_,_,_,_,_,_,_,_,by with_unfolding_all rfl⟩
def LTR:Str := "bcdfghjklmnpqrstvwxz"
theorem ltr_na:∀ c ∈ LTR.cps.toList,c ≠ 97:=by decide +kernel
theorem ltr_ok:∀ c ∈ LTR.cps.toList,97≤c∧c≤122:=by decide +kernel
theorem words_ok:∀ x ∈ (wordsA++wordsB)++wordsC,x.length≤20∧(∀ c ∈ x.cps.toList,97≤c∧c≤122)∧x ≠ "aa" := by decide +kernel
def spNamesN:Sp:=fun vs H Q _=>∃ (f:Addr) (m:Int),vs=[.ref f,.int m]∧FeedAt H f∧0≤m∧m≤6∧∀ (l:Addr) (ns:List Str) (H':Hp),H l=none→l ≠ f→H' l=some (.lst (ns.map V.str))→ns.length=m.toNat→(∀ x ∈ ns,NmOk x)→ns.Nodup→FeedAt H' f→SameBut f H H'→Q (.ref l) H'
theorem words_out:∀ x ∈ (wordsA++wordsB)++wordsC,∃ c ∈ x.cps.toList,c ∉ LTR.cps.toList:=by decide +kernel
theorem ltr_inj:∀ a b:Fin 20,LTR.cps.toList[a.val]?=LTR.cps.toList[b.val]?→a=b:=by decide +kernel
theorem nd_names {ns:List Str} {t:Nat} {u:Int} (u0:0≤u) (u20:u < 20) (hl:ns.length≤6) (h:∀ (k:Nat) x,ns[k]?=some x→x.cps.toList[t]?=LTR.cps.toList[((u+7*(k:Int)) % 20).toNat]?):ns.Nodup:=by
  refine List.pairwise_iff_getElem.mpr fun i j hi hj ij e=>?_
  have h1:=h i _ (List.getElem?_eq_getElem hi)
  have h2:=h j _ (List.getElem?_eq_getElem hj)
  rw [e] at h1
  have h3:=h1.symm.trans h2
  have h4:=ltr_inj ⟨((u+7*(i:Int)) % 20).toNat,by omega⟩ ⟨((u+7*(j:Int)) % 20).toNat,by omega⟩ h3
  have h5:=congrArg Fin.val h4
  simp only at h5
  omega
theorem nd_set {ns:List Str} {x:Str} {j:Nat} (h:ns.Nodup) (hx:x ∉ ns):(ns.set j x).Nodup:=by
  refine List.pairwise_iff_getElem.mpr fun a b ha hb ab=>?_
  rw [List.length_set] at ha hb
  rw [List.getElem_set,List.getElem_set]
  split
  · split
    · omega
    · intro e
      exact hx (e ▸ List.getElem_mem hb)
  · split
    · intro e
      exact hx (e ▸ List.getElem_mem ha)
    · exact List.pairwise_iff_getElem.mp h a b ha hb ab
theorem at_get {α:Type} {l:List α} {i:Int} {v:α} (h0:0≤i) (h:atI l i=some v):l[i.toNat]?=some v:=by
  have ek:((i.toNat:Nat):Int)=i:=by omega
  by_cases c:i.toNat < l.length
  · have q:atI l ((i.toNat:Nat):Int)=some l[i.toNat]:=atI_nat (List.getElem?_eq_getElem c)
    rw [ek,h] at q
    rw [List.getElem?_eq_getElem c]
    exact q.symm
  · exfalso
    unfold atI ixN at h
    rw [if_pos h0,if_neg (by omega)] at h
    cases h
theorem sum_ones {zs:List Str} (h:∀ z ∈ zs,z.length=1∧∀ c ∈ z.cps.toList,c ∈ LTR.cps.toList):(zs.map (·.length)).sum=zs.length:=by
  induction zs with
  | nil=>rfl
  | cons a r ih =>
    rw [List.map_cons,List.sum_cons,ih fun z hz=>h z (List.mem_cons_of_mem _ hz),(h a List.mem_cons_self).1,List.length_cons]
    omega
theorem sc_l_names:FnScope ["_law_feed_here", "_law_many", "_law_letters", "_law_common", "_law_at", "_law_first", "_law_found", "_law_k", "_law_tail", "_law_sign", "_law_words"] ["_law_feed_here", "_law_many"] (defScope s_l_names):=⟨rfl,rfl,rfl,by decide +kernel,rfl,by decide +kernel,by decide +kernel⟩
theorem feed_upd {H:Hp} {f p:Addr} {o:HO} (F:FeedAt H f) (h:p ≠ f):FeedAt (upd H p o) f:=by
  obtain ⟨x,t,e,r⟩:=F
  exact ⟨x,t,by rw [upd_ne (Ne.symm h)]; exact e,r⟩
theorem ok_l_names {f:Addr} {fd:FuncData} (F:Fun K "_law_names" "_law_names" s_l_names f fd) (hrange:mg "range" = none) (C_l_take:Cal P w K mg base 1 "_law_take" ["_law_feed_here", "_law_many"] spTake):FnOk P w K mg base CX0 2 f fd ["_law_feed_here", "_law_many"] spNamesN:=by
  refine F.ok sc_l_names (fun vs H Q E h=>?_) (fun cdv A outer s H vs Q E hr h=>?_)
  · obtain ⟨f,m,rfl,_⟩:=h
    rfl
  obtain ⟨f,m,rfl,hF,m0,m6,q⟩:=h
  obtain ⟨p1,p2,p3,p4,p5,p6,p7,p8,p9,q1,q2,q3,q4,q5,ebody⟩:=names_body
  rw [ebody]
  refine ⟨_,(pss_cons (ps_set (i:=2) sc_l_names.nd rfl (Or.inr rfl) pe_str)
      (pss_cons (ps_set (i:=3) sc_l_names.nd rfl (Or.inl rfl) (pe_bm PySem.F.plainAttrs_str PySem.F.slot_str_join PySem.F.type_str_join mt_join pe_str (pa_cons (pe_comp (N:=["_law_letters", "_law_feed_here"]) (ix:=[2,0]) rfl
          (CompScope.two (by with_unfolding_all rfl) (by decide) rfl (by decide) rfl (by decide +kernel) (by first | exact Or.inl rfl | exact Or.inr rfl) (by with_unfolding_all rfl) (by with_unfolding_all rfl) (by with_unfolding_all rfl) (by with_unfolding_all rfl) rfl rfl (by with_unfolding_all rfl) rfl rfl) rfl
          (pi_range1 rfl hrange (pa_cons pe_int pa_nil))
          (fun _ _ _=>pb_all (pe_ix ix_str (pv 1) (pe_cal C_l_take hr (by decide) rfl (pa_cons (pv 2) (pa_cons pe_int pa_nil))) (fun _ _=>rfl)))) pa_nil)))
      (pss_cons (ps_set (i:=4) sc_l_names.nd rfl (Or.inl rfl) (pe_cal C_l_take hr (by decide) rfl (pa_cons (pv 0) (pa_cons pe_int pa_nil))))
      (pss_cons (ps_set (i:=5) sc_l_names.nd rfl (Or.inl rfl) (pe_cal C_l_take hr (by decide) rfl (pa_cons (pv 0) (pa_cons pe_int pa_nil))))
      (pss_cons (ps_set (i:=6) sc_l_names.nd rfl (Or.inl rfl) (pe_lst pa_nil))
      (pss_cons (ps_for PassesOwn.never rfl (pi_range1 rfl hrange (pa_cons (pv 1) pa_nil)) (pg_name (i:=7) sc_l_names.nd rfl (Or.inl rfl)) (pss_cons (ps_set (i:=8) sc_l_names.nd rfl (Or.inl rfl) (pe_op op_mod (pe_cal C_l_take hr (by decide) rfl (pa_cons (pv 0) (pa_cons (pe_op op_sub pe_int (pv 4)) pa_nil))) pe_int))
        (pss_cons (ps_set (i:=9) sc_l_names.nd rfl (Or.inl rfl) (pe_ix ix_str (pv 2) (pe_op op_mod (pe_op op_add (pv 5) (pe_op op_mul pe_int (pv 7))) pe_int) (fun _ _=>rfl)))
        (pss_one (ps_expr (pe_bm PySem.F.plainAttrs_list PySem.F.slot_list_append PySem.F.type_list_append mt_append (pv 6) (pa_cons (pe_op op_add_str (pe_op op_add_str (pe_slice sl_str (pv 3) po_none (po_some (pv 4))) (pv 9)) (pe_slice sl_str (pv 3) (po_some (pv 4)) (po_some (pe_op op_add (pv 4) (pv 8))))) pa_nil)))))))
      (pss_cons (ps_if (PW.pt (pw_and (pt_cmpR op_gt (pv 1) pe_int (nomark _)) (pw_and1 (pt_cmpR op_eq (pe_cal C_l_take hr (by decide) rfl (pa_cons (pv 0) (pa_cons pe_int pa_nil))) pe_int (nomark _))))) (pss_cons (ps_set (i:=10) sc_l_names.nd rfl (Or.inl rfl) (pe_lst (pa_consts namesA_w)))
        (pss_cons (ps_set (i:=10) sc_l_names.nd rfl (Or.inl rfl) (pe_op op_cat (pv 10) (pe_lst (pa_consts namesB_w))))
        (pss_cons (ps_set (i:=10) sc_l_names.nd rfl (Or.inl rfl) (pe_op op_cat (pv 10) (pe_lst (pa_consts namesC_w))))
        (pss_one (ps_asg (pe_ix ix_list (pv 10) (pe_cal C_l_take hr (by decide) rfl (pa_cons (pv 0) (pa_cons pe_int pa_nil))) (fun _ _=>rfl)) (pg_sub (pv 6) (pe_cal C_l_take hr (by decide) rfl (pa_cons (pv 0) (pa_cons (pv 1) pa_nil))) set_list)))))) pss_nil)
      (pss_one (ps_ret (pv 6)))))))))),?_⟩
  refine ⟨rfl,5,rfl,by decide,by decide,fun D hD=>?_⟩
  have Df:=hF.ne hD
  have L20:LTR.cps.toList.length=20:=by decide +kernel
  refine comp_range (fun i H'=>∃ zs:List Str,H' D=some (.lst (zs.map V.str))∧zs.length=i∧(∀ z ∈ zs,z.length=1∧∀ c ∈ z.cps.toList,c ∈ LTR.cps.toList)∧FeedAt H' f∧SameBut f H H') ⟨[],by rw [upd_same]; rfl,rfl,by simp,hF.same (Same.new hD _),SameBut.of (Same.new hD _)⟩ ?_ ?_
  · rintro i H3 hi ⟨zs,hl,zl,z1,F3,S3⟩
    have i5:i < 5:=hi
    refine ⟨_,rfl,_,rfl,f,20,rfl,F3,by decide,by decide,fun d H4 d0 d26 F4 S4=>?_⟩
    obtain ⟨c,hc,hm⟩:=at_in (l:=LTR.cps.toList) (i:=d) d0 (by rw [L20]; exact d26)
    have hD4:H4 D=some (.lst (zs.map V.str)):=S4 D _ Df hl
    refine ⟨_,d,c,rfl,rfl,small (by decide +kernel),hc,_,hD4,?_,Nx.of hi ⟨zs++[⟨#[c]⟩],?_,?_,?_,feed_upd F4 Df,?_⟩⟩
    · rw [List.length_map,zl]
      exact small1000 (Nat.le_of_lt (Nat.lt_trans i5 (by decide)))
    · rw [upd_same,List.map_append]
      rfl
    · rw [List.length_append,List.length_singleton,zl]
    · intro z hz
      rcases List.mem_append.mp hz with h | h
      · exact z1 z h
      · rw [List.mem_singleton.mp h]
        refine ⟨rfl,fun c' hc'=>?_⟩
        have:c'=c:=by simpa using hc'
        subst this
        exact hm
    · intro b o hb e
      rw [upd_ne (ne_of_none e hD)]
      exact S4 b o hb (S3 b o hb e)
  rintro H3 ⟨zs,hl,zl,z1,F3,S3⟩
  have sl:=sum_ones z1
  have zl5:zs.length=5:=zl
  refine ⟨_,D,zs,rfl,rfl,SqL.of hl,(by decide +kernel),by omega,?_⟩
  have jl:(Txt.join "" zs).length=5:=by
    have:=size_glued "" zs
    have e0:(("" : Str)).length=0:=by decide +kernel
    rw [e0,Nat.mul_zero] at this
    show (Builtin.Str.glued "" zs).length=5
    omega
  have jc:∀ c ∈ (Txt.join "" zs).cps.toList,c ∈ LTR.cps.toList:=fun c hc=>by
    obtain ⟨z,hz,h⟩:=mem_join0 hc
    exact (z1 z hz).2 c h
  generalize Txt.join "" zs=cm at jl jc
  refine ⟨_,rfl,f,6,rfl,F3,by decide,by decide,fun t H4 t0 t6 F4 S4=>?_⟩
  refine ⟨_,rfl,f,20,rfl,F4,by decide,by decide,fun u H5 u0 u20 F5 S5=>?_⟩
  refine ⟨(by show 0≤sizeLine; decide),fun L hL=>?_⟩
  have S05:SameBut f H H5:=S3.trans (S4.trans S5)
  have Lf:=F5.ne hL
  have L0:H L=none:=by
    cases e:H L with
    | none=>rfl
    | some o=>rw [S05 L o Lf e] at hL; cases hL
  refine ⟨_,rfl,m,rfl,by omega,by omega,for_range (fun i σ H'=>∃ (x7 x8 x9:Option V) (ns:List Str),σ=[some (.ref f),some (.int m),some (.str LTR),some (.str cm),some (.int t),some (.int u),some (.ref L),x7,x8,x9,none]∧H' L=some (.lst (ns.map V.str))∧ns.length=i∧(∀ x ∈ ns,NmOk x)∧(∀ x ∈ ns,∀ c ∈ x.cps.toList,c ∈ LTR.cps.toList)∧(∀ (k:Nat) x,ns[k]?=some x→x.cps.toList[t.toNat]?=LTR.cps.toList[((u+7*(k:Int)) % 20).toNat]?)∧FeedAt H' f∧SameBut f H H')
    ⟨_,_,_,[],rfl,by rw [upd_same]; rfl,rfl,by simp,by simp,by simp,F5.same (Same.new hL _),S05.trans (SameBut.of (Same.new hL _))⟩ ?_ ?_⟩
  · rintro i σ H6 hi ⟨x7,x8,x9,ns,rfl,hns,nl,nok,nlt,nat,F6,S6⟩
    refine ⟨_,rfl,_,rfl,_,_,rfl,rfl,f,_,rfl,F6,(Int.sub_pos_of_lt t6),(Int.lt_of_le_of_lt (Int.sub_le_self 6 t0) (by decide)),fun d H7 d0 d1 F7 S7=>?_⟩
    refine ⟨_,_,rfl,rfl,(by show (0:Int) < _; decide),?_⟩
    obtain ⟨c,hc,hm⟩:=at_in (l:=LTR.cps.toList) (i:=(u+7*(0+(i:Int))) % 20) (Int.emod_nonneg _ (by decide)) (by rw [L20]; exact Int.emod_lt_of_pos _ (by decide))
    refine ⟨_,rfl,_,rfl,_,rfl,_,_,rfl,rfl,?_,_,_,rfl,rfl,_,_,rfl,rfl,(by show (0:Int) < _; decide),_,_,c,rfl,rfl,small (by decide +kernel),hc,?_⟩
    · exact .inl ⟨by decide,by decide⟩
    have hL7:=S7 L _ Lf hns
    have z1:(Txt.slice cm none (some t)).length≤cm.length:=Txt.slice_le cm none (some t)
    have z2:(Txt.slice cm (some t) (some (t+d % 3))).length≤cm.length:=Txt.slice_le cm _ _
    have z3:((⟨#[c]⟩:Str)).length=1:=rfl
    refine ⟨_,rfl,.inl ⟨rfl,_,SqL.of hL7⟩,?_⟩
    refine ⟨_,rfl,_,rfl,_,rfl,_,rfl,small (by rw [jl]; decide),_,rfl,_,_,rfl,rfl,small (by rw [z3]; omega),?_⟩
    refine ⟨_,rfl,_,rfl,_,rfl,_,rfl,_,rfl,_,_,rfl,rfl,_,rfl,_,rfl,small (by rw [jl]; decide),_,_,rfl,rfl,small (by rw [Str.length_append,z3]; omega),?_⟩
    refine ⟨L,_,_,rfl,rfl,hL7,?_,?_⟩
    · rw [List.length_map]
      exact small1000 (by omega)
    refine ⟨_,_,_,ns++[(Txt.slice cm none (some t)++⟨#[c]⟩)++Txt.slice cm (some t) (some (t+d % 3))],rfl,?_,?_,?_,?_,?_,feed_upd F7 Lf,?_⟩
    · rw [upd_same,List.map_append]
      rfl
    · rw [List.length_append,List.length_singleton,nl]
    · intro x hx
      rcases List.mem_append.mp hx with h | h
      · exact nok x h
      · rw [List.mem_singleton.mp h]
        refine ⟨?_,fun c' hc'=>?_,fun ea=>?_⟩
        · rw [Str.length_append,Str.length_append,z3]
          omega
        rotate_left
        · have cm1:c ∈ (((Txt.slice cm none (some t)++⟨#[c]⟩)++Txt.slice cm (some t) (some (t+d % 3)):Str)).cps.toList:=by
            rw [Str.cps_append,Str.cps_append]
            simp
          rw [ea] at cm1
          exact ltr_na c hm ((by decide +kernel:∀ c ∈ (("aa" : Str)).cps.toList,c=97) c cm1)
        · rcases mem_append hc' with h | h
          · rcases mem_append h with h | h
            · exact ltr_ok _ (jc _ (mem_slice h))
            · have:c'=c:=by simpa using h
              subst this
              exact ltr_ok _ hm
          · exact ltr_ok _ (jc _ (mem_slice h))
    · intro x hx c' hc'
      rcases List.mem_append.mp hx with h | h
      · exact nlt x h c' hc'
      · rw [List.mem_singleton.mp h] at hc'
        rcases mem_append hc' with h | h
        · rcases mem_append h with h | h
          · exact jc _ (mem_slice h)
          · have:c'=c:=by simpa using h
            subst this
            exact hm
        · exact jc _ (mem_slice h)
    · intro k x hx
      by_cases ck:k < ns.length
      · rw [List.getElem?_append_left ck] at hx
        exact nat k x hx
      · have kl:k < (ns++[(Txt.slice cm none (some t)++⟨#[c]⟩)++Txt.slice cm (some t) (some (t+d % 3))]).length:=(List.getElem?_eq_some_iff.mp hx).1
        rw [List.length_append,List.length_singleton] at kl
        have ek:k=i:=by omega
        subst ek
        rw [List.getElem?_append_right (by omega),nl,Nat.sub_self] at hx
        have ex:(Txt.slice cm none (some t)++⟨#[c]⟩)++Txt.slice cm (some t) (some (t+d % 3))=x:=Option.some.inj hx
        rw [← ex]
        have cl:cm.cps.toList.length=5:=jl
        have es:Txt.slice cm none (some t)=⟨((cm.cps.toList.drop 0).take (t - 0).toNat).toArray⟩:=StrLaws.sliceText_to ⟨t0,by omega⟩
        have el:(Txt.slice cm none (some t)).cps.toList.length=t.toNat:=by
          rw [es]
          simp only [List.drop_zero,Int.sub_zero,List.length_take]
          omega
        have ea:((Txt.slice cm none (some t)++⟨#[c]⟩)++Txt.slice cm (some t) (some (t+d % 3))).cps.toList=(Txt.slice cm none (some t)).cps.toList++([c]++(Txt.slice cm (some t) (some (t+d % 3))).cps.toList):=by
          rw [Str.cps_append,Str.cps_append]
          simp
        rw [ea,List.getElem?_append_right (by omega),el,Nat.sub_self]
        have hc2:LTR.cps.toList[((u+7*(0+(k:Int))) % 20).toNat]?=some c:=at_get (Int.emod_nonneg _ (by decide)) hc
        rw [Int.zero_add] at hc2
        rw [hc2]
        rfl
    · intro b o hb e
      rw [upd_ne (ne_of_none e L0)]
      exact S7 b o hb (S6 b o hb e)
  · rintro σ H6 ⟨x7,x8,x9,ns,rfl,hns,nl,nok,nlt,nat,F6,S6⟩
    have nnd:ns.Nodup:=nd_names u0 u20 (by omega) nat
    refine ⟨_,rfl,_,_,rfl,rfl,_,rfl,?_⟩
    have fin:∀ H':Hp,∀ ns:List Str,H' L=some (.lst (ns.map V.str))→ns.length=m.toNat→(∀ x ∈ ns,NmOk x)→ns.Nodup→FeedAt H' f→SameBut f H H'→Q (.ref L) H':=fun H' ns a b c nd d e=>q L ns H' L0 Lf a b c nd d e
    by_cases c1:(0:Int) < m
    · refine iteD c1 ?_
      refine ⟨_,rfl,f,3,rfl,F6,by decide,by decide,fun d H7 d0 d1 F7 S7=>?_⟩
      refine ⟨rfl,_,rfl,?_⟩
      have hL7:=S7 L _ Lf hns
      refine ite2 (fun _=>?_) (fun _=>?_)
      · refine ⟨(by show 12≤sizeLine; decide),fun l1 h1=>?_⟩
        refine ⟨_,rfl,(by show 6≤sizeLine; decide),fun l2 h2=>?_⟩
        refine ⟨l1,l2,wordsA.map V.str,wordsB.map V.str,rfl,rfl,Same.new h2 _ _ _ upd_same,upd_same,(by show 18≤sizeLine; decide),fun l3 h3=>?_⟩
        refine ⟨_,rfl,(by show 6≤sizeLine; decide),fun l4 h4=>?_⟩
        refine ⟨l3,l4,wordsA.map V.str++wordsB.map V.str,wordsC.map V.str,rfl,rfl,Same.new h4 _ _ _ upd_same,upd_same,(by show 24≤sizeLine; decide),fun l5 h5=>?_⟩
        have G:=(Same.new h1 (.lst (wordsA.map V.str))).trans ((Same.new h2 (.lst (wordsB.map V.str))).trans ((Same.new h3 (.lst (wordsA.map V.str++wordsB.map V.str))).trans ((Same.new h4 (.lst (wordsC.map V.str))).trans (Same.new h5 (.lst ((wordsA.map V.str++wordsB.map V.str)++wordsC.map V.str))))))
        have F8:=F7.same G
        have n5:=(F7.same ((Same.new h1 (.lst (wordsA.map V.str))).trans ((Same.new h2 (.lst (wordsB.map V.str))).trans ((Same.new h3 (.lst (wordsA.map V.str++wordsB.map V.str))).trans (Same.new h4 (.lst (wordsC.map V.str))))))).ne h5
        refine ⟨_,rfl,_,rfl,f,24,rfl,F8,by decide,by decide,fun e H9 e0 e1 F9 S9=>?_⟩
        obtain ⟨v,hv,vm⟩:=at_in (l:=(wordsA.map V.str++wordsB.map V.str)++wordsC.map V.str) (i:=e) e0 (by
          have:((wordsA.map V.str++wordsB.map V.str)++wordsC.map V.str).length=24:=by rfl
          omega)
        rw [← List.map_append,← List.map_append] at vm
        obtain ⟨x,hx,rfl⟩:=List.mem_map.mp vm
        refine ⟨l5,_,e,_,rfl,rfl,SqL.of (S9 l5 _ n5 upd_same),hv,?_⟩
        refine ⟨_,rfl,_,rfl,_,rfl,f,m,rfl,F9,c1,by omega,fun j H10 j0 j1 F10 S10=>?_⟩
        have hL10:=S10 L _ Lf (S9 L _ Lf (G L _ hL7))
        refine ⟨L,_,j,j.toNat,rfl,rfl,hL10,?_,?_⟩
        · have jl:j < ((ns.map V.str).length:Int):=by rw [List.length_map]; omega
          unfold ixN
          rw [if_pos j0,if_pos jl]
        refine ⟨_,rfl,?_⟩
        refine fin _ (ns.set j.toNat x) (by rw [upd_same,List.map_set]) (by rw [List.length_set]; exact nl) ?_ ?_ (feed_upd F10 Lf) ?_
        · intro y hy
          rcases List.mem_or_eq_of_mem_set hy with h | h
          · exact nok y h
          · rw [h]
            exact words_ok x hx
        · refine nd_set nnd fun hm=>?_
          obtain ⟨c,c1,c2⟩:=words_out x hx
          exact c2 (nlt x hm c c1)
        · intro b o hb e'
          rw [upd_ne (ne_of_none e' L0)]
          exact S10 b o hb (S9 b o hb (G b o (S7 b o hb (S6 b o hb e'))))
      · refine ⟨_,rfl,?_⟩
        exact fin H7 ns hL7 nl nok nnd F7 (S6.trans S7)
    · refine iteDF c1 ?_
      refine iteF ?_
      refine ⟨_,rfl,?_⟩
      exact fin H6 ns hns nl nok nnd F6 S6
theorem posOf_mem {x:Str}:∀ {ns:List Str},x ∈ ns→∃ j,posOf x ns=some j∧j < ns.length
  | [],h=>by cases h
  | a::r,h=>by
    unfold posOf
    by_cases c:a=x
    · exact ⟨0,by rw [if_pos c],by simp⟩
    · rw [if_neg c]
      rcases List.mem_cons.mp h with e | e
      · exact absurd e.symm c
      · obtain ⟨j,h1,h2⟩:=posOf_mem e
        exact ⟨j+1,by rw [h1]; rfl,by simpa using h2⟩
theorem str_inj {a b:Str} (h:V.str a=V.str b):a=b:=by injection h
def joinI (p:Int) (o:Str) (x y:Int):Int:=if o = "and" then x*y % p else if o = "or" then (x+y - x*y) % p else if o = "odd" then (x+y - 2*(x*y)) % p else (1 - (x+y - 2*(x*y))) % p
def Tr.worth (ns:List Str) (pt:List Int) (p:Int):Tr→Int
  | .is x=>match posOf x ns with | some j=>pt.getD j 0 | none=>0
  | .yes=>1
  | .no=>0
  | .not a=>(1 - a.worth ns pt p) % p
  | .bin o a b=>joinI p o (a.worth ns pt p) (b.worth ns pt p)
def PtOk (pt:List Int) (p:Int):Prop:=∀ x ∈ pt,0≤x∧x < p
theorem joinI_rng {p:Int} (hp:0 < p) (o:Str) (x y:Int):0≤joinI p o x y∧joinI p o x y < p:=by
  have key:∀ z:Int,0≤z % p∧z % p < p:=fun z=>⟨Int.emod_nonneg _ (by omega),Int.emod_lt_of_pos _ hp⟩
  unfold joinI
  repeat' split
  all_goals exact key _
theorem getD_mem {l:List Int} {j:Nat} (h:j < l.length):l.getD j 0=l[j]:=by
  rw [List.getD_eq_getElem?_getD,List.getElem?_eq_getElem h]
  rfl
theorem worth_rng {ns:List Str} {pt:List Int} {p:Int} (hp:1 < p) (h:PtOk pt p) (hl:pt.length=ns.length):∀ t:Tr,t.ok ns→0≤t.worth ns pt p∧t.worth ns pt p < p
  | .is x,ok=>by
    obtain ⟨j,hj,jl⟩:=posOf_mem ok
    show 0≤(match posOf x ns with | some j=>pt.getD j 0 | none=>0)∧(match posOf x ns with | some j=>pt.getD j 0 | none=>0) < p
    rw [hj]
    show 0≤pt.getD j 0∧pt.getD j 0 < p
    rw [getD_mem (by omega)]
    exact h _ (List.getElem_mem _)
  | .yes,_=>⟨by show (0:Int)≤1; decide,hp⟩
  | .no,_=>⟨Int.le_refl 0,by show (0:Int) < p; omega⟩
  | .not a,_=>⟨Int.emod_nonneg _ (by omega),Int.emod_lt_of_pos _ (by omega)⟩
  | .bin o a b,_=>joinI_rng (by omega) _ _ _
def spJW:Sp:=fun vs H Q _=>∃ (o:Str) (x y p:Int),vs=[.str o,.int x,.int y,.int p]∧0≤x∧x < p∧p < 2 ^ 40∧Q (.int (joinI p o x y)) H
theorem sc_joined_worth:FnScope ["word", "first", "second", "p", "both", "odd"] ["word", "first", "second", "p"] (defScope s_joined_worth):=⟨rfl,rfl,rfl,by decide +kernel,rfl,by decide +kernel,by decide +kernel⟩
theorem ok_joined_worth {f:Addr} {fd:FuncData} (F:Fun K "joined_worth" "joined_worth" s_joined_worth f fd):FnOk P w K mg base CX0 1 f fd ["word", "first", "second", "p"] spJW:=by
  refine F.ok sc_joined_worth (fun vs H Q E h=>?_) (fun cdv A outer s H vs Q E hr h=>?_)
  · obtain ⟨o,x,y,p,rfl,_⟩:=h
    rfl
  obtain ⟨o,x,y,p,rfl,x0,xp,pb,k⟩:=h
  refine ⟨_,(pss_cons (ps_set (i:=4) sc_joined_worth.nd rfl (Or.inl rfl) (pe_op op_mul (pv 1) (pv 2)))
      (pss_cons (ps_if (pt_cmpR op_eq (pv 0) pe_str (nomark _)) (pss_one (ps_ret (pe_op op_mod (pv 4) (pv 3)))) pss_nil)
      (pss_cons (ps_if (pt_cmpR op_eq (pv 0) pe_str (nomark _)) (pss_one (ps_ret (pe_op op_mod (pe_op op_sub (pe_op op_add (pv 1) (pv 2)) (pv 4)) (pv 3)))) pss_nil)
      (pss_cons (ps_set (i:=5) sc_joined_worth.nd rfl (Or.inl rfl) (pe_op op_sub (pe_op op_add (pv 1) (pv 2)) (pe_op op_mul pe_int (pv 4))))
      (pss_cons (ps_if (pt_cmpR op_eq (pv 0) pe_str (nomark _)) (pss_one (ps_ret (pe_op op_mod (pv 5) (pv 3)))) pss_nil)
      (pss_one (ps_ret (pe_op op_mod (pe_op op_sub pe_int (pv 5)) (pv 3))))))))),?_⟩
  refine ⟨_,rfl,_,rfl,_,_,rfl,rfl,.inl ⟨by omega,by omega⟩,?_⟩
  refine ⟨_,rfl,rfl,_,rfl,?_⟩
  by_cases c1:V.str o=V.str "and"
  · refine iteD c1 ?_
    have e:joinI p o x y=x*y % p:=by unfold joinI; rw [if_pos (str_inj c1)]
    rw [e] at k
    exact ⟨_,rfl,_,rfl,_,_,rfl,rfl,(show (0:Int) < p by omega),k⟩
  refine iteDF c1 ?_
  have n1:¬ o = "and" := fun z=>c1 (by rw [z])
  refine ⟨_,rfl,rfl,_,rfl,?_⟩
  by_cases c2:V.str o=V.str "or"
  · refine iteD c2 ?_
    have e:joinI p o x y=(x+y - x*y) % p:=by unfold joinI; rw [if_neg n1,if_pos (str_inj c2)]
    rw [e] at k
    exact ⟨_,rfl,_,rfl,_,_,rfl,rfl,_,rfl,_,_,rfl,rfl,_,rfl,_,_,rfl,rfl,(show (0:Int) < p by omega),k⟩
  refine iteDF c2 ?_
  have n2:¬ o = "or" := fun z=>c2 (by rw [z])
  refine ⟨_,rfl,_,rfl,_,_,rfl,rfl,_,rfl,_,_,rfl,rfl,.inl ⟨by decide,by decide⟩,_,_,rfl,rfl,?_⟩
  refine ⟨_,rfl,rfl,_,rfl,?_⟩
  by_cases c3:V.str o=V.str "odd"
  · refine iteD c3 ?_
    have e:joinI p o x y=(x+y - 2*(x*y)) % p:=by unfold joinI; rw [if_neg n1,if_neg n2,if_pos (str_inj c3)]
    rw [e] at k
    exact ⟨_,rfl,_,rfl,_,_,rfl,rfl,(show (0:Int) < p by omega),k⟩
  refine iteDF c3 ?_
  have n3:¬ o = "odd" := fun z=>c3 (by rw [z])
  have e:joinI p o x y=(1 - (x+y - 2*(x*y))) % p:=by unfold joinI; rw [if_neg n1,if_neg n2,if_neg n3]
  rw [e] at k
  exact ⟨_,rfl,_,_,rfl,rfl,_,rfl,_,_,rfl,rfl,(show (0:Int) < p by omega),k⟩
def spWorth (n:Nat):Sp:=fun vs H Q _=>∃ (v:V) (t:Tr) (a b:Addr) (ns:List Str) (pt:List Int) (p:Int),vs=[v,.ref a,.ref b,.int p]∧TreeAt H v t∧t.ok ns∧t.depth≤n∧NamesAt H a ns∧H b=some (.tup (pt.map V.int))∧pt.length=ns.length∧1 < p∧p < 2 ^ 40∧PtOk pt p∧Q (.int (t.worth ns pt p)) H
theorem sc_worth_of:FnScope ["tree", "switches", "point", "p", "word", "first"] ["tree", "switches", "point", "p"] (defScope s_worth_of):=⟨rfl,rfl,rfl,by decide +kernel,rfl,by decide +kernel,by decide +kernel⟩
theorem worth_step {n:Nat} {f:Addr} {fd:FuncData} (F:Fun K "worth_of" "worth_of" s_worth_of f fd) (C_joined_worth:Cal P w K mg base 1 "joined_worth" ["word", "first", "second", "p"] spJW) (C_worth_of:Cal P w K mg base (n+2) "worth_of" ["tree", "switches", "point", "p"] (spWorth n)):FnOk P w K mg base CX0 (n+3) f fd ["tree", "switches", "point", "p"] (spWorth (n+1)):=by
  refine F.ok sc_worth_of (fun vs H Q E h=>?_) (fun cdv A outer s H vs Q E hr h=>?_)
  · obtain ⟨v,t,a,b,ns,pt,p,rfl,_⟩:=h
    rfl
  obtain ⟨v,t,a,b,ns,pt,p,rfl,T,ok,dn,hN,hb,sl,p1,p40,po,k⟩:=h
  have p0:(0:Int) < p:=by omega
  refine ⟨_,(pss_cons (ps_set (i:=4) sc_worth_of.nd rfl (Or.inl rfl) (pe_ix ix_tup (pv 0) pe_int (fun _ _=>rfl)))
      (pss_cons (ps_if (pt_cmpR op_eq (pv 4) pe_str (nomark _)) (pss_one (ps_ret (pe_op op_mod (pe_ix ix_tup (pv 2) (pe_index PySem.F.plainAttrs_list PySem.F.plainAttrs_tuple (pv 1) (pa_cons (pe_ix ix_tup (pv 0) pe_int (fun _ _=>rfl)) pa_nil)) (fun _ _=>rfl)) (pv 3)))) pss_nil)
      (pss_cons (ps_if (pt_cmpR op_eq (pv 4) pe_str (nomark _)) (pss_one (ps_ret pe_int)) pss_nil)
      (pss_cons (ps_if (pt_cmpR op_eq (pv 4) pe_str (nomark _)) (pss_one (ps_ret pe_int)) pss_nil)
      (pss_cons (ps_set (i:=5) sc_worth_of.nd rfl (Or.inl rfl) (pe_cal C_worth_of hr (Nat.le_refl _) rfl (pa_cons (pe_ix ix_tup (pv 0) pe_int (fun _ _=>rfl)) (pa_cons (pv 1) (pa_cons (pv 2) (pa_cons (pv 3) pa_nil))))))
      (pss_cons (ps_if (pt_cmpR op_eq (pv 4) pe_str (nomark _)) (pss_one (ps_ret (pe_op op_mod (pe_op op_sub pe_int (pv 5)) (pv 3)))) pss_nil)
      (pss_one (ps_ret (pe_cal C_joined_worth hr (by omega) rfl (pa_cons (pv 4) (pa_cons (pv 5) (pa_cons (pe_cal C_worth_of hr (Nat.le_refl _) rfl (pa_cons (pe_ix ix_tup (pv 0) pe_int (fun _ _=>rfl)) (pa_cons (pv 1) (pa_cons (pv 2) (pa_cons (pv 3) pa_nil))))) (pa_cons (pv 3) pa_nil))))))))))))),?_⟩
  cases T with
  | @is q x e =>
    refine ⟨_,rfl,q,_,0,_,rfl,rfl,SqT.of e,rfl,?_⟩
    refine ⟨_,rfl,rfl,_,rfl,?_⟩
    refine iteD rfl ?_
    obtain ⟨j,hj,jl⟩:=posOf_mem ok
    have jl':j < pt.length:=by omega
    refine ⟨_,rfl,_,rfl,a,ns,rfl,hN,_,rfl,q,_,1,_,rfl,rfl,SqT.of e,rfl,rfl,x,j,rfl,hj,b,_,(j:Int),.int pt[j],rfl,rfl,SqT.of hb,?_,_,rfl,_,_,rfl,rfl,p0,?_⟩
    · refine atI_nat ?_
      rw [List.getElem?_map,List.getElem?_eq_getElem jl']
      rfl
    · have e1:(Tr.is x).worth ns pt p=pt[j] % p:=by
        show (match posOf x ns with | some j=>pt.getD j 0 | none=>0)=_
        rw [hj]
        show pt.getD j 0=_
        rw [getD_mem jl']
        have:=po _ (List.getElem_mem jl')
        rw [Int.emod_eq_of_lt this.1 this.2]
      rw [e1] at k
      exact k
  | @yes q e =>
    refine ⟨_,rfl,q,_,0,_,rfl,rfl,SqT.of e,rfl,?_⟩
    refine ⟨_,rfl,rfl,_,rfl,?_⟩
    refine iteDF (by decide +kernel) ?_
    refine ⟨_,rfl,rfl,_,rfl,?_⟩
    exact iteD rfl k
  | @no q e =>
    refine ⟨_,rfl,q,_,0,_,rfl,rfl,SqT.of e,rfl,?_⟩
    refine ⟨_,rfl,rfl,_,rfl,?_⟩
    refine iteDF (by decide +kernel) ?_
    refine ⟨_,rfl,rfl,_,rfl,?_⟩
    refine iteDF (by decide +kernel) ?_
    refine ⟨_,rfl,rfl,_,rfl,?_⟩
    exact iteD rfl k
  | @not q u r e T1 =>
    have dp:r.depth+1≤n+1:=dn
    refine ⟨_,rfl,q,_,0,_,rfl,rfl,SqT.of e,rfl,?_⟩
    refine ⟨_,rfl,rfl,_,rfl,?_⟩
    refine iteDF (by decide +kernel) ?_
    refine ⟨_,rfl,rfl,_,rfl,?_⟩
    refine iteDF (by decide +kernel) ?_
    refine ⟨_,rfl,rfl,_,rfl,?_⟩
    refine iteDF (by decide +kernel) ?_
    refine ⟨_,rfl,q,_,1,_,rfl,rfl,SqT.of e,rfl,_,rfl,_,rfl,_,rfl,u,r,a,b,ns,pt,p,rfl,T1,ok,by omega,hN,hb,sl,p1,p40,po,?_⟩
    refine ⟨_,rfl,rfl,_,rfl,?_⟩
    refine iteD rfl ?_
    exact ⟨_,rfl,_,_,rfl,rfl,_,rfl,_,_,rfl,rfl,p0,k⟩
  | @bin q o u u2 r r2 e T1 T2 =>
    obtain ⟨ho,ok1,ok2⟩:=ok
    have dp:max r.depth r2.depth+1≤n+1:=dn
    have ne:∀ z:Str,z ∉ joinW→¬ V.str o=V.str z:=fun z hz h=>hz (str_inj h ▸ ho)
    refine ⟨_,rfl,q,_,0,_,rfl,rfl,SqT.of e,rfl,?_⟩
    refine ⟨_,rfl,rfl,_,rfl,?_⟩
    refine iteDF (ne _ (by decide +kernel)) ?_
    refine ⟨_,rfl,rfl,_,rfl,?_⟩
    refine iteDF (ne _ (by decide +kernel)) ?_
    refine ⟨_,rfl,rfl,_,rfl,?_⟩
    refine iteDF (ne _ (by decide +kernel)) ?_
    refine ⟨_,rfl,q,_,1,_,rfl,rfl,SqT.of e,rfl,_,rfl,_,rfl,_,rfl,u,r,a,b,ns,pt,p,rfl,T1,ok1,by omega,hN,hb,sl,p1,p40,po,?_⟩
    refine ⟨_,rfl,rfl,_,rfl,?_⟩
    refine iteDF (ne _ (by decide +kernel)) ?_
    have wr:=worth_rng p1 po sl r ok1
    refine ⟨_,rfl,_,rfl,_,rfl,q,_,2,_,rfl,rfl,SqT.of e,rfl,_,rfl,_,rfl,_,rfl,u2,r2,a,b,ns,pt,p,rfl,T2,ok2,by omega,hN,hb,sl,p1,p40,po,?_⟩
    exact ⟨_,rfl,o,_,_,p,rfl,wr.1,wr.2,p40,k⟩
theorem worth_zero {f:Addr} {fd:FuncData}:FnOk P w K mg base CX0 2 f fd ["tree", "switches", "point", "p"] (spWorth 0):=by
  have no:∀ vs H Q E,¬ spWorth 0 vs H Q E:=fun vs H Q E h=>by
    obtain ⟨v,t,_,_,_,_,_,_,_,_,h1,_⟩:=h
    have:=t.depth_pos
    omega
  exact ⟨fun vs H Q E h=>absurd h (no vs H Q E),fun A outer s H args us vs Q E _ _ _ _ h=>absurd h (no vs H Q E)⟩
theorem ok_worth_of {f:Addr} {fd:FuncData} (F:Fun K "worth_of" "worth_of" s_worth_of f fd) (m:mg "worth_of" = some (.ref f)) (C_joined_worth:Cal P w K mg base 1 "joined_worth" ["word", "first", "second", "p"] spJW) :
    ∀ n:Nat,FnOk P w K mg base CX0 (n+2) f fd ["tree", "switches", "point", "p"] (spWorth n)
  | 0=>worth_zero
  | n+1=>worth_step F C_joined_worth (Cal.of F (ok_worth_of F m C_joined_worth n) m (fun _ _ _ _ _ _ us hl=>by obtain ⟨u0,u1,u2,u3,rfl⟩:=len4 hl; rfl))
theorem keepT_lst {H:Hp} {b:Addr} {ys zs:List V} (h:H b=some (.lst ys)):∀ a xs,H a=some (.tup xs)→(upd H b (.lst zs)) a=some (.tup xs):=fun a xs e=>by
  rw [upd_ne]
  · exact e
  · intro z
    rw [z,h] at e
    cases e
theorem at0 (x:V) (xs:List V):atI (x::xs) 0=some x:=atI_nat (j:=0) rfl
theorem namesL_take {ts:List Tr} {i:Nat} {u:Tr} (h:ts[i]?=some u):namesL (ts.take (i+1))=namesL (ts.take i)++u.names:=by
  unfold namesL
  rw [List.take_add_one,h,List.map_append,List.flatten_append]
  simp
theorem namesL_len (ts:List Tr):(namesL ts).length≤sizes ts:=by
  induction ts with
  | nil=>simp [namesL,sizes]
  | cons a r ih =>
    have:=a.names_len
    simp only [namesL,sizes,List.map_cons,List.flatten_cons,List.length_append,List.sum_cons] at ih ⊢
    omega
theorem sizes_take (ts:List Tr) (i:Nat):sizes (ts.take i)≤sizes ts:=by
  induction ts generalizing i with
  | nil=>simp
  | cons a r ih =>
    cases i with
    | zero=>simp [sizes]
    | succ i =>
      have:=ih i
      simp only [sizes,List.take_succ_cons,List.map_cons,List.sum_cons] at this ⊢
      omega
def spNO (n:Nat):Sp:=fun vs H Q _=>∃ (v:V) (t:Tr),vs=[v]∧TreeAt H v t∧t.wf∧t.depth≤n∧t.size≤400∧∀ (l:Addr) (H':Hp),H l=none→Same H H'→H' l=some (.lst (t.names.map V.str))→Q (.ref l) H'
theorem sc_l_names_of:FnScope ["_law_tree_here", "_law_found", "_law_part"] ["_law_tree_here"] (defScope s_l_names_of):=⟨rfl,rfl,rfl,by decide +kernel,rfl,by decide +kernel,by decide +kernel⟩
theorem no_step {n:Nat} {f:Addr} {fd:FuncData} (F:Fun K "_law_names_of" "_law_names_of" s_l_names_of f fd) (C_l_names_of:Cal P w K mg base (n+2) "_law_names_of" ["_law_tree_here"] (spNO n)):FnOk P w K mg base CX0 (n+3) f fd ["_law_tree_here"] (spNO (n+1)):=by
  refine F.ok sc_l_names_of (fun vs H Q E h=>?_) (fun cdv A outer s H vs Q E hr h=>?_)
  · obtain ⟨v,t,rfl,_⟩:=h
    rfl
  obtain ⟨v,t,rfl,T,wf,dn,sz,q⟩:=h
  refine ⟨_,(pss_cons (ps_if (pt_cmpR op_eq (pe_ix ix_tup (pv 0) pe_int (fun _ _=>rfl)) pe_str (nomark _)) (pss_one (ps_ret (pe_lst (pa_cons (pe_ix ix_tup (pv 0) pe_int (fun _ _=>rfl)) pa_nil)))) pss_nil)
      (pss_cons (ps_set (i:=1) sc_l_names_of.nd rfl (Or.inl rfl) (pe_lst pa_nil))
      (pss_cons (ps_for PassesOwn.never rfl (pi_tup (pe_slice sl_tup (pv 0) (po_some pe_int) po_none)) (pg_name (i:=2) sc_l_names_of.nd rfl (Or.inl rfl)) (pss_one (ps_set (i:=1) sc_l_names_of.nd rfl (Or.inl rfl) (pe_op op_cat (pv 1) (pe_cal C_l_names_of hr (Nat.le_refl _) rfl (pa_cons (pv 2) pa_nil))))))
      (pss_one (ps_ret (pv 1)))))),?_⟩
  rcases T.view wf with ⟨a,x,rfl,rfl,_,e⟩ | ⟨a,o,xs,rfl,no,xl0,e,TS0,nis⟩
  · refine ⟨_,rfl,a,_,0,_,rfl,rfl,SqT.of e,rfl,rfl,_,rfl,?_⟩
    refine iteD rfl ?_
    refine ⟨_,rfl,a,_,1,_,rfl,rfl,SqT.of e,rfl,(by show 1≤sizeLine; decide),fun p hp=>?_⟩
    exact q p _ hp (Same.new hp _) upd_same
  · refine ⟨_,rfl,a,_,0,.str o,rfl,rfl,SqT.of e,at0 ..,rfl,_,rfl,?_⟩
    refine iteDF (fun z=>no (by injection z)) ?_
    refine ⟨(by show 0≤sizeLine; decide),fun L hL=>?_⟩
    have G0:=Same.new hL (.lst [])
    obtain ⟨c1,c2⟩:=cut1 (.str o) xs xl0
    refine ⟨_,rfl,1,rfl,a,_,rfl,SqT.of (G0 _ _ e),c2,fun p hp=>?_⟩
    rw [c1]
    have G1:=Same.new hp (.tup xs)
    have hp1:upd (upd H L (.lst [])) p (.tup xs) p=some (.tup xs):=upd_same
    have hL1:upd (upd H L (.lst [])) p (.tup xs) L=some (.lst []):=G1 _ _ upd_same
    have S1:Same H (upd (upd H L (.lst [])) p (.tup xs)):=G0.trans G1
    generalize upd (upd H L (.lst [])) p (.tup xs)=H1 at hp1 hL1 S1
    have TS:=TS0.mono (keepT_same S1)
    have xl:=TS.length
    have sp:=t.size_parts
    refine ⟨p,rfl,⟨_,SqT.of hp1⟩,for_tup (K:=K) (xs:=xs) (fun i σ H'=>∃ (M:Addr) (x2:Option V),σ=[some (.ref a),some (.ref M),x2]∧H M=none∧H' M=some (.lst ((namesL (t.parts.take i)).map V.str))∧Same H1 H') ⟨L,_,rfl,hL,hL1,Same.refl _⟩ (fun i σ H' _ hst=>by obtain ⟨_,_,_,_,_,h⟩:=hst; exact SqT.of (h _ _ hp1)) ?_ ?_⟩
    · rintro i x σ H2 hx ⟨M,x2,rfl,M0,hM,S2⟩
      obtain ⟨u,hu,Tu⟩:=TS.get hx
      have um:=List.mem_of_getElem? hu
      obtain ⟨uw,ud,us⟩:=Tr.parts_mem um wf
      refine ⟨_,rfl,_,rfl,x,u,rfl,Tu.mono (keepT_same S2),uw,by omega,by omega,fun l H3 l0 S3 hl3=>?_⟩
      have nl:=u.names_len
      have nl2:=namesL_len (t.parts.take i)
      have nl3:=sizes_take t.parts i
      refine ⟨M,l,_,_,rfl,rfl,S3 _ _ hM,hl3,?_,fun r hr0=>?_⟩
      · rw [List.length_map,List.length_map]
        exact small (by omega)
      · have S4:=(S2.trans S3).trans (Same.new hr0 (.lst ((namesL (t.parts.take i)).map V.str++u.names.map V.str)))
        refine ⟨r,_,rfl,(S1.trans (S2.trans S3)).free hr0,?_,S4⟩
        rw [upd_same,namesL_take hu,List.map_append]
    · rintro σ H2 ⟨M,x2,rfl,M0,hM,S2⟩
      rw [xl,List.take_length,← t.names_parts nis] at hM
      exact ⟨_,rfl,q M H2 M0 (S1.trans S2) hM⟩
theorem no_zero {f:Addr} {fd:FuncData}:FnOk P w K mg base CX0 2 f fd ["_law_tree_here"] (spNO 0):=by
  have no:∀ vs H Q E,¬ spNO 0 vs H Q E:=fun vs H Q E h=>by
    obtain ⟨v,t,_,_,_,h1,_⟩:=h
    have:=t.depth_pos
    omega
  exact ⟨fun vs H Q E h=>absurd h (no vs H Q E),fun A outer s H args us vs Q E _ _ _ _ h=>absurd h (no vs H Q E)⟩
theorem ok_l_names_of {f:Addr} {fd:FuncData} (F:Fun K "_law_names_of" "_law_names_of" s_l_names_of f fd) (m:mg "_law_names_of" = some (.ref f)) :
    ∀ n:Nat,FnOk P w K mg base CX0 (n+2) f fd ["_law_tree_here"] (spNO n)
  | 0=>no_zero
  | n+1=>no_step F (Cal.of F (ok_l_names_of F m n) m (fun _ _ _ _ _ _ us hl=>by obtain ⟨u0,rfl⟩:=len1 hl; rfl))
theorem count_strs (ns:List Str) (z:Str):((ns.map V.str).countP fun y=>eqV y (.str z))=ns.count z:=by
  rw [List.countP_map]
  rfl
def spNeed:Sp:=fun vs H Q _=>∃ (a b:Addr) (ns:List Str) (tv:List V) (ts:List Tr),vs=[.ref a,.ref b]∧H a=some (.lst (ns.map V.str))∧H b=some (.lst tv)∧TreesAt H tv ts∧ts.length≤10∧(∀ t ∈ ts,t.wf∧t.depth≤10∧t.size≤400) ∧
  ∀ (m:Int) (H':Hp),Same H H'→2≤m→m≤400→(ts.length:Int)≤m+1→(∀ t ∈ ts,∀ x ∈ ns,(t.names.count x:Int)≤m)→Q (.int m) H'
theorem sc_l_need:FnScope ["_law_names_here", "_law_trees", "_law_need_here", "_law_tree_here", "_law_found", "_law_name"] ["_law_names_here", "_law_trees"] (defScope s_l_need):=⟨rfl,rfl,rfl,by decide +kernel,rfl,by decide +kernel,by decide +kernel⟩
theorem ok_l_need {f:Addr} {fd:FuncData} (F:Fun K "_law_need" "_law_need" s_l_need f fd) (hlen:mg "len" = none) (hmax:mg "max" = none) (C_l_names_of:Cal P w K mg base 12 "_law_names_of" ["_law_tree_here"] (spNO 10)):FnOk P w K mg base CX0 13 f fd ["_law_names_here", "_law_trees"] spNeed:=by
  refine F.ok sc_l_need (fun vs H Q E h=>?_) (fun cdv A outer s H vs Q E hr h=>?_)
  · obtain ⟨a,b,ns,tv,ts,rfl,_⟩:=h
    rfl
  obtain ⟨a,b,ns,tv,ts,rfl,ha,hb,TS,tl,tok,q⟩:=h
  refine ⟨_,(pss_cons (ps_set (i:=2) sc_l_need.nd rfl (Or.inl rfl) (pe_callB (call_max2 rfl) rfl hmax PyProof.Rows.boot_max (pa_cons pe_int (pa_cons (pe_op op_sub (pe_callB call_len_seq rfl hlen PySem.boot_len (pa_cons (pv 1) pa_nil)) pe_int) pa_nil))))
      (pss_cons (ps_for PassesOwn.never rfl (pi_list (pv 1)) (pg_name (i:=3) sc_l_need.nd rfl (Or.inl rfl)) (pss_cons (ps_set (i:=4) sc_l_need.nd rfl (Or.inl rfl) (pe_cal C_l_names_of hr (by decide) rfl (pa_cons (pv 3) pa_nil)))
        (pss_one (ps_for PassesOwn.never rfl (pi_list (pv 0)) (pg_name (i:=5) sc_l_need.nd rfl (Or.inl rfl)) (pss_one (ps_set (i:=2) sc_l_need.nd rfl (Or.inl rfl) (pe_callB (call_max2 rfl) rfl hmax PyProof.Rows.boot_max (pa_cons (pv 2) (pa_cons (pe_bm PySem.F.plainAttrs_list PySem.F.slot_list_count PySem.F.type_list_count mt_count (pv 4) (pa_cons (pv 5) pa_nil)) pa_nil)))))))))
      (pss_one (ps_ret (pv 2))))),?_⟩
  have vl:=TS.length
  refine ⟨_,rfl,b,_,rfl,.inl (SqL.of hb),_,_,rfl,rfl,_,_,rfl,?_⟩
  obtain ⟨m,em,m2,m4,mt⟩:∃ m:Int,(if ((tv.length:Int) - 1) > 2 then ((tv.length:Int) - 1) else 2)=m∧2≤m∧m≤400∧(ts.length:Int)≤m+1:=⟨_,rfl,by split <;> omega,by split <;> omega,by split <;> omega⟩
  rw [em]
  refine ⟨_,rfl,b,rfl,⟨_,SqL.of hb⟩,for_list (K:=K) (xs:=tv) (fun i σ H'=>∃ (m:Int) (x3 x4 x5:Option V),σ=[some (.ref a),some (.ref b),some (.int m),x3,x4,x5]∧2≤m∧m≤400∧(ts.length:Int)≤m+1∧(∀ t ∈ ts.take i,∀ x ∈ ns,(t.names.count x:Int)≤m)∧Same H H')
    ⟨m,_,_,_,rfl,m2,m4,mt,by simp,Same.refl _⟩ (fun i σ H' _ hst=>by obtain ⟨_,_,_,_,_,_,_,_,_,h⟩:=hst; exact SqL.of (h _ _ hb)) ?_ ?_⟩
  · rintro i v σ H1 hv ⟨m,x3,x4,x5,rfl,m2,m4,mt,mc,S1⟩
    obtain ⟨t,ht,T⟩:=TS.get hv
    have tm:=List.mem_of_getElem? ht
    obtain ⟨tw,td,tz⟩:=tok t tm
    refine ⟨_,rfl,v,t,rfl,T.mono (keepT_same S1),tw,by omega,tz,fun l H2 l0 S2 hl=>?_⟩
    have S12:=S1.trans S2
    have tn:=t.names_len
    refine ⟨_,rfl,a,rfl,⟨_,SqL.of (S12 _ _ ha)⟩,for_list (K:=K) (xs:=ns.map V.str) (fun j σ H'=>∃ (m':Int) (x5:Option V),σ=[some (.ref a),some (.ref b),some (.int m'),some v,some (.ref l),x5]∧m≤m'∧m'≤400∧(∀ x ∈ ns.take j,(t.names.count x:Int)≤m')∧H'=H2)
      ⟨m,_,rfl,Int.le_refl _,m4,by simp,rfl⟩ (fun j σ H' _ hst=>by obtain ⟨_,_,_,_,_,_,h⟩:=hst; subst h; exact SqL.of (S12 _ _ ha)) ?_ ?_⟩
    · rintro j y σ H3 hy ⟨m',y5,rfl,mm,m4',mc',rfl⟩
      rw [List.getElem?_map] at hy
      obtain ⟨x,hx,rfl⟩:=Option.map_eq_some_iff.mp hy
      refine ⟨_,rfl,_,rfl,.inl ⟨rfl,_,SqL.of hl⟩,_,rfl,l,_,_,rfl,rfl,SqL.of hl,flat_strs _,rfl,_,_,rfl,?_⟩
      rw [count_strs]
      have cl:=List.count_le_length (a:=x) (l:=t.names)
      refine ⟨_,_,rfl,by split <;> omega,by split <;> omega,fun z hz=>?_,rfl⟩
      rw [List.take_add_one,hx] at hz
      rcases List.mem_append.mp hz with h | h
      · have:=mc' z h
        split <;> omega
      · have e:z=x:=by simpa using h
        subst e
        split <;> omega
    · rintro σ H3 ⟨m',y5,rfl,mm,m4',mc',rfl⟩
      rw [List.length_map,List.take_length] at mc'
      refine ⟨m',_,_,_,rfl,by omega,m4',by omega,fun u hu x hx=>?_,S12⟩
      rw [List.take_add_one,ht] at hu
      rcases List.mem_append.mp hu with h | h
      · have:=mc u h x hx
        omega
      · have e:u=t:=by simpa using h
        subst e
        exact mc' x hx
  · rintro σ H1 ⟨m,x3,x4,x5,rfl,m2,m4,mt,mc,S1⟩
    rw [vl,List.take_length] at mc
    exact ⟨_,rfl,q m H1 S1 m2 m4 mt mc⟩
def spPrimeB:Sp:=fun vs H Q _=>∃ n:Int,vs=[.int n]∧∀ b:Bool,(b=true↔Pr n)→Q (.bl b) H
theorem sc_l_is_prime:FnScope ["_law_number", "_law_k"] ["_law_number"] (defScope s_l_is_prime):=⟨rfl,rfl,rfl,by decide +kernel,rfl,by decide +kernel,by decide +kernel⟩
theorem ok_l_is_prime {f:Addr} {fd:FuncData} (F:Fun K "_law_is_prime" "_law_is_prime" s_l_is_prime f fd) (hrange:mg "range" = none):FnOk P w K mg base CX0 1 f fd ["_law_number"] spPrimeB:=by
  refine F.ok sc_l_is_prime (fun vs H Q E h=>?_) (fun cdv A outer s H vs Q E hr h=>?_)
  · obtain ⟨n,rfl,_⟩:=h
    rfl
  obtain ⟨n,rfl,q⟩:=h
  refine ⟨_,(pss_cons (ps_if (pt_cmpR op_lt (pv 0) pe_int (nomark _)) (pss_one (ps_ret pe_bl)) pss_nil)
      (pss_cons (ps_for PassesOwn.never rfl (pi_range2 rfl hrange (pa_cons pe_int (pa_cons pe_int pa_nil))) (pg_name (i:=1) sc_l_is_prime.nd rfl (Or.inl rfl)) (pss_cons (ps_if (pt_cmpR op_gt (pe_op op_mul (pv 1) (pv 1)) (pv 0) (nomark _)) (pss_one (ps_ret pe_bl)) pss_nil)
        (pss_one (ps_if (pt_cmpR op_eq (pe_op op_mod (pv 0) (pv 1)) pe_int (nomark _)) (pss_one (ps_ret pe_bl)) pss_nil))))
      (pss_one (ps_ret pe_bl)))),?_⟩
  refine ⟨_,rfl,_,_,rfl,rfl,_,rfl,?_⟩
  refine ite2 (fun c=>?_) (fun c=>?_)
  · have c':=of_decide_eq_true c
    exact q false ⟨fun z=>(nomatch z),fun z=>by have:=z.1; omega⟩
  have c':¬ n < 2:=of_decide_eq_false (Bool.eq_false_iff.mpr c)
  refine ⟨2,1001,rfl,⟨by decide,by decide,by decide,by decide⟩,for_range (fun i σ H'=>∃ x,σ=[some (.int n),x]∧H'=H∧PrUpTo n (2+(i:Int))) ⟨_,rfl,rfl,by simpa using upTo_start n⟩ ?_ ?_⟩
  · rintro i σ H' hi ⟨x,rfl,rfl,u⟩
    have hi':i < 999:=hi
    refine ⟨_,rfl,_,rfl,_,_,rfl,rfl,.inl ⟨by omega,by omega⟩,_,rfl,_,_,rfl,rfl,_,rfl,?_⟩
    refine ite2 (fun c1=>?_) (fun c1=>?_)
    · have c2:=of_decide_eq_true c1
      exact q true ⟨fun _=>pr_big (by omega) (by omega) u c2,fun _=>rfl⟩
    · have c2:=of_decide_eq_false (Bool.eq_false_iff.mpr c1)
      refine ⟨_,rfl,_,rfl,_,_,rfl,rfl,(show (0:Int) < 2+(i:Int) by omega),rfl,_,rfl,?_⟩
      refine ite2 (fun c3=>?_) (fun c3=>?_)
      · have c4:=V.int.inj (of_decide_eq_true c3)
        exact q false ⟨fun z=>(nomatch z),fun z=>(pr_not (by omega) (by omega) (by omega) c4 z).elim⟩
      · have c4:=of_decide_eq_false (Bool.eq_false_iff.mpr c3)
        refine ⟨_,rfl,rfl,?_⟩
        have e:(2:Int)+((i+1:Nat):Int)=2+(i:Int)+1:=by omega
        rw [e]
        exact upTo_next u (by omega) (fun z=>c4 (congrArg V.int z))
  · rintro σ H' ⟨x,rfl,rfl,u⟩
    exact q true ⟨fun _=>pr_all (by omega) u,fun _=>rfl⟩
def spFieldL:Sp:=fun vs H Q _=>∃ (f:Addr) (m:Int),vs=[.ref f,.int m]∧FeedAt H f∧2≤m∧m≤400∧∀ (p:Int) (H':Hp),Pr p→m < p→p≤999983→FeedAt H' f→SameBut f H H'→Q (.int p) H'
theorem prime_loop {f:Addr} {m fm:Int} {D:Ends} {H:Hp} (hD:∀ p:Int,Pr p→m < p→p≤999983→D.nx [some (.ref f),some (.int m),some (.int fm),some (.int p)] H) (n:Int) (h1:m < n) (h2:n≤999983) :
    tWhile (tNot (tB (tCall spPrimeB [] E0 (tCons (tVar 3) tNil)))) (tAsg (tOp (rI0 fun i j=>V.int (i+j)) (tVar 3) (tC (V.int 1))) (gName 3)) D [some (.ref f),some (.int m),some (.int fm),some (.int n)] H:=by
  refine ⟨fun mm σ H'=>∃ n:Int,σ=[some (.ref f),some (.int m),some (.int fm),some (.int n)]∧H'=H∧m < n∧n≤999983∧mm=(999983 - n).toNat,⟨_,_,rfl,rfl,h1,h2,rfl⟩,?_⟩
  rintro mm σ H' ⟨n,rfl,rfl,n0,n1,rfl⟩
  refine ⟨_,rfl,n,rfl,fun b hb=>⟨b,rfl,?_⟩⟩
  cases b with
  | true=>exact iteF (hD n (hb.mp rfl) n0 n1)
  | false =>
    refine iteT ?_
    refine ⟨_,fun _ _ h=>h,?_⟩
    have ne:n ≠ 999983:=fun z=>by
      subst z
      exact nomatch hb.mpr pr_999983
    refine ⟨_,rfl,_,_,rfl,rfl,?_⟩
    exact ⟨_,by omega,n+1,rfl,rfl,by omega,by omega,rfl⟩
theorem sc_l_field:FnScope ["_law_feed_here", "_law_need_here", "_law_form", "_law_number"] ["_law_feed_here", "_law_need_here"] (defScope s_l_field):=⟨rfl,rfl,rfl,by decide +kernel,rfl,by decide +kernel,by decide +kernel⟩
theorem ok_l_field {f:Addr} {fd:FuncData} (F:Fun K "_law_field" "_law_field" s_l_field f fd) (C_l_take:Cal P w K mg base 1 "_law_take" ["_law_feed_here", "_law_many"] spTake) (C_l_is_prime:Cal P w K mg base 1 "_law_is_prime" ["_law_number"] spPrimeB):FnOk P w K mg base CX0 2 f fd ["_law_feed_here", "_law_need_here"] spFieldL:=by
  refine F.ok sc_l_field (fun vs H Q E h=>?_) (fun cdv A outer s H vs Q E hr h=>?_)
  · obtain ⟨f,m,rfl,_⟩:=h
    rfl
  obtain ⟨f,m,rfl,hF,m2,m4,q⟩:=h
  refine ⟨_,(pss_cons (ps_set (i:=2) sc_l_field.nd rfl (Or.inl rfl) (pe_cal C_l_take hr (by decide) rfl (pa_cons (pv 0) (pa_cons pe_int pa_nil))))
      (pss_cons (ps_set (i:=3) sc_l_field.nd rfl (Or.inl rfl) (pe_op op_add (pv 1) pe_int))
      (pss_cons (ps_if (pt_cmpR op_eq (pv 2) pe_int (nomark _)) (pss_one (ps_set (i:=3) sc_l_field.nd rfl (Or.inl rfl) (pe_op op_add (pe_op op_add (pv 1) pe_int) (pe_cal C_l_take hr (by decide) rfl (pa_cons (pv 0) (pa_cons pe_int pa_nil)))))) pss_nil)
      (pss_cons (ps_if (pt_cmpR op_eq (pv 2) pe_int (nomark _)) (pss_one (ps_set (i:=3) sc_l_field.nd rfl (Or.inl rfl) (pe_op op_add (pe_op op_add (pv 1) pe_int) (pe_cal C_l_take hr (by decide) rfl (pa_cons (pv 0) (pa_cons (pe_op op_sub pe_int (pv 1)) pa_nil)))))) pss_nil)
      (pss_cons (ps_while PassesOwn.never (pt_not (pt_val (pe_cal C_l_is_prime hr (by decide) rfl (pa_cons (pv 3) pa_nil)))) (pss_one (ps_set (i:=3) sc_l_field.nd rfl (Or.inl rfl) (pe_op op_add (pv 3) pe_int))))
      (pss_one (ps_ret (pv 3)))))))),?_⟩
  refine ⟨_,rfl,f,4,rfl,hF,by decide,by decide,fun fm H1 _ _ F1 S1=>?_⟩
  refine ⟨_,rfl,_,_,rfl,rfl,?_⟩
  refine ⟨_,rfl,rfl,_,rfl,?_⟩
  refine ite2 (fun c1=>?b1) (fun c1=>?b2)
  case' b1 =>
    refine ⟨_,rfl,_,_,rfl,rfl,_,rfl,f,60,rfl,F1,by decide,by decide,fun d H2 d0 d1 F2 S2=>?_⟩
    refine ⟨_,_,rfl,rfl,?_⟩
    have G2:=S1.trans S2
    have n1:m < m+1+d:=by omega
    have n2:m+1+d≤999983:=by omega
  case' b2 =>
    have F2:=F1
    have G2:=S1
    have n1:m < m+1:=by omega
    have n2:m+1≤999983:=by omega
  all_goals
    refine ⟨_,rfl,rfl,_,rfl,?_⟩
    refine ite2 (fun c2=>?_) (fun c2=>?_)
    refine ⟨_,rfl,_,_,rfl,rfl,_,rfl,_,rfl,_,_,rfl,rfl,f,_,rfl,F2,(show (0:Int) < 999983 - m by omega),(show (999983:Int) - m < 2 ^ 63 by omega),fun d H3 d0 d1 F3 S3=>?_⟩
    refine ⟨_,_,rfl,rfl,?_⟩
    have G3:=G2.trans S3
    clear n1 n2
    have n1:m < m+1+d:=by omega
    have n2:m+1+d≤999983:=by
      have:d < 999983 - m:=d1
      omega
    rotate_left
    have F3:=F2
    have G3:=G2
    rotate_left
    all_goals
      refine prime_loop (fun p pp mp p9=>?_) _ n1 n2
      exact ⟨_,rfl,q p _ pp mp p9 F3 G3⟩
def spGame:Sp:=fun vs H Q _=>∃ (f:Addr) (most room:Int),vs=[.ref f,.int most,.int room]∧FeedAt H f∧0≤most∧most≤6∧1≤room∧room≤30 ∧
  ∀ (g a b:Addr) (ns:List Str) (tv:List V) (ts:List Tr) (p:Int) (H':Hp),H' g=some (.tup [.ref a,.ref b,.int p])→H' a=some (.tup (ns.map V.str))→(ns.length:Int)≤most→(∀ x ∈ ns,NmOk x)→ns.Nodup→H' b=some (.tup tv)→TreesAt H' tv ts→1≤ts.length→ts.length≤4 →
    (∀ t ∈ ts,t.ok ns∧t.depth≤9∧(t.size:Int)≤room)→Pr p→2 < p→p≤999983→(ts.length:Int)≤p→(∀ t ∈ ts,∀ x ∈ ns,(t.names.count x:Int) < p)→FeedAt H' f→SameBut f H H'→Q (.ref g) H'
theorem mB {m:Int} (h0:0≤m) (h6:m≤6):(0:Int) < m+1∧m+1 < 2 ^ 63:=by omega
theorem zB {z:Int} (h0:1≤z) (h6:z≤4):-(2 ^ 62)≤z∧z < 2 ^ 62:=by omega
theorem rB {r:Int} (h0:1≤r) (h6:r≤30):0 < r∧r < 2 ^ 63:=by omega
theorem eB {e r:Int} (h0:0≤e) (h1:e < r) (h6:r≤30):(1:Int)≤1+e∧(1:Int)+e≤100:=by omega
theorem sc_l_game:FnScope ["_law_feed_here", "_law_most", "_law_room", "_law_names_here", "_law_many", "_law_trees"] ["_law_feed_here", "_law_most", "_law_room"] (defScope s_l_game):=⟨rfl,rfl,rfl,by decide +kernel,rfl,by decide +kernel,by decide +kernel⟩
theorem ok_l_game {f:Addr} {fd:FuncData} (F:Fun K "_law_game" "_law_game" s_l_game f fd) (hrange:mg "range" = none) (htuple:mg "tuple" = none) (C_l_take:Cal P w K mg base 1 "_law_take" ["_law_feed_here", "_law_many"] spTake) (C_l_names:Cal P w K mg base 2 "_law_names" ["_law_feed_here", "_law_many"] spNamesN)
    (C_l_tree:Cal P w K mg base 12 "_law_tree" ["_law_feed_here", "_law_names_here", "_law_room", "_law_deep"] (spTree 10)) (C_l_need:Cal P w K mg base 13 "_law_need" ["_law_names_here", "_law_trees"] spNeed) (C_l_field:Cal P w K mg base 2 "_law_field" ["_law_feed_here", "_law_need_here"] spFieldL):FnOk P w K mg base CX0 14 f fd ["_law_feed_here", "_law_most", "_law_room"] spGame:=by
  refine F.ok sc_l_game (fun vs H Q E h=>?_) (fun cdv A outer s H vs Q E hr h=>?_)
  · obtain ⟨f,most,room,rfl,_⟩:=h
    rfl
  obtain ⟨f,most,room,rfl,hF,m0,m6,r1,r30,q⟩:=h
  refine ⟨_,(pss_cons (ps_set (i:=3) sc_l_game.nd rfl (Or.inr rfl) (pe_cal C_l_names hr (by decide) rfl (pa_cons (pv 0) (pa_cons (pe_cal C_l_take hr (by decide) rfl (pa_cons (pv 0) (pa_cons (pe_op op_add (pv 1) pe_int) pa_nil))) pa_nil))))
      (pss_cons (ps_set (i:=4) sc_l_game.nd rfl (Or.inl rfl) (pe_ix ix_list (pe_lst (pa_cons pe_int (pa_cons pe_int (pa_cons pe_int (pa_cons pe_int (pa_cons pe_int (pa_cons pe_int pa_nil))))))) (pe_cal C_l_take hr (by decide) rfl (pa_cons (pv 0) (pa_cons pe_int pa_nil))) (fun _ _=>rfl)))
      (pss_cons (ps_comp (i:=5) (N:=["_law_room", "_law_names_here", "_law_feed_here"]) (ix:=[2,3,0]) sc_l_game.nd rfl (Or.inl rfl) rfl
        (CompScope.three (by with_unfolding_all rfl) (by decide) rfl (by decide) rfl (by decide +kernel) rfl (by with_unfolding_all rfl) (by with_unfolding_all rfl) (by with_unfolding_all rfl) (by with_unfolding_all rfl) (by with_unfolding_all rfl) rfl rfl (by with_unfolding_all rfl) rfl rfl (by with_unfolding_all rfl) rfl rfl) rfl
        (pi_range1 rfl hrange (pa_cons (pv 4) pa_nil))
        (fun _ _ _=>pb_all (pe_cal C_l_tree hr (by decide) rfl (pa_cons (pv 3) (pa_cons (pv 2) (pa_cons (pe_op op_add pe_int (pe_cal C_l_take hr (by decide) rfl (pa_cons (pv 3) (pa_cons (pv 1) pa_nil)))) (pa_cons pe_int pa_nil)))))))
      (pss_one (ps_ret (pe_tup (pa_cons (pe_callTy call_tuple_of rfl htuple boot_tuple' (pa_cons (pv 3) pa_nil)) (pa_cons (pe_callTy call_tuple_of rfl htuple boot_tuple' (pa_cons (pv 5) pa_nil)) (pa_cons (pe_cal C_l_field hr (by decide) rfl (pa_cons (pv 0) (pa_cons (pe_cal C_l_need hr (by decide) rfl (pa_cons (pv 3) (pa_cons (pv 5) pa_nil))) pa_nil))) pa_nil))))))))),?_⟩
  refine ⟨_,rfl,_,rfl,_,rfl,_,_,rfl,rfl,f,_,rfl,hF,(mB m0 m6).1,(mB m0 m6).2,fun mk H1 k0 k7 F1 S1=>?_⟩
  refine ⟨f,mk,rfl,F1,k0,by omega,fun nl ns H2 nl0 nlf hnl nsl nok nnd F2 S2=>?_⟩
  have S02:=S1.trans S2
  refine ⟨(by show 6≤sizeLine; decide),fun l hl=>?_⟩
  have lf:=F2.ne hl
  have G2:=Same.new hl (.lst [.int 1,.int 1,.int 1,.int 2,.int 3,.int 4])
  refine ⟨_,rfl,f,6,rfl,F2.same G2,by decide,by decide,fun j H3 j0 j6 F3 S3=>?_⟩
  have hl3:=S3 l _ lf upd_same
  obtain ⟨x,hx,xm⟩:=at_in (l:=[V.int 1,V.int 1,V.int 1,V.int 2,V.int 3,V.int 4]) (i:=j) j0 (by show j < 6; omega)
  obtain ⟨z,rfl,z0,z4⟩:∃ z:Int,x=.int z∧1≤z∧z≤4:=by
    simp only [List.mem_cons,List.not_mem_nil,or_false] at xm
    rcases xm with h | h | h | h | h | h <;> exact ⟨_,h,by decide,by decide⟩
  refine ⟨l,_,_,_,rfl,rfl,SqL.of hl3,hx,?_⟩
  have S23:SameBut f H2 H3:=(SameBut.of G2).trans S3
  have hnl3:=S23 nl _ nlf hnl
  have S03:=S02.trans S23
  have nl6:ns.length≤6:=by omega
  refine ⟨_,rfl,z,rfl,(zB z0 z4).1,(zB z0 z4).2,fun D hD=>?_⟩
  have Df:=F3.ne hD
  have nD:nl ≠ D:=ne_of_none hnl3 hD
  have GD:=Same.new hD (.lst [])
  refine comp_range (fun i H'=>∃ (tv:List V) (ts:List Tr),H' D=some (.lst tv)∧TreesAt H' tv ts∧ts.length=i∧(∀ t ∈ ts,t.ok ns∧t.depth≤9∧(t.size:Int)≤room)∧FeedAt H' f∧SameBut f H3 H') ⟨[],[],upd_same,.nil,rfl,(fun t ht=>by cases ht),F3.same GD,SameBut.of GD⟩ ?_ ?_
  · rintro i H4 hi ⟨tv,ts,hD4,TS,tl,tok,F4,S4⟩
    have hi':i < z.toNat:=hi
    have hnl4:=S4 nl _ nlf hnl3
    refine ⟨_,rfl,_,rfl,_,rfl,_,rfl,f,room,rfl,F4,(rB r1 r30).1,(rB r1 r30).2,fun e H5 e0 e1 F5 S5=>?_⟩
    have hnl5:=S5 nl _ nlf hnl4
    refine ⟨_,_,rfl,rfl,f,nl,_,_,ns,rfl,F5,.inl hnl5,nl6,(eB e0 e1 r30).1,(eB e0 e1 r30).2,by decide,by decide,fun v t H6 F6 S6 T6 ok6 sz6 dp6=>?_⟩
    have S46:=S5.trans S6
    have hD6:=S46 D _ Df hD4
    have k46:=keepT_feed F4 S46
    have vl:=TS.length
    refine ⟨_,hD6,small1000 (by omega),Nx.of hi ⟨tv++[v],ts++[t],upd_same,?_,?_,?_,feed_upd F6 Df,?_⟩⟩
    · have k:=keepT_lst (H:=H6) (b:=D) (ys:=tv) (zs:=tv++[v]) hD6
      exact ((TS.mono k46).mono k).append (.cons (T6.mono k) .nil)
    · rw [List.length_append,List.length_singleton,tl]
    · intro u hu
      rcases List.mem_append.mp hu with h | h
      · exact tok u h
      · rw [List.mem_singleton.mp h]
        have d9:(t.depth:Int)≤9:=dp6
        have s9:(t.size:Int)≤1+e:=sz6
        exact ⟨ok6,by omega,by omega⟩
    · intro b o hb eb
      rw [upd_ne (ne_of_none eb hD)]
      exact S46 b o hb (S4 b o hb eb)
  · rintro H4 ⟨tv,ts,hD4,TS,tl,tok,F4,S4⟩
    have hnl4:=S4 nl _ nlf hnl3
    have tl':ts.length=z.toNat:=tl
    have tl1:1≤ts.length:=by omega
    have tl4:ts.length≤4:=by omega
    refine ⟨_,rfl,nl,_,rfl,.inl ⟨SqL.of hnl4,fun a ha=>?_⟩⟩
    have Ga:=Same.new ha (.tup (ns.map V.str))
    refine ⟨_,rfl,D,_,rfl,.inl ⟨SqL.of (Ga _ _ hD4),fun b hb=>?_⟩⟩
    have Gb:=Same.new hb (.tup tv)
    have Gab:=Ga.trans Gb
    have wfs:∀ t ∈ ts,t.wf:=fun t ht=>Tr.ok_wf nok t (tok t ht).1
    refine ⟨_,rfl,_,rfl,_,rfl,nl,D,ns,tv,ts,rfl,Gab _ _ hnl4,Gab _ _ hD4,TS.mono (keepT_same Gab),Nat.le_trans tl4 (by decide),fun t ht=>⟨wfs t ht,Nat.le_trans (tok t ht).2.1 (by decide),by have:=(tok t ht).2.2; omega⟩,fun m H5 S5 m2 m4 mt mc=>?_⟩
    have F5:=(F4.same Gab).same S5
    refine ⟨f,m,rfl,F5,m2,m4,fun p H6 pp mp p9 F6 S6=>?_⟩
    refine ⟨(by show 3≤sizeLine; decide),fun g hg=>?_⟩
    have Gg:=Same.new hg (.tup [.ref a,.ref b,.int p])
    have k6:KeepT (upd (upd H4 a (.tup (ns.map V.str))) b (.tup tv)) (upd H6 g (.tup [.ref a,.ref b,.int p])):=fun c ys h=>Gg _ _ (keepT_feed F5 S6 _ _ (S5 _ _ h))
    refine q g a b ns tv ts p _ upd_same (k6 _ _ (Gb _ _ upd_same)) (by omega) nok nnd (k6 _ _ upd_same) ((TS.mono (keepT_same Gab)).mono k6) tl1 tl4 tok pp (by omega) p9 (by omega) (fun t ht x hx=>by have:=mc t ht x hx; omega) (F6.same Gg) ?_
    exact S03.trans (S4.trans ((SameBut.of (Gab.trans S5)).trans (S6.trans (SameBut.of Gg))))
def spWithin:Sp:=fun vs H Q _=>∃ (v:V) (t:Tr),vs=[v]∧TreeAt H v t∧t.wf∧∀ (p:Addr) (xs:List V) (H':Hp),Same H H'→H' p=some (.tup xs)→TreesAt H' xs t.parts→Q (.ref p) H'
theorem sc_trees_within:FnScope ["tree"] ["tree"] (defScope s_trees_within):=⟨rfl,rfl,rfl,by decide +kernel,rfl,by decide +kernel,by decide +kernel⟩
theorem ok_trees_within {f:Addr} {fd:FuncData} (F:Fun K "trees_within" "trees_within" s_trees_within f fd):FnOk P w K mg base CX0 1 f fd ["tree"] spWithin:=by
  refine F.ok sc_trees_within (fun vs H Q E h=>?_) (fun cdv A outer s H vs Q E hr h=>?_)
  · obtain ⟨v,t,rfl,_⟩:=h
    rfl
  obtain ⟨v,t,rfl,T,wf,q⟩:=h
  refine ⟨_,(pss_cons (ps_if (pt_cmpR op_eq (pe_ix ix_tup (pv 0) pe_int (fun _ _=>rfl)) pe_str (nomark _)) (pss_one (ps_ret (pe_tup pa_nil))) pss_nil)
      (pss_one (ps_ret (pe_slice sl_tup (pv 0) (po_some pe_int) po_none)))),?_⟩
  rcases T.view wf with ⟨a,x,rfl,rfl,_,e⟩ | ⟨a,o,xs,rfl,no,xl,e,TS,_⟩
  · refine ⟨_,rfl,a,_,0,_,rfl,rfl,SqT.of e,rfl,rfl,_,rfl,?_⟩
    refine iteD rfl ?_
    refine ⟨(by show 0≤sizeLine; decide),fun p hp=>?_⟩
    exact q p [] _ (Same.new hp _) upd_same .nil
  · refine ⟨_,rfl,a,_,0,.str o,rfl,rfl,SqT.of e,at0 ..,rfl,_,rfl,?_⟩
    refine iteDF (fun z=>no (by injection z)) ?_
    obtain ⟨c1,c2⟩:=cut1 (.str o) xs xl
    refine ⟨_,rfl,1,rfl,a,_,rfl,SqT.of e,c2,fun p hp=>?_⟩
    rw [c1]
    exact q p xs _ (Same.new hp _) upd_same (TS.mono (keepT_same (Same.new hp _)))
def spNamesIn (n:Nat):Sp:=fun vs H Q _=>∃ (v:V) (t:Tr),vs=[v]∧TreeAt H v t∧t.wf∧t.depth≤n∧t.size≤400∧∀ (l:Addr) (H':Hp),H l=none→Same H H'→H' l=some (.lst (t.names.map V.str))→Q (.ref l) H'
theorem sc_names_in:FnScope ["tree", "names", "part"] ["tree"] (defScope s_names_in):=⟨rfl,rfl,rfl,by decide +kernel,rfl,by decide +kernel,by decide +kernel⟩
theorem names_step {n:Nat} {f:Addr} {fd:FuncData} (F:Fun K "names_in" "names_in" s_names_in f fd) (C_trees_within:Cal P w K mg base 1 "trees_within" ["tree"] spWithin) (C_names_in:Cal P w K mg base (n+2) "names_in" ["tree"] (spNamesIn n)):FnOk P w K mg base CX0 (n+3) f fd ["tree"] (spNamesIn (n+1)):=by
  refine F.ok sc_names_in (fun vs H Q E h=>?_) (fun cdv A outer s H vs Q E hr h=>?_)
  · obtain ⟨v,t,rfl,_⟩:=h
    rfl
  obtain ⟨v,t,rfl,T,wf,dn,sz,q⟩:=h
  refine ⟨_,(pss_cons (ps_if (pt_cmpR op_eq (pe_ix ix_tup (pv 0) pe_int (fun _ _=>rfl)) pe_str (nomark _)) (pss_one (ps_ret (pe_lst (pa_cons (pe_ix ix_tup (pv 0) pe_int (fun _ _=>rfl)) pa_nil)))) pss_nil)
      (pss_cons (ps_set (i:=1) sc_names_in.nd rfl (Or.inl rfl) (pe_lst pa_nil))
      (pss_cons (ps_for PassesOwn.never rfl (pi_tup (pe_cal C_trees_within hr (by omega) rfl (pa_cons (pv 0) pa_nil))) (pg_name (i:=2) sc_names_in.nd rfl (Or.inl rfl)) (pss_one (ps_expr (pe_bm PySem.F.plainAttrs_list PySem.F.slot_list_extend PySem.F.type_list_extend mt_extend (pv 1) (pa_cons (pe_cal C_names_in hr (Nat.le_refl _) rfl (pa_cons (pv 2) pa_nil)) pa_nil)))))
      (pss_one (ps_ret (pv 1)))))),?_⟩
  have wf':=wf
  rcases T.view wf with ⟨a,x,rfl,rfl,_,e⟩ | ⟨a,o,xs0,rfl,no,xl0,e,_,nis⟩
  · refine ⟨_,rfl,a,_,0,_,rfl,rfl,SqT.of e,rfl,rfl,_,rfl,?_⟩
    refine iteD rfl ?_
    refine ⟨_,rfl,a,_,1,_,rfl,rfl,SqT.of e,rfl,(by show 1≤sizeLine; decide),fun p hp=>?_⟩
    exact q p _ hp (Same.new hp _) upd_same
  · refine ⟨_,rfl,a,_,0,.str o,rfl,rfl,SqT.of e,at0 ..,rfl,_,rfl,?_⟩
    refine iteDF (fun z=>no (by injection z)) ?_
    refine ⟨(by show 0≤sizeLine; decide),fun L hL=>?_⟩
    have G0:=Same.new hL (.lst [])
    refine ⟨_,rfl,_,t,rfl,T.mono (keepT_same G0),wf,fun p xs H1 S1 hp TS=>?_⟩
    have hL1:H1 L=some (.lst []):=S1 _ _ upd_same
    have pL:p ≠ L:=fun z=>by rw [z,hL1] at hp; cases hp
    have xl:=TS.length
    have sp:=t.size_parts
    refine ⟨p,rfl,⟨_,SqT.of hp⟩,for_tup (K:=K) (xs:=xs) (fun i σ H'=>∃ x2,σ=[some (.ref a),some (.ref L),x2]∧H' L=some (.lst ((namesL (t.parts.take i)).map V.str))∧SameBut L H1 H') ⟨_,rfl,hL1,SameBut.refl _ _⟩ (fun i σ H' _ hst=>by obtain ⟨_,_,_,h⟩:=hst; exact SqT.of (h _ _ pL hp)) ?_ ?_⟩
    · rintro i x σ H2 hx ⟨x2,rfl,hl,S2⟩
      obtain ⟨u,hu,Tu⟩:=TS.get hx
      have um:=List.mem_of_getElem? hu
      obtain ⟨uw,ud,us⟩:=Tr.parts_mem um wf
      have Tu2:TreeAt H2 x u:=Tu.mono fun b ys h=>S2 b _ (fun z=>by rw [z,hL1] at h; cases h) h
      refine ⟨_,rfl,.inl ⟨rfl,_,SqL.of hl⟩,_,rfl,x,u,rfl,Tu2,uw,by omega,by omega,fun l H3 l0 S3 hl3=>?_⟩
      have nl:=u.names_len
      have nl2:=namesL_len (t.parts.take i)
      have nl3:=sizes_take t.parts i
      refine ⟨L,l,_,_,rfl,rfl,S3 _ _ hl,hl3,?_,?_⟩
      · rw [List.length_map,List.length_map]
        exact small (by omega)
      refine ⟨_,rfl,?_,fun b o hb h=>?_⟩
      · rw [upd_same,namesL_take hu,List.map_append]
      · rw [upd_ne hb]
        exact S3 _ _ (S2 _ _ hb h)
    · rintro σ H2 ⟨x2,rfl,hl,S2⟩
      rw [xl,List.take_length,← t.names_parts nis] at hl
      refine ⟨_,rfl,?_⟩
      refine q L H2 hL (fun b o h=>?_) hl
      exact S2 b o (ne_of_none h hL) (S1 _ _ (G0 _ _ h))
theorem names_zero {f:Addr} {fd:FuncData}:FnOk P w K mg base CX0 2 f fd ["tree"] (spNamesIn 0):=by
  have no:∀ vs H Q E,¬ spNamesIn 0 vs H Q E:=fun vs H Q E h=>by
    obtain ⟨v,t,_,_,_,h1,_⟩:=h
    have:=t.depth_pos
    omega
  exact ⟨fun vs H Q E h=>absurd h (no vs H Q E),fun A outer s H args us vs Q E _ _ _ _ h=>absurd h (no vs H Q E)⟩
theorem ok_names_in {f:Addr} {fd:FuncData} (F:Fun K "names_in" "names_in" s_names_in f fd) (m:mg "names_in" = some (.ref f)) (C_trees_within:Cal P w K mg base 1 "trees_within" ["tree"] spWithin) :
    ∀ n:Nat,FnOk P w K mg base CX0 (n+2) f fd ["tree"] (spNamesIn n)
  | 0=>names_zero
  | n+1=>names_step F C_trees_within (Cal.of F (ok_names_in F m C_trees_within n) m (fun _ _ _ _ _ _ us hl=>by obtain ⟨u0,rfl⟩:=len1 hl; rfl))
def spField:Sp:=fun vs H Q _=>∃ n:Int,vs=[.int n]∧n≤999999∧∀ b:Bool,(b=true↔2 < n∧Pr n)→Q (.bl b) H
theorem sc_is_field:FnScope ["number", "divisor"] ["number"] (defScope s_is_field):=⟨rfl,rfl,rfl,by decide +kernel,rfl,by decide +kernel,by decide +kernel⟩
theorem ok_is_field {f:Addr} {fd:FuncData} (F:Fun K "is_field" "is_field" s_is_field f fd):FnOk P w K mg base CX0 1 f fd ["number"] spField:=by
  refine F.ok sc_is_field (fun vs H Q E h=>?_) (fun cdv A outer s H vs Q E hr h=>?_)
  · obtain ⟨n,rfl,_⟩:=h
    rfl
  obtain ⟨n,rfl,n9,q⟩:=h
  refine ⟨_,(pss_cons (ps_if (PW.pt (pw_or (pt_cmpR op_lt (pv 0) pe_int (nomark _)) (pw_or1 (pt_cmpR op_eq (pe_op op_mod (pv 0) pe_int) pe_int (nomark _))))) (pss_one (ps_ret pe_bl)) pss_nil)
      (pss_cons (ps_set (i:=1) sc_is_field.nd rfl (Or.inl rfl) pe_int)
      (pss_cons (ps_while PassesOwn.never (pt_cmpR op_le (pe_op op_mul (pv 1) (pv 1)) (pv 0) (nomark _)) (pss_cons (ps_if (pt_cmpR op_eq (pe_op op_mod (pv 0) (pv 1)) pe_int (nomark _)) (pss_one (ps_ret pe_bl)) pss_nil)
        (pss_one (ps_set (i:=1) sc_is_field.nd rfl (Or.inl rfl) (pe_op op_add (pv 1) pe_int)))))
      (pss_one (ps_ret pe_bl))))),?_⟩
  refine ⟨_,rfl,_,_,rfl,rfl,_,rfl,?_⟩
  by_cases c:n < 3
  · refine iteD c ?_
    refine iteT ?_
    exact q false ⟨fun z=>(nomatch z),fun z=>by omega⟩
  refine iteDF c ?_
  refine ⟨_,rfl,_,_,rfl,rfl,(by show (0:Int) < _; decide),rfl,_,rfl,?_⟩
  by_cases c2:n % 2=0
  · refine iteD (congrArg V.int c2) ?_
    exact q false ⟨fun z=>(nomatch z),fun z=>absurd z.2 (field_no2 c2 (by omega))⟩
  refine iteDF (fun z=>c2 (V.int.inj z)) ?_
  refine ⟨fun m σ H'=>∃ d:Int,σ=[some (.int n),some (.int d)]∧H'=H∧3≤d∧d≤1001∧d % 2=1∧OddUp n d∧m=(n+3 - d).toNat,⟨_,3,rfl,rfl,by omega,by omega,by omega,odd_start n,rfl⟩,?_⟩
  rintro m σ H' ⟨d,rfl,rfl,d3,d9,d2,u,rfl⟩
  refine ⟨_,rfl,_,rfl,_,_,rfl,rfl,.inl ⟨by omega,by omega⟩,_,rfl,_,_,rfl,rfl,_,rfl,?_⟩
  by_cases c3:d*d≤n
  · refine iteD c3 ?_
    have r1:=small_root n9 d3 c3
    have r2:=root_le d3 c3
    refine ⟨_,fun _ _ h=>h,?_⟩
    refine ⟨_,rfl,_,rfl,_,_,rfl,rfl,(show 0 < d by omega),rfl,_,rfl,?_⟩
    by_cases c4:n % d=0
    · refine iteD (congrArg V.int c4) ?_
      exact q false ⟨fun z=>(nomatch z),fun z=>absurd z.2 (field_nod n9 d3 c3 c4)⟩
    refine iteDF (fun z=>c4 (V.int.inj z)) ?_
    refine ⟨_,rfl,_,_,rfl,rfl,?_⟩
    exact ⟨_,by omega,d+2,rfl,rfl,by omega,by omega,by omega,odd_next u d2 c4,rfl⟩
  · refine iteDF c3 ?_
    exact q true ⟨fun _=>⟨by omega,field_yes (by omega) c2 d3 u (by omega)⟩,fun _=>rfl⟩
abbrev s_ginit:Stmt:=inClass s_game 0
abbrev s_gmix:Stmt:=inClass s_game 1
abbrev s_gworth:Stmt:=inClass s_game 2
abbrev s_gcoins:Stmt:=inClass s_game 3
def gf (a b:Addr) (p:Int) (d:Addr):List (Str × V):=putF "degrees" (.ref d) (putF "field" (.int p) (putF "trees" (.ref b) (putF "switches" (.ref a) [])))
theorem gf_sw (a b:Addr) (p:Int) (d:Addr):(gf a b p d).lookup ("switches" : Str)=some (.ref a):=by
  unfold gf
  rw [lookup_putF,if_neg (by decide +kernel),lookup_putF,if_neg (by decide +kernel),lookup_putF,if_neg (by decide +kernel),lookup_putF,if_pos rfl]
theorem gf_tr (a b:Addr) (p:Int) (d:Addr):(gf a b p d).lookup ("trees" : Str)=some (.ref b):=by
  unfold gf
  rw [lookup_putF,if_neg (by decide +kernel),lookup_putF,if_neg (by decide +kernel),lookup_putF,if_pos rfl]
theorem gf_fi (a b:Addr) (p:Int) (d:Addr):(gf a b p d).lookup ("field" : Str)=some (.int p):=by
  unfold gf
  rw [lookup_putF,if_neg (by decide +kernel),lookup_putF,if_pos rfl]
theorem gf_de (a b:Addr) (p:Int) (d:Addr):(gf a b p d).lookup ("degrees" : Str)=some (.ref d):=by
  unfold gf
  rw [lookup_putF,if_pos rfl]
theorem gf_no (a b:Addr) (p:Int) (d:Addr) {m:Str} (h1:¬ m = "degrees") (h2:¬ m = "field") (h3:¬ m = "trees") (h4:¬ m = "switches"):(gf a b p d).lookup m=none:=by
  unfold gf
  rw [lookup_putF,if_neg h1,lookup_putF,if_neg h2,lookup_putF,if_neg h3,lookup_putF,if_neg h4]
  all_goals rfl
structure GTxt (K:PySem.W.Frag) (mg:Str→Option Value) (C:Addr):Prop where
  cl:Cls K C
  nS:NoAttr K C "switches"
  nT:NoAttr K C "trees"
  nF:NoAttr K C "field"
  nD:NoAttr K C "degrees"
  mgC:mg "Game" = some (.ref C)
theorem bestI_at (g:Nat→Int):∀ n,∃ k,k≤n∧bestI g n=g k
  | 0=>⟨0,Nat.le_refl _,rfl⟩
  | n+1=>by
    obtain ⟨k,hk,e⟩:=bestI_at g n
    unfold bestI
    split
    · exact ⟨n+1,Nat.le_refl _,rfl⟩
    · exact ⟨k,by omega,e⟩
theorem maxD_mem {ns:List Int} (h:ns ≠ []):maxD ns 0 ∈ ns:=by
  cases ns with
  | nil=>exact absurd rfl h
  | cons a r =>
    obtain ⟨k,hk,e⟩:=bestI_at (fun i=>(a::r)[i]?.getD 0) ((a::r).length - 1)
    have e1:maxD (a::r) 0=bestI (fun i=>(a::r)[i]?.getD 0) ((a::r).length - 1):=rfl
    have hl:k < (a::r).length:=by
      rw [List.length_cons] at hk ⊢
      omega
    rw [e1,e]
    show (a::r)[k]?.getD 0 ∈ a::r
    rw [List.getElem?_eq_getElem hl]
    exact List.getElem_mem hl
def degOf (ts:List Tr) (x:Str):Int:=maxD (ts.map fun t=>(t.names.count x:Int)) 0
theorem degOf_lt {ts:List Tr} {x:Str} {p:Int} (h0:ts ≠ []) (h:∀ t ∈ ts,(t.names.count x:Int) < p):degOf ts x < p:=by
  have:=maxD_mem (ns:=ts.map fun t=>(t.names.count x:Int)) (by simpa using h0)
  obtain ⟨t,ht,e⟩:=List.mem_map.mp this
  unfold degOf
  rw [← e]
  exact h t ht
def spDeg:Sp:=fun vs H Q _=>∃ (x:Str) (b:Addr) (tv:List V) (ts:List Tr),vs=[.str x,.ref b]∧H b=some (.tup tv)∧TreesAt H tv ts∧ts ≠ []∧ts.length≤10∧(∀ t ∈ ts,t.wf∧t.depth≤10∧t.size≤400)∧∀ H',Same H H'→Q (.int (degOf ts x)) H'
theorem sc_degree_of:FnScope ["name", "trees"] ["name", "trees"] (defScope s_degree_of):=⟨rfl,rfl,rfl,by decide +kernel,rfl,by decide +kernel,by decide +kernel⟩
theorem ok_degree_of {f:Addr} {fd:FuncData} (F:Fun K "degree_of" "degree_of" s_degree_of f fd) (hmax:mg "max" = none) (C_names_in:Cal P w K mg base 12 "names_in" ["tree"] (spNamesIn 10)):FnOk P w K mg base CX0 13 f fd ["name", "trees"] spDeg:=by
  refine F.ok sc_degree_of (fun vs H Q E h=>?_) (fun cdv A outer s H vs Q E hr h=>?_)
  · obtain ⟨x,b,tv,ts,rfl,_⟩:=h
    rfl
  obtain ⟨x,b,tv,ts,rfl,hb,TS,t0,tl,tok,q⟩:=h
  refine ⟨_,(pss_one (ps_ret (pe_callB (call_max1 rfl) rfl hmax PyProof.Rows.boot_max (pa_cons (pe_comp (N:=["name"]) (ix:=[0]) rfl
        (CompScope.one (by with_unfolding_all rfl) (by decide) rfl (by decide) rfl (by decide +kernel) (by with_unfolding_all rfl) (by with_unfolding_all rfl) (by with_unfolding_all rfl) rfl rfl) rfl
        (pi_tup (pv 1)) (fun _ _ _=>pb_all (pe_bmK K PySem.F.plainAttrs_list PySem.F.slot_list_count PySem.F.type_list_count (mt_countK K) (pe_cal C_names_in hr (by decide) rfl (pa_cons (pv 0) pa_nil)) (pa_cons (pv 1) pa_nil)))) pa_nil)))),?_⟩
  have vl:=TS.length
  refine ⟨_,rfl,b,rfl,⟨_,SqT.of hb⟩,fun D hD=>?_⟩
  refine comp_tup (K:=K) (xs:=tv) (fun i H'=>H' D=some (.lst (((ts.take i).map fun t=>(t.names.count x:Int)).map V.int))∧Same H H') ⟨by rw [upd_same]; rfl,Same.new hD _⟩ (fun i H' _ h=>SqT.of (h.2 _ _ hb)) ?_ ?_
  · rintro i z H2 hz ⟨hl,S2⟩
    obtain ⟨t,ht,T⟩:=TS.get hz
    obtain ⟨tw,td,tz⟩:=tok t (List.mem_of_getElem? ht)
    have hi:i < tv.length:=(List.getElem?_eq_some_iff.mp hz).1
    refine ⟨_,rfl,z,t,rfl,T.mono (keepT_same S2),tw,by omega,tz,fun l H3 l0 S3 hl3=>?_⟩
    refine ⟨.inl ⟨rfl,_,SqL.of hl3⟩,_,rfl,l,_,_,rfl,rfl,SqL.of hl3,flat_strs _,rfl,?_⟩
    rw [count_strs]
    refine ⟨_,S3 _ _ hl,?_,Nx.of hi ⟨?_,fun b' o' e'=>?_⟩⟩
    · rw [List.length_map,List.length_map,List.length_take]
      exact small1000 (by omega)
    · rw [upd_same,List.take_add_one,ht,List.map_append,List.map_append]
      rfl
    · rw [upd_ne (ne_of_none e' hD)]
      exact S3 _ _ (S2 _ _ e')
  · rintro H2 ⟨hl,S2⟩
    rw [vl,List.take_length] at hl
    exact ⟨D,_,rfl,SqL.of hl,by simpa using t0,q H2 S2⟩
def spLookS:Sp:=fun vs H Q _=>∃ (a:Addr) (ns:List Str),vs=[.ref a]∧H a=some (.tup (ns.map V.str))∧ns.Nodup∧ns.length≤10∧∀ H',Same H H'→Q .non H'
theorem in_strs (x:Str) (ns:List Str):inV (.str x) (ns.map V.str)=decide (x ∈ ns):=by
  unfold inV
  induction ns with
  | nil=>rfl
  | cons a r ih =>
    rw [List.map_cons,List.any_cons,ih]
    have e:eqV (.str a) (.str x)=decide (x=a):=by
      show (a == x)=_
      by_cases c:x=a
      · subst c; simp
      · rw [decide_eq_false c]; simpa using fun h=>c h.symm
    rw [e]
    by_cases c1:x=a <;> by_cases c2:x ∈ r <;> simp [c1,c2]
theorem sc_look_switches:FnScope ["switches", "place", "name"] ["switches"] (defScope s_look_switches):=⟨rfl,rfl,rfl,by decide +kernel,rfl,by decide +kernel,by decide +kernel⟩
theorem ok_look_switches {f:Addr} {fd:FuncData} (F:Fun K "look_switches" "look_switches" s_look_switches f fd) (henum:mg "enumerate" = none):FnOk P w K mg base CX0 1 f fd ["switches"] spLookS:=by
  refine F.ok sc_look_switches (fun vs H Q E h=>?_) (fun cdv A outer s H vs Q E hr h=>?_)
  · obtain ⟨a,ns,rfl,_⟩:=h
    rfl
  obtain ⟨a,ns,rfl,ha,nd,nl,q⟩:=h
  refine ⟨_,(pss_one (ps_for PassesOwn.never rfl (pi_enumT rfl henum (pv 0)) (pg_tup rfl (pgs_cons (pg_name (i:=1) sc_look_switches.nd rfl (Or.inl rfl)) (pgs_cons (pg_name (i:=2) sc_look_switches.nd rfl (Or.inl rfl)) pgs_nil)))
      (pss_one (ps_if (pt_cmpR op_in_seq (pv 2) (pe_slice sl_tup (pv 0) po_none (po_some (pv 1))) (by with_unfolding_all rfl)) pss_never pss_nil)))),?_⟩
  refine ⟨_,rfl,a,rfl,⟨_,SqT.of ha⟩,for_enumT (K:=K) (xs:=ns.map V.str) (fun i σ H'=>∃ x1 x2:Option V,σ=[some (.ref a),x1,x2]∧Same H H') ⟨_,_,rfl,Same.refl _⟩ (fun i σ H' _ hst=>by obtain ⟨_,_,_,h⟩:=hst; exact SqT.of (h _ _ ha)) ?_ ?_⟩
  · rintro i z σ H1 t hz ⟨x1,x2,rfl,S1⟩ ht
    have hi:i < (ns.map V.str).length:=(List.getElem?_eq_some_iff.mp hz).1
    rw [List.getElem?_map] at hz
    obtain ⟨x,hx,rfl⟩:=Option.map_eq_some_iff.mp hz
    have G:=Same.new ht (.tup [.int (i:Int),.str x])
    have S2:=S1.trans G
    have hi':i < ns.length:=by rw [List.length_map] at hi; exact hi
    refine ⟨t,_,rfl,SqT.of upd_same,rfl,_,_,rfl,_,_,rfl,rfl,?_⟩
    refine ⟨_,rfl,_,rfl,_,rfl,(i:Int),rfl,a,_,rfl,SqT.of (S2 _ _ ha),?_,fun c hc=>?_⟩
    · rintro ⟨_,h⟩
      rw [HT.sIx_nat] at h
      omega
    · refine ⟨c,_,rfl,.inr (SqT.of upd_same),rfl,?_,_,rfl,?_⟩
      · have ec:cutV (ns.map V.str) none (some (i:Int))=(ns.take i).map V.str:=by
          unfold cutV
          rw [HT.sIx_none,HT.sIx_nat,List.drop_zero,Nat.sub_zero,List.map_take]
          congr 1
          omega
        rw [ec]
        exact flat_strs _
      · have ec:cutV (ns.map V.str) none (some (i:Int))=(ns.take i).map V.str:=by
          unfold cutV
          rw [HT.sIx_none,HT.sIx_nat,List.drop_zero,Nat.sub_zero,List.map_take]
          congr 1
          omega
        show if inV (.str x) (cutV (ns.map V.str) none (some (i:Int)))=true then _ else _
        rw [ec,in_strs,decide_eq_false ?_]
        · refine iteF ?_
          exact ⟨_,_,rfl,S2.trans (Same.new hc _)⟩
        · intro hm
          obtain ⟨j,hj,e⟩:=List.getElem_of_mem hm
          rw [List.length_take] at hj
          rw [List.getElem_take] at e
          have ex:ns[i]=x:=by
            rw [List.getElem?_eq_getElem hi'] at hx
            exact Option.some.inj hx
          exact List.pairwise_iff_getElem.mp nd j i (by omega) hi' (by omega) (e.trans ex.symm)
  · rintro σ H1 ⟨x1,x2,rfl,S1⟩
    exact q H1 S1
theorem names_ok {ns:List Str}:∀ t:Tr,t.ok ns→∀ x ∈ t.names,x ∈ ns
  | .is y,h,x,hx=>by rw [List.mem_singleton.mp hx]; exact h
  | .yes,_,x,hx=>by cases hx
  | .no,_,x,hx=>by cases hx
  | .not a,h,x,hx=>names_ok a h x hx
  | .bin _ a b,⟨_,h1,h2⟩,x,hx=>by
    rcases List.mem_append.mp hx with h | h
    · exact names_ok a h1 x h
    · exact names_ok b h2 x h
def spLookN:Sp:=fun vs H Q _=>∃ (a b:Addr) (ns:List Str) (tv:List V) (ts:List Tr),vs=[.ref b,.ref a]∧H a=some (.tup (ns.map V.str))∧H b=some (.tup tv)∧TreesAt H tv ts∧(∀ t ∈ ts,t.ok ns∧t.wf∧t.depth≤10∧t.size≤400)∧∀ H',Same H H'→Q .non H'
theorem sc_look_names:FnScope ["trees", "switches", "tree", "name"] ["trees", "switches"] (defScope s_look_names):=⟨rfl,rfl,rfl,by decide +kernel,rfl,by decide +kernel,by decide +kernel⟩
theorem ok_look_names {f:Addr} {fd:FuncData} (F:Fun K "look_names" "look_names" s_look_names f fd) (C_names_in:Cal P w K mg base 12 "names_in" ["tree"] (spNamesIn 10)):FnOk P w K mg base CX0 13 f fd ["trees", "switches"] spLookN:=by
  refine F.ok sc_look_names (fun vs H Q E h=>?_) (fun cdv A outer s H vs Q E hr h=>?_)
  · obtain ⟨a,b,ns,tv,ts,rfl,_⟩:=h
    rfl
  obtain ⟨a,b,ns,tv,ts,rfl,ha,hb,TS,tok,q⟩:=h
  refine ⟨_,(pss_one (ps_for PassesOwn.never rfl (pi_tup (pv 0)) (pg_name (i:=2) sc_look_names.nd rfl (Or.inl rfl))
      (pss_one (ps_for PassesOwn.never rfl (pi_list (pe_cal C_names_in hr (by decide) rfl (pa_cons (pv 2) pa_nil))) (pg_name (i:=3) sc_look_names.nd rfl (Or.inl rfl))
        (pss_one (ps_if (pt_cmpR op_notIn_seq (pv 3) (pv 1) (by with_unfolding_all rfl)) pss_never pss_nil)))))),?_⟩
  refine ⟨_,rfl,b,rfl,⟨_,SqT.of hb⟩,for_tup (K:=K) (xs:=tv) (fun i σ H'=>∃ x2 x3:Option V,σ=[some (.ref b),some (.ref a),x2,x3]∧Same H H') ⟨_,_,rfl,Same.refl _⟩ (fun i σ H' _ hst=>by obtain ⟨_,_,_,h⟩:=hst; exact SqT.of (h _ _ hb)) ?_ ?_⟩
  · rintro i z σ H1 hz ⟨x2,x3,rfl,S1⟩
    obtain ⟨t,ht,T⟩:=TS.get hz
    obtain ⟨tk,tw,td,tz⟩:=tok t (List.mem_of_getElem? ht)
    refine ⟨_,rfl,z,t,rfl,T.mono (keepT_same S1),tw,by omega,tz,fun l H2 l0 S2 hl=>?_⟩
    have S12:=S1.trans S2
    refine ⟨l,rfl,⟨_,SqL.of hl⟩,for_list (K:=K) (xs:=t.names.map V.str) (fun j σ H'=>∃ x3:Option V,σ=[some (.ref b),some (.ref a),some z,x3]∧H'=H2) ⟨_,rfl,rfl⟩ (fun j σ H' _ hst=>by obtain ⟨_,_,h⟩:=hst; subst h; exact SqL.of hl) ?_ ?_⟩
    · rintro j y σ H3 hy ⟨y3,rfl,rfl⟩
      rw [List.getElem?_map] at hy
      obtain ⟨x,hx,rfl⟩:=Option.map_eq_some_iff.mp hy
      refine ⟨_,rfl,_,rfl,a,_,rfl,.inr (SqT.of (S12 _ _ ha)),rfl,flat_strs _,_,rfl,?_⟩
      show if (!inV (.str x) (ns.map V.str))=true then _ else _
      rw [in_strs,decide_eq_true (names_ok t tk x (List.mem_of_getElem? hx))]
      refine iteF ?_
      exact ⟨_,rfl,rfl⟩
    · rintro σ H3 ⟨y3,rfl,rfl⟩
      exact ⟨_,_,rfl,S12⟩
  · rintro σ H1 ⟨x2,x3,rfl,S1⟩
    exact q H1 S1
def spLookF:Sp:=fun vs H Q _=>∃ p:Int,vs=[.int p]∧Pr p∧2 < p∧p≤999983∧Q .non H
theorem sc_look_field:FnScope ["field"] ["field"] (defScope s_look_field):=⟨rfl,rfl,rfl,by decide +kernel,rfl,by decide +kernel,by decide +kernel⟩
theorem ok_look_field {f:Addr} {fd:FuncData} (F:Fun K "look_field" "look_field" s_look_field f fd) (hend:∃ t,mg "FIELDS_END" = some (.int 1000000 t)) (C_is_field:Cal P w K mg base 1 "is_field" ["number"] spField):FnOk P w K mg base CX0 2 f fd ["field"] spLookF:=by
  refine F.ok sc_look_field (fun vs H Q E h=>?_) (fun cdv A outer s H vs Q E hr h=>?_)
  · obtain ⟨p,rfl,_⟩:=h
    rfl
  obtain ⟨p,rfl,pp,p2,p9,q⟩:=h
  obtain ⟨te,ge⟩:=hend
  refine ⟨_,(pss_one (ps_if (PW.pt (pw_or (pt_cmpR op_ge (pv 0) (pe_glob (v:=.int 1000000) rfl ge ⟨_,rfl⟩) (nomark _)) (pw_or1 (pt_not (pt_val (pe_cal C_is_field hr (by decide) rfl (pa_cons (pv 0) pa_nil))))))) pss_never pss_nil)),?_⟩
  refine ⟨_,rfl,_,_,rfl,rfl,_,rfl,?_⟩
  refine iteDF (by omega) ?_
  refine ⟨_,rfl,p,rfl,by omega,fun b hb=>⟨b,rfl,?_⟩⟩
  rw [hb.mpr ⟨p2,pp⟩]
  exact iteF q
def spLookZ:Sp:=fun vs H Q _=>∃ (p:Int) (d:Addr) (ns:List Int),vs=[.int p,.ref d]∧H d=some (.lst (ns.map V.int))∧ns ≠ []∧(∀ n ∈ ns,n < p)∧Q .non H
theorem sc_look_size:FnScope ["field", "degrees", "greatest"] ["field", "degrees"] (defScope s_look_size):=⟨rfl,rfl,rfl,by decide +kernel,rfl,by decide +kernel,by decide +kernel⟩
theorem ok_look_size {f:Addr} {fd:FuncData} (F:Fun K "look_size" "look_size" s_look_size f fd) (hmax:mg "max" = none):FnOk P w K mg base CX0 1 f fd ["field", "degrees"] spLookZ:=by
  refine F.ok sc_look_size (fun vs H Q E h=>?_) (fun cdv A outer s H vs Q E hr h=>?_)
  · obtain ⟨p,d,ns,rfl,_⟩:=h
    rfl
  obtain ⟨p,d,ns,rfl,hd,n0,nl,q⟩:=h
  refine ⟨_,(pss_cons (ps_set (i:=2) sc_look_size.nd rfl (Or.inl rfl) (pe_callB (call_max1 rfl) rfl hmax PyProof.Rows.boot_max (pa_cons (pv 1) pa_nil)))
      (pss_one (ps_if (pt_cmpR op_le (pv 0) (pv 2) (nomark _)) pss_never pss_nil))),?_⟩
  refine ⟨_,rfl,d,ns,rfl,SqL.of hd,n0,?_⟩
  refine ⟨_,rfl,_,rfl,_,_,rfl,rfl,_,rfl,?_⟩
  have:=nl _ (maxD_mem n0)
  exact iteDF (by omega) q
theorem putF_len (f:Str) (v:V):∀ fs:List (Str × V),(putF f v fs).length≤fs.length+1
  | []=>Nat.le_refl _
  | (g,u)::r=>by
    have:=putF_len f v r
    unfold putF
    split
    · simp
    · simp only [List.length_cons]
      omega
def gf3 (a b:Addr) (p:Int):List (Str × V):=putF "field" (.int p) (putF "trees" (.ref b) (putF "switches" (.ref a) []))
theorem gf3_sw (a b:Addr) (p:Int):(gf3 a b p).lookup ("switches" : Str)=some (.ref a):=by
  unfold gf3
  rw [lookup_putF,if_neg (by decide +kernel),lookup_putF,if_neg (by decide +kernel),lookup_putF,if_pos rfl]
theorem gf3_tr (a b:Addr) (p:Int):(gf3 a b p).lookup ("trees" : Str)=some (.ref b):=by
  unfold gf3
  rw [lookup_putF,if_neg (by decide +kernel),lookup_putF,if_pos rfl]
def GameAt (C:Addr) (H:Hp) (g a b d:Addr) (p:Int):Prop:=∃ dx,H g=some (.ins C dx (gf a b p d))
theorem GameAt.same {C:Addr} {H H':Hp} {g a b d:Addr} {p:Int} (h:GameAt C H g a b d p) (s:Same H H'):GameAt C H' g a b d p:=by
  obtain ⟨dx,e⟩:=h
  exact ⟨dx,s _ _ e⟩
def spGInit (C:Addr):Sp:=fun vs H Q _=>∃ (g dx a b:Addr) (ns:List Str) (tv:List V) (ts:List Tr) (p:Int),vs=[.ref g,.ref a,.ref b,.int p]∧H g=some (.ins C dx [])∧H a=some (.tup (ns.map V.str))∧ns.Nodup∧ns.length≤10∧H b=some (.tup tv)∧TreesAt H tv ts∧1≤ts.length∧ts.length≤10 ∧
  (∀ t ∈ ts,t.ok ns∧t.wf∧t.depth≤10∧t.size≤400)∧Pr p∧2 < p∧p≤999983∧(ts.length:Int)≤p∧(∀ t ∈ ts,∀ x ∈ ns,(t.names.count x:Int) < p) ∧
  ∀ (d:Addr) (H':Hp),H d=none→GameAt C H' g a b d p→H' d=some (.lst ((ns.map (degOf ts)).map V.int))→SameBut g H H'→Q .non H'
theorem sc_ginit:FnScope ["self", "switches", "trees", "field"] ["self", "switches", "trees", "field"] (defScope s_ginit):=⟨rfl,rfl,rfl,by decide +kernel,rfl,by decide +kernel,by decide +kernel⟩
theorem ok_ginit {f C:Addr} {fd:FuncData} (F:Fun K "__init__" "Game.__init__" s_ginit f fd) (T:GTxt K mg C) (htuple:mg "tuple" = none) (hlen:mg "len" = none) (C_degree_of:Cal P w K mg base 13 "degree_of" ["name", "trees"] spDeg) (C_look_switches:Cal P w K mg base 1 "look_switches" ["switches"] spLookS)
    (C_look_names:Cal P w K mg base 13 "look_names" ["trees", "switches"] spLookN) (C_look_field:Cal P w K mg base 2 "look_field" ["field"] spLookF) (C_look_size:Cal P w K mg base 1 "look_size" ["field", "degrees"] spLookZ):FnOk P w K mg base CX0 14 f fd ["self", "switches", "trees", "field"] (spGInit C):=by
  refine F.ok sc_ginit (fun vs H Q E h=>?_) (fun cdv A outer s H vs Q E hr h=>?_)
  · obtain ⟨g,dx,a,b,ns,tv,ts,p,rfl,_⟩:=h
    rfl
  obtain ⟨g,dx,a,b,ns,tv,ts,p,rfl,hg,ha,nd,nl,hb,TS,t1,t10,tok,pp,p2,p9,tp,tc,q⟩:=h
  refine ⟨_,(pss_cons (ps_fld (pv 0) (pe_callTy call_tuple_of rfl htuple boot_tuple' (pa_cons (pv 1) pa_nil)) rfl)
      (pss_cons (ps_fld (pv 0) (pe_callTy call_tuple_of rfl htuple boot_tuple' (pa_cons (pv 2) pa_nil)) rfl)
      (pss_cons (ps_fld (pv 0) (pv 3) rfl)
      (pss_cons (ps_fld (pv 0) (pe_comp (N:=["self"]) (ix:=[0]) rfl
          (CompScope.one (by with_unfolding_all rfl) (by decide) rfl (by decide) rfl (by decide +kernel) (by with_unfolding_all rfl) (by with_unfolding_all rfl) (by with_unfolding_all rfl) rfl rfl) rfl
          (pi_tup (pe_fld (pv 0) rfl)) (fun _ _ _=>pb_all (pe_cal C_degree_of hr (by decide) rfl (pa_cons (pv 0) (pa_cons (pe_fldK K (pv 1)) pa_nil))))) rfl)
      (pss_cons (ps_expr (pe_cal C_look_switches hr (by decide) rfl (pa_cons (pe_fld (pv 0) rfl) pa_nil)))
      (pss_cons (ps_expr (pe_cal C_look_names hr (by decide) rfl (pa_cons (pe_fld (pv 0) rfl) (pa_cons (pe_fld (pv 0) rfl) pa_nil))))
      (pss_cons (ps_expr (pe_cal C_look_field hr (by decide) rfl (pa_cons (pv 3) pa_nil)))
      (pss_one (ps_expr (pe_cal C_look_size hr (by decide) rfl (pa_cons (pv 3) (pa_cons (pe_op op_cat (pe_fld (pv 0) rfl) (pe_lst (pa_cons (pe_op op_sub (pe_callB call_len_seq rfl hlen PySem.boot_len (pa_cons (pe_fld (pv 0) rfl) pa_nil)) pe_int) pa_nil))) pa_nil)))))))))))),?_⟩
  have nag:a ≠ g:=ne_of ha hg (by intro z; cases z)
  have nbg:b ≠ g:=ne_of hb hg (by intro z; cases z)
  have vl:=TS.length
  refine ⟨_,rfl,a,_,rfl,.inr ⟨SqT.of ha,_,rfl,g,C,dx,[],rfl,hg,T.cl,T.nS,(by show 0 < 1000; decide),?_⟩⟩
  refine ⟨_,rfl,b,_,rfl,.inr ⟨SqT.of (by rw [upd_ne nbg]; exact hb),_,rfl,g,C,dx,_,rfl,upd_same,T.cl,T.nT,(Nat.lt_of_le_of_lt (putF_len _ _ _) (by show 1 < 1000; decide)),?_⟩⟩
  refine ⟨_,rfl,_,rfl,g,C,dx,_,rfl,upd_same,T.cl,T.nF,(Nat.lt_of_le_of_lt (putF_len _ _ _) (Nat.lt_of_le_of_lt (Nat.succ_le_succ (putF_len _ _ _)) (by show 2 < 1000; decide))),?_⟩
  have S3:SameBut g H (upd (upd (upd H g (.ins C dx (putF "switches" (.ref a) []))) g (.ins C dx (putF "trees" (.ref b) (putF "switches" (.ref a) [])))) g (.ins C dx (putF "field" (.int p) (putF "trees" (.ref b) (putF "switches" (.ref a) []))))) :=
    (SameBut.upd _).trans ((SameBut.upd _).trans (SameBut.upd _))
  have hg3:upd (upd (upd H g (.ins C dx (putF "switches" (.ref a) []))) g (.ins C dx (putF "trees" (.ref b) (putF "switches" (.ref a) [])))) g (.ins C dx (putF "field" (.int p) (putF "trees" (.ref b) (putF "switches" (.ref a) [])))) g=some (.ins C dx (gf3 a b p)):=upd_same
  generalize upd (upd (upd H g (.ins C dx (putF "switches" (.ref a) []))) g (.ins C dx (putF "trees" (.ref b) (putF "switches" (.ref a) [])))) g (.ins C dx (putF "field" (.int p) (putF "trees" (.ref b) (putF "switches" (.ref a) []))))=H3 at S3 hg3
  have kT:KeepT H H3:=fun c xs h=>S3 c _ (ne_of h hg (by intro z; cases z)) h
  have ha3:=kT _ _ ha
  have hb3:=kT _ _ hb
  have TS3:=TS.mono kT
  refine ⟨_,rfl,g,C,dx,_,_,rfl,hg3,T.cl,T.nS,gf3_sw ..,a,rfl,⟨_,SqT.of ha3⟩,fun D hD=>?_⟩
  have D0:H D=none:=by
    cases e:H D with
    | none=>rfl
    | some o =>
      by_cases c:D=g
      · rw [c,hg3] at hD; cases hD
      · rw [S3 D o c e] at hD; cases hD
  refine comp_tup (K:=K) (xs:=ns.map V.str) (fun i H'=>H' D=some (.lst (((ns.take i).map (degOf ts)).map V.int))∧Same H3 H') ⟨by rw [upd_same]; rfl,Same.new hD _⟩ (fun i H' _ h=>SqT.of (h.2 _ _ ha3)) ?_ ?_
  · rintro i z H4 hz ⟨hl,S4⟩
    have hi:i < (ns.map V.str).length:=(List.getElem?_eq_some_iff.mp hz).1
    rw [List.getElem?_map] at hz
    obtain ⟨x,hx,rfl⟩:=Option.map_eq_some_iff.mp hz
    refine ⟨_,rfl,_,rfl,g,C,dx,_,_,rfl,S4 _ _ hg3,T.cl,T.nT,gf3_tr ..,x,b,tv,ts,rfl,S4 _ _ hb3,TS3.mono (keepT_same S4),?_,t10,fun t ht=>(tok t ht).2,fun H5 S5=>?_⟩
    · intro e
      rw [e] at t1
      exact absurd t1 (by decide)
    refine ⟨_,S5 _ _ hl,?_,Nx.of hi ⟨?_,fun b' o' e'=>?_⟩⟩
    · rw [List.length_map,List.length_map,List.length_take]
      exact small1000 (by omega)
    · rw [upd_same,List.take_add_one,hx,List.map_append,List.map_append]
      rfl
    · rw [upd_ne (ne_of_none e' hD)]
      exact S5 _ _ (S4 _ _ e')
  rintro H4 ⟨hl,S4⟩
  rw [List.length_map,List.take_length] at hl
  refine ⟨_,rfl,g,C,dx,_,rfl,S4 _ _ hg3,T.cl,T.nD,?_,?_⟩
  · exact Nat.lt_of_le_of_lt (Nat.le_trans (putF_len _ _ _) (Nat.succ_le_succ (Nat.le_trans (putF_len _ _ _) (Nat.succ_le_succ (putF_len _ _ _))))) (by show 3 < 1000; decide)
  have nDg:D ≠ g:=fun z=>by rw [z,hg3] at hD; cases hD
  have hg5:upd H4 g (.ins C dx (gf a b p D)) g=some (.ins C dx (gf a b p D)):=upd_same
  have S5:SameBut g H (upd H4 g (.ins C dx (gf a b p D))):=S3.trans ((SameBut.of S4).trans (SameBut.upd _))
  have hD5:upd H4 g (.ins C dx (gf a b p D)) D=some (.lst ((ns.map (degOf ts)).map V.int)):=by rw [upd_ne nDg]; exact hl
  show _
  generalize he5:upd H4 g (.ins C dx (gf a b p D))=H5 at hg5 S5 hD5
  have kT5:KeepT H H5:=fun c xs h=>S5 c _ (ne_of h hg (by intro z; cases z)) h
  rw [show upd H4 g (.ins C dx (putF "degrees" (.ref D) (gf3 a b p)))=H5 from he5]
  refine ⟨_,rfl,g,C,dx,_,_,rfl,hg5,T.cl,T.nS,gf_sw ..,a,ns,rfl,kT5 _ _ ha,nd,nl,fun H6 S6=>?_⟩
  have kT6:KeepT H H6:=fun c xs h=>S6 _ _ (kT5 c xs h)
  refine ⟨_,rfl,g,C,dx,_,_,rfl,S6 _ _ hg5,T.cl,T.nT,gf_tr ..,_,rfl,g,C,dx,_,_,rfl,S6 _ _ hg5,T.cl,T.nS,gf_sw ..,a,b,ns,tv,ts,rfl,kT6 _ _ ha,kT6 _ _ hb,TS.mono kT6,tok,fun H7 S7=>?_⟩
  have S57:=S6.trans S7
  refine ⟨_,rfl,p,rfl,pp,p2,p9,?_⟩
  refine ⟨_,rfl,_,rfl,g,C,dx,_,_,rfl,S57 _ _ hg5,T.cl,T.nD,gf_de ..,_,rfl,g,C,dx,_,_,rfl,S57 _ _ hg5,T.cl,T.nT,gf_tr ..,b,_,rfl,.inr (SqT.of (S57 _ _ (kT5 _ _ hb))),_,_,rfl,rfl,(by show 1≤sizeLine; decide),fun l hl2=>?_⟩
  have Gl:=Same.new hl2 (.lst [.int ((tv.length:Int) - 1)])
  refine ⟨D,l,_,_,rfl,rfl,Gl _ _ (S57 _ _ hD5),upd_same,?_,fun r hr0=>?_⟩
  · rw [List.length_map,List.length_map]
    exact small (by simp; omega)
  have Gr:=Same.new hr0 (.lst ((ns.map (degOf ts)).map V.int++[.int ((tv.length:Int) - 1)]))
  refine ⟨p,r,ns.map (degOf ts)++[(tv.length:Int) - 1],rfl,?_,by simp,fun n hn=>?_,?_⟩
  · rw [upd_same,List.map_append]
    rfl
  · rcases List.mem_append.mp hn with h | h
    · obtain ⟨x,hx,rfl⟩:=List.mem_map.mp h
      refine degOf_lt ?_ fun t ht=>tc t ht x hx
      intro e
      rw [e] at t1
      exact absurd t1 (by decide)
    · rw [List.mem_singleton.mp h]
      omega
  · have S59:=S57.trans (Gl.trans Gr)
    exact q D _ D0 ⟨dx,S59 _ _ hg5⟩ (S59 _ _ hD5) (S5.trans (SameBut.of S59))
def spInv:Sp:=fun vs H Q _=>∃ a p:Int,vs=[.int a,.int p]∧Pr p∧p≤999983∧0 < a∧a < p∧∀ g:Int,0 < g→g < p→g*a % p=1→Q (.int g) H
theorem sc_inverse_of:FnScope ["a", "p", "former", "former_factor", "rest", "factor", "times", "lesser", "lesser_factor"] ["a", "p"] (defScope s_inverse_of):=⟨rfl,rfl,rfl,by decide +kernel,rfl,by decide +kernel,by decide +kernel⟩
theorem ok_inverse_of {f:Addr} {fd:FuncData} (F:Fun K "inverse_of" "inverse_of" s_inverse_of f fd):FnOk P w K mg base CX0 1 f fd ["a", "p"] spInv:=by
  refine F.ok sc_inverse_of (fun vs H Q E h=>?_) (fun cdv A outer s H vs Q E hr h=>?_)
  · obtain ⟨a,p,rfl,_⟩:=h
    rfl
  obtain ⟨a,p,rfl,pr,p1,a0,a1,q⟩:=h
  have p2:2≤p:=pr.1
  refine ⟨_,(pss_cons (ps_set (i:=2) sc_inverse_of.nd rfl (Or.inl rfl) (pv 1))
      (pss_cons (ps_set (i:=3) sc_inverse_of.nd rfl (Or.inl rfl) pe_int)
      (pss_cons (ps_set (i:=4) sc_inverse_of.nd rfl (Or.inl rfl) (pe_op op_mod (pv 0) (pv 1)))
      (pss_cons (ps_set (i:=5) sc_inverse_of.nd rfl (Or.inl rfl) pe_int)
      (pss_cons (ps_while PassesOwn.never (pt_cmpR op_ne (pv 4) pe_int (nomark _)) (pss_cons (ps_set (i:=6) sc_inverse_of.nd rfl (Or.inl rfl) (pe_op op_fdiv (pv 2) (pv 4)))
        (pss_cons (ps_set (i:=7) sc_inverse_of.nd rfl (Or.inl rfl) (pe_op op_sub (pv 2) (pe_op op_mul (pv 6) (pv 4))))
        (pss_cons (ps_set (i:=8) sc_inverse_of.nd rfl (Or.inl rfl) (pe_op op_mod (pe_op op_sub (pv 3) (pe_op op_mul (pv 6) (pv 5))) (pv 1)))
        (pss_cons (ps_set (i:=2) sc_inverse_of.nd rfl (Or.inl rfl) (pv 4))
        (pss_cons (ps_set (i:=3) sc_inverse_of.nd rfl (Or.inl rfl) (pv 5))
        (pss_cons (ps_set (i:=4) sc_inverse_of.nd rfl (Or.inl rfl) (pv 7))
        (pss_one (ps_set (i:=5) sc_inverse_of.nd rfl (Or.inl rfl) (pv 8))))))))))
      (pss_one (ps_ret (pv 5)))))))),?_⟩
  refine ⟨_,rfl,?_⟩
  refine ⟨_,rfl,_,rfl,_,_,rfl,rfl,(show 0 < p by omega),?_⟩
  refine ⟨fun m σ H'=>∃ (former ff rest g:Int) (x6 x7 x8:Option V),σ=[some (.int a),some (.int p),some (.int former),some (.int ff),some (.int rest),some (.int g),x6,x7,x8]∧H'=H∧Eu a p former ff rest g∧m=rest.toNat,
    ⟨_,_,_,_,_,_,_,_,rfl,rfl,eu_start pr (by omega) a0 a1,rfl⟩,?_⟩
  rintro m σ H' ⟨former,ff,rest,g,x6,x7,x8,rfl,rfl,eu,rfl⟩
  refine ⟨_,rfl,rfl,_,rfl,?_⟩
  by_cases c:rest=1
  · refine iteNS (congrArg V.int c) ?_
    obtain ⟨g0,g1,g2⟩:=eu_end eu c (by omega)
    exact ⟨_,rfl,q g g0 g1 g2⟩
  · refine iteN (fun z=>c (V.int.inj z)) ?_
    refine ⟨_,fun _ _ h=>h,?_⟩
    have r0:=eu.r0
    have rp:=eu.rp
    have f0:=eu.f0
    have f1:=eu.f1
    obtain ⟨nx,lt⟩:=eu_next eu c
    refine ⟨_,rfl,_,rfl,_,_,rfl,rfl,⟨r0,by omega⟩,?_⟩
    refine ⟨_,rfl,_,rfl,_,rfl,_,_,rfl,rfl,.inr ⟨by omega,by omega⟩,_,_,rfl,rfl,?_⟩
    refine ⟨_,rfl,_,rfl,_,rfl,_,_,rfl,rfl,.inr ⟨by omega,by omega⟩,_,_,rfl,rfl,_,rfl,_,_,rfl,rfl,(show 0 < p by omega),?_⟩
    refine ⟨_,rfl,_,rfl,_,rfl,_,rfl,?_⟩
    exact ⟨_,lt,_,_,_,_,_,_,_,rfl,rfl,nx,rfl⟩
theorem md {p x y:Int} (h:p ∣ x - y):x % p=y % p:=by
  obtain ⟨k,hk⟩:=h
  have:x=y+p*k:=by omega
  rw [this,Int.add_mul_emod_self_left]
theorem dm (p x:Int):p ∣ x % p - x:=⟨-(x / p),by
  have:=Int.emod_add_mul_ediv x p
  rw [Int.mul_neg]
  omega⟩
def pmd (p:Int) (g:Nat→Int):Nat→Int
  | 0=>1
  | k+1=>pmd p g k*g k % p
theorem pmd_dvd (p:Int) (g:Nat→Int):∀ k,p ∣ pmd p g k - pr g k
  | 0=>⟨0,by simp [pmd,pr]⟩
  | k+1=>by
    obtain ⟨a,ha⟩:=pmd_dvd p g k
    obtain ⟨b,hb⟩:=dm p (pmd p g k*g k)
    exact ⟨b+a*g k,by show pmd p g k*g k % p - pr g k*g k=_; grind⟩
theorem pmd_rng {p:Int} (hp:1 < p) (g:Nat→Int):∀ k,0≤pmd p g k∧pmd p g k < p
  | 0=>⟨by show (0:Int)≤1; decide,hp⟩
  | k+1=>⟨Int.emod_nonneg _ (by omega),Int.emod_lt_of_pos _ (by omega)⟩
def prL (p:Int) (g:Nat→Int) (n:Nat):List V:=((List.range n).map (pmd p g)).map V.int
theorem prL_succ (p:Int) (g:Nat→Int) (n:Nat):prL p g (n+1)=prL p g n++[.int (pmd p g n)]:=by
  unfold prL
  rw [List.range_succ,List.map_append,List.map_append]
  rfl
theorem prL_len (p:Int) (g:Nat→Int) (n:Nat):(prL p g n).length=n:=by
  unfold prL
  rw [List.length_map,List.length_map,List.length_range]
theorem map_at {f:Nat→Int} {n k:Nat} (h:k < n):atI (((List.range n).map f).map V.int) (k:Int)=some (.int (f k)):=by
  refine atI_nat ?_
  rw [List.getElem?_map,List.getElem?_map,List.getElem?_range h]
  rfl
theorem prL_at {p:Int} {g:Nat→Int} {n k:Nat} (h:k < n):atI (prL p g n) (k:Int)=some (.int (pmd p g k)):=map_at h
def spProd:Sp:=fun vs H Q _=>∃ (a:Addr) (g:Nat→Int) (n:Nat) (p:Int),vs=[.ref a,.int p]∧H a=some (.lst (((List.range n).map g).map V.int))∧n≤500∧1 < p∧p < 2 ^ 40∧∀ (l:Addr) (H':Hp),H l=none→Same H H'→H' l=some (.lst (prL p g (n+1)))→Q (.ref l) H'
theorem sc_products:FnScope ["numbers", "p", "told", "number"] ["numbers", "p"] (defScope s_products):=⟨rfl,rfl,rfl,by decide +kernel,rfl,by decide +kernel,by decide +kernel⟩
theorem ok_products {f:Addr} {fd:FuncData} (F:Fun K "products" "products" s_products f fd):FnOk P w K mg base CX0 1 f fd ["numbers", "p"] spProd:=by
  refine F.ok sc_products (fun vs H Q E h=>?_) (fun cdv A outer s H vs Q E hr h=>?_)
  · obtain ⟨a,g,n,p,rfl,_⟩:=h
    rfl
  obtain ⟨a,g,n,p,rfl,ha,n5,p1,p40,q⟩:=h
  refine ⟨_,(pss_cons (ps_set (i:=2) sc_products.nd rfl (Or.inl rfl) (pe_lst (pa_cons pe_int pa_nil)))
      (pss_cons (ps_for PassesOwn.never rfl (pi_list (pv 0)) (pg_name (i:=3) sc_products.nd rfl (Or.inl rfl)) (pss_one (ps_expr (pe_bm PySem.F.plainAttrs_list PySem.F.slot_list_append PySem.F.type_list_append mt_append (pv 2) (pa_cons (pe_op op_mod (pe_op op_mul (pe_ix ix_list (pv 2) (pe_un un_neg pe_int) (fun _ _=>rfl)) (pv 3)) (pv 1)) pa_nil)))))
      (pss_one (ps_ret (pv 2))))),?_⟩
  refine ⟨(by show 1≤sizeLine; decide),fun L hL=>?_⟩
  have aL:a ≠ L:=ne_of_none ha hL
  refine ⟨_,rfl,a,rfl,⟨_,SqL.of ((Same.new hL _) _ _ ha)⟩,for_list (K:=K) (xs:=((List.range n).map g).map V.int) (fun i σ H'=>∃ x3:Option V,σ=[some (.ref a),some (.int p),some (.ref L),x3]∧H' L=some (.lst (prL p g (i+1)))∧SameBut L H H')
    ⟨_,rfl,by rw [upd_same]; rfl,SameBut.upd _⟩ (fun i σ H' _ hst=>by obtain ⟨_,_,_,h⟩:=hst; exact SqL.of (h _ _ aL ha)) ?_ ?_⟩
  · rintro i z σ H1 hz ⟨x3,rfl,hL1,S1⟩
    have hi:=(List.getElem?_eq_some_iff.mp hz).1
    rw [List.length_map,List.length_map,List.length_range] at hi
    rw [List.getElem?_map,List.getElem?_map,List.getElem?_range hi] at hz
    obtain rfl:V.int (g i)=z:=Option.some.inj hz
    have rg:=pmd_rng p1 g i
    refine ⟨_,rfl,.inl ⟨rfl,_,SqL.of hL1⟩,?_⟩
    refine ⟨_,rfl,_,rfl,L,_,_,.int (pmd p g i),rfl,rfl,SqL.of hL1,?_,_,rfl,_,_,rfl,rfl,.inl ⟨by omega,by omega⟩,_,rfl,_,_,rfl,rfl,(by omega),L,_,_,rfl,rfl,hL1,?_,?_⟩
    · rw [prL_succ]
      exact atI_last _ _
    · rw [prL_len]
      exact small1000 (by omega)
    · refine ⟨_,rfl,?_,fun c o hc e=>?_⟩
      · rw [upd_same,prL_succ p g (i+1)]
        rfl
      · rw [upd_ne hc]
        exact S1 c o hc e
  · rintro σ H1 ⟨x3,rfl,hL1,S1⟩
    rw [List.length_map,List.length_map,List.length_range] at hL1
    exact ⟨_,rfl,q L H1 hL (fun b o e=>S1 b o (ne_of_none e hL) e) hL1⟩
theorem pr_fac:∀ n:Nat,pr (fun k=>1+(k:Int)) n=fac n
  | 0=>rfl
  | n+1=>by
    show pr (fun k=>1+(k:Int)) n*(1+(n:Int))=fac n*((n:Int)+1)
    rw [pr_fac n,Int.add_comm]
theorem share_ok {p g a t s:Int} {k m:Nat} (hg:g*a % p=1) (p1:1 < p) (ha:p ∣ a - fac (k+m)) (ht:p ∣ t - pr (fun j=>((k+m:Nat):Int) - j) m) (hs:p ∣ s - g*t):p ∣ s*fac k - 1:=by
  have f:=fac_part m k
  obtain ⟨x,hx⟩:=ha
  obtain ⟨y,hy⟩:=ht
  obtain ⟨z,hz⟩:=hs
  obtain ⟨e,he⟩:=dm p (g*a)
  rw [hg] at he
  exact ⟨z*fac k+g*y*fac k - g*x - e,by grind⟩
def spFacs:Sp:=fun vs H Q _=>∃ (L:Nat) (p:Int),vs=[.int (L:Int),.int p]∧L≤500∧(L:Int) < p∧Pr p∧p≤999983∧∀ (l:Addr) (H':Hp) (sh:Nat→Int),H l=none→Same H H'→(∀ k,k≤L→p ∣ sh k*fac k - 1)→(∀ k,0≤sh k∧sh k < p)→H' l=some (.lst (((List.range (L+1)).map sh).map V.int))→Q (.ref l) H'
theorem sc_inverse_factorials:FnScope ["last", "p", "numbers", "whole", "told"] ["last", "p"] (defScope s_inverse_factorials):=⟨rfl,rfl,rfl,by decide +kernel,rfl,by decide +kernel,by decide +kernel⟩
theorem ok_inverse_factorials {f:Addr} {fd:FuncData} (F:Fun K "inverse_factorials" "inverse_factorials" s_inverse_factorials f fd) (B:Bl mg) (C_products:Cal P w K mg base 1 "products" ["numbers", "p"] spProd) (C_inverse_of:Cal P w K mg base 1 "inverse_of" ["a", "p"] spInv):FnOk P w K mg base CX0 2 f fd ["last", "p"] spFacs:=by
  refine F.ok sc_inverse_factorials (fun vs H Q E h=>?_) (fun cdv A outer s H vs Q E hr h=>?_)
  · obtain ⟨L,p,rfl,_⟩:=h
    rfl
  obtain ⟨L,p,rfl,L5,Lp,pp,p9,q⟩:=h
  refine ⟨_,(pss_cons (ps_set (i:=2) sc_inverse_factorials.nd rfl (Or.inl rfl) (pe_listrng rfl rfl B.list rfl B.range (pa_cons pe_int (pa_cons (pe_op op_add (pv 0) pe_int) pa_nil))))
      (pss_cons (ps_set (i:=3) sc_inverse_factorials.nd rfl (Or.inr rfl) (pe_cal C_inverse_of hr (by decide) rfl (pa_cons (pe_ix ix_list (pe_cal C_products hr (by decide) rfl (pa_cons (pv 2) (pa_cons (pv 1) pa_nil))) (pe_un un_neg pe_int) (fun _ _=>rfl)) (pa_cons (pv 1) pa_nil))))
      (pss_cons (ps_set (i:=4) sc_inverse_factorials.nd rfl (Or.inr rfl) (pe_cal C_products hr (by decide) rfl (pa_cons (pe_comp (N:=["last"]) (ix:=[0]) rfl
          (CompScope.one (by with_unfolding_all rfl) (by decide) rfl (by decide) rfl (by decide +kernel) (by with_unfolding_all rfl) (by with_unfolding_all rfl) (by with_unfolding_all rfl) rfl rfl) rfl
          (pi_range1 rfl B.range (pa_cons (pv 0) pa_nil)) (fun _ _ _=>pb_all (pe_op op_sub (pv 1) (pv 0)))) (pa_cons (pv 1) pa_nil))))
      (pss_one (ps_ret (pe_comp (N:=["whole", "told", "p", "last"]) (ix:=[3,4,1,0]) rfl
          (CompScope.four (by with_unfolding_all rfl) (by decide) rfl (by decide) rfl (by decide +kernel) rfl (by with_unfolding_all rfl) (by with_unfolding_all rfl) (by with_unfolding_all rfl) (by with_unfolding_all rfl) (by with_unfolding_all rfl) (by with_unfolding_all rfl) rfl rfl (by with_unfolding_all rfl) rfl rfl (by with_unfolding_all rfl) rfl rfl (by with_unfolding_all rfl) rfl rfl) rfl
          (pi_range1 rfl B.range (pa_cons (pe_op op_add (pv 0) pe_int) pa_nil)) (fun _ _ _=>pb_all (pe_op op_mod (pe_op op_mul (pv 1) (pe_ix (ix_listK K) (pv 2) (pe_op op_sub (pv 4) (pv 0)) (fun _ _=>rfl))) (pv 3))))))))),?_⟩
  have p2:=pp.1
  have hP:=pm_of pp (by omega)
  refine ⟨_,rfl,_,_,rfl,rfl,1,_,rfl,⟨by decide,by decide,by omega,by omega⟩,by omega,fun a ha=>?_⟩
  have e1:rngV 1 ((L:Int)+1 - 1).toNat=(List.range L).map fun k:Nat=>1+(k:Int):=by
    unfold rngV
    rw [show ((L:Int)+1 - 1).toNat=L by omega]
  rw [e1]
  have Ga:=Same.new ha (.lst (((List.range L).map fun k:Nat=>1+(k:Int)).map V.int))
  refine ⟨_,rfl,_,rfl,a,_,L,p,rfl,upd_same,L5,by omega,by omega,fun l H2 l0 S2 hl2=>?_⟩
  have rg:=pmd_rng (show 1 < p by omega) (fun k:Nat=>1+(k:Int)) L
  have dv:=pmd_dvd p (fun k:Nat=>1+(k:Int)) L
  rw [pr_fac] at dv
  have ne0:pmd p (fun k:Nat=>1+(k:Int)) L ≠ 0:=fun z=>by
    rw [z] at dv
    obtain ⟨m,hm⟩:=dv
    exact fac_ne hP L Lp ⟨-m,by rw [Int.mul_neg]; omega⟩
  refine ⟨_,rfl,l,_,_,.int (pmd p (fun k:Nat=>1+(k:Int)) L),rfl,rfl,SqL.of hl2,by rw [prL_succ]; exact atI_last _ _,_,rfl,_,p,rfl,pp,p9,by omega,rg.2,fun g g0 g1 hg=>?_⟩
  have SH2:=Ga.trans S2
  refine ⟨_,rfl,_,rfl,by omega,by omega,fun D hD=>?_⟩
  refine comp_range (fun i H'=>H' D=some (.lst (((List.range i).map fun j:Nat=>(L:Int) - j).map V.int))∧Same H2 H') ⟨by rw [upd_same]; rfl,Same.new hD _⟩ ?_ ?_
  · rintro i H3 hi ⟨hD3,S3⟩
    refine ⟨_,rfl,_,rfl,_,_,rfl,rfl,_,hD3,?_,Nx.of hi ⟨?_,fun b o e=>?_⟩⟩
    · rw [List.length_map,List.length_map,List.length_range]
      exact small1000 (by omega)
    · rw [upd_same,List.range_succ,List.map_append,List.map_append,Int.zero_add]
      rfl
    · rw [upd_ne (ne_of_none e hD)]
      exact S3 _ _ e
  rintro H3 ⟨hD3,S3⟩
  rw [show ((L:Int)).toNat=L from Int.toNat_natCast L] at hD3
  refine ⟨_,rfl,D,_,L,p,rfl,hD3,L5,by omega,by omega,fun t H4 t0 S4 ht4=>?_⟩
  refine ⟨_,rfl,_,_,rfl,rfl,_,rfl,by omega,by omega,fun D2 hD2=>?_⟩
  refine comp_range (fun i H'=>H' D2=some (.lst (((List.range i).map fun k:Nat=>g*pmd p (fun j:Nat=>(L:Int) - j) (L - k) % p).map V.int))∧Same H4 H') ⟨by rw [upd_same]; rfl,Same.new hD2 _⟩ ?_ ?_
  · rintro i H5 hi ⟨hD5,S5⟩
    have hi':i < L+1:=by omega
    have rg2:=pmd_rng (show 1 < p by omega) (fun j:Nat=>(L:Int) - j) (L - i)
    have e2:(L:Int) - (0+(i:Int))=((L - i:Nat):Int):=by omega
    refine ⟨_,rfl,_,rfl,_,rfl,_,rfl,_,_,rfl,rfl,t,_,_,.int (pmd p (fun j:Nat=>(L:Int) - j) (L - i)),rfl,rfl,SqL.of (S5 _ _ ht4),by rw [e2]; exact prL_at (by omega),_,_,rfl,rfl,.inl ⟨by omega,by omega⟩,_,rfl,_,_,rfl,rfl,(by omega),_,hD5,?_,Nx.of hi ⟨?_,fun b o e=>?_⟩⟩
    · rw [List.length_map,List.length_map,List.length_range]
      exact small1000 (by omega)
    · rw [upd_same,List.range_succ,List.map_append,List.map_append]
      rfl
    · rw [upd_ne (ne_of_none e hD2)]
      exact S5 _ _ e
  rintro H5 ⟨hD5,S5⟩
  rw [show ((L:Int)+1).toNat=L+1 by omega] at hD5
  have S05:=SH2.trans (S3.trans (S4.trans S5))
  refine q D2 H5 (fun k=>g*pmd p (fun j:Nat=>(L:Int) - j) (L - k) % p) ((SH2.trans (S3.trans S4)).free hD2) S05 (fun k hk=>?_) (fun k=>⟨Int.emod_nonneg _ (by omega),Int.emod_lt_of_pos _ (by omega)⟩) hD5
  obtain ⟨m,rfl⟩:∃ m,L=k+m:=⟨L - k,by omega⟩
  rw [show k+m - k=m by omega]
  exact share_ok hg (by omega) dv (pmd_dvd p _ m) (dm p _)
def wt (p:Int) (n i:Nat):Int:=(px (i:Int) i n % p) ^ (p - 2).toNat
theorem wgt_wt {p:Int} (hp:Pm p) {n:Nat} (hn:(n:Int)≤p):Wgt p n (wt p n):=fun i hi=>by
  have h1:=own_ne hp hn hi
  obtain ⟨k,hk⟩:=dm p (px (i:Int) i n)
  have h2:¬ p ∣ px (i:Int) i n % p:=fun ⟨m,hm⟩=>h1 ⟨m - k,by grind⟩
  obtain ⟨m,hm⟩:=fermat hp h2 (Int.emod_nonneg _ (by have:=hp.1; omega))
  exact ⟨m - k*(px (i:Int) i n % p) ^ (p - 2).toNat,by unfold wt; grind⟩
def val (p:Int) (xs:List Int) (r:Int):Int:=lag (fun i=>xs.getD i 0) (wt p xs.length) xs.length r % p
theorem val_of {p t r:Int} {xs:List Int} {u:Nat→Int} (hp:Pm p) (hn:(xs.length:Int)≤p) (hu:Wgt p xs.length u) (t0:0≤t) (t1:t < p) (h:p ∣ t - lag (fun i=>xs.getD i 0) u xs.length r):t=val p xs r:=by
  have e:p ∣ t - lag (fun i=>xs.getD i 0) (wt p xs.length) xs.length r:=by
    have:=lag_same hp hn (v:=fun i=>xs.getD i 0) hu (wgt_wt hp hn) r
    have z:=Int.dvd_add h this
    have e2:t - lag (fun i=>xs.getD i 0) u xs.length r+(lag (fun i=>xs.getD i 0) u xs.length r - lag (fun i=>xs.getD i 0) (wt p xs.length) xs.length r)=t - lag (fun i=>xs.getD i 0) (wt p xs.length) xs.length r:=by omega
    rw [e2] at z
    exact z
  have:=md e
  rw [Int.emod_eq_of_lt t0 t1] at this
  exact this
theorem val_rng {p:Int} (hp:1 < p) (xs:List Int) (r:Int):0≤val p xs r∧val p xs r < p:=⟨Int.emod_nonneg _ (by omega),Int.emod_lt_of_pos _ (by omega)⟩
theorem val_at {p:Int} {xs:List Int} {k:Nat} (hp:Pm p) (hn:(xs.length:Int)≤p) (hk:k < xs.length):val p xs k=xs.getD k 0 % p:=md (lag_at (wgt_wt hp hn) hk)
theorem sgn (m:Nat):(-1:Int) ^ m=if m % 2=1 then -1 else 1:=by
  induction m with
  | zero=>rfl
  | succ m ih =>
    rw [Int.pow_succ,ih]
    by_cases c:m % 2=1
    · rw [if_pos c,if_neg (by omega)]
      rfl
    · rw [if_neg c,if_pos (by omega)]
      rfl
theorem vb_step {p r v t s a b c d e:Int} {i m:Nat} {x y:Int} (ht:p ∣ t - s) (ha:p ∣ a - pr (fun j=>r - j) i) (hb:p ∣ b - pr (fun j=>r - (i+m:Nat)+j) m) (hc:p ∣ c - v*a*b) (hd:p ∣ d - x*y) (he:p ∣ e - (t+(if m % 2=1 then -(c*d) else c*d))) :
    p ∣ e - (s+v*px r i (i+m+1)*((-1) ^ m*(x*y))):=by
  rw [show i+m+1=i+1+m by omega,px_split,sgn]
  rw [pr_turn] at hb
  generalize pr (fun j=>r - j) i=A at *
  generalize pr (fun j=>r - (i+1+j:Nat)) m=B at *
  obtain ⟨t',ht⟩:=ht
  obtain ⟨a',ha⟩:=ha
  obtain ⟨b',hb⟩:=hb
  obtain ⟨c',hc⟩:=hc
  obtain ⟨d',hd⟩:=hd
  obtain ⟨e',he⟩:=he
  have e1:c*d - v*(A*B)*(x*y)=p*(c'*d+v*(a'*b+A*b')*d+v*A*B*d'):=by grind
  by_cases z:m % 2=1
  · rw [if_pos z] at *
    exact ⟨e'+t' - (c'*d+v*(a'*b+A*b')*d+v*A*B*d'),by grind⟩
  · rw [if_neg z] at *
    exact ⟨e'+t'+(c'*d+v*(a'*b+A*b')*d+v*A*B*d'),by grind⟩
def IntsAt (H:Hp) (a:Addr) (xs:List Int):Prop:=H a=some (.lst (xs.map V.int))∨H a=some (.tup (xs.map V.int))
theorem IntsAt.same {H H':Hp} {a:Addr} {xs:List Int} (h:IntsAt H a xs) (s:Same H H'):IntsAt H' a xs:=h.elim (fun e=>.inl (s _ _ e)) (fun e=>.inr (s _ _ e))
theorem IntsAt.seq {K:PySem.W.Frag} {H:Hp} {a:Addr} {xs:List Int} (h:IntsAt H a xs):SqL K H a (xs.map V.int)∨SqT K H a (xs.map V.int):=h.elim (fun e=>.inl (SqL.of e)) (fun e=>.inr (SqT.of e))
theorem IntsAt.ix {K:PySem.W.Frag} {H:Hp} {a:Addr} {xs:List Int} {k:Nat} {Q:VK} (h:IntsAt H a xs) (hk:k < xs.length) (q:Q (.int (xs.getD k 0)) H):rIxL K (.ref a) (.int (k:Int)) H Q∨rIxT K (.ref a) (.int (k:Int)) H Q:=by
  have e:atI (xs.map V.int) (k:Int)=some (.int (xs.getD k 0)):=atI_nat (by rw [List.getElem?_map,List.getElem?_eq_getElem hk,List.getD_eq_getElem?_getD,List.getElem?_eq_getElem hk]; rfl)
  rcases h with h | h
  · exact .inl ⟨a,_,_,_,rfl,rfl,SqL.of h,e,q⟩
  · exact .inr ⟨a,_,_,_,rfl,rfl,SqT.of h,e,q⟩
def RowOk (xs:List Int) (p:Int):Prop:=1≤xs.length∧xs.length≤500∧(xs.length:Int)≤p∧∀ k,0≤xs.getD k 0∧xs.getD k 0 < 2 ^ 40
def spVal:Sp:=fun vs H Q _=>∃ (a:Addr) (xs:List Int) (r p:Int),vs=[.ref a,.int r,.int p]∧IntsAt H a xs∧RowOk xs p∧Pr p∧p≤999983∧0≤r∧r < p∧∀ H',Same H H'→Q (.int (val p xs r)) H'
theorem sc_value_behind:FnScope ["values", "r", "p", "last", "ahead", "behind", "shares", "total", "place", "share", "part"] ["values", "r", "p"] (defScope s_value_behind):=⟨rfl,rfl,rfl,by decide +kernel,rfl,by decide +kernel,by decide +kernel⟩
theorem ok_value_behind {f:Addr} {fd:FuncData} (F:Fun K "value_behind" "value_behind" s_value_behind f fd) (B:Bl mg) (C_products:Cal P w K mg base 1 "products" ["numbers", "p"] spProd) (C_inverse_factorials:Cal P w K mg base 2 "inverse_factorials" ["last", "p"] spFacs):FnOk P w K mg base CX0 3 f fd ["values", "r", "p"] spVal:=by
  refine F.ok sc_value_behind (fun vs H Q E h=>?_) (fun cdv A outer s H vs Q E hr h=>?_)
  · obtain ⟨a,xs,r,p,rfl,_⟩:=h
    rfl
  obtain ⟨a,xs,r,p,rfl,ha,⟨x1,x5,xp,xb⟩,pp,p9,r0,r1,q⟩:=h
  refine ⟨_,(pss_cons (ps_set (i:=3) sc_value_behind.nd rfl (Or.inr rfl) (pe_op op_sub (pe_callB call_len_seq rfl B.len PySem.boot_len (pa_cons (pv 0) pa_nil)) pe_int))
      (pss_cons (ps_set (i:=4) sc_value_behind.nd rfl (Or.inl rfl) (pe_cal C_products hr (by decide) rfl (pa_cons (pe_comp (N:=["r"]) (ix:=[1]) rfl
          (CompScope.one (by with_unfolding_all rfl) (by decide) rfl (by decide) rfl (by decide +kernel) (by with_unfolding_all rfl) (by with_unfolding_all rfl) (by with_unfolding_all rfl) rfl rfl) rfl
          (pi_range1 rfl B.range (pa_cons (pv 3) pa_nil)) (fun _ _ _=>pb_all (pe_op op_sub (pv 1) (pv 0)))) (pa_cons (pv 2) pa_nil))))
      (pss_cons (ps_set (i:=5) sc_value_behind.nd rfl (Or.inl rfl) (pe_cal C_products hr (by decide) rfl (pa_cons (pe_comp (N:=["r", "last"]) (ix:=[1,3]) rfl
          (CompScope.two (by with_unfolding_all rfl) (by decide) rfl (by decide) rfl (by decide +kernel) (by first | exact Or.inl rfl | exact Or.inr rfl) (by with_unfolding_all rfl) (by with_unfolding_all rfl) (by with_unfolding_all rfl) (by with_unfolding_all rfl) rfl rfl (by with_unfolding_all rfl) rfl rfl) rfl
          (pi_range1 rfl B.range (pa_cons (pv 3) pa_nil)) (fun _ _ _=>pb_all (pe_op op_add (pe_op op_sub (pv 1) (pv 2)) (pv 0)))) (pa_cons (pv 2) pa_nil))))
      (pss_cons (ps_set (i:=6) sc_value_behind.nd rfl (Or.inl rfl) (pe_cal C_inverse_factorials hr (by decide) rfl (pa_cons (pv 3) (pa_cons (pv 2) pa_nil))))
      (pss_cons (ps_set (i:=7) sc_value_behind.nd rfl (Or.inl rfl) pe_int)
      (pss_cons (ps_for PassesOwn.never rfl (pi_range1 rfl B.range (pa_cons (pe_op op_add (pv 3) pe_int) pa_nil)) (pg_name (i:=8) sc_value_behind.nd rfl (Or.inl rfl)) (pss_cons (ps_set (i:=9) sc_value_behind.nd rfl (Or.inl rfl) (pe_op op_mod (pe_op op_mul (pe_ix ix_list (pv 6) (pv 8) (fun _ _=>rfl)) (pe_ix ix_list (pv 6) (pe_op op_sub (pv 3) (pv 8)) (fun _ _=>rfl))) (pv 2)))
        (pss_cons (ps_set (i:=10) sc_value_behind.nd rfl (Or.inl rfl) (pe_op op_mul (pe_op op_mod (pe_op op_mul (pe_op op_mul (pe_ix (ix_list.or ix_tup) (pv 0) (pv 8) (fun _ _=>rfl)) (pe_ix ix_list (pv 4) (pv 8) (fun _ _=>rfl))) (pe_ix ix_list (pv 5) (pe_op op_sub (pv 3) (pv 8)) (fun _ _=>rfl))) (pv 2)) (pv 9)))
        (pss_cons (ps_if (pt_cmpR op_eq (pe_op op_mod (pe_op op_sub (pv 3) (pv 8)) pe_int) pe_int (nomark _)) (pss_one (ps_set (i:=10) sc_value_behind.nd rfl (Or.inl rfl) (pe_un un_neg (pv 10)))) pss_nil)
        (pss_one (ps_set (i:=7) sc_value_behind.nd rfl (Or.inl rfl) (pe_op op_mod (pe_op op_add (pv 7) (pv 10)) (pv 2))))))))
      (pss_one (ps_ret (pv 7))))))))),?_⟩
  have p2:=pp.1
  have p1:1 < p:=by omega
  have p0:0 < p:=by omega
  have hP:=pm_of pp (by omega)
  obtain ⟨L,hL⟩:∃ L,xs.length=L+1:=⟨xs.length - 1,by omega⟩
  have eL:(((xs.map V.int).length:Nat):Int) - 1=(L:Int):=by rw [List.length_map]; omega
  refine ⟨_,rfl,a,_,rfl,ha.seq,_,_,rfl,rfl,?_⟩
  dsimp only
  rw [eL]
  refine ⟨_,rfl,(L:Int),rfl,by omega,by omega,fun D hD=>?_⟩
  refine comp_range (fun i H'=>H' D=some (.lst (((List.range i).map fun j:Nat=>r - j).map V.int))∧Same H H') ⟨by rw [upd_same]; rfl,Same.new hD _⟩ ?_ ?_
  · rintro i H3 hi ⟨hD3,S3⟩
    refine ⟨_,rfl,_,rfl,_,_,rfl,rfl,_,hD3,?_,Nx.of hi ⟨?_,fun b o e=>?_⟩⟩
    · rw [List.length_map,List.length_map,List.length_range]
      exact small1000 (by omega)
    · rw [upd_same,List.range_succ,List.map_append,List.map_append,Int.zero_add]
      rfl
    · rw [upd_ne (ne_of_none e hD)]
      exact S3 _ _ e
  rintro H1 ⟨hD1,S1⟩
  rw [show ((L:Int)).toNat=L from Int.toNat_natCast L] at hD1
  refine ⟨_,rfl,D,_,L,p,rfl,hD1,by omega,p1,by omega,fun la H2 la0 S2 hla=>?_⟩
  refine ⟨_,rfl,(L:Int),rfl,by omega,by omega,fun D2 hD2=>?_⟩
  refine comp_range (fun i H'=>H' D2=some (.lst (((List.range i).map fun j:Nat=>r - (L:Int)+j).map V.int))∧Same H2 H') ⟨by rw [upd_same]; rfl,Same.new hD2 _⟩ ?_ ?_
  · rintro i H3 hi ⟨hD3,S3⟩
    refine ⟨_,rfl,_,rfl,_,_,rfl,rfl,_,rfl,_,_,rfl,rfl,_,hD3,?_,Nx.of hi ⟨?_,fun b o e=>?_⟩⟩
    · rw [List.length_map,List.length_map,List.length_range]
      exact small1000 (by omega)
    · rw [upd_same,List.range_succ,List.map_append,List.map_append,Int.zero_add]
      rfl
    · rw [upd_ne (ne_of_none e hD2)]
      exact S3 _ _ e
  rintro H3 ⟨hD3,S3⟩
  rw [show ((L:Int)).toNat=L from Int.toNat_natCast L] at hD3
  refine ⟨_,rfl,D2,_,L,p,rfl,hD3,by omega,p1,by omega,fun lb H4 lb0 S4 hlb=>?_⟩
  refine ⟨_,rfl,_,rfl,L,p,rfl,by omega,by omega,pp,p9,fun ls H5 sh ls0 S5 hsh hsr hls=>?_⟩
  have S25:=S3.trans (S4.trans S5)
  have S05:=S1.trans (S2.trans S25)
  have hla5:=S25 _ _ hla
  have hlb5:=S5 _ _ hlb
  have ha5:=ha.same S05
  have hW:=wgt_fac hsh
  refine ⟨_,rfl,_,_,rfl,rfl,_,rfl,by omega,by omega,for_range (fun i σ H'=>∃ (t:Int) (x8 x9 x10:Option V),σ=[some (.ref a),some (.int r),some (.int p),some (.int L),some (.ref la),some (.ref lb),some (.ref ls),some (.int t),x8,x9,x10]∧0≤t∧t < p∧p ∣ t - sm (fun i=>xs.getD i 0*px r i (L+1)*((-1) ^ (L - i)*(sh i*sh (L - i)))) i∧H'=H5)
    ⟨0,_,_,_,rfl,by decide,p0,⟨0,by simp [sm]⟩,rfl⟩ ?_ ?_⟩
  · rintro i σ H6 hi ⟨t,x8,x9,x10,rfl,t0,t1,td,rfl⟩
    have hi':i < L+1:=by omega
    obtain ⟨m,hm⟩:∃ m,L=i+m:=⟨L - i,by omega⟩
    have e0:(0:Int)+(i:Int)=(i:Int):=Int.zero_add _
    have e1:(L:Int) - (0+(i:Int))=(m:Int):=by omega
    have r1':=hsr i
    have r2':=hsr m
    have ar:=pmd_rng p1 (fun j:Nat=>r - j) i
    have br:=pmd_rng p1 (fun j:Nat=>r - (L:Int)+j) m
    have xi:=xb i
    have m1:∀ z:Int,0≤z % p:=fun z=>Int.emod_nonneg _ (by omega)
    have m2:∀ z:Int,z % p < p:=fun z=>Int.emod_lt_of_pos _ p0
    refine ⟨_,rfl,_,rfl,ls,_,_,.int (sh i),rfl,rfl,SqL.of hls,by rw [e0]; exact map_at hi',_,rfl,_,rfl,_,rfl,_,_,rfl,rfl,ls,_,_,.int (sh m),rfl,rfl,SqL.of hls,by rw [e1]; exact map_at (by omega),_,_,rfl,rfl,.inl ⟨by omega,by omega⟩,_,rfl,_,_,rfl,rfl,p0,?_⟩
    refine ⟨_,rfl,_,rfl,?_⟩
    rw [e0]
    refine ha5.ix (by omega) ?_
    refine ⟨_,rfl,_,rfl,la,_,_,.int (pmd p (fun j:Nat=>r - j) i),rfl,rfl,SqL.of hla5,prL_at hi',_,_,rfl,rfl,.inl ⟨by omega,by omega⟩,?_⟩
    refine ⟨_,rfl,_,rfl,_,rfl,_,_,rfl,rfl,lb,_,_,.int (pmd p (fun j:Nat=>r - (L:Int)+j) m),rfl,rfl,SqL.of hlb5,by rw [← e0,e1]; exact prL_at (by omega),_,_,rfl,rfl,.inr ⟨by omega,by omega⟩,_,rfl,_,_,rfl,rfl,p0,?_⟩
    have s1:=m1 (sh i*sh m)
    have s2:=m2 (sh i*sh m)
    refine ⟨_,rfl,_,_,rfl,rfl,.inr ⟨by omega,by omega⟩,?_⟩
    refine ⟨_,rfl,_,rfl,_,_,rfl,rfl,_,_,rfl,rfl,(by show (0:Int) < _; decide),rfl,_,rfl,?_⟩
    have fin:∀ z:Int,z=(if m % 2=1 then -(xs.getD i 0*pmd p (fun j:Nat=>r - j) i*pmd p (fun j:Nat=>r - (L:Int)+j) m % p*(sh i*sh m % p)) else xs.getD i 0*pmd p (fun j:Nat=>r - j) i*pmd p (fun j:Nat=>r - (L:Int)+j) m % p*(sh i*sh m % p)) →
        p ∣ (t+z) % p - sm (fun i=>xs.getD i 0*px r i (L+1)*((-1) ^ (L - i)*(sh i*sh (L - i)))) (i+1):=fun z hz=>by
      show p ∣ _ - (sm _ i+xs.getD i 0*px r i (L+1)*((-1) ^ (L - i)*(sh i*sh (L - i))))
      have em:L - i=m:=by omega
      have hb:p ∣ pmd p (fun j:Nat=>r - (L:Int)+j) m - pr (fun j=>r - (i+m:Nat)+j) m:=by
        rw [← hm]
        exact pmd_dvd p _ m
      subst hz
      rw [em]
      have el:L+1=i+m+1:=by omega
      rw [el] at td ⊢
      exact vb_step td (pmd_dvd p _ i) hb (dm p _) (dm p _) (dm p _)
    by_cases c:m % 2=1
    · refine iteD (congrArg V.int (by omega)) ?_
      refine ⟨_,rfl,_,rfl,?_⟩
      refine ⟨_,rfl,_,rfl,_,_,rfl,rfl,_,rfl,_,_,rfl,rfl,p0,?_⟩
      exact ⟨_,_,_,_,rfl,m1 _,m2 _,fin _ (by rw [if_pos c]),rfl⟩
    · refine iteDF (fun z=>c (by have:=V.int.inj z; omega)) ?_
      refine ⟨_,rfl,_,rfl,_,_,rfl,rfl,_,rfl,_,_,rfl,rfl,p0,?_⟩
      exact ⟨_,_,_,_,rfl,m1 _,m2 _,fin _ (by rw [if_neg c]),rfl⟩
  · rintro σ H6 ⟨t,x8,x9,x10,rfl,t0,t1,td,rfl⟩
    rw [show ((L:Int)+1).toNat=L+1 by omega] at td
    rw [← hL] at hW
    have e:=val_of (r:=r) hP xp hW t0 t1 (by
      unfold lag
      rw [hL]
      exact td)
    rw [e]
    exact ⟨_,rfl,q H6 S05⟩
theorem sc_value_at:FnScope ["values", "r", "p", "place"] ["values", "r", "p"] (defScope s_value_at):=⟨rfl,rfl,rfl,by decide +kernel,rfl,by decide +kernel,by decide +kernel⟩
theorem ok_value_at {f:Addr} {fd:FuncData} (F:Fun K "value_at" "value_at" s_value_at f fd) (B:Bl mg) (C_value_behind:Cal P w K mg base 3 "value_behind" ["values", "r", "p"] spVal):FnOk P w K mg base CX0 4 f fd ["values", "r", "p"] spVal:=by
  refine F.ok sc_value_at (fun vs H Q E h=>?_) (fun cdv A outer s H vs Q E hr h=>?_)
  · obtain ⟨a,xs,r,p,rfl,_⟩:=h
    rfl
  obtain ⟨a,xs,r,p,rfl,ha,ok,pp,p9,r0,r1,q⟩:=h
  refine ⟨_,(pss_cons (ps_set (i:=3) sc_value_at.nd rfl (Or.inl rfl) (pe_op op_mod (pv 1) (pv 2)))
      (pss_cons (ps_if (pt_cmpR op_lt (pv 3) (pe_callB call_len_seq rfl B.len PySem.boot_len (pa_cons (pv 0) pa_nil)) (nomark _)) (pss_one (ps_ret (pe_op op_mod (pe_ix (ix_list.or ix_tup) (pv 0) (pv 3) (fun _ _=>rfl)) (pv 2)))) pss_nil)
      (pss_one (ps_ret (pe_cal C_value_behind hr (by decide) rfl (pa_cons (pv 0) (pa_cons (pv 3) (pa_cons (pv 2) pa_nil)))))))),?_⟩
  have p0:0 < p:=by omega
  have hP:=pm_of pp (by omega)
  have er:r % p=r:=Int.emod_eq_of_lt r0 r1
  refine ⟨_,rfl,_,rfl,_,_,rfl,rfl,p0,?_⟩
  dsimp only
  rw [er]
  refine ⟨_,rfl,_,rfl,a,_,rfl,ha.seq,_,_,rfl,rfl,_,rfl,?_⟩
  refine ite2 (fun c=>?_) (fun c=>?_)
  · have c':=of_decide_eq_true c
    rw [List.length_map] at c'
    obtain ⟨k,rfl⟩:∃ k:Nat,r=(k:Int):=⟨r.toNat,by omega⟩
    refine ⟨_,rfl,_,rfl,?_⟩
    refine ha.ix (by omega) ?_
    refine ⟨_,rfl,_,_,rfl,rfl,p0,?_⟩
    show Q (.int (xs.getD k 0 % p)) H
    rw [← val_at hP ok.2.2.1 (by omega)]
    exact q H (Same.refl _)
  · exact ⟨_,rfl,_,rfl,_,rfl,a,xs,r,p,rfl,ha,ok,pp,p9,r0,r1,q⟩
def spEnds:Sp:=fun vs H Q _=>∃ (a:Addr) (xs:List Int) (p:Int),vs=[.ref a,.int p]∧IntsAt H a xs∧RowOk xs p∧Pr p∧p≤999983∧∀ H',Same H H'→Q (.int ((val p xs 0+val p xs 1) % p)) H'
theorem sc_both_ends:FnScope ["values", "p"] ["values", "p"] (defScope s_both_ends):=⟨rfl,rfl,rfl,by decide +kernel,rfl,by decide +kernel,by decide +kernel⟩
theorem ok_both_ends {f:Addr} {fd:FuncData} (F:Fun K "both_ends" "both_ends" s_both_ends f fd) (C_value_at:Cal P w K mg base 4 "value_at" ["values", "r", "p"] spVal):FnOk P w K mg base CX0 5 f fd ["values", "p"] spEnds:=by
  refine F.ok sc_both_ends (fun vs H Q E h=>?_) (fun cdv A outer s H vs Q E hr h=>?_)
  · obtain ⟨a,xs,p,rfl,_⟩:=h
    rfl
  obtain ⟨a,xs,p,rfl,ha,ok,pp,p9,q⟩:=h
  refine ⟨_,(pss_one (ps_ret (pe_op op_mod (pe_op op_add (pe_cal C_value_at hr (by decide) rfl (pa_cons (pv 0) (pa_cons pe_int (pa_cons (pv 1) pa_nil)))) (pe_cal C_value_at hr (by decide) rfl (pa_cons (pv 0) (pa_cons pe_int (pa_cons (pv 1) pa_nil))))) (pv 1)))),?_⟩
  have p2:=pp.1
  refine ⟨_,rfl,_,rfl,a,xs,0,p,rfl,ha,ok,pp,p9,by decide,by omega,fun H1 S1=>?_⟩
  refine ⟨_,rfl,_,rfl,a,xs,1,p,rfl,ha.same S1,ok,pp,p9,by decide,by omega,fun H2 S2=>?_⟩
  exact ⟨_,_,rfl,rfl,_,rfl,_,_,rfl,rfl,(by omega),q H2 (S1.trans S2)⟩
theorem IntsAt.sqB {K:PySem.W.Frag} {H:Hp} {a:Addr} {xs:List Int} (h:IntsAt H a xs):∃ c,SqB K c H a (xs.map V.int):=h.elim (fun e=>⟨true,SqL.of e⟩) (fun e=>⟨false,SqT.of e⟩)
def hor (s p:Int):List Int→Int
  | []=>0
  | a::r=>(hor s p r*s+a) % p
theorem hor_rng {s p:Int} (hp:0 < p):∀ ns,0≤hor s p ns∧hor s p ns < p
  | []=>⟨Int.le_refl 0,hp⟩
  | a::r=>⟨Int.emod_nonneg _ (by omega),Int.emod_lt_of_pos _ hp⟩
def spMix (C:Addr):Sp:=fun vs H Q _=>∃ (g a b d l:Addr) (ns:List Int) (s p:Int),vs=[.ref g,.ref l,.int s]∧GameAt C H g a b d p∧0 < p∧p < 2 ^ 40∧IntsAt H l ns∧Q (.int (hor s p ns)) H
theorem sc_gmix:FnScope ["self", "numbers", "s", "total", "number"] ["self", "numbers", "s"] (defScope s_gmix):=⟨rfl,rfl,rfl,by decide +kernel,rfl,by decide +kernel,by decide +kernel⟩
theorem ok_gmix {f C:Addr} {fd:FuncData} (F:Fun K "mix" "Game.mix" s_gmix f fd) (T:GTxt K mg C) (hrev:mg "reversed" = none):FnOk P w K mg base CX0 1 f fd ["self", "numbers", "s"] (spMix C):=by
  refine F.ok sc_gmix (fun vs H Q E h=>?_) (fun cdv A outer s H vs Q E hr h=>?_)
  · obtain ⟨g,a,b,d,l,ns,s,p,rfl,_⟩:=h
    rfl
  obtain ⟨g,a,b,d,l,ns,s,p,rfl,⟨dx,hg⟩,p0,p40,hl,q⟩:=h
  refine ⟨_,(pss_cons (ps_set (i:=3) sc_gmix.nd rfl (Or.inl rfl) pe_int)
      (pss_cons (ps_for PassesOwn.never rfl (pi_revb rfl hrev (pv 1)) (pg_name (i:=4) sc_gmix.nd rfl (Or.inl rfl)) (pss_one (ps_set (i:=3) sc_gmix.nd rfl (Or.inl rfl) (pe_op op_mod (pe_op op_add (pe_op op_mul (pv 3) (pv 2)) (pv 4)) (pe_fld (pv 0) rfl)))))
      (pss_one (ps_ret (pv 3))))),?_⟩
  obtain ⟨c,hl⟩:=hl.sqB (K:=K)
  refine ⟨_,rfl,c,l,_,rfl,hl,for_revb (K:=K) (c:=c) (xs:=ns.map V.int) (fun i σ H'=>∃ (x4:Option V) (t:Int),σ=[some (.ref g),some (.ref l),some (.int s),some (.int t),x4]∧t=hor s p (ns.drop (ns.length - i))∧H'=H)
    ⟨_,0,rfl,by rw [Nat.sub_zero,List.drop_length]; rfl,rfl⟩ (fun i σ H' _ hst=>by obtain ⟨_,_,_,_,h⟩:=hst; subst h; exact hl) ?_ ?_⟩
  · rintro i z σ H1 hi hz ⟨x4,t,rfl,rfl,rfl⟩
    rw [List.length_map] at hi
    rw [← List.map_reverse,List.getElem?_map] at hz
    obtain ⟨x,hx,rfl⟩:=Option.map_eq_some_iff.mp hz
    rw [List.getElem?_reverse hi] at hx
    have hr2:=hor_rng (s:=s) p0 (ns.drop (ns.length - i))
    refine ⟨_,rfl,_,rfl,_,_,rfl,rfl,.inl ⟨by omega,by omega⟩,_,rfl,_,_,rfl,rfl,_,rfl,g,C,dx,_,_,rfl,hg,T.cl,T.nF,gf_fi ..,_,_,rfl,rfl,p0,?_⟩
    refine ⟨_,_,rfl,?_,rfl⟩
    have hj:ns.length - 1 - i < ns.length:=by omega
    have ed:ns.drop (ns.length - (i+1))=x::ns.drop (ns.length - i):=by
      have e1:ns.length - (i+1)=ns.length - 1 - i:=by omega
      have e2:ns.length - i=ns.length - 1 - i+1:=by omega
      rw [e1,e2,List.drop_eq_getElem_cons hj]
      congr 1
      rw [List.getElem?_eq_getElem hj] at hx
      exact Option.some.inj hx
    rw [ed]
    rfl
  · rintro σ H1 ⟨x4,t,rfl,rfl,rfl⟩
    rw [List.length_map,Nat.sub_self,List.drop_zero]
    exact ⟨_,rfl,q⟩
def spWAt (C:Addr):Sp:=fun vs H Q _=>∃ (g a b d r:Addr) (ns:List Str) (tv:List V) (ts:List Tr) (pt:List Int) (s p:Int),vs=[.ref g,.ref r,.int s]∧GameAt C H g a b d p∧1 < p∧p < 2 ^ 40∧H a=some (.tup (ns.map V.str))∧H b=some (.tup tv)∧TreesAt H tv ts∧ts.length≤10∧(∀ t ∈ ts,t.ok ns∧t.depth≤10) ∧
  H r=some (.tup (pt.map V.int))∧pt.length=ns.length∧PtOk pt p∧∀ H',Same H H'→Q (.int (hor s p (ts.map fun t=>t.worth ns pt p))) H'
theorem sc_gworth:FnScope ["self", "point", "s"] ["self", "point", "s"] (defScope s_gworth):=⟨rfl,rfl,rfl,by decide +kernel,rfl,by decide +kernel,by decide +kernel⟩
theorem ok_gworth {f fm C:Addr} {fd fdm:FuncData} (F:Fun K "worth_at" "Game.worth_at" s_gworth f fd) (T:GTxt K mg C) (mM:Meth K C "mix" fm) (GM:FnOk P w K mg base CX0 1 fm fdm ["self", "numbers", "s"] (spMix C)) (bM:Binds K fdm ["self", "numbers", "s"] []) (C_worth_of:Cal P w K mg base 12 "worth_of" ["tree", "switches", "point", "p"] (spWorth 10)):FnOk P w K mg base CX0 13 f fd ["self", "point", "s"] (spWAt C):=by
  refine F.ok sc_gworth (fun vs H Q E h=>?_) (fun cdv A outer s H vs Q E hr h=>?_)
  · obtain ⟨g,a,b,d,r,ns,tv,ts,pt,s,p,rfl,_⟩:=h
    rfl
  obtain ⟨g,a,b,d,r,ns,tv,ts,pt,s,p,rfl,⟨dx,hg⟩,p1,p40,ha,hb,TS,t10,tok,hr0,pl,po,q⟩:=h
  have hr1:Room 1 _:=hr.mono (by decide)
  refine ⟨_,(pss_one (ps_ret (pe_meth (pv 0) T.cl mM GM hr1 bM .nil pass0 (pa_cons (pe_comp (N:=["self", "point"]) (ix:=[0,1]) rfl
      (CompScope.two (by with_unfolding_all rfl) (by decide) rfl (by decide) rfl (by decide +kernel) (by first | exact Or.inl rfl | exact Or.inr rfl) (by with_unfolding_all rfl) (by with_unfolding_all rfl) (by with_unfolding_all rfl) (by with_unfolding_all rfl) rfl rfl (by with_unfolding_all rfl) rfl rfl) rfl
      (pi_tup (pe_fld (pv 0) rfl)) (fun _ _ _=>pb_all (pe_cal C_worth_of hr (by decide) rfl (pa_cons (pv 0) (pa_cons (pe_fldK K (pv 1)) (pa_cons (pv 2) (pa_cons (pe_fldK K (pv 1)) pa_nil))))))) (pa_cons (pv 2) pa_nil))))),?_⟩
  have vl:=TS.length
  refine ⟨_,rfl,g,dx,_,rfl,hg,gf_no _ _ _ _ (by decide +kernel) (by decide +kernel) (by decide +kernel) (by decide +kernel),?_⟩
  refine ⟨_,rfl,g,C,dx,_,_,rfl,hg,T.cl,T.nT,gf_tr ..,b,rfl,⟨_,SqT.of hb⟩,fun D hD=>?_⟩
  refine comp_tup (K:=K) (xs:=tv) (fun i H'=>H' D=some (.lst (((ts.take i).map fun t=>t.worth ns pt p).map V.int))∧Same H H') ⟨by rw [upd_same]; rfl,Same.new hD _⟩ (fun i H' _ h=>SqT.of (h.2 _ _ hb)) ?_ ?_
  · rintro i z H2 hz ⟨hl,S2⟩
    obtain ⟨t,ht,Tt⟩:=TS.get hz
    obtain ⟨tk,td⟩:=tok t (List.mem_of_getElem? ht)
    have hi:i < tv.length:=(List.getElem?_eq_some_iff.mp hz).1
    refine ⟨_,rfl,_,rfl,g,C,dx,_,_,rfl,S2 _ _ hg,T.cl,T.nS,gf_sw ..,_,rfl,_,rfl,g,C,dx,_,_,rfl,S2 _ _ hg,T.cl,T.nF,gf_fi ..,z,t,a,r,ns,pt,p,rfl,Tt.mono (keepT_same S2),tk,td,.inr (S2 _ _ ha),S2 _ _ hr0,pl,p1,p40,po,?_⟩
    refine ⟨_,hl,?_,Nx.of hi ⟨?_,fun b' o' e'=>?_⟩⟩
    · rw [List.length_map,List.length_map,List.length_take]
      exact small1000 (by omega)
    · rw [upd_same,List.take_add_one,ht,List.map_append,List.map_append]
      rfl
    · rw [upd_ne (ne_of_none e' hD)]
      exact S2 _ _ e'
  · rintro H2 ⟨hl,S2⟩
    rw [vl,List.take_length] at hl
    exact ⟨_,rfl,g,a,b,d,D,_,s,p,rfl,⟨dx,S2 _ _ hg⟩,by omega,p40,.inl hl,q H2 S2⟩
def spCoins (C:Addr):Sp:=fun vs H Q _=>∃ (g a b d:Addr) (ns:List Str) (tv:List V) (p:Int),vs=[.ref g]∧GameAt C H g a b d p∧H a=some (.tup (ns.map V.str))∧H b=some (.tup tv)∧Q (.int (if tv.length=1 then (ns.length:Int) else (ns.length:Int)+1)) H
def spSize (n:Nat):Sp:=fun vs H Q _=>∃ (v:V) (t:Tr),vs=[v]∧TreeAt H v t∧t.wf∧t.depth≤n∧t.size≤400∧∀ H',Same H H'→Q (.int t.size) H'
theorem sizes_cast (ts:List Tr):(ts.map fun u=>(u.size:Int)).sum=(sizes ts:Int):=by
  induction ts with
  | nil=>rfl
  | cons a r ih =>
    simp only [sizes,List.map_cons,List.sum_cons] at ih ⊢
    rw [ih]
    omega
theorem sc_size_of:FnScope ["tree"] ["tree"] (defScope s_size_of):=⟨rfl,rfl,rfl,by decide +kernel,rfl,by decide +kernel,by decide +kernel⟩
theorem size_step {n:Nat} {f:Addr} {fd:FuncData} (F:Fun K "size_of" "size_of" s_size_of f fd) (B:Bl mg) (C_trees_within:Cal P w K mg base 1 "trees_within" ["tree"] spWithin) (C_size_of:Cal P w K mg base (n+2) "size_of" ["tree"] (spSize n)):FnOk P w K mg base CX0 (n+3) f fd ["tree"] (spSize (n+1)):=by
  refine F.ok sc_size_of (fun vs H Q E h=>?_) (fun cdv A outer s H vs Q E hr h=>?_)
  · obtain ⟨v,t,rfl,_⟩:=h
    rfl
  obtain ⟨v,t,rfl,T,wf,dn,sz,q⟩:=h
  refine ⟨_,(pss_one (ps_ret (pe_op op_add pe_int (pe_callB (call_sum rfl) rfl B.sum PyProof.Rows.boot_sum (pa_cons (pe_comp (N:=[]) (ix:=[]) (cl:=[]) rfl (CompScope.closed (by with_unfolding_all rfl) (by decide) rfl (by decide) rfl (by with_unfolding_all rfl)) rfl
      (pi_tup (pe_cal C_trees_within hr (by omega) rfl (pa_cons (pv 0) pa_nil))) (fun _ _ _=>pb_all (pe_cal C_size_of hr (Nat.le_refl _) rfl (pa_cons (pv 0) pa_nil)))) pa_nil))))),?_⟩
  refine ⟨_,rfl,v,t,rfl,T,wf,fun p xs H1 S1 hp TS=>?_⟩
  refine ⟨p,rfl,⟨_,SqT.of hp⟩,fun D hD=>?_⟩
  have pD:p ≠ D:=ne_of_none hp hD
  have xl:=TS.length
  have sp:=t.size_parts
  refine comp_tup (K:=K) (xs:=xs) (fun i H'=>H' D=some (.lst (((t.parts.take i).map fun u=>(u.size:Int)).map V.int))∧Same H1 H') ⟨by rw [upd_same]; rfl,Same.new hD _⟩ (fun i H' _ h=>SqT.of (h.2 _ _ hp)) ?_ ?_
  · rintro i x H2 hx ⟨hl,S2⟩
    obtain ⟨u,hu,Tu⟩:=TS.get hx
    have um:=List.mem_of_getElem? hu
    obtain ⟨uw,ud,us⟩:=Tr.parts_mem um wf
    have hi:i < xs.length:=(List.getElem?_eq_some_iff.mp hx).1
    refine ⟨_,rfl,x,u,rfl,Tu.mono (keepT_same S2),uw,by omega,by omega,fun H3 S3=>?_⟩
    refine ⟨_,S3 _ _ hl,?_,Nx.of hi ⟨?_,fun b o e=>?_⟩⟩
    · have:t.parts.length≤2:=by cases t <;> simp [Tr.parts]
      rw [List.length_map,List.length_map,List.length_take]
      exact small1000 (by omega)
    · rw [upd_same,List.take_add_one,hu,List.map_append,List.map_append]
      rfl
    · rw [upd_ne (ne_of_none e hD)]
      exact S3 _ _ (S2 _ _ e)
  · rintro H2 ⟨hl,S2⟩
    rw [xl,List.take_length] at hl
    have sc:=sizes_cast t.parts
    refine ⟨D,_,rfl,SqL.of hl,?_,?_,?_⟩
    · intro n hn
      obtain ⟨u,_,rfl⟩:=List.mem_map.mp hn
      omega
    · rw [sc]
      omega
    · rw [sc]
      refine ⟨_,_,rfl,rfl,?_⟩
      have e:(1:Int)+(sizes t.parts:Int)=(t.size:Int):=by omega
      show Q (.int (1+(sizes t.parts:Int))) H2
      rw [e]
      exact q H2 (S1.trans S2)
theorem size_zero {f:Addr} {fd:FuncData}:FnOk P w K mg base CX0 2 f fd ["tree"] (spSize 0):=by
  have no:∀ vs H Q E,¬ spSize 0 vs H Q E:=fun vs H Q E h=>by
    obtain ⟨v,t,_,_,_,h1,_⟩:=h
    have:=t.depth_pos
    omega
  exact ⟨fun vs H Q E h=>absurd h (no vs H Q E),fun A outer s H args us vs Q E _ _ _ _ h=>absurd h (no vs H Q E)⟩
theorem ok_size_of {f:Addr} {fd:FuncData} (F:Fun K "size_of" "size_of" s_size_of f fd) (B:Bl mg) (m:mg "size_of" = some (.ref f)) (C_trees_within:Cal P w K mg base 1 "trees_within" ["tree"] spWithin) :
    ∀ n:Nat,FnOk P w K mg base CX0 (n+2) f fd ["tree"] (spSize n)
  | 0=>size_zero
  | n+1=>size_step F B C_trees_within (Cal.of F (ok_size_of F B m C_trees_within n) m (fun _ _ _ _ _ _ us hl=>by obtain ⟨u0,rfl⟩:=len1 hl; rfl))
abbrev s_dinit:Stmt:=inClass s_doubter 0
abbrev s_dwaits:Stmt:=inClass s_doubter 1
abbrev s_ddue:Stmt:=inClass s_doubter 2
abbrev s_dlooked:Stmt:=inClass s_doubter 3
abbrev s_dhear:Stmt:=inClass s_doubter 4
abbrev s_dtoss:Stmt:=inClass s_doubter 5
abbrev s_dclaims:Stmt:=inClass s_doubter 6
abbrev s_dbegin:Stmt:=inClass s_doubter 7
abbrev s_drow:Stmt:=inClass s_doubter 8
abbrev s_dgo:Stmt:=inClass s_doubter 9
abbrev s_dtrees:Stmt:=inClass s_doubter 10
def dl (g aA aC:Addr) (s:Int) (aH aT:Addr) (ed pl:Int):List (Str × V):=[("game", .ref g),("awaited", .ref aA),("claims", .ref aC),("s", .int s),("heard", .ref aH),("tossed", .ref aT),("held", .int ed),("places", .int pl)]
section
variable {g aA aC aH aT:Addr} {s ed pl:Int}
theorem dl_g:(dl g aA aC s aH aT ed pl).lookup ("game" : Str)=some (.ref g):=by with_unfolding_all rfl
theorem dl_a:(dl g aA aC s aH aT ed pl).lookup ("awaited" : Str)=some (.ref aA):=by with_unfolding_all rfl
theorem dl_c:(dl g aA aC s aH aT ed pl).lookup ("claims" : Str)=some (.ref aC):=by with_unfolding_all rfl
theorem dl_s:(dl g aA aC s aH aT ed pl).lookup ("s" : Str)=some (.int s):=by with_unfolding_all rfl
theorem dl_h:(dl g aA aC s aH aT ed pl).lookup ("heard" : Str)=some (.ref aH):=by with_unfolding_all rfl
theorem dl_t:(dl g aA aC s aH aT ed pl).lookup ("tossed" : Str)=some (.ref aT):=by with_unfolding_all rfl
theorem dl_ed:(dl g aA aC s aH aT ed pl).lookup ("held" : Str)=some (.int ed):=by with_unfolding_all rfl
theorem dl_pl:(dl g aA aC s aH aT ed pl).lookup ("places" : Str)=some (.int pl):=by with_unfolding_all rfl
theorem dl_n1:(dl g aA aC s aH aT ed pl).lookup ("waits" : Str)=none:=by with_unfolding_all rfl
theorem dl_n2:(dl g aA aC s aH aT ed pl).lookup ("due" : Str)=none:=by with_unfolding_all rfl
theorem dl_n3:(dl g aA aC s aH aT ed pl).lookup ("looked" : Str)=none:=by with_unfolding_all rfl
theorem dl_n4:(dl g aA aC s aH aT ed pl).lookup ("hear" : Str)=none:=by with_unfolding_all rfl
theorem dl_n5:(dl g aA aC s aH aT ed pl).lookup ("toss" : Str)=none:=by with_unfolding_all rfl
theorem dl_n6:(dl g aA aC s aH aT ed pl).lookup ("hear_claims" : Str)=none:=by with_unfolding_all rfl
theorem dl_n7:(dl g aA aC s aH aT ed pl).lookup ("begin_rounds" : Str)=none:=by with_unfolding_all rfl
theorem dl_n8:(dl g aA aC s aH aT ed pl).lookup ("hear_row" : Str)=none:=by with_unfolding_all rfl
theorem dl_n9:(dl g aA aC s aH aT ed pl).lookup ("go_on" : Str)=none:=by with_unfolding_all rfl
theorem dl_n10:(dl g aA aC s aH aT ed pl).lookup ("look_at_trees" : Str)=none:=by with_unfolding_all rfl
theorem put_a {v:Addr}:putF "awaited" (.ref v) (dl g aA aC s aH aT ed pl)=dl g v aC s aH aT ed pl:=by with_unfolding_all rfl
theorem put_c {v:Addr}:putF "claims" (.ref v) (dl g aA aC s aH aT ed pl)=dl g aA v s aH aT ed pl:=by with_unfolding_all rfl
theorem put_s {v:Int}:putF "s" (.int v) (dl g aA aC s aH aT ed pl)=dl g aA aC v aH aT ed pl:=by with_unfolding_all rfl
theorem put_h {v:Addr}:putF "heard" (.ref v) (dl g aA aC s aH aT ed pl)=dl g aA aC s v aT ed pl:=by with_unfolding_all rfl
theorem put_t {v:Addr}:putF "tossed" (.ref v) (dl g aA aC s aH aT ed pl)=dl g aA aC s aH v ed pl:=by with_unfolding_all rfl
theorem put_ed {v:Int}:putF "held" (.int v) (dl g aA aC s aH aT ed pl)=dl g aA aC s aH aT v pl:=by with_unfolding_all rfl
theorem put_pl {v:Int}:putF "places" (.int v) (dl g aA aC s aH aT ed pl)=dl g aA aC s aH aT ed v:=by with_unfolding_all rfl
theorem dl_len:(dl g aA aC s aH aT ed pl).length < 1000:=by show 8 < 1000; decide
end
structure DTxt (K:PySem.W.Frag) (mg:Str→Option Value) (C:Addr):Prop where
  cl:Cls K C
  nG:NoAttr K C "game"
  nA:NoAttr K C "awaited"
  nC:NoAttr K C "claims"
  nS:NoAttr K C "s"
  nH:NoAttr K C "heard"
  nT:NoAttr K C "tossed"
  nE:NoAttr K C "held"
  nP:NoAttr K C "places"
  mgC:mg "Doubter" = some (.ref C)
structure Db where
  aw:Str × Option Int
  cl:List Int
  s:Int
  he:List Int
  to:List Int
  ed:Int
  pl:Int
def awV (a:Str × Option Int):List V:=match a.2 with
  | none=>[.str a.1]
  | some n=>[.str a.1,.int n]
structure DbR (C:Addr) (H:Hp) (D g:Addr) (z:Db) (dx aA aC aH aT:Addr):Prop where
  hD:H D=some (.ins C dx (dl g aA aC z.s aH aT z.ed z.pl))
  hA:H aA=some (.tup (awV z.aw))
  hC:H aC=some (.tup (z.cl.map V.int))
  hH:H aH=some (.tup (z.he.map V.int))
  hT:H aT=some (.tup (z.to.map V.int))
theorem DbR.same {C:Addr} {H H':Hp} {D g:Addr} {z:Db} {dx aA aC aH aT:Addr} (h:DbR C H D g z dx aA aC aH aT) (s:Same H H'):DbR C H' D g z dx aA aC aH aT:=⟨s _ _ h.hD,s _ _ h.hA,s _ _ h.hC,s _ _ h.hH,s _ _ h.hT⟩
theorem DbR.set {C:Addr} {H:Hp} {D g:Addr} {z:Db} {dx aA aC aH aT C' dx':Addr} {fs:List (Str × V)} (hD:H D=some (.ins C' dx' fs)) (hA:H aA=some (.tup (awV z.aw))) (hC:H aC=some (.tup (z.cl.map V.int))) (hH:H aH=some (.tup (z.he.map V.int))) (hT:H aT=some (.tup (z.to.map V.int))) :
    DbR C (upd H D (.ins C dx (dl g aA aC z.s aH aT z.ed z.pl))) D g z dx aA aC aH aT:=by
  refine ⟨upd_same,?_,?_,?_,?_⟩
  · rw [upd_ne (ne_of hA hD (by intro z; cases z))]; exact hA
  · rw [upd_ne (ne_of hC hD (by intro z; cases z))]; exact hC
  · rw [upd_ne (ne_of hH hD (by intro z; cases z))]; exact hH
  · rw [upd_ne (ne_of hT hD (by intro z; cases z))]; exact hT
def DbAt (C:Addr) (H:Hp) (D g:Addr) (z:Db):Prop:=∃ dx aA aC aH aT,DbR C H D g z dx aA aC aH aT
theorem DbAt.same {C:Addr} {H H':Hp} {D g:Addr} {z:Db} (h:DbAt C H D g z) (s:Same H H'):DbAt C H' D g z:=by
  obtain ⟨_,_,_,_,_,r⟩:=h
  exact ⟨_,_,_,_,_,r.same s⟩
def Gm (CG:Addr) (H:Hp) (g:Addr) (ns:List Str) (ts:List Tr) (p:Int):Prop:=∃ (a b d:Addr) (tv:List V),GameAt CG H g a b d p∧H a=some (.tup (ns.map V.str))∧H b=some (.tup tv)∧TreesAt H tv ts∧H d=some (.lst ((ns.map (degOf ts)).map V.int))
theorem Gm.same {CG:Addr} {H H':Hp} {g:Addr} {ns:List Str} {ts:List Tr} {p:Int} (h:Gm CG H g ns ts p) (s:Same H H'):Gm CG H' g ns ts p:=by
  obtain ⟨a,b,d,tv,h1,h2,h3,h4,h5⟩:=h
  exact ⟨a,b,d,tv,h1.same s,s _ _ h2,s _ _ h3,h4.mono (keepT_same s),s _ _ h5⟩
theorem gf_game (a b:Addr) (p:Int) (d:Addr):(gf a b p d).lookup ("game" : Str)=none:=gf_no _ _ _ _ (by decide +kernel) (by decide +kernel) (by decide +kernel) (by decide +kernel)
theorem Gm.ne {CG C:Addr} {H:Hp} {g D:Addr} {ns:List Str} {ts:List Tr} {p:Int} {dx:Addr} {fs:List (Str × V)} {v:V} (h:Gm CG H g ns ts p) (hD:H D=some (.ins C dx fs)) (hg:fs.lookup ("game" : Str)=some v):g ≠ D:=fun z=>by
  obtain ⟨a,b,d,tv,⟨dx',e⟩,_⟩:=h
  rw [z,hD] at e
  cases e
  rw [gf_game] at hg
  cases hg
theorem Gm.but {CG C:Addr} {H H':Hp} {g D:Addr} {ns:List Str} {ts:List Tr} {p:Int} {dx:Addr} {fs:List (Str × V)} (h:Gm CG H g ns ts p) (hD:H D=some (.ins C dx fs)) (hg:g ≠ D) (s:SameBut D H H'):Gm CG H' g ns ts p:=by
  obtain ⟨a,b,d,tv,⟨dx',e⟩,h2,h3,h4,h5⟩:=h
  exact ⟨a,b,d,tv,⟨dx',s _ _ hg e⟩,s _ _ (ne_of h2 hD (by intro z; cases z)) h2,s _ _ (ne_of h3 hD (by intro z; cases z)) h3,h4.mono (fun c xs hc=>s _ _ (ne_of hc hD (by intro z; cases z)) hc),s _ _ (ne_of h5 hD (by intro z; cases z)) h5⟩
structure GmK (ns:List Str) (ts:List Tr) (p:Int):Prop where
  pr:Pr p
  p2:2 < p
  p9:p≤999983
  n10:ns.length≤10
  t1:1≤ts.length
  t10:ts.length≤10
  tok:∀ t ∈ ts,t.ok ns∧t.wf∧t.depth≤10∧t.size≤400
  tp:(ts.length:Int)≤p
  tc:∀ t ∈ ts,∀ x ∈ ns,(t.names.count x:Int) < p
theorem GmK.deg {ns:List Str} {ts:List Tr} {p:Int} (k:GmK ns ts p):∀ x ∈ ns,0≤degOf ts x∧degOf ts x < p:=fun x hx=>by
  have t0:ts ≠ []:=fun z=>by have:=k.t1; rw [z] at this; cases this
  refine ⟨?_,degOf_lt t0 fun t ht=>k.tc t ht x hx⟩
  have:=maxD_mem (ns:=ts.map fun t=>(t.names.count x:Int)) (by simpa using t0)
  obtain ⟨t,_,e⟩:=List.mem_map.mp this
  unfold degOf
  rw [← e]
  omega
def szs (ts:List Tr):Int:=(ts.map fun t=>(t.size:Int)).sum
def lookAt (ns:List Str) (ts:List Tr) (p:Int) (z:Db):Db :=
  { z with pl:=z.pl+szs ts,aw:=if z.ed=hor z.s p (ts.map fun t=>t.worth ns z.to p) then ("believed", none) else ("caught", some ((z.to.length:Int)+1)) }
def goOn (ns:List Str) (ts:List Tr) (p:Int) (z:Db):Db :=
  if z.to.length < ns.length then { z with aw:=("hear", some (degOf ts (ns.getD z.to.length "")+1)) } else lookAt ns ts p z
def begR (ns:List Str) (ts:List Tr) (p s:Int) (z:Db):Db:=goOn ns ts p { z with s:=s,ed:=hor s p z.cl }
def hearC (ns:List Str) (ts:List Tr) (p:Int) (xs:List Int) (z:Db):Db :=
  if ts.length=1 then begR ns ts p 0 { z with cl:=xs } else { z with cl:=xs,aw:=("coin", none) }
def hearW (p:Int) (xs:List Int) (z:Db):Db :=
  { z with he:=xs,aw:=if (val p xs 0+val p xs 1) % p=z.ed then ("coin", none) else ("caught", some ((z.to.length:Int)+1)) }
def hearD (ns:List Str) (ts:List Tr) (p:Int) (xs:List Int) (z:Db):Db :=
  if z.cl=[] then hearC ns ts p xs { z with pl:=z.pl+(xs.length:Int) } else hearW p xs { z with pl:=z.pl+(xs.length:Int) }
def tossD (ns:List Str) (ts:List Tr) (p r:Int) (z:Db):Db :=
  if z.he=[] then begR ns ts p r { z with pl:=z.pl+1 } else goOn ns ts p { z with pl:=z.pl+1,ed:=val p z.he r,to:=z.to++[r] }
def Db.new (ts:List Tr):Db:=⟨("hear", some (ts.length:Int)),[],0,[],[],0,0⟩
def spIsNum:Sp:=fun vs H Q _=>∃ n p:Int,vs=[.int n,.int p]∧Q (.bl (decide (0≤n) && decide (n < p))) H
theorem sc_is_number:FnScope ["value", "p"] ["value", "p"] (defScope s_is_number):=⟨rfl,rfl,rfl,by decide +kernel,rfl,by decide +kernel,by decide +kernel⟩
theorem ok_is_number {f:Addr} {fd:FuncData} (F:Fun K "is_number" "is_number" s_is_number f fd) (B:Bl mg):FnOk P w K mg base CX0 1 f fd ["value", "p"] spIsNum:=by
  refine F.ok sc_is_number (fun vs H Q E h=>?_) (fun cdv A outer s H vs Q E hr h=>?_)
  · obtain ⟨n,p,rfl,_⟩:=h
    rfl
  obtain ⟨n,p,rfl,q⟩:=h
  refine ⟨_,(pss_one (ps_ret (pe_and (pe_callB call_isinst rfl B.isinstance PyProof.Rows.boot_isinstance (pa_cons (pv 0) (pa_cons (pe_bltn (v:=V.ty "int") rfl B.int boot_int' rfl) pa_nil))) (pe_and (pe_not (pe_callB call_isinst rfl B.isinstance PyProof.Rows.boot_isinstance (pa_cons (pv 0) (pa_cons (pe_bltn (v:=V.ty "bool") rfl B.bool boot_bool' rfl) pa_nil)))) (pe_one (pe_chain op_le op_lt pe_int (pv 0) (pv 1))))))),?_⟩
  refine ⟨_,rfl,_,_, "int", true,rfl,TyOf.int _,kit_self _ _,true,rfl,iteT ?_⟩
  refine ⟨_,rfl,_,_, "bool", false,rfl,TyOf.int _,kit_int_bool _,false,rfl,true,rfl,iteT ?_⟩
  refine ⟨_,rfl,_,_,rfl,rfl,_,rfl,?_⟩
  by_cases c:0≤n
  · rw [decide_eq_true c] at q
    refine iteD c ⟨_,rfl,_,_,rfl,rfl,?_⟩
    exact q
  · rw [decide_eq_false c] at q
    refine iteDF c ?_
    exact q
def spAllSz (C:Addr):Sp:=fun vs H Q _=>∃ (g:Addr) (ns:List Str) (ts:List Tr) (p:Int),vs=[.ref g]∧Gm C H g ns ts p∧GmK ns ts p∧∀ H',Same H H'→Q (.int (szs ts)) H'
theorem sc_all_sizes:FnScope ["game"] ["game"] (defScope s_all_sizes):=⟨rfl,rfl,rfl,by decide +kernel,rfl,by decide +kernel,by decide +kernel⟩
theorem szs_rng {ts:List Tr} (h:∀ t ∈ ts,t.size≤400) (hl:ts.length≤10):0≤szs ts∧szs ts≤4000:=by
  have:∀ l:List Tr,(∀ t ∈ l,t.size≤400)→0≤szs l∧szs l≤400*(l.length:Int):=fun l=>by
    induction l with
    | nil=>intro _; exact ⟨Int.le_refl _,Int.le_refl _⟩
    | cons t r ih =>
      intro hh
      have h1:=ih fun u hu=>hh u (List.mem_cons_of_mem _ hu)
      have h2:=hh t (List.mem_cons_self ..)
      have e:szs (t::r)=(t.size:Int)+szs r:=by unfold szs; rw [List.map_cons,List.sum_cons]
      rw [e,List.length_cons]
      omega
  have:=this ts h
  omega
theorem ok_all_sizes {f C:Addr} {fd:FuncData} (F:Fun K "all_sizes" "all_sizes" s_all_sizes f fd) (B:Bl mg) (T:GTxt K mg C) (C_size_of:Cal P w K mg base 12 "size_of" ["tree"] (spSize 10)):FnOk P w K mg base CX0 13 f fd ["game"] (spAllSz C):=by
  refine F.ok sc_all_sizes (fun vs H Q E h=>?_) (fun cdv A outer s H vs Q E hr h=>?_)
  · obtain ⟨g,ns,ts,p,rfl,_⟩:=h
    rfl
  obtain ⟨g,ns,ts,p,rfl,⟨a,b,d,tv,⟨dx,hg⟩,ha,hb,TS,hd⟩,k,q⟩:=h
  refine ⟨_,(pss_one (ps_ret (pe_callB (call_sum rfl) rfl B.sum PyProof.Rows.boot_sum (pa_cons (pe_comp (N:=[]) (ix:=[]) (cl:=[]) rfl (CompScope.closed (by with_unfolding_all rfl) (by decide) rfl (by decide) rfl (by with_unfolding_all rfl)) rfl
      (pi_tup (pe_fld (pv 0) rfl)) (fun _ _ _=>pb_all (pe_cal C_size_of hr (by decide) rfl (pa_cons (pv 0) pa_nil)))) pa_nil)))),?_⟩
  have vl:=TS.length
  refine ⟨_,rfl,g,C,dx,_,_,rfl,hg,T.cl,T.nT,gf_tr ..,b,rfl,⟨_,SqT.of hb⟩,fun D hD=>?_⟩
  refine comp_tup (K:=K) (xs:=tv) (fun i H'=>H' D=some (.lst (((ts.take i).map fun t=>(t.size:Int)).map V.int))∧Same H H') ⟨by rw [upd_same]; rfl,Same.new hD _⟩ (fun i H' _ h=>SqT.of (h.2 _ _ hb)) ?_ ?_
  · rintro i x H2 hx ⟨hl,S2⟩
    obtain ⟨u,hu,Tu⟩:=TS.get hx
    obtain ⟨_,uw,ud,us⟩:=k.tok u (List.mem_of_getElem? hu)
    have hi:i < tv.length:=(List.getElem?_eq_some_iff.mp hx).1
    have:=k.t10
    refine ⟨_,rfl,x,u,rfl,Tu.mono (keepT_same S2),uw,ud,us,fun H3 S3=>?_⟩
    refine ⟨_,S3 _ _ hl,?_,Nx.of hi ⟨?_,fun b o e=>?_⟩⟩
    · rw [List.length_map,List.length_map,List.length_take]
      exact small1000 (by omega)
    · rw [upd_same,List.take_add_one,hu,List.map_append,List.map_append]
      rfl
    · rw [upd_ne (ne_of_none e hD)]
      exact S3 _ _ (S2 _ _ e)
  · rintro H2 ⟨hl,S2⟩
    rw [vl,List.take_length] at hl
    have sr:=szs_rng (fun t ht=>(k.tok t ht).2.2.2) k.t10
    refine ⟨D,_,rfl,SqL.of hl,?_,?_,?_⟩
    · intro n hn
      obtain ⟨u,hu,rfl⟩:=List.mem_map.mp hn
      have:=(k.tok u hu).2.2.2
      omega
    · have e:((ts.map fun t=>(t.size:Int)).sum)=szs ts:=rfl
      rw [e]
      omega
    · exact q H2 S2
section
variable {C CG:Addr}
def spTrees (C CG:Addr):Sp:=fun vs H Q _=>∃ (D g:Addr) (z:Db) (ns:List Str) (ts:List Tr) (p:Int),vs=[.ref D]∧DbAt C H D g z∧Gm CG H g ns ts p∧GmK ns ts p∧z.to.length=ns.length∧PtOk z.to p∧∀ H',SameBut D H H'→DbAt C H' D g (lookAt ns ts p z)→Q .non H'
theorem sc_dtrees:FnScope ["self"] ["self"] (defScope s_dtrees):=⟨rfl,rfl,rfl,by decide +kernel,rfl,by decide +kernel,by decide +kernel⟩
theorem ok_dtrees {f fW:Addr} {fd fdW:FuncData} (F:Fun K "look_at_trees" "Doubter.look_at_trees" s_dtrees f fd) (B:Bl mg) (T:DTxt K mg C) (TG:GTxt K mg CG) (mW:Meth K CG "worth_at" fW) (GW:FnOk P w K mg base CX0 13 fW fdW ["self", "point", "s"] (spWAt CG)) (bW:Binds K fdW ["self", "point", "s"] [])
    (C_all_sizes:Cal P w K mg base 13 "all_sizes" ["game"] (spAllSz CG)):FnOk P w K mg base CX0 14 f fd ["self"] (spTrees C CG):=by
  refine F.ok sc_dtrees (fun vs H Q E h=>?_) (fun cdv A outer s H vs Q E hr h=>?_)
  · obtain ⟨D,g,z,ns,ts,p,rfl,_⟩:=h
    rfl
  obtain ⟨D,g,z,ns,ts,p,rfl,⟨dx,aA,aC,aH,aT,R⟩,G,k,tl,po,q⟩:=h
  have hr13:Room 13 _:=hr
  refine ⟨_,(pss_cons (ps_fld (pv 0) (pe_op op_add (pe_fld (pv 0) rfl) (pe_cal C_all_sizes hr (by decide) rfl (pa_cons (pe_fld (pv 0) rfl) pa_nil))) rfl)
      (pss_one (ps_if (pt_cmpR op_eq (pe_fld (pv 0) rfl) (pe_meth (pe_fld (pv 0) rfl) TG.cl mW GW hr13 bW .nil pass0 (pa_cons (pe_fld (pv 0) rfl) (pa_cons (pe_fld (pv 0) rfl) pa_nil))) (nomark _))
        (pss_one (ps_fld (pv 0) (pe_tup (pa_cons pe_str pa_nil)) rfl))
        (pss_one (ps_fld (pv 0) (pe_tup (pa_cons pe_str (pa_cons (pe_op op_add (pe_callB call_len_seq rfl B.len PySem.boot_len (pa_cons (pe_fld (pv 0) rfl) pa_nil)) pe_int) pa_nil))) rfl))))),?_⟩
  have gD:=G.ne R.hD dl_g
  refine ⟨_,rfl,D,C,dx,_,_,rfl,R.hD,T.cl,T.nP,dl_pl,_,rfl,D,C,dx,_,_,rfl,R.hD,T.cl,T.nG,dl_g,g,ns,ts,p,rfl,G,k,fun H1 S1=>?_⟩
  have R1:=R.same S1
  refine ⟨_,_,rfl,rfl,_,rfl,D,C,dx,_,rfl,R1.hD,T.cl,T.nP,dl_len,?_⟩
  rw [put_pl]
  have S2:SameBut D H1 (upd H1 D (.ins C dx (dl g aA aC z.s aH aT z.ed (z.pl+szs ts)))):=SameBut.upd _
  have R2:DbR C (upd H1 D (.ins C dx (dl g aA aC z.s aH aT z.ed (z.pl+szs ts)))) D g { z with pl:=z.pl+szs ts } dx aA aC aH aT:=DbR.set (z:={ z with pl:=z.pl+szs ts }) R1.hD R1.hA R1.hC R1.hH R1.hT
  have G2:=(G.same S1).but R1.hD gD S2
  generalize upd H1 D (.ins C dx (dl g aA aC z.s aH aT z.ed (z.pl+szs ts)))=H2 at S2 R2 G2
  have G2':=G2
  obtain ⟨a,b,d,tv,GA,ha,hb,TS,hd⟩:=G2'
  obtain ⟨dg,hg⟩:=GA
  have p2:=k.p2
  have p9:=k.p9
  refine ⟨_,rfl,D,C,dx,_,_,rfl,R2.hD,T.cl,T.nE,dl_ed,_,rfl,D,C,dx,_,_,rfl,R2.hD,T.cl,T.nG,dl_g,g,dg,_,rfl,hg,gf_no _ _ _ _ (by decide +kernel) (by decide +kernel) (by decide +kernel) (by decide +kernel),_,rfl,D,C,dx,_,_,rfl,R2.hD,T.cl,T.nT,dl_t,_,rfl,D,C,dx,_,_,rfl,R2.hD,T.cl,T.nS,dl_s,?_⟩
  refine ⟨g,a,b,d,aT,ns,tv,ts,z.to,z.s,p,rfl,⟨dg,hg⟩,by omega,by omega,ha,hb,TS,k.t10,fun t ht=>⟨(k.tok t ht).1,(k.tok t ht).2.2.1⟩,R2.hT,tl,po,fun H3 S3=>?_⟩
  have R3:=R2.same S3
  have S03:SameBut D H H3:=(SameBut.of S1).trans (S2.trans (SameBut.of S3))
  refine ⟨rfl,_,rfl,?_⟩
  by_cases c:z.ed=hor z.s p (ts.map fun t=>t.worth ns z.to p)
  · refine iteD (congrArg V.int c) ?_
    refine ⟨(by show 1≤sizeLine; decide),fun t ht=>?_⟩
    have I:=Same.new ht (.tup [.str "believed"])
    have R4:=R3.same I
    refine ⟨_,rfl,D,C,dx,_,rfl,R4.hD,T.cl,T.nA,dl_len,?_⟩
    rw [put_a]
    have e:lookAt ns ts p z={ z with pl:=z.pl+szs ts,aw:=("believed", none) }:=by
      unfold lookAt
      rw [if_pos c]
    refine q _ (S03.trans ((SameBut.of I).trans (SameBut.upd _))) ?_
    rw [e]
    exact ⟨dx,t,aC,aH,aT,DbR.set (z:={ z with pl:=z.pl+szs ts,aw:=("believed", none) }) R4.hD upd_same R4.hC R4.hH R4.hT⟩
  · refine iteDF (fun e=>c (V.int.inj e)) ?_
    refine ⟨_,rfl,D,C,dx,_,_,rfl,R3.hD,T.cl,T.nT,dl_t,aT,_,rfl,.inr (SqT.of R3.hT),_,_,rfl,rfl,(by show 2≤sizeLine; decide),fun t ht=>?_⟩
    have I:=Same.new ht (.tup [.str "caught", .int (((z.to.map V.int).length:Int)+1)])
    have R4:=R3.same I
    refine ⟨_,rfl,D,C,dx,_,rfl,R4.hD,T.cl,T.nA,dl_len,?_⟩
    rw [put_a]
    have e:lookAt ns ts p z={ z with pl:=z.pl+szs ts,aw:=("caught", some ((z.to.length:Int)+1)) }:=by
      unfold lookAt
      rw [if_neg c]
    refine q _ (S03.trans ((SameBut.of I).trans (SameBut.upd _))) ?_
    rw [e]
    refine ⟨dx,t,aC,aH,aT,DbR.set (z:={ z with pl:=z.pl+szs ts,aw:=("caught", some ((z.to.length:Int)+1)) }) R4.hD ?_ R4.hC R4.hH R4.hT⟩
    rw [upd_same,List.length_map]
    rfl
theorem ints_at {xs:List Int} {j:Nat} (h:j < xs.length):atI (xs.map V.int) (j:Int)=some (.int (xs.getD j 0)):=atI_nat (by rw [List.getElem?_map,List.getElem?_eq_getElem h,List.getD_eq_getElem?_getD,List.getElem?_eq_getElem h]; rfl)
theorem degs_at {ns:List Str} {ts:List Tr} {j:Nat} (h:j < ns.length):(ns.map (degOf ts)).getD j 0=degOf ts (ns.getD j ""):=by
  rw [List.getD_eq_getElem?_getD,List.getElem?_map,List.getD_eq_getElem?_getD,List.getElem?_eq_getElem h]
  rfl
def spGo (C CG:Addr):Sp:=fun vs H Q _=>∃ (D g:Addr) (z:Db) (ns:List Str) (ts:List Tr) (p:Int),vs=[.ref D]∧DbAt C H D g z∧Gm CG H g ns ts p∧GmK ns ts p∧z.to.length≤ns.length∧PtOk z.to p∧∀ H',SameBut D H H'→DbAt C H' D g (goOn ns ts p z)→Q .non H'
theorem sc_dgo:FnScope ["self", "done"] ["self"] (defScope s_dgo):=⟨rfl,rfl,rfl,by decide +kernel,rfl,by decide +kernel,by decide +kernel⟩
theorem ok_dgo {f fT:Addr} {fd fdT:FuncData} (F:Fun K "go_on" "Doubter.go_on" s_dgo f fd) (B:Bl mg) (T:DTxt K mg C) (TG:GTxt K mg CG) (mT:Meth K C "look_at_trees" fT) (GT:FnOk P w K mg base CX0 14 fT fdT ["self"] (spTrees C CG)) (bT:Binds K fdT ["self"] []):FnOk P w K mg base CX0 15 f fd ["self"] (spGo C CG):=by
  refine F.ok sc_dgo (fun vs H Q E h=>?_) (fun cdv A outer s H vs Q E hr h=>?_)
  · obtain ⟨D,g,z,ns,ts,p,rfl,_⟩:=h
    rfl
  obtain ⟨D,g,z,ns,ts,p,rfl,⟨dx,aA,aC,aH,aT,R⟩,G,k,tl,po,q⟩:=h
  refine ⟨_,(pss_cons (ps_set (i:=1) sc_dgo.nd rfl (Or.inl rfl) (pe_callB call_len_seq rfl B.len PySem.boot_len (pa_cons (pe_fld (pv 0) rfl) pa_nil)))
      (pss_one (ps_if (pt_cmpR op_lt (pv 1) (pe_callB call_len_seq rfl B.len PySem.boot_len (pa_cons (pe_fld (pe_fld (pv 0) rfl) rfl) pa_nil)) (nomark _))
        (pss_one (ps_fld (pv 0) (pe_tup (pa_cons pe_str (pa_cons (pe_op op_add (pe_ix ix_list (pe_fld (pe_fld (pv 0) rfl) rfl) (pv 1) (fun _ _=>rfl)) pe_int) pa_nil))) rfl))
        (pss_one (ps_expr (pe_meth0 (pv 0) T.cl mT GT hr bT .nil pass0)))))),?_⟩
  have G':=G
  obtain ⟨a,b,d,tv,⟨dg,hg⟩,ha,hb,TS,hd⟩:=G'
  refine ⟨_,rfl,D,C,dx,_,_,rfl,R.hD,T.cl,T.nT,dl_t,aT,_,rfl,.inr (SqT.of R.hT),?_⟩
  refine ⟨_,rfl,_,rfl,D,C,dx,_,_,rfl,R.hD,T.cl,T.nG,dl_g,g,CG,dg,_,_,rfl,hg,TG.cl,TG.nS,gf_sw ..,a,_,rfl,.inr (SqT.of ha),_,_,rfl,rfl,_,rfl,?_⟩
  by_cases c:z.to.length < ns.length
  · refine iteD (by rw [List.length_map,List.length_map]; omega) ?_
    have ej:((z.to.map V.int).length:Int)=(z.to.length:Int):=by rw [List.length_map]
    have hx:ns.getD z.to.length "" ∈ ns:=by
      rw [List.getD_eq_getElem?_getD,List.getElem?_eq_getElem c]
      exact List.getElem_mem c
    have dr:=k.deg _ hx
    refine ⟨_,rfl,D,C,dx,_,_,rfl,R.hD,T.cl,T.nG,dl_g,g,CG,dg,_,_,rfl,hg,TG.cl,TG.nD,gf_de ..,_,rfl,d,_,_,_,rfl,rfl,SqL.of hd,by rw [ej]; exact ints_at (by rw [List.length_map]; exact c),_,_,rfl,rfl,(by show 2≤sizeLine; decide),fun t ht=>?_⟩
    rw [degs_at c] at *
    have I:=Same.new ht (.tup [.str "hear", .int (degOf ts (ns.getD z.to.length "")+1)])
    have R4:=R.same I
    refine ⟨_,rfl,D,C,dx,_,rfl,R4.hD,T.cl,T.nA,dl_len,?_⟩
    rw [put_a]
    have e:goOn ns ts p z={ z with aw:=("hear", some (degOf ts (ns.getD z.to.length "")+1)) }:=by
      unfold goOn
      rw [if_pos c]
    refine q _ ((SameBut.of I).trans (SameBut.upd _)) ?_
    rw [e]
    exact ⟨dx,t,aC,aH,aT,DbR.set (z:={ z with aw:=("hear", some (degOf ts (ns.getD z.to.length "")+1)) }) R4.hD upd_same R4.hC R4.hH R4.hT⟩
  · refine iteDF (by rw [List.length_map,List.length_map]; omega) ?_
    have e:goOn ns ts p z=lookAt ns ts p z:=by
      unfold goOn
      rw [if_neg c]
    rw [e] at q
    refine ⟨_,rfl,D,dx,_,rfl,R.hD,dl_n10,?_⟩
    exact ⟨D,g,z,ns,ts,p,rfl,⟨dx,aA,aC,aH,aT,R⟩,G,k,by omega,po,q⟩
def spBeg (C CG:Addr):Sp:=fun vs H Q _=>∃ (D g:Addr) (z:Db) (s:Int) (ns:List Str) (ts:List Tr) (p:Int),vs=[.ref D,.int s]∧DbAt C H D g z∧Gm CG H g ns ts p∧GmK ns ts p∧z.to.length≤ns.length∧PtOk z.to p∧∀ H',SameBut D H H'→DbAt C H' D g (begR ns ts p s z)→Q .non H'
theorem sc_dbegin:FnScope ["self", "s"] ["self", "s"] (defScope s_dbegin):=⟨rfl,rfl,rfl,by decide +kernel,rfl,by decide +kernel,by decide +kernel⟩
theorem ok_dbegin {f fG fM:Addr} {fd fdG fdM:FuncData} (F:Fun K "begin_rounds" "Doubter.begin_rounds" s_dbegin f fd) (T:DTxt K mg C) (TG:GTxt K mg CG) (mM:Meth K CG "mix" fM) (GM:FnOk P w K mg base CX0 1 fM fdM ["self", "numbers", "s"] (spMix CG)) (bM:Binds K fdM ["self", "numbers", "s"] [])
    (mG:Meth K C "go_on" fG) (GG:FnOk P w K mg base CX0 15 fG fdG ["self"] (spGo C CG)) (bG:Binds K fdG ["self"] []):FnOk P w K mg base CX0 16 f fd ["self", "s"] (spBeg C CG):=by
  refine F.ok sc_dbegin (fun vs H Q E h=>?_) (fun cdv A outer s H vs Q E hr h=>?_)
  · obtain ⟨D,g,z,s,ns,ts,p,rfl,_⟩:=h
    rfl
  obtain ⟨D,g,z,s,ns,ts,p,rfl,⟨dx,aA,aC,aH,aT,R⟩,G,k,tl,po,q⟩:=h
  have hr1:Room 1 _:=hr.mono (by decide)
  refine ⟨_,(pss_cons (ps_fld (pv 0) (pv 1) rfl)
      (pss_cons (ps_fld (pv 0) (pe_meth (pe_fld (pv 0) rfl) TG.cl mM GM hr1 bM .nil pass0 (pa_cons (pe_fld (pv 0) rfl) (pa_cons (pv 1) pa_nil))) rfl)
      (pss_one (ps_expr (pe_meth0 (pv 0) T.cl mG GG hr bG .nil pass0))))),?_⟩
  have gD:=G.ne R.hD dl_g
  have p2:=k.p2
  have p9:=k.p9
  refine ⟨_,rfl,_,rfl,D,C,dx,_,rfl,R.hD,T.cl,T.nS,dl_len,?_⟩
  rw [put_s]
  have S1:SameBut D H (upd H D (.ins C dx (dl g aA aC s aH aT z.ed z.pl))):=SameBut.upd _
  have R1:DbR C (upd H D (.ins C dx (dl g aA aC s aH aT z.ed z.pl))) D g { z with s:=s } dx aA aC aH aT:=DbR.set (z:={ z with s:=s }) R.hD R.hA R.hC R.hH R.hT
  have G1:=G.but R.hD gD S1
  generalize upd H D (.ins C dx (dl g aA aC s aH aT z.ed z.pl))=H1 at S1 R1 G1
  have G1':=G1
  obtain ⟨a,b,d,tv,⟨dg,hg⟩,ha,hb,TS,hd⟩:=G1'
  refine ⟨_,rfl,D,C,dx,_,_,rfl,R1.hD,T.cl,T.nG,dl_g,g,dg,_,rfl,hg,gf_no _ _ _ _ (by decide +kernel) (by decide +kernel) (by decide +kernel) (by decide +kernel),_,rfl,D,C,dx,_,_,rfl,R1.hD,T.cl,T.nC,dl_c,_,rfl,?_⟩
  refine ⟨g,a,b,d,aC,z.cl,s,p,rfl,⟨dg,hg⟩,by omega,by omega,.inr R1.hC,?_⟩
  refine ⟨_,rfl,D,C,dx,_,rfl,R1.hD,T.cl,T.nE,dl_len,?_⟩
  rw [put_ed]
  have S2:SameBut D H1 (upd H1 D (.ins C dx (dl g aA aC s aH aT (hor s p z.cl) z.pl))):=SameBut.upd _
  have R2:DbR C (upd H1 D (.ins C dx (dl g aA aC s aH aT (hor s p z.cl) z.pl))) D g { z with s:=s,ed:=hor s p z.cl } dx aA aC aH aT:=DbR.set (z:={ z with s:=s,ed:=hor s p z.cl }) R1.hD R1.hA R1.hC R1.hH R1.hT
  have G2:=G1.but R1.hD gD S2
  generalize upd H1 D (.ins C dx (dl g aA aC s aH aT (hor s p z.cl) z.pl))=H2 at S2 R2 G2
  refine ⟨_,rfl,D,dx,_,rfl,R2.hD,dl_n9,?_⟩
  exact ⟨D,g,_,ns,ts,p,rfl,⟨dx,aA,aC,aH,aT,R2⟩,G2,k,tl,po,fun H3 S3 D3=>q H3 (S1.trans (S2.trans S3)) D3⟩
def spClaims (C CG:Addr):Sp:=fun vs H Q _=>∃ (D g l:Addr) (z:Db) (xs:List Int) (ns:List Str) (ts:List Tr) (p:Int),vs=[.ref D,.ref l]∧DbAt C H D g z∧Gm CG H g ns ts p∧GmK ns ts p∧H l=some (.tup (xs.map V.int))∧z.to.length≤ns.length∧PtOk z.to p∧∀ H',SameBut D H H'→DbAt C H' D g (hearC ns ts p xs z)→Q .non H'
theorem sc_dclaims:FnScope ["self", "values"] ["self", "values"] (defScope s_dclaims):=⟨rfl,rfl,rfl,by decide +kernel,rfl,by decide +kernel,by decide +kernel⟩
theorem ok_dclaims {f fB:Addr} {fd fdB:FuncData} (F:Fun K "hear_claims" "Doubter.hear_claims" s_dclaims f fd) (B:Bl mg) (T:DTxt K mg C) (TG:GTxt K mg CG) (mB:Meth K C "begin_rounds" fB) (GB:FnOk P w K mg base CX0 16 fB fdB ["self", "s"] (spBeg C CG)) (bB:Binds K fdB ["self", "s"] []):FnOk P w K mg base CX0 17 f fd ["self", "values"] (spClaims C CG):=by
  refine F.ok sc_dclaims (fun vs H Q E h=>?_) (fun cdv A outer s H vs Q E hr h=>?_)
  · obtain ⟨D,g,l,z,xs,ns,ts,p,rfl,_⟩:=h
    rfl
  obtain ⟨D,g,l,z,xs,ns,ts,p,rfl,⟨dx,aA,aC,aH,aT,R⟩,G,k,hl,tl,po,q⟩:=h
  refine ⟨_,(pss_cons (ps_fld (pv 0) (pv 1) rfl)
      (pss_one (ps_if (pt_cmpR op_eq (pe_callB call_len_seq rfl B.len PySem.boot_len (pa_cons (pe_fld (pe_fld (pv 0) rfl) rfl) pa_nil)) pe_int (nomark _))
        (pss_one (ps_expr (pe_meth (pv 0) T.cl mB GB hr bB .nil pass0 (pa_cons pe_int pa_nil))))
        (pss_one (ps_fld (pv 0) (pe_tup (pa_cons pe_str pa_nil)) rfl))))),?_⟩
  have gD:=G.ne R.hD dl_g
  refine ⟨_,rfl,_,rfl,D,C,dx,_,rfl,R.hD,T.cl,T.nC,dl_len,?_⟩
  rw [put_c]
  have S1:SameBut D H (upd H D (.ins C dx (dl g aA l z.s aH aT z.ed z.pl))):=SameBut.upd _
  have R1:DbR C (upd H D (.ins C dx (dl g aA l z.s aH aT z.ed z.pl))) D g { z with cl:=xs } dx aA l aH aT:=DbR.set (z:={ z with cl:=xs }) R.hD R.hA hl R.hH R.hT
  have G1:=G.but R.hD gD S1
  generalize upd H D (.ins C dx (dl g aA l z.s aH aT z.ed z.pl))=H1 at S1 R1 G1
  have G1':=G1
  obtain ⟨a,b,d,tv,⟨dg,hg⟩,ha,hb,TS,hd⟩:=G1'
  have vl:=TS.length
  refine ⟨_,rfl,D,C,dx,_,_,rfl,R1.hD,T.cl,T.nG,dl_g,g,CG,dg,_,_,rfl,hg,TG.cl,TG.nT,gf_tr ..,b,_,rfl,.inr (SqT.of hb),rfl,_,rfl,?_⟩
  by_cases c:ts.length=1
  · refine iteD (congrArg V.int (by omega)) ?_
    have e:hearC ns ts p xs z=begR ns ts p 0 { z with cl:=xs }:=by
      unfold hearC
      rw [if_pos c]
    rw [e] at q
    refine ⟨_,rfl,D,dx,_,rfl,R1.hD,dl_n7,?_⟩
    exact ⟨D,g,_,0,ns,ts,p,rfl,⟨dx,aA,l,aH,aT,R1⟩,G1,k,tl,po,fun H3 S3 D3=>q H3 (S1.trans S3) D3⟩
  · refine iteDF (fun e=>c (by have:=V.int.inj e; omega)) ?_
    have e:hearC ns ts p xs z={ z with cl:=xs,aw:=("coin", none) }:=by
      unfold hearC
      rw [if_neg c]
    refine ⟨(by show 1≤sizeLine; decide),fun t ht=>?_⟩
    have I:=Same.new ht (.tup [.str "coin"])
    have R4:=R1.same I
    refine ⟨_,rfl,D,C,dx,_,rfl,R4.hD,T.cl,T.nA,dl_len,?_⟩
    rw [put_a]
    refine q _ (S1.trans ((SameBut.of I).trans (SameBut.upd _))) ?_
    rw [e]
    exact ⟨dx,t,l,aH,aT,DbR.set (z:={ z with cl:=xs,aw:=("coin", none) }) R4.hD upd_same R4.hC R4.hH R4.hT⟩
def spHRow (C CG:Addr):Sp:=fun vs H Q _=>∃ (D g l:Addr) (z:Db) (xs:List Int) (ns:List Str) (ts:List Tr) (p:Int),vs=[.ref D,.ref l]∧DbAt C H D g z∧Gm CG H g ns ts p∧GmK ns ts p∧H l=some (.tup (xs.map V.int))∧RowOk xs p∧∀ H',SameBut D H H'→DbAt C H' D g (hearW p xs z)→Q .non H'
theorem sc_drow:FnScope ["self", "values"] ["self", "values"] (defScope s_drow):=⟨rfl,rfl,rfl,by decide +kernel,rfl,by decide +kernel,by decide +kernel⟩
theorem ok_drow {f:Addr} {fd:FuncData} (F:Fun K "hear_row" "Doubter.hear_row" s_drow f fd) (B:Bl mg) (T:DTxt K mg C) (TG:GTxt K mg CG) (C_both_ends:Cal P w K mg base 5 "both_ends" ["values", "p"] spEnds):FnOk P w K mg base CX0 6 f fd ["self", "values"] (spHRow C CG):=by
  refine F.ok sc_drow (fun vs H Q E h=>?_) (fun cdv A outer s H vs Q E hr h=>?_)
  · obtain ⟨D,g,l,z,xs,ns,ts,p,rfl,_⟩:=h
    rfl
  obtain ⟨D,g,l,z,xs,ns,ts,p,rfl,⟨dx,aA,aC,aH,aT,R⟩,G,k,hl,ro,q⟩:=h
  refine ⟨_,(pss_cons (ps_fld (pv 0) (pv 1) rfl)
      (pss_one (ps_if (pt_cmpR op_eq (pe_cal C_both_ends hr (by decide) rfl (pa_cons (pv 1) (pa_cons (pe_fld (pe_fld (pv 0) rfl) rfl) pa_nil))) (pe_fld (pv 0) rfl) (nomark _))
        (pss_one (ps_fld (pv 0) (pe_tup (pa_cons pe_str pa_nil)) rfl))
        (pss_one (ps_fld (pv 0) (pe_tup (pa_cons pe_str (pa_cons (pe_op op_add (pe_callB call_len_seq rfl B.len PySem.boot_len (pa_cons (pe_fld (pv 0) rfl) pa_nil)) pe_int) pa_nil))) rfl))))),?_⟩
  have gD:=G.ne R.hD dl_g
  refine ⟨_,rfl,_,rfl,D,C,dx,_,rfl,R.hD,T.cl,T.nH,dl_len,?_⟩
  rw [put_h]
  have S1:SameBut D H (upd H D (.ins C dx (dl g aA aC z.s l aT z.ed z.pl))):=SameBut.upd _
  have R1:DbR C (upd H D (.ins C dx (dl g aA aC z.s l aT z.ed z.pl))) D g { z with he:=xs } dx aA aC l aT:=DbR.set (z:={ z with he:=xs }) R.hD R.hA R.hC hl R.hT
  have G1:=G.but R.hD gD S1
  generalize upd H D (.ins C dx (dl g aA aC z.s l aT z.ed z.pl))=H1 at S1 R1 G1
  have G1':=G1
  obtain ⟨a,b,d,tv,⟨dg,hg⟩,ha,hb,TS,hd⟩:=G1'
  refine ⟨_,rfl,_,rfl,D,C,dx,_,_,rfl,R1.hD,T.cl,T.nG,dl_g,g,CG,dg,_,_,rfl,hg,TG.cl,TG.nF,gf_fi ..,l,xs,p,rfl,.inr R1.hH,ro,k.pr,k.p9,fun H2 S2=>?_⟩
  have R2:=R1.same S2
  refine ⟨_,rfl,D,C,dx,_,_,rfl,R2.hD,T.cl,T.nE,dl_ed,rfl,_,rfl,?_⟩
  have S02:SameBut D H H2:=S1.trans (SameBut.of S2)
  by_cases c:(val p xs 0+val p xs 1) % p=z.ed
  · refine iteD (congrArg V.int c) ?_
    have e:hearW p xs z={ z with he:=xs,aw:=("coin", none) }:=by
      unfold hearW
      rw [if_pos c]
    refine ⟨(by show 1≤sizeLine; decide),fun t ht=>?_⟩
    have I:=Same.new ht (.tup [.str "coin"])
    have R4:=R2.same I
    refine ⟨_,rfl,D,C,dx,_,rfl,R4.hD,T.cl,T.nA,dl_len,?_⟩
    rw [put_a]
    refine q _ (S02.trans ((SameBut.of I).trans (SameBut.upd _))) ?_
    rw [e]
    exact ⟨dx,t,aC,l,aT,DbR.set (z:={ z with he:=xs,aw:=("coin", none) }) R4.hD upd_same R4.hC R4.hH R4.hT⟩
  · refine iteDF (fun e=>c (V.int.inj e)) ?_
    have e:hearW p xs z={ z with he:=xs,aw:=("caught", some ((z.to.length:Int)+1)) }:=by
      unfold hearW
      rw [if_neg c]
    refine ⟨_,rfl,D,C,dx,_,_,rfl,R2.hD,T.cl,T.nT,dl_t,aT,_,rfl,.inr (SqT.of R2.hT),_,_,rfl,rfl,(by show 2≤sizeLine; decide),fun t ht=>?_⟩
    have I:=Same.new ht (.tup [.str "caught", .int (((z.to.map V.int).length:Int)+1)])
    have R4:=R2.same I
    refine ⟨_,rfl,D,C,dx,_,rfl,R4.hD,T.cl,T.nA,dl_len,?_⟩
    rw [put_a]
    refine q _ (S02.trans ((SameBut.of I).trans (SameBut.upd _))) ?_
    rw [e]
    refine ⟨dx,t,aC,l,aT,DbR.set (z:={ z with he:=xs,aw:=("caught", some ((z.to.length:Int)+1)) }) R4.hD ?_ R4.hC R4.hH R4.hT⟩
    rw [upd_same,List.length_map]
    rfl
end
section
variable {C CG:Addr}
theorem rep_intsT {K:PySem.W.Frag} {H:Hp} {a:Addr} {xs:List Int} (h:H a=some (.tup (xs.map V.int))):Rep K H (.ref a) (.tuple (xs.map PyData.int)):=.tup (SqT.of h) (rep_ints xs)
theorem eqv_ti0 (xs:List Int):PyData.eqv (.tuple (xs.map PyData.int)) (.tuple [])=decide (xs=[]):=by
  cases xs with
  | nil=>rfl
  | cons a r=>rfl
theorem shaped_ti (ns:List Int):SeqAt.shaped (.tuple (ns.map PyData.int))=true:=by
  simp [SeqAt.shaped,PyData.canLay0,PyData.depth,PySem.W.ke_canLayAll0,PySem.W.ke_depthAll]
def spHear (C CG:Addr):Sp:=fun vs H Q _=>∃ (D g l:Addr) (z:Db) (xs:List Int) (ns:List Str) (ts:List Tr) (p:Int),vs=[.ref D,.ref l]∧DbAt C H D g z∧Gm CG H g ns ts p∧GmK ns ts p∧H l=some (.lst (xs.map V.int))∧z.aw=(("hear" : Str),some (xs.length:Int))∧PtOk xs p∧xs.length≤500∧(z.cl ≠ []→RowOk xs p)∧z.to.length≤ns.length∧PtOk z.to p∧∀ H',SameBut D H H'→DbAt C H' D g (hearD ns ts p xs z)→Q .non H'
theorem sc_dhear:FnScope ["self", "values"] ["self", "values"] (defScope s_dhear):=⟨rfl,rfl,rfl,by decide +kernel,rfl,by decide +kernel,by decide +kernel⟩
def spToss (C CG:Addr):Sp:=fun vs H Q _=>∃ (D g:Addr) (z:Db) (r:Int) (ns:List Str) (ts:List Tr) (p:Int),vs=[.ref D,.int r]∧DbAt C H D g z∧Gm CG H g ns ts p∧GmK ns ts p∧z.aw.1 = "coin" ∧ 0≤r∧r < p∧z.to.length≤ns.length∧(z.he ≠ []→RowOk z.he p∧z.to.length < ns.length)∧PtOk z.to p∧∀ H',SameBut D H H'→DbAt C H' D g (tossD ns ts p r z)→Q .non H'
theorem sc_dtoss:FnScope ["self", "r"] ["self", "r"] (defScope s_dtoss):=⟨rfl,rfl,rfl,by decide +kernel,rfl,by decide +kernel,by decide +kernel⟩
theorem awV_0 (a:Str × Option Int):(awV a)[0]?=some (.str a.1):=by
  unfold awV
  split <;> rfl
def rCatA (K:PySem.W.Frag):R2:=fun x y H Q=>∃ a b xs ys,x=.ref a∧y=.ref b∧SqT K H a xs∧SqT K H b ys∧ys ≠ []∧xs.length+ys.length≤sizeLine∧(xs=[]→Q (.ref b) H)∧(xs ≠ []→∀ p,H p=none→Q (.ref p) (upd H p (.tup (xs++ys))))
theorem op_catA {X:Cx}:OpR X (binaryOp .Add) (rCatA X.K):=by
  intro pins s σ H x y v u Q I rx ry h
  obtain ⟨a,b,xs,ys,ex,ey,ha,hb,hy,hz,q1,q2⟩:=h
  by_cases c:xs=[]
  · subst c
    exact op_catT0 pins s σ H x y v u Q I rx ry ⟨a,b,ys,ex,ey,ha,hb,q1 rfl⟩
  · exact op_catT pins s σ H x y v u Q I rx ry ⟨a,b,xs,ys,ex,ey,ha,hb,c,hz,fun z=>absurd z hy,fun _=>q2 c⟩
def spDInit (C CG:Addr):Sp:=fun vs H Q _=>∃ (D g dx:Addr) (ns:List Str) (ts:List Tr) (p:Int),vs=[.ref D,.ref g]∧H D=some (.ins C dx [])∧Gm CG H g ns ts p∧g ≠ D∧∀ H',SameBut D H H'→DbAt C H' D g (Db.new ts)→Q .non H'
theorem sc_dinit:FnScope ["self", "game"] ["self", "game"] (defScope s_dinit):=⟨rfl,rfl,rfl,by decide +kernel,rfl,by decide +kernel,by decide +kernel⟩
def spOf (C:Addr) (t:Db→V→Hp→Prop):Sp:=fun vs H Q _=>∃ (D g:Addr) (z:Db),vs=[.ref D]∧DbAt C H D g z∧∀ v,t z v H→Q v H
theorem sc_ddue:FnScope ["self"] ["self"] (defScope s_ddue):=⟨rfl,rfl,rfl,by decide +kernel,rfl,by decide +kernel,by decide +kernel⟩
theorem ok_ddue {f:Addr} {fd:FuncData} (F:Fun K "due" "Doubter.due" s_ddue f fd) (T:DTxt K mg C):FnOk P w K mg base CX0 1 f fd ["self"] (spOf C fun z v _=>v=.int z.ed):=by
  refine F.ok sc_ddue (fun vs H Q E h=>?_) (fun cdv A outer s H vs Q E hr h=>?_)
  · obtain ⟨D,g,z,rfl,_⟩:=h
    rfl
  obtain ⟨D,g,z,rfl,⟨dx,aA,aC,aH,aT,R⟩,q⟩:=h
  refine ⟨_,(pss_one (ps_ret (pe_fld (pv 0) rfl))),?_⟩
  exact ⟨_,rfl,D,C,dx,_,_,rfl,R.hD,T.cl,T.nE,dl_ed,q _ rfl⟩
theorem sc_dwaits:FnScope ["self"] ["self"] (defScope s_dwaits):=⟨rfl,rfl,rfl,by decide +kernel,rfl,by decide +kernel,by decide +kernel⟩
theorem ok_dwaits {f:Addr} {fd:FuncData} (F:Fun K "waits" "Doubter.waits" s_dwaits f fd) (T:DTxt K mg C):FnOk P w K mg base CX0 1 f fd ["self"] (spOf C fun z v H=>∃ a,v=.ref a∧H a=some (.tup (awV z.aw))):=by
  refine F.ok sc_dwaits (fun vs H Q E h=>?_) (fun cdv A outer s H vs Q E hr h=>?_)
  · obtain ⟨D,g,z,rfl,_⟩:=h
    rfl
  obtain ⟨D,g,z,rfl,⟨dx,aA,aC,aH,aT,R⟩,q⟩:=h
  refine ⟨_,(pss_one (ps_ret (pe_fld (pv 0) rfl))),?_⟩
  exact ⟨_,rfl,D,C,dx,_,_,rfl,R.hD,T.cl,T.nA,dl_a,q _ ⟨aA,rfl,R.hA⟩⟩
end
section
variable {C CG:Addr}
theorem ne_feed {H:Hp} {f b:Addr} {o:HO} (F:FeedAt H f) (h:H b=some o) (n:∀ ys,o ≠ .lst ys):b ≠ f:=fun z=>by
  obtain ⟨u,t,e,_⟩:=F
  rw [z,e] at h
  exact n _ (Option.some.inj h).symm
def awD (a:Str × Option Int):PyData:=match a.2 with
  | none=>.tuple [.str a.1]
  | some n=>.tuple [.str a.1,.int n]
theorem rep_aw {K:PySem.W.Frag} {H:Hp} {c:Addr} {a:Str × Option Int} (h:H c=some (.tup (awV a))):Rep K H (.ref c) (awD a):=by
  obtain ⟨x,n⟩:=a
  cases n with
  | none=>exact .tup (SqT.of h) (.cons (.str x) .nil)
  | some n=>exact .tup (SqT.of h) (.cons (.str x) (.cons (.int n) .nil))
def AwW (x:Str):Prop:=x = "hear" ∨ x = "coin" ∨ x = "caught" ∨ x = "believed"
theorem AwW.ok {x:Str} (h:AwW x):PyData.strOk x=true:=by
  rcases h with rfl | rfl | rfl | rfl <;> decide +kernel
def spCoin:Sp:=fun vs H Q _=>∃ (f:Addr) (p:Int),vs=[.ref f,.int p]∧FeedAt H f∧2≤p∧p < 2 ^ 40∧∀ (r:Int) (H':Hp),0≤r→r < p→FeedAt H' f→SameBut f H H'→Q (.int r) H'
theorem sc_l_coin:FnScope ["_law_feed_here", "_law_p"] ["_law_feed_here", "_law_p"] (defScope s_l_coin):=⟨rfl,rfl,rfl,by decide +kernel,rfl,by decide +kernel,by decide +kernel⟩
theorem three_at {a b c:Int} {i:Int} (h0:0≤i) (h:i < 3):∃ v:Int,atI [V.int a,.int b,.int c] i=some (.int v)∧(v=a∨v=b∨v=c):=by
  have:i=0∨i=1∨i=2:=by omega
  rcases this with rfl | rfl | rfl
  · exact ⟨a,rfl,.inl rfl⟩
  · exact ⟨b,rfl,.inr (.inl rfl)⟩
  · exact ⟨c,rfl,.inr (.inr rfl)⟩
theorem ok_l_coin {f:Addr} {fd:FuncData} (F:Fun K "_law_coin" "_law_coin" s_l_coin f fd) (C_l_take:Cal P w K mg base 1 "_law_take" ["_law_feed_here", "_law_many"] spTake):FnOk P w K mg base CX0 2 f fd ["_law_feed_here", "_law_p"] spCoin:=by
  refine F.ok sc_l_coin (fun vs H Q E h=>?_) (fun cdv A outer s H vs Q E hr h=>?_)
  · obtain ⟨f,p,rfl,_⟩:=h
    rfl
  obtain ⟨f,p,rfl,FA,p2,p40,q⟩:=h
  refine ⟨_,(pss_one (ps_ret (pe_ix ix_list (pe_lst (pa_cons (pe_cal C_l_take hr (by decide) rfl (pa_cons (pv 0) (pa_cons (pv 1) pa_nil))) (pa_cons (pe_cal C_l_take hr (by decide) rfl (pa_cons (pv 0) (pa_cons pe_int pa_nil))) (pa_cons (pe_op op_sub (pv 1) pe_int) pa_nil)))) (pe_cal C_l_take hr (by decide) rfl (pa_cons (pv 0) (pa_cons pe_int pa_nil))) (fun _ _=>rfl)))),?_⟩
  refine ⟨_,rfl,_,rfl,f,p,rfl,FA,by omega,by omega,fun d1 H1 d10 d11 F1 S1=>?_⟩
  refine ⟨_,rfl,f,2,rfl,F1,by decide,by decide,fun d2 H2 d20 d21 F2 S2=>?_⟩
  refine ⟨_,rfl,_,_,rfl,rfl,(by show 3≤sizeLine; decide),fun l hl=>?_⟩
  have I:=Same.new hl (.lst [.int d1,.int d2,.int (p - 1)])
  refine ⟨_,rfl,f,3,rfl,F2.same I,by decide,by decide,fun d3 H3 d30 d31 F3 S3=>?_⟩
  obtain ⟨v,hv,vv⟩:=three_at (a:=d1) (b:=d2) (c:=p - 1) d30 d31
  refine ⟨l,_,_,_,rfl,rfl,SqL.of (S3 _ _ (F2.ne hl) upd_same),hv,?_⟩
  exact q v H3 (by omega) (by omega) F3 (S1.trans (S2.trans ((SameBut.of I).trans S3)))
def spLMix:Sp:=fun vs H Q _=>∃ (l:Addr) (ns:List Int) (s p:Int),vs=[.ref l,.int s,.int p]∧H l=some (.lst (ns.map V.int))∧0 < p∧p < 2 ^ 40∧∀ H',Same H H'→Q (.int (hor s p ns)) H'
end
section
variable {C CG:Addr}
def valP (o:Str) (x y:Int):Int:=if o = "and" then x*y else if o = "or" then x+y - x*y else if o = "odd" then x+y - 2*x*y else 1 - (x+y - 2*x*y)
def dP (x y:Int):List (Key × V):=[(Sum.inr "and", V.int (x*y)),(Sum.inr "or", V.int (x+y - x*y)),(Sum.inr "odd", V.int (x+y - 2*x*y))]
def dQ (x y:Int):List (Key × V):=dP x y++([(Sum.inr "same", V.int (1 - (x+y - 2*x*y)))]:List (Key × V))
def spLW (n:Nat):Sp:=fun vs H Q _=>∃ (v:V) (t:Tr) (a b:Addr) (ns:List Str) (pt:List Int) (p:Int),vs=[v,.ref a,.ref b,.int p]∧TreeAt H v t∧t.ok ns∧t.depth≤n∧NamesAt H a ns∧H b=some (.tup (pt.map V.int))∧pt.length=ns.length∧1 < p∧p < 2 ^ 40∧PtOk pt p∧∀ H',Same H H'→Q (.int (t.worth ns pt p)) H'
def spLDeg:Sp:=fun vs H Q _=>∃ (a b:Addr) (ns:List Str) (tv:List V) (ts:List Tr),vs=[.ref a,.ref b]∧H a=some (.tup (ns.map V.str))∧H b=some (.tup tv)∧TreesAt H tv ts∧ts ≠ []∧ts.length≤10∧ns.length≤10∧(∀ t ∈ ts,t.wf∧t.depth≤10∧t.size≤400)∧∀ (l:Addr) (H':Hp),H l=none→Same H H'→H' l=some (.lst ((ns.map (degOf ts)).map V.int))→Q (.ref l) H'
def d1 (g:Addr):List (Str × V):=[("game", .ref g)]
def d2 (g t1:Addr):List (Str × V):=[("game", .ref g),("awaited", .ref t1)]
def d3 (g t1 t2:Addr):List (Str × V):=[("game", .ref g),("awaited", .ref t1),("claims", .ref t2)]
def d4 (g t1 t2:Addr):List (Str × V):=[("game", .ref g),("awaited", .ref t1),("claims", .ref t2),("s", .int 0)]
def d5 (g t1 t2 t3:Addr):List (Str × V):=[("game", .ref g),("awaited", .ref t1),("claims", .ref t2),("s", .int 0),("heard", .ref t3)]
def d6 (g t1 t2 t3 t4:Addr):List (Str × V):=[("game", .ref g),("awaited", .ref t1),("claims", .ref t2),("s", .int 0),("heard", .ref t3),("tossed", .ref t4)]
def d7 (g t1 t2 t3 t4:Addr):List (Str × V):=[("game", .ref g),("awaited", .ref t1),("claims", .ref t2),("s", .int 0),("heard", .ref t3),("tossed", .ref t4),("held", .int 0)]
theorem pd1 (g:Addr):putF "game" (.ref g) []=d1 g:=by with_unfolding_all rfl
theorem pd2 (g t1:Addr):putF "awaited" (.ref t1) (d1 g)=d2 g t1:=by with_unfolding_all rfl
theorem pd3 (g t1 t2:Addr):putF "claims" (.ref t2) (d2 g t1)=d3 g t1 t2:=by with_unfolding_all rfl
theorem pd4 (g t1 t2:Addr):putF "s" (.int 0) (d3 g t1 t2)=d4 g t1 t2:=by with_unfolding_all rfl
theorem pd5 (g t1 t2 t3:Addr):putF "heard" (.ref t3) (d4 g t1 t2)=d5 g t1 t2 t3:=by with_unfolding_all rfl
theorem pd6 (g t1 t2 t3 t4:Addr):putF "tossed" (.ref t4) (d5 g t1 t2 t3)=d6 g t1 t2 t3 t4:=by with_unfolding_all rfl
theorem pd7 (g t1 t2 t3 t4:Addr):putF "held" (.int 0) (d6 g t1 t2 t3 t4)=d7 g t1 t2 t3 t4:=by with_unfolding_all rfl
theorem pd8 (g t1 t2 t3 t4:Addr):putF "places" (.int 0) (d7 g t1 t2 t3 t4)=dl g t1 t2 0 t3 t4 0 0:=by with_unfolding_all rfl
theorem ok_dinit {f:Addr} {fd:FuncData} (F:Fun K "__init__" "Doubter.__init__" s_dinit f fd) (B:Bl mg) (T:DTxt K mg C) (TG:GTxt K mg CG):FnOk P w K mg base CX0 1 f fd ["self", "game"] (spDInit C CG):=by
  refine F.ok sc_dinit (fun vs H Q E h=>?_) (fun cdv A outer s H vs Q E hr h=>?_)
  · obtain ⟨D,g,dx,ns,ts,p,rfl,_⟩:=h
    rfl
  obtain ⟨D,g,dx,ns,ts,p,rfl,hD,G,gD,q⟩:=h
  refine ⟨_,(pss_cons (ps_fld (pv 0) (pv 1) rfl)
      (pss_cons (ps_fld (pv 0) (pe_tup (pa_cons pe_str (pa_cons (pe_callB call_len_seq rfl B.len PySem.boot_len (pa_cons (pe_fld (pv 1) rfl) pa_nil)) pa_nil))) rfl)
      (pss_cons (ps_fld (pv 0) (pe_tup pa_nil) rfl)
      (pss_cons (ps_fld (pv 0) pe_int rfl)
      (pss_cons (ps_fld (pv 0) (pe_tup pa_nil) rfl)
      (pss_cons (ps_fld (pv 0) (pe_tup pa_nil) rfl)
      (pss_cons (ps_fld (pv 0) pe_int rfl)
      (pss_one (ps_fld (pv 0) pe_int rfl))))))))),?_⟩
  obtain ⟨a,b,d,tv,⟨dg,hg⟩,ha,hb,TS,hd⟩:=G
  have vl:=TS.length
  refine ⟨_,rfl,_,rfl,D,C,dx,_,rfl,hD,T.cl,T.nG,(by show 0 < 1000; decide),?_⟩
  rw [pd1]
  have S1:SameBut D H (upd H D (.ins C dx (d1 g))):=SameBut.upd _
  have h1:upd H D (.ins C dx (d1 g)) D=some (.ins C dx (d1 g)):=upd_same
  generalize upd H D (.ins C dx (d1 g))=H1 at S1 h1
  have nb:=ne_of hb hD (by intro z; cases z)
  refine ⟨_,rfl,g,CG,dg,_,_,rfl,S1 _ _ gD hg,TG.cl,TG.nT,gf_tr ..,b,_,rfl,.inr (SqT.of (S1 _ _ nb hb)),(by show 2≤sizeLine; decide),fun t1 ht1=>?_⟩
  have I1:=Same.new ht1 (.tup [.str "hear", .int (tv.length:Int)])
  have g1:upd H1 t1 (.tup [.str "hear", .int (tv.length:Int)]) t1=some (.tup [.str "hear", .int (tv.length:Int)]):=upd_same
  generalize upd H1 t1 (.tup [.str "hear", .int (tv.length:Int)])=H2 at I1 g1
  refine ⟨_,rfl,D,C,dx,_,rfl,I1 _ _ h1,T.cl,T.nA,(by show 1 < 1000; decide),?_⟩
  rw [pd2]
  have n1:t1 ≠ D:=(ne_of_none h1 ht1).symm
  have S2:SameBut D H2 (upd H2 D (.ins C dx (d2 g t1))):=SameBut.upd _
  have h2:upd H2 D (.ins C dx (d2 g t1)) D=some (.ins C dx (d2 g t1)):=upd_same
  have k1:=S2 _ _ n1 g1
  generalize upd H2 D (.ins C dx (d2 g t1))=H3 at S2 h2 k1
  refine ⟨(by show 0≤sizeLine; decide),fun t2 ht2=>?_⟩
  have I2:=Same.new ht2 (.tup [])
  have g2:upd H3 t2 (.tup []) t2=some (.tup []):=upd_same
  generalize upd H3 t2 (.tup [])=H4 at I2 g2
  refine ⟨_,rfl,D,C,dx,_,rfl,I2 _ _ h2,T.cl,T.nC,(by show 2 < 1000; decide),?_⟩
  rw [pd3]
  have n2:t2 ≠ D:=(ne_of_none h2 ht2).symm
  have S3:SameBut D H4 (upd H4 D (.ins C dx (d3 g t1 t2))):=SameBut.upd _
  have h3:upd H4 D (.ins C dx (d3 g t1 t2)) D=some (.ins C dx (d3 g t1 t2)):=upd_same
  generalize upd H4 D (.ins C dx (d3 g t1 t2))=H5 at S3 h3
  refine ⟨_,rfl,D,C,dx,_,rfl,h3,T.cl,T.nS,(by show 3 < 1000; decide),?_⟩
  rw [pd4]
  have S4:SameBut D H5 (upd H5 D (.ins C dx (d4 g t1 t2))):=SameBut.upd _
  have h4:upd H5 D (.ins C dx (d4 g t1 t2)) D=some (.ins C dx (d4 g t1 t2)):=upd_same
  generalize upd H5 D (.ins C dx (d4 g t1 t2))=H6 at S4 h4
  refine ⟨(by show 0≤sizeLine; decide),fun t3 ht3=>?_⟩
  have I3:=Same.new ht3 (.tup [])
  have g3:upd H6 t3 (.tup []) t3=some (.tup []):=upd_same
  generalize upd H6 t3 (.tup [])=H7 at I3 g3
  refine ⟨_,rfl,D,C,dx,_,rfl,I3 _ _ h4,T.cl,T.nH,(by show 4 < 1000; decide),?_⟩
  rw [pd5]
  have n3:t3 ≠ D:=(ne_of_none h4 ht3).symm
  have S5:SameBut D H7 (upd H7 D (.ins C dx (d5 g t1 t2 t3))):=SameBut.upd _
  have h5:upd H7 D (.ins C dx (d5 g t1 t2 t3)) D=some (.ins C dx (d5 g t1 t2 t3)):=upd_same
  generalize upd H7 D (.ins C dx (d5 g t1 t2 t3))=H8 at S5 h5
  refine ⟨(by show 0≤sizeLine; decide),fun t4 ht4=>?_⟩
  have I4:=Same.new ht4 (.tup [])
  have g4:upd H8 t4 (.tup []) t4=some (.tup []):=upd_same
  generalize upd H8 t4 (.tup [])=H9 at I4 g4
  refine ⟨_,rfl,D,C,dx,_,rfl,I4 _ _ h5,T.cl,T.nT,(by show 5 < 1000; decide),?_⟩
  rw [pd6]
  have n4:t4 ≠ D:=(ne_of_none h5 ht4).symm
  refine ⟨_,rfl,D,C,dx,_,rfl,upd_same,T.cl,T.nE,(by show 6 < 1000; decide),?_⟩
  rw [pd7]
  refine ⟨_,rfl,D,C,dx,_,rfl,upd_same,T.cl,T.nP,(by show 7 < 1000; decide),?_⟩
  rw [pd8]
  have W:∀ {x:Addr} {H':Hp} {o1 o2 o3:HO} {u:HO},x ≠ D→H' x=some u→upd (upd (upd H' D o1) D o2) D o3 x=some u:=fun {x H' o1 o2 o3 u} n e=>by
    rw [upd_ne n,upd_ne n,upd_ne n]
    exact e
  have k2:=S3 _ _ n2 g2
  have k3:=S5 _ _ n3 g3
  refine q _ (S1.trans ((SameBut.of I1).trans (S2.trans ((SameBut.of I2).trans (S3.trans (S4.trans ((SameBut.of I3).trans (S5.trans ((SameBut.of I4).trans ((SameBut.upd _).trans ((SameBut.upd _).trans (SameBut.upd _)))))))))))) ⟨dx,t1,t2,t3,t4,upd_same,?_,?_,?_,W n4 g4⟩
  · rw [vl] at k1
    exact W n1 (I4 _ _ (S5 _ _ n1 (I3 _ _ (S4 _ _ n1 (S3 _ _ n1 (I2 _ _ k1))))))
  · exact W n2 (I4 _ _ (S5 _ _ n2 (I3 _ _ (S4 _ _ n2 k2))))
  · exact W n3 (I4 _ _ k3)
end
section
variable {C CG:Addr}
theorem val_one {p:Int} (hp:1 < p) (x r:Int):val p [x] r=x % p:=by
  have e1:(1:Int) % p=1:=Int.emod_eq_of_lt (by omega) hp
  simp [val,lag,sm,px,wt,e1,Int.one_pow]
theorem iteN' {c A B:Prop} [Decidable c] (hc:¬ c) (h:A):if (!decide c)=true then A else B:=by
  rw [decide_eq_false hc]
  exact iteT h
structure Eq2 (a p r0 f0 r1 f1:Int):Prop where
  r00:0 < r0
  r10:0≤r1
  lt:r1 < r0
  le:r0≤p
  d0:p ∣ f0*a - r0
  d1:p ∣ f1*a - r1
  bz:∃ x y:Int,x*r0+y*r1=1
theorem eq2_start {a p:Int} (hp:Pm p) (ha:¬ p ∣ a):Eq2 a p p 0 (a % p) 1:=by
  have p1:=hp.1
  refine ⟨by omega,Int.emod_nonneg _ (by omega),Int.emod_lt_of_pos _ (by omega),Int.le_refl _,⟨-1,by omega⟩,?_,?_⟩
  · refine ⟨a / p,?_⟩
    have:=Int.emod_add_mul_ediv a p
    rw [Int.one_mul]
    omega
  · obtain ⟨f,k,hk⟩:=hp.2 a ha
    refine ⟨f*(a / p) - k,f,?_⟩
    have:=Int.emod_add_mul_ediv a p
    grind
theorem eq2_next {a p r0 f0 r1 f1:Int} (h:Eq2 a p r0 f0 r1 f1) (c:0 < r1):Eq2 a p r1 f1 (r0 - r0 / r1*r1) (f0 - r0 / r1*f1)∧(r0 - r0 / r1*r1).toNat < r1.toNat∧0≤r0 / r1∧r0 / r1≤p:=by
  have e:=Int.emod_add_mul_ediv r0 r1
  have m0:=Int.emod_nonneg r0 (b:=r1) (by omega)
  have m1:=Int.emod_lt_of_pos r0 c
  have em:r0 - r0 / r1*r1=r0 % r1:=by rw [Int.mul_comm]; omega
  have q0:0≤r0 / r1:=Int.ediv_nonneg (by have:=h.r00; omega) (by omega)
  have q1:r0 / r1≤r0:=Int.ediv_le_self _ (by have:=h.r00; omega)
  refine ⟨⟨c,by omega,by omega,by have:=h.lt; have:=h.le; omega,h.d1,?_,?_⟩,by omega,q0,by have:=h.le; omega⟩
  · obtain ⟨k,hk⟩:=h.d0
    obtain ⟨l,hl⟩:=h.d1
    exact ⟨k - r0 / r1*l,by grind⟩
  · obtain ⟨x,y,hx⟩:=h.bz
    exact ⟨y+r0 / r1*x,x,by grind⟩
theorem eq2_end {a p r0 f0 f1:Int} (h:Eq2 a p r0 f0 0 f1) (p1:1 < p):f0 % p*a % p=1:=by
  obtain ⟨x,y,hx⟩:=h.bz
  have r1:r0=1:=by
    have h0:=h.r00
    have hd:r0 ∣ 1:=⟨x,by grind⟩
    exact Int.le_antisymm (Int.le_of_dvd (by decide) hd) (by omega)
  have hd:=h.d0
  rw [r1] at hd
  rw [Int.mul_emod,Int.emod_emod,← Int.mul_emod]
  have:=Int.emod_emod_of_dvd (f0*a) (Int.dvd_refl p)
  obtain ⟨k,hk⟩:=hd
  have e:f0*a=1+p*k:=by omega
  rw [e,Int.add_mul_emod_self_left]
  exact Int.emod_eq_of_lt (by omega) p1
def spLInv:Sp:=fun vs H Q _=>∃ a p:Int,vs=[.int a,.int p]∧Pm p∧p < 2 ^ 30∧¬ p ∣ a∧∀ (g:Int) (H':Hp),Same H H'→0≤g→g < p→g*a % p=1→Q (.int g) H'
theorem sc_l_inverse:FnScope ["_law_a", "_law_p", "_law_one", "_law_other", "_law_many"] ["_law_a", "_law_p"] (defScope s_l_inverse):=⟨rfl,rfl,rfl,by decide +kernel,rfl,by decide +kernel,by decide +kernel⟩
theorem ok_l_inverse {f:Addr} {fd:FuncData} (F:Fun K "_law_inverse" "_law_inverse" s_l_inverse f fd):FnOk P w K mg base CX0 1 f fd ["_law_a", "_law_p"] spLInv:=by
  refine F.ok sc_l_inverse (fun vs H Q E h=>?_) (fun cdv A outer s H vs Q E hr h=>?_)
  · obtain ⟨a,p,rfl,_⟩:=h
    rfl
  obtain ⟨a,p,rfl,pm,p40,na,q⟩:=h
  have p1:=pm.1
  refine ⟨_,(pss_cons (ps_par (i:=2) (j:=3) rfl sc_l_inverse.nd rfl rfl (by decide) rfl rfl (pa_cons (pe_tup (pa_cons (pv 1) (pa_cons pe_int pa_nil))) (pa_cons (pe_tup (pa_cons (pe_op op_mod (pv 0) (pv 1)) (pa_cons pe_int pa_nil))) pa_nil)) (by with_unfolding_all rfl))
      (pss_cons (ps_while PassesOwn.never (pt_cmpR op_gt (pe_ix ix_tup (pv 3) pe_int (fun _ _=>rfl)) pe_int (nomark _))
        (pss_cons (ps_set (i:=4) sc_l_inverse.nd rfl (Or.inl rfl) (pe_op op_fdiv (pe_ix ix_tup (pv 2) pe_int (fun _ _=>rfl)) (pe_ix ix_tup (pv 3) pe_int (fun _ _=>rfl))))
        (pss_one (ps_par (i:=2) (j:=3) rfl sc_l_inverse.nd rfl rfl (by decide) rfl rfl (pa_cons (pv 3) (pa_cons (pe_tup (pa_cons (pe_op op_sub (pe_ix ix_tup (pv 2) pe_int (fun _ _=>rfl)) (pe_op op_mul (pv 4) (pe_ix ix_tup (pv 3) pe_int (fun _ _=>rfl)))) (pa_cons (pe_op op_sub (pe_ix ix_tup (pv 2) pe_int (fun _ _=>rfl)) (pe_op op_mul (pv 4) (pe_ix ix_tup (pv 3) pe_int (fun _ _=>rfl)))) pa_nil))) pa_nil)) (by with_unfolding_all rfl)))))
      (pss_one (ps_ret (pe_op op_mod (pe_ix ix_tup (pv 2) pe_int (fun _ _=>rfl)) (pv 1)))))),?_⟩
  refine ⟨_,rfl,(by show 2≤sizeLine; decide),fun t1 ht1=>?_⟩
  have I1:=Same.new ht1 (.tup [.int p,.int 0])
  have g1:upd H t1 (.tup [.int p,.int 0]) t1=some (.tup [.int p,.int 0]):=upd_same
  generalize upd H t1 (.tup [.int p,.int 0])=H1 at I1 g1
  refine ⟨_,rfl,_,rfl,_,_,rfl,rfl,(show 0 < p by omega),(by show 2≤sizeLine; decide),fun t2 ht2=>?_⟩
  have I2:=Same.new ht2 (.tup [.int (a % p),.int 1])
  have g2:upd H1 t2 (.tup [.int (a % p),.int 1]) t2=some (.tup [.int (a % p),.int 1]):=upd_same
  generalize upd H1 t2 (.tup [.int (a % p),.int 1])=H2 at I2 g2
  refine ⟨_,_,rfl,?_⟩
  have I03:=I1.trans I2
  refine ⟨fun m σ H'=>∃ (b c:Addr) (r0 f0 r1 f1:Int) (x4:Option V),σ=[some (.int a),some (.int p),some (.ref b),some (.ref c),x4]∧H' b=some (.tup [.int r0,.int f0])∧H' c=some (.tup [.int r1,.int f1])∧Eq2 a p r0 f0 r1 f1∧Same H H'∧m=r1.toNat,
    ⟨_,t1,t2,_,_,_,_,_,rfl,I2 _ _ g1,g2,eq2_start pm na,I03,rfl⟩,?_⟩
  rintro m σ H' ⟨b,c,r0,f0,r1,f1,x4,rfl,hb,hc,eu,S,rfl⟩
  refine ⟨_,rfl,c,_,0,_,rfl,rfl,SqT.of hc,rfl,_,_,rfl,rfl,_,rfl,?_⟩
  by_cases z:0 < r1
  · refine iteD z ?_
    obtain ⟨nx,lt,q0,q1⟩:=eq2_next eu z
    refine ⟨_,fun _ _ h=>h,?_⟩
    refine ⟨_,rfl,b,_,0,_,rfl,rfl,SqT.of hb,rfl,_,rfl,c,_,0,_,rfl,rfl,SqT.of hc,rfl,_,_,rfl,rfl,⟨z,by have:=eu.lt; have:=eu.le; omega⟩,?_⟩
    refine ⟨_,rfl,_,rfl,b,_,0,_,rfl,rfl,SqT.of hb,rfl,_,rfl,_,rfl,c,_,0,_,rfl,rfl,SqT.of hc,rfl,_,_,rfl,rfl,.inl ⟨by omega,by omega⟩,_,_,rfl,rfl,_,rfl,b,_,1,_,rfl,rfl,SqT.of hb,rfl,_,rfl,_,rfl,c,_,1,_,rfl,rfl,SqT.of hc,rfl,_,_,rfl,rfl,.inl ⟨by omega,by omega⟩,_,_,rfl,rfl,(by show 2≤sizeLine; decide),fun t4 ht4=>?_⟩
    have J1:=Same.new ht4 (.tup [.int (r0 - r0 / r1*r1),.int (f0 - r0 / r1*f1)])
    have k1:upd H' t4 (.tup [.int (r0 - r0 / r1*r1),.int (f0 - r0 / r1*f1)]) t4=some (.tup [.int (r0 - r0 / r1*r1),.int (f0 - r0 / r1*f1)]):=upd_same
    generalize upd H' t4 (.tup [.int (r0 - r0 / r1*r1),.int (f0 - r0 / r1*f1)])=H4 at J1 k1
    refine ⟨_,_,rfl,?_⟩
    exact ⟨_,lt,c,t4,_,_,_,_,_,rfl,J1 _ _ hc,k1,nx,S.trans J1,rfl⟩
  · refine iteDF z ?_
    have r10:=eu.r10
    obtain rfl:r1=0:=by omega
    refine ⟨_,rfl,b,_,1,_,rfl,rfl,SqT.of hb,rfl,_,rfl,_,_,rfl,rfl,(show 0 < p by omega),?_⟩
    exact q _ _ S (Int.emod_nonneg _ (by omega)) (Int.emod_lt_of_pos _ (by omega)) (eq2_end eu p1)
def ends (p:Int) (xs:List Int):Int:=(val p xs 0+val p xs 1) % p
def spSaid:Sp:=fun vs H Q _=>∃ (f:Addr) (many due p:Int) (fits:Bool),vs=[.ref f,.int many,.int due,.int p,.bl fits]∧FeedAt H f∧1≤many∧many≤500∧many≤p∧Pm p∧2 < p∧p < 2 ^ 30∧0≤due∧due < p ∧
  ∀ (l:Addr) (xs:List Int) (H':Hp),H l=none→l ≠ f→H' l=some (.lst (xs.map V.int))→FeedAt H' f→SameBut f H H'→(xs.length:Int)=many→PtOk xs p→(ends p xs=due↔fits=true)→Q (.ref l) H'
theorem sc_l_said:FnScope ["_law_feed_here", "_law_many", "_law_due", "_law_p", "_law_fits", "_law_values", "_law_off"] ["_law_feed_here", "_law_many", "_law_due", "_law_p", "_law_fits"] (defScope s_l_said):=⟨rfl,rfl,rfl,by decide +kernel,rfl,by decide +kernel,by decide +kernel⟩
theorem off_iff {p due off:Int} (h0:0≤due) (h1:due < p) (o0:0≤off) (o1:off < p):(due+off) % p=due↔off=0:=by
  constructor
  · intro h
    by_cases c:due+off < p
    · rw [Int.emod_eq_of_lt (by omega) c] at h
      omega
    · have e:(due+off) % p=due+off - p:=by
        rw [← Int.sub_emod_right]
        exact Int.emod_eq_of_lt (by omega) (by omega)
      omega
  · intro h
    rw [h,Int.add_zero]
    exact Int.emod_eq_of_lt h0 h1
theorem ends_two {p:Int} (hp:Pm p) {x y:Int} {r:List Int} (hn:((x::y::r).length:Int)≤p):ends p (x::y::r)=(x+y) % p:=by
  unfold ends
  have e0:=val_at (k:=0) hp hn (by simp)
  have e1:=val_at (k:=1) hp hn (by simp)
  have e0':val p (x::y::r) 0=x % p:=e0
  have e1':val p (x::y::r) 1=y % p:=e1
  rw [e0',e1',← Int.add_emod]
theorem ends_one {p:Int} (p1:1 < p) (x:Int):ends p [x]=(x+x) % p:=by
  unfold ends
  rw [val_one p1,val_one p1,← Int.add_emod]
theorem ok_l_said {f:Addr} {fd:FuncData} (F:Fun K "_law_said" "_law_said" s_l_said f fd) (B:Bl mg) (C_l_take:Cal P w K mg base 1 "_law_take" ["_law_feed_here", "_law_many"] spTake) (C_l_coin:Cal P w K mg base 2 "_law_coin" ["_law_feed_here", "_law_p"] spCoin) (C_l_inverse:Cal P w K mg base 1 "_law_inverse" ["_law_a", "_law_p"] spLInv):FnOk P w K mg base CX0 3 f fd ["_law_feed_here", "_law_many", "_law_due", "_law_p", "_law_fits"] spSaid:=by
  refine F.ok sc_l_said (fun vs H Q E h=>?_) (fun cdv A outer s H vs Q E hr h=>?_)
  · obtain ⟨f,many,due,p,fits,rfl,_⟩:=h
    rfl
  obtain ⟨f,many,due,p,fits,rfl,FA,m1,m500,mp,pm,p2,p40,due0,due1,q⟩:=h
  refine ⟨_,(pss_cons (ps_comp (i:=5) (N:=["_law_feed_here", "_law_p"]) (ix:=[0,3]) sc_l_said.nd rfl (Or.inl rfl) rfl
        (CompScope.two (by with_unfolding_all rfl) (by decide) rfl (by decide) rfl (by decide +kernel) (by first | exact Or.inl rfl | exact Or.inr rfl) (by with_unfolding_all rfl) (by with_unfolding_all rfl) (by with_unfolding_all rfl) (by with_unfolding_all rfl) rfl rfl (by with_unfolding_all rfl) rfl rfl) rfl
        (pi_range1 rfl B.range (pa_cons (pv 1) pa_nil)) (fun _ _ _=>pb_all (pe_cal C_l_coin hr (by decide) rfl (pa_cons (pv 1) (pa_cons (pv 2) pa_nil)))))
      (pss_cons (ps_set (i:=6) sc_l_said.nd rfl (Or.inl rfl) (pe_op op_mul (pe_callTy call_int1 rfl B.int boot_int' (pa_cons (pe_not (pv 4)) pa_nil)) (pe_op op_add pe_int (pe_cal C_l_take hr (by decide) rfl (pa_cons (pv 0) (pa_cons (pe_op op_sub (pv 3) pe_int) pa_nil))))))
      (pss_cons (ps_if (pt_cmpR op_eq (pv 1) pe_int (nomark _))
        (pss_one (ps_asg (pe_op op_mod (pe_op op_mul (pe_op op_add (pv 2) (pv 6)) (pe_cal C_l_inverse hr (by decide) rfl (pa_cons pe_int (pa_cons (pv 3) pa_nil)))) (pv 3)) (pg_sub (pv 5) pe_int set_list)))
        (pss_one (ps_asg (pe_op op_mod (pe_op op_sub (pe_op op_add (pv 2) (pv 6)) (pe_ix ix_list (pv 5) pe_int (fun _ _=>rfl))) (pv 3)) (pg_sub (pv 5) pe_int set_list))))
      (pss_one (ps_ret (pv 5)))))),?_⟩
  refine ⟨_,rfl,many,rfl,by omega,by omega,fun D hD=>?_⟩
  have Df:D ≠ f:=FA.ne hD
  refine comp_range (fun i H'=>∃ xs:List Int,H' D=some (.lst (xs.map V.int))∧xs.length=i∧PtOk xs p∧FeedAt H' f∧SameBut f H H') ⟨[],by rw [upd_same]; rfl,rfl,(fun x hx=>by cases hx),FA.same (Same.new hD _),SameBut.of (Same.new hD _)⟩ ?_ ?_
  · rintro i H1 hi ⟨xs,hl,xl,xo,F1,S1⟩
    refine ⟨_,rfl,_,rfl,f,p,rfl,F1,by omega,by omega,fun r H2 r0 r1 F2 S2=>?_⟩
    have hl2:=S2 _ _ Df hl
    refine ⟨_,hl2,?_,Nx.of hi ⟨xs++[r],?_,?_,?_,?_,fun b o n e=>?_⟩⟩
    · rw [List.length_map]
      exact small1000 (by omega)
    · rw [upd_same,List.map_append]
      rfl
    · rw [List.length_append,List.length_singleton,xl]
    · intro x hx
      rcases List.mem_append.mp hx with h | h
      · exact xo x h
      · rw [List.mem_singleton.mp h]
        exact ⟨r0,r1⟩
    · obtain ⟨u,t,e,z⟩:=F2
      exact ⟨u,t,by rw [upd_ne (Ne.symm Df)]; exact e,z⟩
    · by_cases c:b=D
      · rw [c] at e
        rw [hD] at e
        cases e
      · rw [upd_ne c]
        exact S2 _ _ n (S1 _ _ n e)
  rintro H1 ⟨xs,hl,xl,xo,F1,S1⟩
  obtain ⟨x0,xr,rfl⟩:∃ x0 xr,xs=x0::xr:=by
    cases xs with
    | nil =>
      rw [List.length_nil] at xl
      omega
    | cons a r=>exact ⟨a,r,rfl⟩
  have x0r:=xo x0 (List.mem_cons_self ..)
  refine ⟨_,rfl,_,rfl,.inr ⟨_,rfl,?_⟩⟩
  refine ⟨_,rfl,_,rfl,_,_,rfl,rfl,f,_,rfl,F1,by omega,by omega,fun d H2 d0 d1 F2 S2=>?_⟩
  refine ⟨_,_,rfl,rfl,_,_,rfl,rfl,.inl ⟨by split <;> omega,by split <;> omega⟩,?_⟩
  have hl2:=S2 _ _ Df hl
  obtain ⟨off,eo⟩:∃ off:Int,off=(if (!fits)=true then (1:Int) else 0)*(1+d):=⟨_,rfl⟩
  have o0:0≤off∧off < p∧(off=0↔fits=true):=by
    cases fits with
    | true =>
      have e0:off=0:=by rw [eo]; simp
      exact ⟨by omega,by omega,by simp [e0]⟩
    | false =>
      have e0:off=1+d:=by rw [eo]; simp
      refine ⟨by omega,by omega,?_⟩
      constructor
      · intro h
        omega
      · intro h
        cases h
  obtain ⟨o0,o1,o2⟩:=o0
  have oi:=off_iff due0 due1 o0 o1
  show gName 6 (V.int ((if (!fits)=true then (1:Int) else 0)*(1+d))) _ H2 _
  rw [← eo]
  have S02:SameBut f H H2:=S1.trans S2
  have DN:SameBut f H (upd H2 D (.lst [])):=fun b o n e=>by
    rw [upd_ne (ne_of_none e hD)]
    exact S02 _ _ n e
  have fin:∀ ys:List Int,FeedAt (upd H2 D (.lst (ys.map V.int))) f∧SameBut f H (upd H2 D (.lst (ys.map V.int))):=fun ys=>by
    refine ⟨?_,fun b o n e=>?_⟩
    · obtain ⟨u,t,e,z⟩:=F2
      exact ⟨u,t,by rw [upd_ne (Ne.symm Df)]; exact e,z⟩
    · rw [upd_ne (ne_of_none e hD)]
      exact S02 _ _ n e
  refine ⟨_,rfl,rfl,_,rfl,?_⟩
  by_cases c:many=1
  · refine iteD (congrArg V.int c) ?_
    have xr0:xr=[]:=by
      rw [List.length_cons] at xl
      exact List.eq_nil_of_length_eq_zero (by omega)
    subst xr0
    have n2:¬ p ∣ 2:=fun z=>by
      have:=Int.le_of_dvd (by decide) z
      omega
    refine ⟨_,rfl,_,rfl,_,_,rfl,rfl,_,rfl,2,p,rfl,pm,p40,n2,fun g H3 S3 g0 g1 g2=>?_⟩
    refine ⟨_,_,rfl,rfl,.inr ⟨by omega,by omega⟩,_,rfl,_,_,rfl,rfl,(show 0 < p by omega),?_⟩
    refine ⟨_,rfl,D,_,0,0,rfl,rfl,S3 _ _ hl2,rfl,?_⟩
    have y0:0≤(due+off)*g % p∧(due+off)*g % p < p:=⟨Int.emod_nonneg _ (by omega),Int.emod_lt_of_pos _ (by omega)⟩
    refine ⟨_,rfl,?_⟩
    refine q D [(due+off)*g % p] _ hD Df upd_same ?_ ?_ (by rw [c]; rfl) (fun x hx=>by rw [List.mem_singleton.mp hx]; exact y0) ?_
    · obtain ⟨u,t,e,z⟩:=F2
      exact ⟨u,t,by rw [upd_ne (Ne.symm Df)]; exact S3 _ _ e,z⟩
    · intro b o n e
      rw [upd_ne (ne_of_none e hD)]
      exact S3 _ _ (S02 _ _ n e)
    · rw [ends_one (by omega),← o2,← oi]
      have:((due+off)*g % p+(due+off)*g % p) % p=(due+off) % p:=by
        rw [← Int.add_emod,← Int.two_mul,← Int.mul_assoc,Int.mul_comm 2,Int.mul_assoc,Int.mul_comm 2 g,Int.mul_emod,g2,Int.mul_one,Int.emod_emod]
      rw [this]
  · refine iteDF (fun e=>c (V.int.inj e)) ?_
    obtain ⟨x1,xq,rfl⟩:∃ x1 xq,xr=x1::xq:=by
      cases xr with
      | nil =>
        rw [List.length_cons,List.length_nil] at xl
        omega
      | cons a r=>exact ⟨a,r,rfl⟩
    refine ⟨_,rfl,_,rfl,_,_,rfl,rfl,_,rfl,D,_,0,_,rfl,rfl,SqL.of hl2,at0 _ _,_,_,rfl,rfl,_,rfl,_,_,rfl,rfl,(show 0 < p by omega),?_⟩
    refine ⟨_,rfl,D,_,1,1,rfl,rfl,hl2,?_,?_⟩
    · unfold ixN
      rw [if_pos (by decide),if_pos (by rw [List.length_map,List.length_cons,List.length_cons]; omega)]
      rfl
    have y0:0≤(due+off - x0) % p∧(due+off - x0) % p < p:=⟨Int.emod_nonneg _ (by omega),Int.emod_lt_of_pos _ (by omega)⟩
    refine ⟨_,rfl,?_⟩
    have ml:((x0::(due+off - x0) % p::xq).length:Int)=many:=by
      have:(x0::x1::xq).length=many.toNat:=xl
      rw [List.length_cons,List.length_cons] at this ⊢
      omega
    obtain ⟨f1,f2⟩:=fin (x0::(due+off - x0) % p::xq)
    refine q D (x0::(due+off - x0) % p::xq) _ hD Df upd_same f1 f2 ml (fun x hx=>?_) ?_
    · rcases List.mem_cons.mp hx with h | h
      · rw [h]
        exact x0r
      · rcases List.mem_cons.mp h with h | h
        · rw [h]
          exact y0
        · exact xo x (List.mem_cons_of_mem _ (List.mem_cons_of_mem _ h))
    · rw [ends_two pm (by rw [ml]; exact mp),← o2,← oi]
      have:(x0+(due+off - x0) % p) % p=(due+off) % p:=by
        rw [Int.add_emod,Int.emod_emod,← Int.add_emod]
        congr 1
        omega
      rw [this]
end
abbrev s_AskError:Stmt:=inClass (top 1) 0
abbrev s_NoTurn:Stmt:=inClass (top 6) 0
abbrev s_NoCount:Stmt:=inClass (top 7) 0
abbrev s_NoNumber:Stmt:=inClass (top 8) 0
def FmOk (v:V):Prop:=(∃ i:Int,v=.int i∧0≤i∧i < 1000000000000)∨(∃ y:Str,v=.str y∧y.length≤20)∨v=.non
theorem log_small {n:Int} (h0:0≤n) (h1:n < 1000000000000):n.natAbs.log2 < 1920:=by
  have h2:n.natAbs < 2 ^ 40:=by omega
  by_cases c:n.natAbs=0
  · rw [c]
    decide
  · have:=(Nat.log2_lt c).mpr h2
    omega
theorem FmOk.fm {v:V} (h:FmOk v):∃ y,FmV v y∧y.length≤60:=by
  rcases h with ⟨i,rfl,h0,h1⟩ | ⟨y,rfl,hy⟩ | rfl
  · exact ⟨_,.inl ⟨i,rfl,log_small h0 h1,rfl⟩,Nat.le_trans (PyProof.Rows.toString_length_le h0 (k:=12) (by decide) (by show i < 10 ^ 12; omega)) (by decide)⟩
  · exact ⟨y,.inr (.inl rfl),by omega⟩
  · exact ⟨_,.inr (.inr ⟨rfl,rfl⟩),by decide +kernel⟩
theorem fl1 {a:Str} (ha:a.length≤60):(Str.empty++a).length≤sizeLine:=by
  rw [Str.length_append]
  have:Str.empty.length=0:=rfl
  exact small (by omega)
theorem fl2 {a b:Str} (ha:a.length≤60) (hb:b.length≤60):((Str.empty++a)++b).length≤sizeLine:=by
  rw [Str.length_append,Str.length_append]
  have:Str.empty.length=0:=rfl
  exact small (by omega)
def spAI (K:PySem.W.Frag):Sp:=fun vs H Q _=>∃ (e C f:Addr) (x:V),vs=[.ref e,x]∧H e=some (ExcN C e)∧MkX K C f∧Q .non H
theorem sc_AskError:FnScope ["self", "words"] ["self", "words"] (defScope s_AskError):=⟨rfl,rfl,rfl,by decide +kernel,rfl,by decide +kernel,by decide +kernel⟩
theorem ok_AskError {f:Addr} {fd:FuncData} {dV:Value} (F:FunD K "__init__" "AskError.__init__" s_AskError f fd dV) (hV:mg "ValueError" = none):FnOk P w K mg base CX0 1 f fd ["self", "words"] (spAI K):=by
  refine F.ok sc_AskError (fun vs H Q E h=>?_) (fun cdv A outer s H vs Q E hr h=>?_)
  · obtain ⟨e,C,f,x,rfl,_⟩:=h
    rfl
  obtain ⟨e,C,f,x,rfl,he,M,q⟩:=h
  refine ⟨_,pss_one (ps_expr (pe_valinit rfl hV (pa_cons (pv 0) (pa_cons (pv 1) pa_nil)))),?_⟩
  exact ⟨_,rfl,_,rfl,e,C,f,x,rfl,he,M,q⟩
def spXI (C:Addr) (a:Str):Sp:=fun vs H Q _=>∃ (e:Addr) (v:V),vs=[.ref e,v]∧H e=some (ExcN C e)∧FmOk v∧∀ dx,H dx=none→dx ≠ e→Q .non (upd (upd H dx (.xd [(a,v)])) e (ExcD C e dx))
structure AskC (P:Program) (w:World) (K:PySem.W.Frag) (mg:Str→Option Value) (base:Heap) (CA fA:Addr) (fdA:FuncData):Prop where
  g:mg "AskError" = some (.ref CA)
  c:ClsFn K CA fA "__init__"
  ok:FnOk P w K mg base CX0 1 fA fdA ["self", "words"] (spAI K)
  b:Binds K fdA ["self", "words"] []
section
variable {CA fA:Addr} {fdA:FuncData}
theorem sc_NoTurn:FnScope ["self", "row"] ["self", "row"] (defScope s_NoTurn):=⟨rfl,rfl,rfl,by decide +kernel,rfl,by decide +kernel,by decide +kernel⟩
theorem ok_NoTurn {f C:Addr} {fd:FuncData} {dV:Value} (F:FunD K "__init__" "NoTurn.__init__" s_NoTurn f fd dV) (T:AskC P w K mg base CA fA fdA) (M:MkX K C f) (c:ClsX K C CA) (na:NoAttr K C "row"):FnOk P w K mg base CX0 2 f fd ["self", "row"] (spXI C "row"):=by
  refine F.ok sc_NoTurn (fun vs H Q E h=>?_) (fun cdv A outer s H vs Q E hr h=>?_)
  · obtain ⟨e,v,rfl,_⟩:=h
    rfl
  obtain ⟨e,v,rfl,he,hv,q⟩:=h
  refine ⟨_,pss_cons (ps_expr (pe_clscall rfl T.g T.c T.ok hr T.b .nil pass0 (pa_cons (pv 0) (pa_cons (pe_fstr (pj_cons pe_str (pj_cons (pe_fmtV (pv 1)) pj_nil))) pa_nil)))) (pss_one (ps_fldX (pv 0) (pv 1) rfl)),?_⟩
  obtain ⟨y,fy,hy⟩:=hv.fm
  refine ⟨_,rfl,_,rfl,fl1 (by decide +kernel),_,rfl,y,fy,Nat.le_trans hy (by decide),y,rfl,fl2 (by decide +kernel) hy,fl2 (by decide +kernel) hy,?_⟩
  refine ⟨e,C,f,_,rfl,he,M,?_⟩
  exact ⟨_,rfl,_,rfl,e,C,CA,rfl,he,c,na,q⟩
theorem sc_NoCount:FnScope ["self", "row"] ["self", "row"] (defScope s_NoCount):=⟨rfl,rfl,rfl,by decide +kernel,rfl,by decide +kernel,by decide +kernel⟩
theorem ok_NoCount {f C:Addr} {fd:FuncData} {dV:Value} (F:FunD K "__init__" "NoCount.__init__" s_NoCount f fd dV) (T:AskC P w K mg base CA fA fdA) (M:MkX K C f) (c:ClsX K C CA) (na:NoAttr K C "row"):FnOk P w K mg base CX0 2 f fd ["self", "row"] (spXI C "row"):=by
  refine F.ok sc_NoCount (fun vs H Q E h=>?_) (fun cdv A outer s H vs Q E hr h=>?_)
  · obtain ⟨e,v,rfl,_⟩:=h
    rfl
  obtain ⟨e,v,rfl,he,hv,q⟩:=h
  refine ⟨_,pss_cons (ps_expr (pe_clscall rfl T.g T.c T.ok hr T.b .nil pass0 (pa_cons (pv 0) (pa_cons (pe_fstr (pj_cons pe_str (pj_cons (pe_fmtV (pv 1)) pj_nil))) pa_nil)))) (pss_one (ps_fldX (pv 0) (pv 1) rfl)),?_⟩
  obtain ⟨y,fy,hy⟩:=hv.fm
  refine ⟨_,rfl,_,rfl,fl1 (by decide +kernel),_,rfl,y,fy,Nat.le_trans hy (by decide),y,rfl,fl2 (by decide +kernel) hy,fl2 (by decide +kernel) hy,?_⟩
  refine ⟨e,C,f,_,rfl,he,M,?_⟩
  exact ⟨_,rfl,_,rfl,e,C,CA,rfl,he,c,na,q⟩
theorem sc_NoNumber:FnScope ["self", "row"] ["self", "row"] (defScope s_NoNumber):=⟨rfl,rfl,rfl,by decide +kernel,rfl,by decide +kernel,by decide +kernel⟩
theorem ok_NoNumber {f C:Addr} {fd:FuncData} {dV:Value} (F:FunD K "__init__" "NoNumber.__init__" s_NoNumber f fd dV) (T:AskC P w K mg base CA fA fdA) (M:MkX K C f) (c:ClsX K C CA) (na:NoAttr K C "row"):FnOk P w K mg base CX0 2 f fd ["self", "row"] (spXI C "row"):=by
  refine F.ok sc_NoNumber (fun vs H Q E h=>?_) (fun cdv A outer s H vs Q E hr h=>?_)
  · obtain ⟨e,v,rfl,_⟩:=h
    rfl
  obtain ⟨e,v,rfl,he,hv,q⟩:=h
  refine ⟨_,pss_cons (ps_expr (pe_clscall rfl T.g T.c T.ok hr T.b .nil pass0 (pa_cons (pv 0) (pa_cons (pe_fstr (pj_cons pe_str (pj_cons (pe_fmtV (pv 1)) pj_nil))) pa_nil)))) (pss_one (ps_fldX (pv 0) (pv 1) rfl)),?_⟩
  obtain ⟨y,fy,hy⟩:=hv.fm
  refine ⟨_,rfl,_,rfl,fl1 (by decide +kernel),_,rfl,y,fy,Nat.le_trans hy (by decide),y,rfl,fl2 (by decide +kernel) hy,fl2 (by decide +kernel) hy,?_⟩
  refine ⟨e,C,f,_,rfl,he,M,?_⟩
  exact ⟨_,rfl,_,rfl,e,C,CA,rfl,he,c,na,q⟩
end
theorem ex_made {H:Hp} {e dx C:Addr} {a:Str} {v:V} (h0:H e=none) (h1:upd H e (ExcN C e) dx=none) (h2:dx ≠ e):Same H (upd (upd (upd H e (ExcN C e)) dx (.xd [(a,v)])) e (ExcD C e dx))∧Ex (upd (upd (upd H e (ExcN C e)) dx (.xd [(a,v)])) e (ExcD C e dx)) e C a v:=by
  rw [upd_ne h2] at h1
  refine ⟨fun b o hb=>?_,dx,upd_same,?_⟩
  · rw [upd_ne (ne_of_none hb h0),upd_ne (ne_of_none hb h1),upd_ne (ne_of_none hb h0)]
    exact hb
  · rw [upd_ne h2,upd_same]
theorem mk_sp {H:Hp} {C e:Addr} {a:Str} {v:V} {Q:VK} {E:XK} (hv:FmOk v) (he:H e=none) (h:∀ H2,Same H H2→Ex H2 e C a v→Q .non H2):spXI C a [.ref e,v] (upd H e (ExcN C e)) Q E:=by
  refine ⟨e,v,rfl,upd_same,hv,fun dx h1 h2=>?_⟩
  obtain ⟨s,x⟩:=ex_made (a:=a) (v:=v) he h1 h2
  exact h _ s x
structure NoX (P:Program) (w:World) (K:PySem.W.Frag) (mg:Str→Option Value) (base:Heap) (nm:Str) (C CA f:Addr) (fd:FuncData):Prop where
  made:MkX K C f
  ok:FnOk P w K mg base CX0 2 f fd ["self", "row"] (spXI C "row")
  b:Binds K fd ["self", "row"] [.none]
  cl:ClsX K C CA
  g:mg nm=some (.ref C)
def RaisesNo (C:Addr) (H:Hp) (E:XK):Prop:=∀ (e dx:Addr) (H':Hp),Same H H'→H' e=some (ExcT C e dx)→H' dx=some (.xd [("row", .non)])→E (.ref e) (some dx) H'
theorem raise_no {C CA:Addr} {K:PySem.W.Frag} {H:Hp} {E:XK} {e:Addr} {G:Hp} (c:ClsX K C CA) (r:RaisesNo C H E) (ze:H e=none) (s4:Same H G) (x4:Ex G e C "row" .non) :
    ∃ e' C' CA dx,V.ref e=.ref e'∧G e'=some (ExcD C' e' dx)∧ClsX K C' CA∧E (.ref e') (some dx) (upd G e' (ExcT C' e' dx)):=by
  obtain ⟨dx,e1,e2⟩:=x4
  have hde:dx ≠ e:=fun z=>by
    rw [z,e1] at e2
    cases e2
  refine ⟨e,C,CA,dx,rfl,e1,c,r e dx _ (fun b o hb=>?_) upd_same (by rw [upd_ne hde]; exact e2)⟩
  rw [upd_ne (ne_of_none hb ze)]
  exact s4 _ _ hb
theorem valsN:Vals [V.non] [Value.none]:=.cons rfl .nil
theorem binds1 {K:PySem.W.Frag} {fd:FuncData} {x:Str} {d:Value} (h:∀ (s:Shared) (u:Value),K.In s.heap→BindsTo s fd ⟨[u],[]⟩ [("self", u),(x,d)]):Binds K fd ["self", x] [d]:=fun s us KX hl=>by
  have e:us.length=1:=by simpa using hl
  match us,e with
  | [u],_=>exact h s u KX
theorem clsfc {K:PySem.W.Frag} {C g:Addr} {m:Str} (h:PySem.W.findCls K (.ref C) (.type "type") m=some (.val (.ref g))):(match PySem.W.findCls K (.ref C) (.type "type") m with | some (.val v)=>some v | _=>none)=some (.ref g):=by
  rw [h]
section
variable {C CG:Addr}
theorem iteNq {c A B:Prop} [Decidable c] (hc:¬ c) (h:A):if (!decide c)=true then A else B:=by
  rw [decide_eq_false hc]
  exact iteT h
def spHearR (C CG cT cC:Addr):Sp:=fun vs H Q E=>spHear C CG vs H Q E∨(∃ (D g l:Addr) (z:Db),vs=[.ref D,.ref l]∧DbAt C H D g z∧z.aw.1 ≠ "hear" ∧ RaisesNo cT H E)∨∃ (D g l:Addr) (z:Db) (xs:List V) (n:Int),vs=[.ref D,.ref l]∧DbAt C H D g z∧z.aw=(("hear" : Str),some n)∧H l=some (.lst xs)∧(xs.length:Int) ≠ n∧RaisesNo cC H E
def spTossR (C CG cT cN:Addr):Sp:=fun vs H Q E=>spToss C CG vs H Q E∨(∃ (D g:Addr) (z:Db) (r:Int),vs=[.ref D,.int r]∧DbAt C H D g z∧z.aw.1 ≠ "coin" ∧ RaisesNo cT H E)∨∃ (D g:Addr) (z:Db) (r:Int) (ns:List Str) (ts:List Tr) (p:Int),vs=[.ref D,.int r]∧DbAt C H D g z∧Gm CG H g ns ts p∧z.aw.1 = "coin" ∧ ¬ (0≤r∧r < p)∧RaisesNo cN H E
theorem ok_dhearR {f fC fR cT CA fN cC fNC:Addr} {fd fdC fdR fdN fdNC:FuncData} (F:Fun K "hear" "Doubter.hear" s_dhear f fd) (B:Bl mg) (T:DTxt K mg C) (TG:GTxt K mg CG) (N:NoX P w K mg base "NoTurn" cT CA fN fdN) (NC:NoX P w K mg base "NoCount" cC CA fNC fdNC) (C_is_number:Cal P w K mg base 1 "is_number" ["value", "p"] spIsNum)
    (mC:Meth K C "hear_claims" fC) (GC:FnOk P w K mg base CX0 17 fC fdC ["self", "values"] (spClaims C CG)) (bC:Binds K fdC ["self", "values"] [])
    (mR:Meth K C "hear_row" fR) (GR:FnOk P w K mg base CX0 6 fR fdR ["self", "values"] (spHRow C CG)) (bR:Binds K fdR ["self", "values"] []):FnOk P w K mg base (CXr P w) 18 f fd ["self", "values"] (spHearR C CG cT cC):=by
  refine F.okX sc_dhear (fun vs H Q E h=>?_) (fun cdv A outer s H vs Q E hr h=>?_)
  · rcases h with ⟨D,g,l,z,xs,ns,ts,p,rfl,_⟩ | ⟨D,g,l,z,rfl,_⟩ | ⟨D,g,l,z,xs,n,rfl,_⟩ <;> rfl
  have hr3:Room (2+1) _:=hr.mono (by decide)
  have hr6:Room 6 _:=hr.mono (by decide)
  refine ⟨_,(pss_cons (ps_if (pt_cmpR op_ne (pe_ix ix_tup (pe_fld (pv 0) rfl) pe_int (fun _ _=>rfl)) pe_str (nomark _)) (pss_one (ps_raise (pe_makeX0 N.made N.ok hr3 rfl N.g N.b valsN pass0))) pss_nil)
      (pss_cons (ps_if (pt_cmpR op_ne (pe_callB call_len_seq rfl B.len PySem.boot_len (pa_cons (pv 1) pa_nil)) (pe_ix ix_tup (pe_fld (pv 0) rfl) pe_int (fun _ _=>rfl)) (nomark _)) (pss_one (ps_raise (pe_makeX0 NC.made NC.ok hr3 rfl NC.g NC.b valsN pass0))) pss_nil)
      (pss_cons (ps_if (pt_not (pt_val (pe_callB (call_all rfl) rfl B.all PyProof.Rows.boot_all (pa_cons (pe_comp (N:=["self"]) (ix:=[0]) rfl
          (CompScope.one (by with_unfolding_all rfl) (by decide) rfl (by decide) rfl (by decide +kernel) (by with_unfolding_all rfl) (by with_unfolding_all rfl) (by with_unfolding_all rfl) rfl rfl) rfl
          (pi_list (pv 1)) (fun _ _ _=>pb_all (pe_cal C_is_number hr (by decide) rfl (pa_cons (pv 0) (pa_cons (pe_fldK K (pe_fldK K (pv 1))) pa_nil))))) pa_nil)))) pss_never pss_nil)
      (pss_cons (ps_fld (pv 0) (pe_op op_add (pe_fld (pv 0) rfl) (pe_callB call_len_seq rfl B.len PySem.boot_len (pa_cons (pv 1) pa_nil))) rfl)
      (pss_one (ps_if (pt_cmpR (op_eqD hr.units) (pe_fld (pv 0) rfl) (pe_tup pa_nil) (nomark _))
        (pss_one (ps_expr (pe_meth (pv 0) T.cl mC GC hr bC .nil pass0 (pa_cons (pe_callTy call_tuple_of rfl B.tuple boot_tuple' (pa_cons (pv 1) pa_nil)) pa_nil))))
        (pss_one (ps_expr (pe_meth (pv 0) T.cl mR GR hr6 bR .nil pass0 (pa_cons (pe_callTy call_tuple_of rfl B.tuple boot_tuple' (pa_cons (pv 1) pa_nil)) pa_nil)))))))))),?_⟩
  rcases h with ⟨D,g,l,z,xs,ns,ts,p,rfl,⟨dx,aA,aC,aH,aT,R⟩,G,k,hl,ea,xo,xl,ro,tl,po,q⟩ | ⟨D,g,l,z,rfl,⟨dx,aA,aC,aH,aT,R⟩,hne,rr⟩ | ⟨D,g,l,z,xs,n,rfl,⟨dx,aA,aC,aH,aT,R⟩,ea,hl,hne,rr⟩
  rotate_left
  · refine ⟨_,rfl,D,C,dx,_,_,rfl,R.hD,T.cl,T.nA,dl_a,aA,_,_,_,rfl,rfl,SqT.of R.hA,atI_nat (j:=0) (awV_0 _),rfl,_,rfl,?_⟩
    refine iteNq (fun e=>hne (V.str.inj e)) ?_
    exact ⟨Nat.zero_le _,fun e ze=>mk_sp (.inr (.inr rfl)) ze fun G4 s4 x4=>⟨rfl,raise_no N.cl rr ze s4 x4⟩⟩
  · have hA:=R.hA
    rw [ea] at hA
    have hA:H aA=some (.tup [.str "hear", .int n]):=hA
    refine ⟨_,rfl,D,C,dx,_,_,rfl,R.hD,T.cl,T.nA,dl_a,aA,_,_,_,rfl,rfl,SqT.of hA,atI_nat (j:=0) rfl,rfl,_,rfl,?_⟩
    refine iteNS rfl ?_
    refine ⟨_,rfl,l,_,rfl,.inl (SqL.of hl),_,rfl,D,C,dx,_,_,rfl,R.hD,T.cl,T.nA,dl_a,aA,_,_,_,rfl,rfl,SqT.of hA,atI_nat (j:=1) rfl,rfl,_,rfl,?_⟩
    refine iteNq (fun e=>hne (V.int.inj e)) ?_
    exact ⟨Nat.zero_le _,fun e ze=>mk_sp (.inr (.inr rfl)) ze fun G4 s4 x4=>⟨rfl,raise_no NC.cl rr ze s4 x4⟩⟩
  have gD:=G.ne R.hD dl_g
  have hA:=R.hA
  rw [ea] at hA
  have hA:H aA=some (.tup [.str "hear", .int (xs.length:Int)]):=hA
  refine ⟨_,rfl,D,C,dx,_,_,rfl,R.hD,T.cl,T.nA,dl_a,aA,_,_,_,rfl,rfl,SqT.of hA,atI_nat (j:=0) rfl,rfl,_,rfl,?_⟩
  refine iteNS rfl ?_
  refine ⟨_,rfl,l,_,rfl,.inl (SqL.of hl),_,rfl,D,C,dx,_,_,rfl,R.hD,T.cl,T.nA,dl_a,aA,_,_,_,rfl,rfl,SqT.of hA,atI_nat (j:=1) rfl,rfl,_,rfl,?_⟩
  refine iteNS (by rw [List.length_map]) ?_
  have G':=G
  obtain ⟨a,b,d,tv,⟨dg,hg⟩,ha,hb,TS,hd⟩:=G'
  refine ⟨_,rfl,l,rfl,⟨_,SqL.of hl⟩,fun W hW=>?_⟩
  refine comp_list (K:=K) (xs:=xs.map V.int) (fun i H'=>H' W=some (.lst ((List.replicate i true).map V.bl))∧Same H H') ⟨by rw [upd_same]; rfl,Same.new hW _⟩ (fun i H' _ h=>SqL.of (h.2 _ _ hl)) ?_ ?_
  · rintro i v H2 hv ⟨hW2,S2⟩
    have hi:=(List.getElem?_eq_some_iff.mp hv).1
    rw [List.getElem?_map] at hv
    obtain ⟨n,hn,rfl⟩:=Option.map_eq_some_iff.mp hv
    have nr:=xo n (List.mem_of_getElem? hn)
    refine ⟨_,rfl,_,rfl,D,C,dx,_,_,rfl,S2 _ _ R.hD,T.cl,T.nG,dl_g,g,CG,dg,_,_,rfl,S2 _ _ hg,TG.cl,TG.nF,gf_fi ..,n,p,rfl,?_⟩
    rw [decide_eq_true nr.1,decide_eq_true nr.2]
    refine ⟨_,hW2,?_,Nx.of hi ⟨?_,fun b o e=>?_⟩⟩
    · rw [List.length_map,List.length_replicate]
      rw [List.length_map] at hi
      exact small1000 (by omega)
    · rw [upd_same,List.replicate_succ',List.map_append]
      rfl
    · rw [upd_ne (ne_of_none e hW)]
      exact S2 _ _ e
  rintro H1 ⟨hW1,S1⟩
  refine ⟨W,_,rfl,SqL.of hW1,?_⟩
  have ea:(List.replicate (xs.map V.int).length true).all id=true:=by simp
  rw [ea]
  refine ⟨_,rfl,?_⟩
  refine iteF ?_
  have R1:=R.same S1
  have G1:=G.same S1
  refine ⟨_,rfl,D,C,dx,_,_,rfl,R1.hD,T.cl,T.nP,dl_pl,_,rfl,l,_,rfl,.inl (SqL.of (S1 _ _ hl)),_,_,rfl,rfl,_,rfl,D,C,dx,_,rfl,R1.hD,T.cl,T.nP,dl_len,?_⟩
  rw [put_pl,List.length_map]
  have S2:SameBut D H1 (upd H1 D (.ins C dx (dl g aA aC z.s aH aT z.ed (z.pl+(xs.length:Int))))):=SameBut.upd _
  have R2:DbR C (upd H1 D (.ins C dx (dl g aA aC z.s aH aT z.ed (z.pl+(xs.length:Int))))) D g { z with pl:=z.pl+(xs.length:Int) } dx aA aC aH aT:=DbR.set (z:={ z with pl:=z.pl+(xs.length:Int) }) R1.hD R1.hA R1.hC R1.hH R1.hT
  have G2:=G1.but R1.hD gD S2
  have hl2:upd H1 D (.ins C dx (dl g aA aC z.s aH aT z.ed (z.pl+(xs.length:Int)))) l=some (.lst (xs.map V.int)):=by
    rw [upd_ne (ne_of hl R.hD (by intro z; cases z))]
    exact S1 _ _ hl
  generalize upd H1 D (.ins C dx (dl g aA aC z.s aH aT z.ed (z.pl+(xs.length:Int))))=H2 at S2 R2 G2 hl2
  refine ⟨_,rfl,D,C,dx,_,_,rfl,R2.hD,T.cl,T.nC,dl_c,(by show 0≤sizeLine; decide),fun u hu=>?_⟩
  have I:=Same.new hu (.tup [])
  have R3:=R2.same I
  have hu3:upd H2 u (.tup []) u=some (.tup []):=upd_same
  have hl3:=I _ _ hl2
  have G3:=G2.same I
  generalize upd H2 u (.tup [])=H3 at I R3 hu3 hl3 G3
  have S03:SameBut D H H3:=(SameBut.of S1).trans (S2.trans (SameBut.of I))
  refine ⟨_,_,rep_intsT R3.hC,rep_intsT (xs:=[]) hu3,shaped_ti _,shaped_ti [],_,rfl,?_⟩
  rw [show PyData.eqv (.tuple (z.cl.map PyData.int)) (.tuple (([]:List Int).map PyData.int))=decide (z.cl=[]) from eqv_ti0 z.cl]
  by_cases c:z.cl=[]
  · refine iteD c ?_
    have e:hearD ns ts p xs z=hearC ns ts p xs { z with pl:=z.pl+(xs.length:Int) }:=by
      unfold hearD
      rw [if_pos c]
    rw [e] at q
    refine ⟨_,rfl,D,dx,_,rfl,R3.hD,dl_n6,?_⟩
    refine ⟨_,rfl,l,_,rfl,.inl ⟨SqL.of hl3,fun t ht=>?_⟩⟩
    have J:=Same.new ht (.tup (xs.map V.int))
    exact ⟨D,g,t,_,xs,ns,ts,p,rfl,⟨dx,aA,aC,aH,aT,R3.same J⟩,G3.same J,k,upd_same,tl,po,fun H5 S5 D5=>q H5 (S03.trans ((SameBut.of J).trans S5)) D5⟩
  · refine iteDF c ?_
    have e:hearD ns ts p xs z=hearW p xs { z with pl:=z.pl+(xs.length:Int) }:=by
      unfold hearD
      rw [if_neg c]
    rw [e] at q
    refine ⟨_,rfl,D,dx,_,rfl,R3.hD,dl_n8,?_⟩
    refine ⟨_,rfl,l,_,rfl,.inl ⟨SqL.of hl3,fun t ht=>?_⟩⟩
    have J:=Same.new ht (.tup (xs.map V.int))
    exact ⟨D,g,t,_,xs,ns,ts,p,rfl,⟨dx,aA,aC,aH,aT,R3.same J⟩,G3.same J,k,upd_same,ro c,fun H5 S5 D5=>q H5 (S03.trans ((SameBut.of J).trans S5)) D5⟩
theorem ok_dtossR {f fB fG cT CA fN cN fNN:Addr} {fd fdB fdG fdN fdNN:FuncData} (F:Fun K "toss" "Doubter.toss" s_dtoss f fd) (B:Bl mg) (T:DTxt K mg C) (TG:GTxt K mg CG) (N:NoX P w K mg base "NoTurn" cT CA fN fdN) (NN:NoX P w K mg base "NoNumber" cN CA fNN fdNN) (C_is_number:Cal P w K mg base 1 "is_number" ["value", "p"] spIsNum) (C_value_at:Cal P w K mg base 4 "value_at" ["values", "r", "p"] spVal)
    (mB:Meth K C "begin_rounds" fB) (GB:FnOk P w K mg base CX0 16 fB fdB ["self", "s"] (spBeg C CG)) (bB:Binds K fdB ["self", "s"] [])
    (mG:Meth K C "go_on" fG) (GG:FnOk P w K mg base CX0 15 fG fdG ["self"] (spGo C CG)) (bG:Binds K fdG ["self"] []):FnOk P w K mg base (CXr P w) 17 f fd ["self", "r"] (spTossR C CG cT cN):=by
  refine F.okX sc_dtoss (fun vs H Q E h=>?_) (fun cdv A outer s H vs Q E hr h=>?_)
  · rcases h with ⟨D,g,z,r,ns,ts,p,rfl,_⟩ | ⟨D,g,z,r,rfl,_⟩ | ⟨D,g,z,r,ns,ts,p,rfl,_⟩ <;> rfl
  have hr3:Room (2+1) _:=hr.mono (by decide)
  have hr15:Room 15 _:=hr.mono (by decide)
  refine ⟨_,(pss_cons (ps_if (pt_cmpR op_ne (pe_ix ix_tup (pe_fld (pv 0) rfl) pe_int (fun _ _=>rfl)) pe_str (nomark _)) (pss_one (ps_raise (pe_makeX0 N.made N.ok hr3 rfl N.g N.b valsN pass0))) pss_nil)
      (pss_cons (ps_if (pt_not (pt_val (pe_cal C_is_number hr (by decide) rfl (pa_cons (pv 1) (pa_cons (pe_fld (pe_fld (pv 0) rfl) rfl) pa_nil))))) (pss_one (ps_raise (pe_makeX0 NN.made NN.ok hr3 rfl NN.g NN.b valsN pass0))) pss_nil)
      (pss_cons (ps_fld (pv 0) (pe_op op_add (pe_fld (pv 0) rfl) pe_int) rfl)
      (pss_one (ps_if (pt_cmpR (op_eqD hr.units) (pe_fld (pv 0) rfl) (pe_tup pa_nil) (nomark _))
        (pss_one (ps_expr (pe_meth (pv 0) T.cl mB GB hr bB .nil pass0 (pa_cons (pv 1) pa_nil))))
        (pss_cons (ps_fld (pv 0) (pe_cal C_value_at hr (by decide) rfl (pa_cons (pe_fld (pv 0) rfl) (pa_cons (pv 1) (pa_cons (pe_fld (pe_fld (pv 0) rfl) rfl) pa_nil)))) rfl)
        (pss_cons (ps_fld (pv 0) (pe_op op_catA (pe_fld (pv 0) rfl) (pe_tup (pa_cons (pv 1) pa_nil))) rfl)
        (pss_one (ps_expr (pe_meth0 (pv 0) T.cl mG GG hr15 bG .nil pass0)))))))))),?_⟩
  rcases h with ⟨D,g,z,r,ns,ts,p,rfl,⟨dx,aA,aC,aH,aT,R⟩,G,k,ea,r0,r1,tl,ro,po,q⟩ | ⟨D,g,z,r,rfl,⟨dx,aA,aC,aH,aT,R⟩,hne,rr⟩ | ⟨D,g,z,r,ns,ts,p,rfl,⟨dx,aA,aC,aH,aT,R⟩,G,ea,hne,rr⟩
  rotate_left
  · refine ⟨_,rfl,D,C,dx,_,_,rfl,R.hD,T.cl,T.nA,dl_a,aA,_,_,_,rfl,rfl,SqT.of R.hA,atI_nat (j:=0) (awV_0 _),rfl,_,rfl,?_⟩
    refine iteNq (fun e=>hne (V.str.inj e)) ?_
    exact ⟨Nat.zero_le _,fun e ze=>mk_sp (.inr (.inr rfl)) ze fun G4 s4 x4=>⟨rfl,raise_no N.cl rr ze s4 x4⟩⟩
  · obtain ⟨a,b,d,tv,⟨dg,hg⟩,ha,hb,TS,hd⟩:=G
    refine ⟨_,rfl,D,C,dx,_,_,rfl,R.hD,T.cl,T.nA,dl_a,aA,_,_,_,rfl,rfl,SqT.of R.hA,atI_nat (j:=0) (awV_0 _),rfl,_,rfl,?_⟩
    refine iteNS (congrArg V.str ea) ?_
    refine ⟨_,rfl,_,rfl,D,C,dx,_,_,rfl,R.hD,T.cl,T.nG,dl_g,g,CG,dg,_,_,rfl,hg,TG.cl,TG.nF,gf_fi ..,r,p,rfl,?_⟩
    have e:(decide (0≤r) && decide (r < p))=false:=by
      by_cases c:0≤r
      · rw [decide_eq_false (fun z=>hne ⟨c,z⟩),Bool.and_false]
      · rw [decide_eq_false c,Bool.false_and]
    rw [e]
    refine ⟨_,rfl,?_⟩
    refine iteT ?_
    exact ⟨Nat.zero_le _,fun e ze=>mk_sp (.inr (.inr rfl)) ze fun G4 s4 x4=>⟨rfl,raise_no NN.cl rr ze s4 x4⟩⟩
  have gD:=G.ne R.hD dl_g
  have G':=G
  obtain ⟨a,b,d,tv,⟨dg,hg⟩,ha,hb,TS,hd⟩:=G'
  refine ⟨_,rfl,D,C,dx,_,_,rfl,R.hD,T.cl,T.nA,dl_a,aA,_,_,_,rfl,rfl,SqT.of R.hA,atI_nat (j:=0) (awV_0 _),rfl,_,rfl,?_⟩
  refine iteNS (congrArg V.str ea) ?_
  refine ⟨_,rfl,_,rfl,D,C,dx,_,_,rfl,R.hD,T.cl,T.nG,dl_g,g,CG,dg,_,_,rfl,hg,TG.cl,TG.nF,gf_fi ..,r,p,rfl,?_⟩
  rw [decide_eq_true r0,decide_eq_true r1]
  refine ⟨_,rfl,?_⟩
  refine iteF ?_
  refine ⟨_,rfl,D,C,dx,_,_,rfl,R.hD,T.cl,T.nP,dl_pl,_,_,rfl,rfl,_,rfl,D,C,dx,_,rfl,R.hD,T.cl,T.nP,dl_len,?_⟩
  rw [put_pl]
  have S2:SameBut D H (upd H D (.ins C dx (dl g aA aC z.s aH aT z.ed (z.pl+1)))):=SameBut.upd _
  have R2:DbR C (upd H D (.ins C dx (dl g aA aC z.s aH aT z.ed (z.pl+1)))) D g { z with pl:=z.pl+1 } dx aA aC aH aT:=DbR.set (z:={ z with pl:=z.pl+1 }) R.hD R.hA R.hC R.hH R.hT
  have G2:=G.but R.hD gD S2
  generalize upd H D (.ins C dx (dl g aA aC z.s aH aT z.ed (z.pl+1)))=H2 at S2 R2 G2
  refine ⟨_,rfl,D,C,dx,_,_,rfl,R2.hD,T.cl,T.nH,dl_h,(by show 0≤sizeLine; decide),fun u hu=>?_⟩
  have I:=Same.new hu (.tup [])
  have R3:=R2.same I
  have hu3:upd H2 u (.tup []) u=some (.tup []):=upd_same
  have G3:=G2.same I
  generalize upd H2 u (.tup [])=H3 at I R3 hu3 G3
  have S03:SameBut D H H3:=S2.trans (SameBut.of I)
  refine ⟨_,_,rep_intsT R3.hH,rep_intsT (xs:=[]) hu3,shaped_ti _,shaped_ti [],_,rfl,?_⟩
  rw [show PyData.eqv (.tuple (z.he.map PyData.int)) (.tuple (([]:List Int).map PyData.int))=decide (z.he=[]) from eqv_ti0 z.he]
  by_cases c:z.he=[]
  · refine iteD c ?_
    have e:tossD ns ts p r z=begR ns ts p r { z with pl:=z.pl+1 }:=by
      unfold tossD
      rw [if_pos c]
    rw [e] at q
    refine ⟨_,rfl,D,dx,_,rfl,R3.hD,dl_n7,_,rfl,?_⟩
    exact ⟨D,g,_,r,ns,ts,p,rfl,⟨dx,aA,aC,aH,aT,R3⟩,G3,k,tl,po,fun H5 S5 D5=>q H5 (S03.trans S5) D5⟩
  · refine iteDF c ?_
    obtain ⟨rok,tl'⟩:=ro c
    have e:tossD ns ts p r z=goOn ns ts p { z with pl:=z.pl+1,ed:=val p z.he r,to:=z.to++[r] }:=by
      unfold tossD
      rw [if_neg c]
    rw [e] at q
    have G3':=G3
    obtain ⟨a3,b3,d3,tv3,⟨dg3,hg3⟩,_⟩:=G3'
    refine ⟨_,rfl,D,C,dx,_,_,rfl,R3.hD,T.cl,T.nH,dl_h,_,rfl,_,rfl,D,C,dx,_,_,rfl,R3.hD,T.cl,T.nG,dl_g,g,CG,dg3,_,_,rfl,hg3,TG.cl,TG.nF,gf_fi ..,aH,z.he,r,p,rfl,.inr R3.hH,rok,k.pr,k.p9,r0,r1,fun H4 S4=>?_⟩
    have R4:=R3.same S4
    have G4:=G3.same S4
    refine ⟨_,rfl,D,C,dx,_,rfl,R4.hD,T.cl,T.nE,dl_len,?_⟩
    rw [put_ed]
    have S5:SameBut D H4 (upd H4 D (.ins C dx (dl g aA aC z.s aH aT (val p z.he r) (z.pl+1)))):=SameBut.upd _
    have R5:DbR C (upd H4 D (.ins C dx (dl g aA aC z.s aH aT (val p z.he r) (z.pl+1)))) D g { z with pl:=z.pl+1,ed:=val p z.he r } dx aA aC aH aT:=DbR.set (z:={ z with pl:=z.pl+1,ed:=val p z.he r }) R4.hD R4.hA R4.hC R4.hH R4.hT
    have G5:=G4.but R4.hD gD S5
    generalize upd H4 D (.ins C dx (dl g aA aC z.s aH aT (val p z.he r) (z.pl+1)))=H5 at S5 R5 G5
    have S05:SameBut D H H5:=S03.trans ((SameBut.of S4).trans S5)
    refine ⟨_,rfl,D,C,dx,_,_,rfl,R5.hD,T.cl,T.nT,dl_t,_,rfl,(by show 1≤sizeLine; decide),fun t ht=>?_⟩
    have J:=Same.new ht (.tup [.int r])
    have R6:=R5.same J
    have G6:=G5.same J
    have ht6:upd H5 t (.tup [.int r]) t=some (.tup [.int r]):=upd_same
    generalize upd H5 t (.tup [.int r])=H6 at J R6 G6 ht6
    have n10:=k.n10
    have fin:∀ (x:Addr) (H7:Hp),Same H6 H7→H7 x=some (.tup ((z.to++[r]).map V.int))→(ps_fin:True)→∀ QQ:Hp→Prop,(∀ H8,SameBut D H7 H8→DbR C H8 D g { z with pl:=z.pl+1,ed:=val p z.he r,to:=z.to++[r] } dx aA aC aH x→Gm CG H8 g ns ts p→QQ H8)→QQ (upd H7 D (.ins C dx (dl g aA aC z.s aH x (val p z.he r) (z.pl+1)))):=by
      intro x H7 s7 hx _ QQ hq
      have R7:=R6.same s7
      exact hq _ (SameBut.upd _) (DbR.set (z:={ z with pl:=z.pl+1,ed:=val p z.he r,to:=z.to++[r] }) R7.hD R7.hA R7.hC R7.hH hx) ((G6.same s7).but R7.hD gD (SameBut.upd _))
    have po2:PtOk (z.to++[r]) p:=fun x hx=>by
      rcases List.mem_append.mp hx with h | h
      · exact po x h
      · rw [List.mem_singleton.mp h]
        exact ⟨r0,r1⟩
    have tl2:(z.to++[r]).length≤ns.length:=by
      rw [List.length_append,List.length_singleton]
      omega
    have S06:SameBut D H H6:=S05.trans (SameBut.of J)
    refine ⟨aT,t,_,_,rfl,rfl,SqT.of R6.hT,SqT.of ht6,(fun z=>by cases z),small (by rw [List.length_map]; show z.to.length+1≤1000; omega),fun z0=>?_,fun z0 p7 hp7=>?_⟩
    · have e0:z.to=[]:=by simpa using z0
      refine ⟨_,rfl,D,C,dx,_,rfl,R6.hD,T.cl,T.nT,dl_len,?_⟩
      rw [put_t]
      refine fin t H6 (Same.refl _) (by rw [e0]; exact ht6) trivial _ fun H8 S8 R8 G8=>?_
      refine ⟨_,rfl,D,dx,_,rfl,R8.hD,dl_n9,?_⟩
      exact ⟨D,g,_,ns,ts,p,rfl,⟨dx,aA,aC,aH,t,R8⟩,G8,k,tl2,po2,fun H9 S9 D9=>q H9 (S06.trans (S8.trans S9)) D9⟩
    · have L:=Same.new hp7 (.tup (z.to.map V.int++[.int r]))
      have R7:=R6.same L
      refine ⟨_,rfl,D,C,dx,_,rfl,R7.hD,T.cl,T.nT,dl_len,?_⟩
      rw [put_t]
      refine fin p7 _ L (by rw [upd_same,List.map_append]; rfl) trivial _ fun H8 S8 R8 G8=>?_
      refine ⟨_,rfl,D,dx,_,rfl,R8.hD,dl_n9,?_⟩
      exact ⟨D,g,_,ns,ts,p,rfl,⟨dx,aA,aC,aH,p7,R8⟩,G8,k,tl2,po2,fun H9 S9 D9=>q H9 (S06.trans ((SameBut.of L).trans (S8.trans S9))) D9⟩
end
section
variable {C CG:Addr}
theorem ok_dlooked {f:Addr} {fd:FuncData} (F:Fun K "looked" "Doubter.looked" s_dlooked f fd) (T:DTxt K mg C) (sc:FnScope ["self"] ["self"] (defScope s_dlooked):=by exact ⟨rfl,rfl,rfl,by decide +kernel,rfl,by decide +kernel,by decide +kernel⟩):FnOk P w K mg base CX0 1 f fd ["self"] (spOf C fun z v _=>v=.int z.pl):=by
  refine F.ok sc (fun vs H Q E h=>?_) (fun cdv A outer s H vs Q E hr h=>?_)
  · obtain ⟨D,g,z,rfl,_⟩:=h
    rfl
  obtain ⟨D,g,z,rfl,⟨dx,aA,aC,aH,aT,R⟩,q⟩:=h
  refine ⟨_,(pss_one (ps_ret (pe_fld (pv 0) rfl))),?_⟩
  exact ⟨_,rfl,D,C,dx,_,_,rfl,R.hD,T.cl,T.nP,dl_pl,q _ rfl⟩
def GmA (CG:Addr) (H:Hp) (g a b d:Addr) (ns:List Str) (tv:List V) (ts:List Tr) (p:Int):Prop:=GameAt CG H g a b d p∧H a=some (.tup (ns.map V.str))∧H b=some (.tup tv)∧TreesAt H tv ts∧H d=some (.lst ((ns.map (degOf ts)).map V.int))
theorem GmA.gm {H:Hp} {g a b d:Addr} {ns:List Str} {tv:List V} {ts:List Tr} {p:Int} (h:GmA CG H g a b d ns tv ts p):Gm CG H g ns ts p:=⟨a,b,d,tv,h⟩
theorem GmA.same {H H':Hp} {g a b d:Addr} {ns:List Str} {tv:List V} {ts:List Tr} {p:Int} (h:GmA CG H g a b d ns tv ts p) (s:Same H H'):GmA CG H' g a b d ns tv ts p:=by
  obtain ⟨h1,h2,h3,h4,h5⟩:=h
  exact ⟨h1.same s,s _ _ h2,s _ _ h3,h4.mono (keepT_same s),s _ _ h5⟩
theorem GmA.but {H H':Hp} {g a b d D dx C':Addr} {ns:List Str} {tv:List V} {ts:List Tr} {p:Int} {fs:List (Str × V)} (h:GmA CG H g a b d ns tv ts p) (hD:H D=some (.ins C' dx fs)) (hg:g ≠ D) (s:SameBut D H H'):GmA CG H' g a b d ns tv ts p:=by
  obtain ⟨⟨dx',e⟩,h2,h3,h4,h5⟩:=h
  exact ⟨⟨dx',s _ _ hg e⟩,s _ _ (ne_of h2 hD (by intro z; cases z)) h2,s _ _ (ne_of h3 hD (by intro z; cases z)) h3,h4.mono (fun c xs hc=>s _ _ (ne_of hc hD (by intro z; cases z)) hc),s _ _ (ne_of h5 hD (by intro z; cases z)) h5⟩
theorem GmA.feed {H H':Hp} {g a b d f:Addr} {ns:List Str} {tv:List V} {ts:List Tr} {p:Int} (h:GmA CG H g a b d ns tv ts p) (F:FeedAt H f) (df:d ≠ f) (s:SameBut f H H'):GmA CG H' g a b d ns tv ts p:=by
  obtain ⟨⟨dx',e⟩,h2,h3,h4,h5⟩:=h
  exact ⟨⟨dx',s _ _ (ne_feed F e (fun _ z=>by cases z)) e⟩,s _ _ (ne_feed F h2 (fun _ z=>by cases z)) h2,s _ _ (ne_feed F h3 (fun _ z=>by cases z)) h3,h4.mono (fun c xs hc=>s _ _ (ne_feed F hc (fun _ z=>by cases z)) hc),s _ _ df h5⟩
theorem DbAt.feed {H H':Hp} {D g f:Addr} {z:Db} (h:DbAt C H D g z) (F:FeedAt H f) (s:SameBut f H H'):DbAt C H' D g z:=by
  obtain ⟨dx,aA,aC,aH,aT,R⟩:=h
  exact ⟨dx,aA,aC,aH,aT,s _ _ (ne_feed F R.hD (fun _ z=>by cases z)) R.hD,s _ _ (ne_feed F R.hA (fun _ z=>by cases z)) R.hA,s _ _ (ne_feed F R.hC (fun _ z=>by cases z)) R.hC,s _ _ (ne_feed F R.hH (fun _ z=>by cases z)) R.hH,s _ _ (ne_feed F R.hT (fun _ z=>by cases z)) R.hT⟩
theorem feed_ins {H H':Hp} {f D dx C':Addr} {fs:List (Str × V)} (F:FeedAt H f) (hD:H D=some (.ins C' dx fs)) (s:SameBut D H H'):FeedAt H' f:=by
  have n:D ≠ f:=ne_feed F hD (fun _ z=>by cases z)
  obtain ⟨u,t,e,r⟩:=F
  exact ⟨u,t,s _ _ (Ne.symm n) e,r⟩
structure Wd (C CG:Addr) (H:Hp) (f D g a b d l:Addr) (z:Db) (ns:List Str) (tv:List V) (ts:List Tr) (p:Int):Prop where
  F:FeedAt H f
  Dd:DbAt C H D g z
  G:GmA CG H g a b d ns tv ts p
  L:H l=some (.lst ((ns.map (degOf ts)).map V.int))
  df:d ≠ f
  lf:l ≠ f
variable {H H':Hp} {f D g a b d l:Addr} {z z':Db} {ns:List Str} {tv:List V} {ts:List Tr} {p:Int}
theorem Wd.same (h:Wd C CG H f D g a b d l z ns tv ts p) (s:Same H H'):Wd C CG H' f D g a b d l z ns tv ts p:=⟨h.F.same s,h.Dd.same s,h.G.same s,s _ _ h.L,h.df,h.lf⟩
theorem Wd.feed (h:Wd C CG H f D g a b d l z ns tv ts p) (s:SameBut f H H') (F':FeedAt H' f):Wd C CG H' f D g a b d l z ns tv ts p:=⟨F',h.Dd.feed h.F s,h.G.feed h.F h.df s,s _ _ h.lf h.L,h.df,h.lf⟩
theorem Wd.step (h:Wd C CG H f D g a b d l z ns tv ts p) (s:SameBut D H H') (D':DbAt C H' D g z'):Wd C CG H' f D g a b d l z' ns tv ts p:=by
  obtain ⟨dx,aA,aC,aH,aT,R⟩:=id h.Dd
  have gD:=h.G.gm.ne R.hD dl_g
  exact ⟨feed_ins h.F R.hD s,D',h.G.but R.hD gD s,s _ _ (ne_of h.L R.hD (by intro z; cases z)) h.L,h.df,h.lf⟩
theorem Wd.ins (h:Wd C CG H f D g a b d l z ns tv ts p):∃ dx fs,H D=some (.ins C dx fs)∧fs.lookup ("waits" : Str)=none∧fs.lookup ("due" : Str)=none∧fs.lookup ("looked" : Str)=none∧fs.lookup ("hear" : Str)=none∧fs.lookup ("toss" : Str)=none:=by
  obtain ⟨dx,aA,aC,aH,aT,R⟩:=id h.Dd
  exact ⟨dx,_,R.hD,dl_n1,dl_n2,dl_n3,dl_n4,dl_n5⟩
structure AtR (ns:List Str) (ts:List Tr) (p:Int) (k:Nat) (L:Int) (z:Db):Prop where
  cl:z.cl ≠ []
  to:z.to.length=k
  po:PtOk z.to p
  e0:0≤z.ed
  e1:z.ed < p
  hd:k < ns.length→z.aw=(("hear" : Str),some (degOf ts (ns.getD k "")+1))∧z.pl=L
  en:ns.length≤k→z.pl=L+szs ts∧z.aw=(if z.ed=hor z.s p (ts.map fun t=>t.worth ns z.to p) then (("believed" : Str),none) else (("caught" : Str),some ((z.to.length:Int)+1)))
theorem row_ok {xs:List Int} (k:GmK ns ts p) {x:Str} (hx:x ∈ ns) (hl:(xs.length:Int)=degOf ts x+1) (h5:xs.length≤500) (po:PtOk xs p):RowOk xs p:=by
  have dr:=k.deg x hx
  have p9:=k.p9
  refine ⟨by omega,h5,by omega,fun j=>?_⟩
  rw [List.getD_eq_getElem?_getD]
  cases e:xs[j]? with
  | none=>exact ⟨Int.le_refl _,by show (0:Int) < 2 ^ 40; decide⟩
  | some v =>
    have:=po v (List.mem_of_getElem? e)
    exact ⟨this.1,by show v < 2 ^ 40; omega⟩
theorem deg_400 (k:GmK ns ts p) (x:Str):0≤degOf ts x∧degOf ts x≤400:=by
  have t0:ts ≠ []:=fun z=>by have:=k.t1; rw [z] at this; cases this
  have:=maxD_mem (ns:=ts.map fun t=>(t.names.count x:Int)) (by simpa using t0)
  obtain ⟨t,ht,e⟩:=List.mem_map.mp this
  unfold degOf
  rw [← e]
  have h1:=List.count_le_length (a:=x) (l:=t.names)
  have h2:=t.names_len
  have h3:=(k.tok t ht).2.2.2
  omega
end
section
variable {C CG:Addr}
abbrev s_dtwin:Stmt:=inClass s_doubter 11
def spTwin (C CG:Addr):Sp:=fun vs H Q _=>∃ (D g:Addr) (z:Db) (ns:List Str) (ts:List Tr) (p:Int),vs=[.ref D]∧DbAt C H D g z∧Gm CG H g ns ts p∧∀ (D2:Addr) (H':Hp),H D2=none→Same H H'→DbAt C H' D2 g z→Q (.ref D2) H'
theorem sc_dtwin:FnScope ["self", "other"] ["self"] (defScope s_dtwin):=⟨rfl,rfl,rfl,by decide +kernel,rfl,by decide +kernel,by decide +kernel⟩
theorem ok_dtwin {f fD:Addr} {fd fdD:FuncData} (F:Fun K "twin" "Doubter.twin" s_dtwin f fd) (T:DTxt K mg C) (MD:Mk K C fD) (GD:FnOk P w K mg base CX0 1 fD fdD ["self", "game"] (spDInit C CG)) (bD:Binds K fdD ["self", "game"] []):FnOk P w K mg base CX0 3 f fd ["self"] (spTwin C CG):=by
  refine F.ok sc_dtwin (fun vs H Q E h=>?_) (fun cdv A outer s H vs Q E hr h=>?_)
  · obtain ⟨D,g,z,ns,ts,p,rfl,_⟩:=h
    rfl
  obtain ⟨D,g,z,ns,ts,p,rfl,⟨dx,aA,aC,aH,aT,R⟩,G,q⟩:=h
  have hr2:Room (1+1) _:=hr.mono (by decide)
  refine ⟨_,(pss_cons (ps_set (i:=1) sc_dtwin.nd rfl (Or.inl rfl) (pe_make MD GD hr2 rfl T.mgC bD .nil pass0 (pa_cons (pe_fld (pv 0) rfl) pa_nil)))
      (pss_cons (ps_fld (pv 1) (pe_fld (pv 0) rfl) rfl)
      (pss_cons (ps_fld (pv 1) (pe_fld (pv 0) rfl) rfl)
      (pss_cons (ps_fld (pv 1) (pe_fld (pv 0) rfl) rfl)
      (pss_cons (ps_fld (pv 1) (pe_fld (pv 0) rfl) rfl)
      (pss_cons (ps_fld (pv 1) (pe_fld (pv 0) rfl) rfl)
      (pss_cons (ps_fld (pv 1) (pe_fld (pv 0) rfl) rfl)
      (pss_cons (ps_fld (pv 1) (pe_fld (pv 0) rfl) rfl)
      (pss_one (ps_ret (pv 1))))))))))),?_⟩
  refine ⟨_,rfl,D,C,dx,_,_,rfl,R.hD,T.cl,T.nG,dl_g,fun D2 dD nD ndD neD=>?_⟩
  have s10:Same H (upd (upd H dD (.own D2)) D2 (.ins C dD [])):=fun b o e=>by
    rw [upd_ne (ne_of_none e nD),upd_ne (ne_of_none e ndD)]
    exact e
  have gD:g ≠ D2:=by
    obtain ⟨a,b,d,tv,⟨dg,hg⟩,_⟩:=id G
    exact ne_of_none hg nD
  refine ⟨D2,g,dD,ns,ts,p,rfl,upd_same,G.same s10,gD,fun H0 S0 D0=>⟨rfl,?_⟩⟩
  have S00:Same H H0:=fun b o e=>S0 b o (ne_of_none e nD) (s10 b o e)
  have nDD:D ≠ D2:=ne_of_none R.hD nD
  obtain ⟨dx2,aA2,aC2,aH2,aT2,R2⟩:=D0
  have h0:=R2.hD
  generalize (Db.new ts).s=s2,(Db.new ts).ed=ed2,(Db.new ts).pl=pl2 at h0
  have hD0:=S00 _ _ R.hD
  refine ⟨_,rfl,D,C,dx,_,_,rfl,hD0,T.cl,T.nA,dl_a,_,rfl,D2,C,dx2,_,rfl,h0,T.cl,T.nA,dl_len,?_⟩
  rw [put_a]
  have U0:SameBut D2 H0 (upd H0 D2 (.ins C dx2 (dl g aA aC2 s2 aH2 aT2 ed2 pl2))):=SameBut.upd _
  have h1:upd H0 D2 (.ins C dx2 (dl g aA aC2 s2 aH2 aT2 ed2 pl2)) D2=some (.ins C dx2 (dl g aA aC2 s2 aH2 aT2 ed2 pl2)):=upd_same
  have hD1:=U0 _ _ nDD hD0
  generalize upd H0 D2 (.ins C dx2 (dl g aA aC2 s2 aH2 aT2 ed2 pl2))=H1 at U0 h1 hD1
  refine ⟨_,rfl,D,C,dx,_,_,rfl,hD1,T.cl,T.nC,dl_c,_,rfl,D2,C,dx2,_,rfl,h1,T.cl,T.nC,dl_len,?_⟩
  rw [put_c]
  have U1:SameBut D2 H1 (upd H1 D2 (.ins C dx2 (dl g aA aC s2 aH2 aT2 ed2 pl2))):=SameBut.upd _
  have h2:upd H1 D2 (.ins C dx2 (dl g aA aC s2 aH2 aT2 ed2 pl2)) D2=some (.ins C dx2 (dl g aA aC s2 aH2 aT2 ed2 pl2)):=upd_same
  have hD2:=U1 _ _ nDD hD1
  generalize upd H1 D2 (.ins C dx2 (dl g aA aC s2 aH2 aT2 ed2 pl2))=H2 at U1 h2 hD2
  refine ⟨_,rfl,D,C,dx,_,_,rfl,hD2,T.cl,T.nS,dl_s,_,rfl,D2,C,dx2,_,rfl,h2,T.cl,T.nS,dl_len,?_⟩
  rw [put_s]
  have U2:SameBut D2 H2 (upd H2 D2 (.ins C dx2 (dl g aA aC z.s aH2 aT2 ed2 pl2))):=SameBut.upd _
  have h3:upd H2 D2 (.ins C dx2 (dl g aA aC z.s aH2 aT2 ed2 pl2)) D2=some (.ins C dx2 (dl g aA aC z.s aH2 aT2 ed2 pl2)):=upd_same
  have hD3:=U2 _ _ nDD hD2
  generalize upd H2 D2 (.ins C dx2 (dl g aA aC z.s aH2 aT2 ed2 pl2))=H3 at U2 h3 hD3
  refine ⟨_,rfl,D,C,dx,_,_,rfl,hD3,T.cl,T.nH,dl_h,_,rfl,D2,C,dx2,_,rfl,h3,T.cl,T.nH,dl_len,?_⟩
  rw [put_h]
  have U3:SameBut D2 H3 (upd H3 D2 (.ins C dx2 (dl g aA aC z.s aH aT2 ed2 pl2))):=SameBut.upd _
  have h4:upd H3 D2 (.ins C dx2 (dl g aA aC z.s aH aT2 ed2 pl2)) D2=some (.ins C dx2 (dl g aA aC z.s aH aT2 ed2 pl2)):=upd_same
  have hD4:=U3 _ _ nDD hD3
  generalize upd H3 D2 (.ins C dx2 (dl g aA aC z.s aH aT2 ed2 pl2))=H4 at U3 h4 hD4
  refine ⟨_,rfl,D,C,dx,_,_,rfl,hD4,T.cl,T.nT,dl_t,_,rfl,D2,C,dx2,_,rfl,h4,T.cl,T.nT,dl_len,?_⟩
  rw [put_t]
  have U4:SameBut D2 H4 (upd H4 D2 (.ins C dx2 (dl g aA aC z.s aH aT ed2 pl2))):=SameBut.upd _
  have h5:upd H4 D2 (.ins C dx2 (dl g aA aC z.s aH aT ed2 pl2)) D2=some (.ins C dx2 (dl g aA aC z.s aH aT ed2 pl2)):=upd_same
  have hD5:=U4 _ _ nDD hD4
  generalize upd H4 D2 (.ins C dx2 (dl g aA aC z.s aH aT ed2 pl2))=H5 at U4 h5 hD5
  refine ⟨_,rfl,D,C,dx,_,_,rfl,hD5,T.cl,T.nE,dl_ed,_,rfl,D2,C,dx2,_,rfl,h5,T.cl,T.nE,dl_len,?_⟩
  rw [put_ed]
  have U5:SameBut D2 H5 (upd H5 D2 (.ins C dx2 (dl g aA aC z.s aH aT z.ed pl2))):=SameBut.upd _
  have h6:upd H5 D2 (.ins C dx2 (dl g aA aC z.s aH aT z.ed pl2)) D2=some (.ins C dx2 (dl g aA aC z.s aH aT z.ed pl2)):=upd_same
  have hD6:=U5 _ _ nDD hD5
  generalize upd H5 D2 (.ins C dx2 (dl g aA aC z.s aH aT z.ed pl2))=H6 at U5 h6 hD6
  refine ⟨_,rfl,D,C,dx,_,_,rfl,hD6,T.cl,T.nP,dl_pl,_,rfl,D2,C,dx2,_,rfl,h6,T.cl,T.nP,dl_len,?_⟩
  rw [put_pl]
  have U6:SameBut D2 H6 (upd H6 D2 (.ins C dx2 (dl g aA aC z.s aH aT z.ed z.pl))):=SameBut.upd _
  have h7:upd H6 D2 (.ins C dx2 (dl g aA aC z.s aH aT z.ed z.pl)) D2=some (.ins C dx2 (dl g aA aC z.s aH aT z.ed z.pl)):=upd_same
  have hD7:=U6 _ _ nDD hD6
  generalize upd H6 D2 (.ins C dx2 (dl g aA aC z.s aH aT z.ed z.pl))=H7 at U6 h7 hD7
  have U:SameBut D2 H0 H7:=U0.trans (U1.trans (U2.trans (U3.trans (U4.trans (U5.trans U6)))))
  have S07:Same H H7:=fun b o e=>U b o (ne_of_none e nD) (S00 b o e)
  exact ⟨_,rfl,q D2 H7 nD S07 ⟨dx2,aA,aC,aH,aT,h7,S07 _ _ R.hA,S07 _ _ R.hC,S07 _ _ R.hH,S07 _ _ R.hT⟩⟩
end
section
variable {C CG cT cC cN:Addr}
structure HearOk (ns:List Str) (p:Int) (z:Db) (xs:List Int):Prop where
  aw:z.aw=(("hear" : Str),some (xs.length:Int))
  xo:PtOk xs p
  x5:xs.length≤500
  ro:z.cl ≠ []→RowOk xs p
  tl:z.to.length≤ns.length
  po:PtOk z.to p
structure TossOk (ns:List Str) (p:Int) (z:Db) (r:Int):Prop where
  aw:z.aw.1 = "coin"
  r0:0≤r
  r1:r < p
  tl:z.to.length≤ns.length
  ro:z.he ≠ []→RowOk z.he p∧z.to.length < ns.length
  po:PtOk z.to p
inductive Ev where
  | hear (xs:List Int)
  | toss (r:Int)
def Ev.Ok (ns:List Str) (p:Int) (z:Db):Ev→Prop
  | .hear xs=>HearOk ns p z xs
  | .toss r=>TossOk ns p z r
def Ev.step (ns:List Str) (ts:List Tr) (p:Int) (z:Db):Ev→Db
  | .hear xs=>hearD ns ts p xs z
  | .toss r=>tossD ns ts p r z
def runs (ns:List Str) (ts:List Tr) (p:Int) (es:List Ev):Db:=es.foldl (fun z e=>e.step ns ts p z) (Db.new ts)
theorem runs_snoc {ns:List Str} {ts:List Tr} {p:Int} (es:List Ev) (e:Ev):runs ns ts p (es++[e])=e.step ns ts p (runs ns ts p es):=by
  unfold runs
  rw [List.foldl_append]
  rfl
def Ran (ns:List Str) (ts:List Tr) (p:Int) (es:List Ev):Prop:=∀ (i:Nat) (e:Ev),es[i]?=some e→e.Ok ns p (runs ns ts p (es.take i))
theorem Ran.nil {ns:List Str} {ts:List Tr} {p:Int}:Ran ns ts p []:=fun i e h=>by cases h
theorem Ran.snoc {ns:List Str} {ts:List Tr} {p:Int} {es:List Ev} {e:Ev} (h:Ran ns ts p es) (he:e.Ok ns p (runs ns ts p es)):Ran ns ts p (es++[e]):=fun i x hx=>by
  by_cases c:i < es.length
  · rw [List.getElem?_append_left c] at hx
    rw [List.take_append_of_le_length (Nat.le_of_lt c)]
    exact h i x hx
  · rw [List.getElem?_append_right (by omega)] at hx
    have:i - es.length=0:=by
      have:=(List.getElem?_eq_some_iff.mp hx).1
      rw [List.length_singleton] at this
      omega
    rw [this] at hx
    cases hx
    have:i=es.length:=by omega
    rw [this,List.take_left']
    · exact he
    · rfl
def EvAt (H:Hp) (S:List Addr) (v:V):Ev→Prop
  | .hear xs=>∃ a l,v=.ref a∧H a=some (.tup [.str "hear", .ref l])∧H l=some (.lst (xs.map V.int))∧l ∉ S
  | .toss r=>∃ a,v=.ref a∧H a=some (.tup [.str "toss", .int r])
def LogAt (H:Hp) (S:List Addr) (l:Addr) (es:List Ev):Prop:=l ∉ S∧∃ vs:List V,H l=some (.lst vs)∧vs.length=es.length∧∀ (i:Nat) (v:V) (e:Ev),vs[i]?=some v→es[i]?=some e→EvAt H S v e
def Keep (S:List Addr) (H H':Hp):Prop:=∀ b o,b ∉ S→(∀ C dx fs,o ≠ .ins C dx fs)→H b=some o→H' b=some o
theorem Keep.trans {S:List Addr} {H H' H'':Hp} (h:Keep S H H') (h':Keep S H' H''):Keep S H H'':=fun b o n i e=>h' b o n i (h b o n i e)
theorem Keep.same {S:List Addr} {H H':Hp} (s:Same H H'):Keep S H H':=fun b o _ _ e=>s b o e
theorem Keep.mem {S:List Addr} {H H':Hp} {f:Addr} (s:SameBut f H H') (hf:f ∈ S):Keep S H H':=fun b o n _ e=>s b o (fun z=>n (z ▸ hf)) e
theorem EvAt.keep {S:List Addr} {H H':Hp} {v:V} {e:Ev} (h:EvAt H S v e) (k:Keep S H H') (hS:∀ x ∈ S,∃ ys,H x=some (.lst ys)):EvAt H' S v e:=by
  have nt:∀ {a:Addr} {t:List V},H a=some (.tup t)→a ∉ S:=fun {a t} h z=>by
    obtain ⟨ys,e⟩:=hS a z
    rw [h] at e
    cases e
  cases e with
  | hear xs =>
    obtain ⟨a,l,rfl,h1,h2,h3⟩:=h
    exact ⟨a,l,rfl,k _ _ (nt h1) (fun _ _ _ z=>by cases z) h1,k _ _ h3 (fun _ _ _ z=>by cases z) h2,h3⟩
  | toss r =>
    obtain ⟨a,rfl,h1⟩:=h
    exact ⟨a,rfl,k _ _ (nt h1) (fun _ _ _ z=>by cases z) h1⟩
theorem LogAt.keep {S:List Addr} {H H':Hp} {l:Addr} {es:List Ev} (h:LogAt H S l es) (k:Keep S H H') (hS:∀ x ∈ S,∃ ys,H x=some (.lst ys)):LogAt H' S l es:=by
  obtain ⟨n,vs,h1,h2,h3⟩:=h
  exact ⟨n,vs,k _ _ n (fun _ _ _ z=>by cases z) h1,h2,fun i v e hv he=>(h3 i v e hv he).keep k hS⟩
def spState (C:Addr):Sp:=fun vs H Q _=>∃ (D g:Addr) (z:Db),vs=[.ref D]∧DbAt C H D g z∧∀ (t u:Addr) (H':Hp),Same H H'→H' t=some (.tup [.ref u,.int z.ed,.int z.pl])→H' u=some (.tup (awV z.aw))→Q (.ref t) H'
theorem sc_l_state:FnScope ["_law_doubter"] ["_law_doubter"] (defScope s_l_state):=⟨rfl,rfl,rfl,by decide +kernel,rfl,by decide +kernel,by decide +kernel⟩
theorem ok_l_state {f fU fW fL:Addr} {fd fdU fdW fdL:FuncData} (F:Fun K "_law_state" "_law_state" s_l_state f fd) (T:DTxt K mg C)
    (mU:Meth K C "due" fU) (GU:FnOk P w K mg base CX0 1 fU fdU ["self"] (spOf C fun z v _=>v=.int z.ed)) (bU:Binds K fdU ["self"] [])
    (mW:Meth K C "waits" fW) (GW:FnOk P w K mg base CX0 1 fW fdW ["self"] (spOf C fun z v H=>∃ a,v=.ref a∧H a=some (.tup (awV z.aw)))) (bW:Binds K fdW ["self"] [])
    (mL:Meth K C "looked" fL) (GL:FnOk P w K mg base CX0 1 fL fdL ["self"] (spOf C fun z v _=>v=.int z.pl)) (bL:Binds K fdL ["self"] []):FnOk P w K mg base CX0 2 f fd ["_law_doubter"] (spState C):=by
  refine F.ok sc_l_state (fun vs H Q E h=>?_) (fun cdv A outer s H vs Q E hr h=>?_)
  · obtain ⟨D,g,z,rfl,_⟩:=h
    rfl
  obtain ⟨D,g,z,rfl,hd,q⟩:=h
  refine ⟨_,(pss_one (ps_ret (pe_tup (pa_cons (pe_meth0 (pv 0) T.cl mW GW hr bW .nil pass0) (pa_cons (pe_meth0 (pv 0) T.cl mU GU hr bU .nil pass0) (pa_cons (pe_meth0 (pv 0) T.cl mL GL hr bL .nil pass0) pa_nil)))))),?_⟩
  obtain ⟨dx,aA,aC,aH,aT,R⟩:=id hd
  refine ⟨_,rfl,D,dx,_,rfl,R.hD,dl_n1,D,g,z,rfl,hd,fun v hv=>?_⟩
  obtain ⟨u,rfl,hu⟩:=hv
  refine ⟨_,rfl,D,dx,_,rfl,R.hD,dl_n2,D,g,z,rfl,hd,fun v hv=>?_⟩
  subst hv
  refine ⟨_,rfl,D,dx,_,rfl,R.hD,dl_n3,D,g,z,rfl,hd,fun v hv=>?_⟩
  subst hv
  refine ⟨(by show 3≤sizeLine; decide),fun t ht=>?_⟩
  have J:=Same.new ht (.tup [.ref u,.int z.ed,.int z.pl])
  exact q t u _ J upd_same (J _ _ hu)
def spFresh (C CG:Addr):Sp:=fun vs H Q _=>∃ (g l:Addr) (S:List Addr) (ns:List Str) (ts:List Tr) (p:Int) (es:List Ev),vs=[.ref g,.ref l]∧Gm CG H g ns ts p∧GmK ns ts p∧LogAt H S l es∧Ran ns ts p es∧∀ (D:Addr) (H':Hp),H D=none→Same H H'→DbAt C H' D g (runs ns ts p es)→Q (.ref D) H'
theorem sc_l_fresh:FnScope ["_law_game_here", "_law_log", "_law_doubter", "_law_kind", "_law_thing"] ["_law_game_here", "_law_log"] (defScope s_l_fresh):=⟨rfl,rfl,rfl,by decide +kernel,rfl,by decide +kernel,by decide +kernel⟩
theorem ok_l_fresh {f fD fH fT:Addr} {fd fdD fdH fdT:FuncData} (F:Fun K "_law_fresh" "_law_fresh" s_l_fresh f fd) (B:Bl mg) (T:DTxt K mg C)
    (MD:Mk K C fD) (GD:FnOk P w K mg base CX0 1 fD fdD ["self", "game"] (spDInit C CG)) (bD:Binds K fdD ["self", "game"] [])
    (mH:Meth K C "hear" fH) (GH:FnOk P w K mg base (CXr P w) 18 fH fdH ["self", "values"] (spHearR C CG cT cC)) (bH:Binds K fdH ["self", "values"] [])
    (mT:Meth K C "toss" fT) (GT:FnOk P w K mg base (CXr P w) 17 fT fdT ["self", "r"] (spTossR C CG cT cN)) (bT:Binds K fdT ["self", "r"] []):FnOk P w K mg base CX0 19 f fd ["_law_game_here", "_law_log"] (spFresh C CG):=by
  refine F.ok sc_l_fresh (fun vs H Q E h=>?_) (fun cdv A outer s H vs Q E hr h=>?_)
  · obtain ⟨g,l,S,ns,ts,p,es,rfl,_⟩:=h
    rfl
  obtain ⟨g,l,S,ns,ts,p,es,rfl,G,k,⟨lS,vs,hl,vl,LG⟩,ran,q⟩:=h
  have hr2:Room (1+1) _:=hr.mono (by decide)
  have hr17:Room 17 _:=hr.mono (by decide)
  refine ⟨_,(pss_cons (ps_set (i:=2) sc_l_fresh.nd rfl (Or.inl rfl) (pe_make MD GD hr2 rfl T.mgC bD .nil pass0 (pa_cons (pv 0) pa_nil)))
      (pss_cons (ps_for PassesOwn.never rfl (pi_list (pv 1)) (pg_tup rfl (pgs_cons (pg_name (i:=3) sc_l_fresh.nd rfl (Or.inl rfl)) (pgs_cons (pg_name (i:=4) sc_l_fresh.nd rfl (Or.inl rfl)) pgs_nil)))
        (pss_one (ps_if (pt_cmpR op_eq (pv 3) pe_str (nomark _))
          (pss_one (ps_expr (pe_meth (pv 2) T.cl mH GH hr bH .nil noRaise (pa_cons (pe_callTy call_list_of rfl B.list boot_list' (pa_cons (pv 4) pa_nil)) pa_nil))))
          (pss_one (ps_expr (pe_meth (pv 2) T.cl mT GT hr17 bT .nil noRaise (pa_cons (pv 4) pa_nil)))))))
      (pss_one (ps_ret (pv 2))))),?_⟩
  refine ⟨_,rfl,fun D dD nD ndD neD=>?_⟩
  have s1:Same H (upd (upd H dD (.own D)) D (.ins C dD [])):=fun b o e=>by
    rw [upd_ne (ne_of_none e nD),upd_ne (ne_of_none e ndD)]
    exact e
  have gD:g ≠ D:=by
    obtain ⟨a,b,d,tv,⟨dg,hg⟩,_⟩:=id G
    exact ne_of_none hg nD
  refine ⟨D,g,dD,ns,ts,p,rfl,upd_same,G.same s1,gD,fun H1 S1 D1=>⟨rfl,?_⟩⟩
  have S01:Same H H1:=fun b o e=>S1 b o (ne_of_none e nD) (s1 b o e)
  refine ⟨_,rfl,l,rfl,⟨_,SqL.of (S01 _ _ hl)⟩,for_list (K:=K) (xs:=vs) (fun i σ H'=>∃ (y3 y4:Option V),σ=[some (.ref g),some (.ref l),some (.ref D),y3,y4]∧Same H H'∧DbAt C H' D g (runs ns ts p (es.take i))) ⟨_,_,rfl,S01,D1⟩ (fun i σ H' _ hst=>by obtain ⟨_,_,_,h,_⟩:=hst; exact SqL.of (h _ _ hl)) ?_ ?_⟩
  · rintro i v σ H2 hv ⟨y3,y4,rfl,S2,D2⟩
    have hi:i < es.length:=by
      have:=(List.getElem?_eq_some_iff.mp hv).1
      omega
    obtain ⟨e,he⟩:∃ e,es[i]?=some e:=⟨_,List.getElem?_eq_getElem hi⟩
    have ea:=LG i v e hv he
    have eo:=ran i e he
    have ns':runs ns ts p (es.take (i+1))=e.step ns ts p (runs ns ts p (es.take i)):=by
      rw [List.take_add_one,he]
      exact runs_snoc _ _
    rw [ns']
    obtain ⟨dx,aA,aC,aH,aT,R⟩:=id D2
    have new:∀ {H3 H4:Hp},Same H2 H3→SameBut D H3 H4→Same H H4:=fun s3 s4 b o e=>s4 b o (ne_of_none e nD) (s3 b o (S2 b o e))
    cases e with
    | hear xs =>
      obtain ⟨a,v,rfl,ha,hx,_⟩:=ea
      refine ⟨a,_,rfl,SqT.of (S2 _ _ ha),rfl,_,_,rfl,_,_,rfl,rfl,?_⟩
      refine ⟨_,rfl,rfl,_,rfl,?_⟩
      refine iteD rfl ?_
      refine ⟨_,rfl,D,dx,_,rfl,R.hD,dl_n4,_,rfl,v,_,rfl,.inl (SqL.of (S2 _ _ hx)),fun l2 hl2=>?_⟩
      have J:=Same.new hl2 (.lst (xs.map V.int))
      exact .inl ⟨D,g,l2,_,xs,ns,ts,p,rfl,D2.same J,(G.same S2).same J,k,upd_same,eo.aw,eo.xo,eo.x5,eo.ro,eo.tl,eo.po,fun H4 S4 D4=>⟨_,_,rfl,new J S4,D4⟩⟩
    | toss r =>
      obtain ⟨a,rfl,ha⟩:=ea
      refine ⟨a,_,rfl,SqT.of (S2 _ _ ha),rfl,_,_,rfl,_,_,rfl,rfl,?_⟩
      refine ⟨_,rfl,rfl,_,rfl,?_⟩
      refine iteDF (by intro z; cases z) ?_
      refine ⟨_,rfl,D,dx,_,rfl,R.hD,dl_n5,_,rfl,?_⟩
      exact .inl ⟨D,g,_,r,ns,ts,p,rfl,D2,G.same S2,k,eo.aw,eo.r0,eo.r1,eo.tl,eo.ro,eo.po,fun H4 S4 D4=>⟨_,_,rfl,new (Same.refl _) S4,D4⟩⟩
  · rintro σ H2 ⟨y3,y4,rfl,S2,D2⟩
    rw [vl,List.take_length] at D2
    exact ⟨_,rfl,q D H2 nD S2 D2⟩
end
section
variable {C CG cT cC cN:Addr}
def AwN (z:Db):Prop:=z.aw.1 = "hear" → ∃ n:Int,z.aw=(("hear" : Str),some n)∧1≤n∧n < 40
def spNudge (C CG:Addr):Sp:=fun vs H Q _=>∃ (f D g:Addr) (z:Db) (ns:List Str) (ts:List Tr) (p:Int),vs=[.ref D,.ref f,.int p]∧FeedAt H f∧DbAt C H D g z∧(∀ H',SameBut f H H'→Gm CG H' g ns ts p)∧AwN z∧∀ H',FeedAt H' f→SameBut f H H'→Q (.bl true) H'
theorem sc_l_nudged:FnScope ["_law_doubter", "_law_feed_here", "_law_p", "_law_refused", "_law_kind"] ["_law_doubter", "_law_feed_here", "_law_p"] (defScope s_l_nudged):=⟨rfl,rfl,rfl,by decide +kernel,rfl,by decide +kernel,by decide +kernel⟩
theorem ok_l_nudged {f fH fT CA fN fNC fNN:Addr} {fd fdH fdT fdN fdNC fdNN:FuncData} (F:Fun K "_law_nudged" "_law_nudged" s_l_nudged f fd) (T:DTxt K mg C) (hgA:mg "AskError" = some (.ref CA)) (hA:isBaseX K CA) (N:NoX P w K mg base "NoTurn" cT CA fN fdN) (NC:NoX P w K mg base "NoCount" cC CA fNC fdNC) (NN:NoX P w K mg base "NoNumber" cN CA fNN fdNN)
    (mH:Meth K C "hear" fH) (GH:FnOk P w K mg base (CXr P w) 18 fH fdH ["self", "values"] (spHearR C CG cT cC)) (bH:Binds K fdH ["self", "values"] [])
    (mT:Meth K C "toss" fT) (GT:FnOk P w K mg base (CXr P w) 17 fT fdT ["self", "r"] (spTossR C CG cT cN)) (bT:Binds K fdT ["self", "r"] [])
    (C_l_take:Cal P w K mg base 1 "_law_take" ["_law_feed_here", "_law_many"] spTake):FnOk P w K mg base CX0 19 f fd ["_law_doubter", "_law_feed_here", "_law_p"] (spNudge C CG):=by
  refine F.ok sc_l_nudged (fun vs H Q E h=>?_) (fun cdv A outer s H vs Q E hr h=>?_)
  · obtain ⟨f,D,g,z,ns,ts,p,rfl,_⟩:=h
    rfl
  obtain ⟨f,D,g,z,ns,ts,p,rfl,FA,hd,hG,an,q⟩:=h
  have hr17:Room 17 _:=hr.mono (by decide)
  refine ⟨_,(pss_cons (ps_set (i:=3) sc_l_nudged.nd rfl (Or.inl rfl) pe_bl)
      (pss_cons (ps_set (i:=4) sc_l_nudged.nd rfl (Or.inl rfl) (pe_cal C_l_take hr (by decide) rfl (pa_cons (pv 1) (pa_cons pe_int pa_nil))))
      (pss_cons (ps_tryNA rfl hgA hA
          (psw_if (fun _=>pt_cmpR op_eq (pv 4) pe_int (nomark _))
            (psw_meth (fun _=>pv 0) T.cl mT GT hr17 bT (fun _=>pa_cons (pv 2) pa_nil))
            (psw_if (fun _=>pt_cmpR op_eq (pv 4) pe_int (nomark _))
              (psw_meth (fun _=>pv 0) T.cl mH GH hr bH (fun _=>pa_cons (pe_lst pa_nil) pa_nil))
              (psw_if (fun _=>pt_cmpR op_eq (pv 4) pe_int (nomark _))
                (psw_meth (fun _=>pv 0) T.cl mH GH hr bH (fun _=>pa_cons (pe_op op_rep (pe_lst (pa_cons pe_int pa_nil)) pe_int) pa_nil))
                (psw_meth (fun _=>pv 0) T.cl mT GT hr17 bT (fun _=>pa_cons (pe_op op_sub pe_int pe_int) pa_nil)))))
          (fun e=>pss_one (ps_set (i:=3) sc_l_nudged.nd rfl (Or.inl rfl) pe_bl)))
      (pss_one (ps_ret (pv 3)))))),?_⟩
  refine ⟨_,rfl,f,4,rfl,FA,by decide,by decide,fun kd H1 k0 k1 F1 S1=>?_⟩
  have D1:=hd.feed FA S1
  have G1:=hG H1 S1
  obtain ⟨dx,aA,aC,aH,aT,R⟩:=id D1
  have tos:∀ {r:Int},¬ (0≤r∧r < p)→∀ {QQ:VK} {EE:XK},(RaisesNo cT H1 EE∧RaisesNo cN H1 EE)→spTossR C CG cT cN [.ref D,.int r] H1 QQ EE:=fun {r} nr {QQ EE} h=>by
    by_cases c:z.aw.1 = "coin"
    · exact .inr (.inr ⟨D,g,z,r,ns,ts,p,rfl,D1,G1,c,nr,h.2⟩)
    · exact .inr (.inl ⟨D,g,z,r,rfl,D1,c,h.1⟩)
  have hea:∀ {H2:Hp} {l:Addr} {xs:List V},Same H1 H2→H2 l=some (.lst xs)→(xs.length=0∨xs.length=40)→∀ {QQ:VK} {EE:XK},(RaisesNo cT H2 EE∧RaisesNo cC H2 EE)→spHearR C CG cT cC [.ref D,.ref l] H2 QQ EE:=fun {H2 l xs} s2 hl hx {QQ EE} h=>by
    by_cases c:z.aw.1 = "hear"
    · obtain ⟨n,e,n1,n2⟩:=an c
      exact .inr (.inr ⟨D,g,l,z,xs,n,rfl,D1.same s2,e,hl,by omega,h.2⟩)
    · exact .inr (.inl ⟨D,g,l,z,rfl,D1.same s2,c,h.1⟩)
  refine ⟨_,rfl,rfl,_,rfl,?_⟩
  refine ite2 (fun _=>?_) (fun _=>?_)
  · refine ⟨_,rfl,D,dx,_,rfl,R.hD,dl_n5,_,rfl,tos (by omega) ⟨fun e dx2 H5 S5 he hdx=>?_,fun e dx2 H5 S5 he hdx=>?_⟩⟩
    · exact ⟨e,cT,dx2,rfl,rfl,he,N.cl,_,rfl,q _ (F1.same S5) (S1.trans (SameBut.of S5))⟩
    · exact ⟨e,cN,dx2,rfl,rfl,he,NN.cl,_,rfl,q _ (F1.same S5) (S1.trans (SameBut.of S5))⟩
  refine ⟨_,rfl,rfl,_,rfl,?_⟩
  refine ite2 (fun _=>?_) (fun _=>?_)
  · refine ⟨_,rfl,D,dx,_,rfl,R.hD,dl_n4,(by show 0≤sizeLine; decide),fun l hl=>?_⟩
    have J:=Same.new hl (.lst [])
    refine hea J upd_same (.inl rfl) ⟨fun e dx2 H5 S5 he hdx=>?_,fun e dx2 H5 S5 he hdx=>?_⟩
    · exact ⟨e,cT,dx2,rfl,rfl,he,N.cl,_,rfl,q _ (F1.same (J.trans S5)) (S1.trans (SameBut.of (J.trans S5)))⟩
    · exact ⟨e,cC,dx2,rfl,rfl,he,NC.cl,_,rfl,q _ (F1.same (J.trans S5)) (S1.trans (SameBut.of (J.trans S5)))⟩
  refine ⟨_,rfl,rfl,_,rfl,?_⟩
  refine ite2 (fun _=>?_) (fun _=>?_)
  · refine ⟨_,rfl,D,dx,_,rfl,R.hD,dl_n4,(by show 1≤sizeLine; decide),fun l hl=>?_⟩
    have J:=Same.new hl (.lst [.int 0])
    have g1:upd H1 l (.lst [.int 0]) l=some (.lst [.int 0]):=upd_same
    generalize upd H1 l (.lst [.int 0])=H2 at J g1
    refine ⟨l,40,_,rfl,rfl,g1,by decide,by decide,(by show 1*40≤sizeLine; decide),fun l2 hl2=>?_⟩
    have J2:=Same.new hl2 (.lst (List.replicate 40 (.int 0)))
    refine hea (J.trans J2) upd_same (.inr rfl) ⟨fun e dx2 H5 S5 he hdx=>?_,fun e dx2 H5 S5 he hdx=>?_⟩
    · exact ⟨e,cT,dx2,rfl,rfl,he,N.cl,_,rfl,q _ (F1.same (J.trans (J2.trans S5))) (S1.trans (SameBut.of (J.trans (J2.trans S5))))⟩
    · exact ⟨e,cC,dx2,rfl,rfl,he,NC.cl,_,rfl,q _ (F1.same (J.trans (J2.trans S5))) (S1.trans (SameBut.of (J.trans (J2.trans S5))))⟩
  · refine ⟨_,rfl,D,dx,_,rfl,R.hD,dl_n5,_,_,rfl,rfl,tos (by omega) ⟨fun e dx2 H5 S5 he hdx=>?_,fun e dx2 H5 S5 he hdx=>?_⟩⟩
    · exact ⟨e,cT,dx2,rfl,rfl,he,N.cl,_,rfl,q _ (F1.same S5) (S1.trans (SameBut.of S5))⟩
    · exact ⟨e,cN,dx2,rfl,rfl,he,NN.cl,_,rfl,q _ (F1.same S5) (S1.trans (SameBut.of S5))⟩
end
section
variable {C CG cT cC cN:Addr}
structure Gd (ns:List Str) (ts:List Tr) (p:Int) (z:Db):Prop where
  tl:z.to.length≤ns.length
  po:PtOk z.to p
  e0:0≤z.ed
  e1:z.ed < p
  he:z.aw.1 = "hear" → (z.cl=[]∧z.aw=(("hear" : Str),some (ts.length:Int)))∨(z.cl ≠ []∧z.to.length < ns.length∧z.aw=(("hear" : Str),some (degOf ts (ns.getD z.to.length "")+1)))
  co:z.aw.1 = "coin" → z.cl ≠ []∧(z.he ≠ []→RowOk z.he p∧z.to.length < ns.length)
  h0:z.cl=[]→z.he=[]
  ww:AwW z.aw.1
section
variable {ns:List Str} {ts:List Tr} {p:Int} {z:Db}
theorem Gd.new (k:GmK ns ts p):Gd ns ts p (Db.new ts):=by
  have:=k.p2
  exact ⟨Nat.zero_le _,(fun x hx=>by cases hx),Int.le_refl _,(by show (0:Int) < p; omega),fun _=>.inl ⟨rfl,rfl⟩,(fun h=>by cases h),fun _=>rfl,.inl rfl⟩
theorem Gd.goOn (tl:z.to.length≤ns.length) (po:PtOk z.to p) (e0:0≤z.ed) (e1:z.ed < p) (cl:z.cl ≠ []):Gd ns ts p (goOn ns ts p z):=by
  unfold Mine.goOn
  by_cases c:z.to.length < ns.length
  · rw [if_pos c]
    exact ⟨tl,po,e0,e1,fun _=>.inr ⟨cl,c,rfl⟩,(fun h=>by cases h),fun h=>absurd h cl,.inl rfl⟩
  · rw [if_neg c]
    unfold lookAt
    by_cases e:z.ed=hor z.s p (ts.map fun t=>t.worth ns z.to p)
    · rw [if_pos e]
      exact ⟨tl,po,e0,e1,(fun h=>by cases h),(fun h=>by cases h),fun h=>absurd h cl,.inr (.inr (.inr rfl))⟩
    · rw [if_neg e]
      exact ⟨tl,po,e0,e1,(fun h=>by cases h),(fun h=>by cases h),fun h=>absurd h cl,.inr (.inr (.inl rfl))⟩
theorem Gd.hear_ne (k:GmK ns ts p) (h:Gd ns ts p z) {xs:List Int} (ok:HearOk ns p z xs):xs ≠ []:=fun e=>by
  have a:=ok.aw
  rw [e,List.length_nil] at a
  have t1:=k.t1
  rcases h.he (by rw [a]) with ⟨_,w⟩ | ⟨_,_,w⟩
  · rw [w] at a
    have:=Option.some.inj (Prod.mk.inj a).2
    omega
  · rw [w] at a
    have:=Option.some.inj (Prod.mk.inj a).2
    have:=deg_400 k (ns.getD z.to.length "")
    omega
theorem Gd.hear (k:GmK ns ts p) (h:Gd ns ts p z) {xs:List Int} (ok:HearOk ns p z xs):Gd ns ts p (hearD ns ts p xs z)∧(hearD ns ts p xs z).cl ≠ []:=by
  have p2:=k.p2
  have xn:=h.hear_ne k ok
  have a1:z.aw.1 = "hear" := by rw [ok.aw]
  unfold hearD
  by_cases c:z.cl=[]
  · rw [if_pos c]
    unfold hearC
    by_cases c1:ts.length=1
    · rw [if_pos c1]
      unfold begR
      have hr:=hor_rng (s:=0) (p:=p) (by omega) xs
      refine ⟨Gd.goOn h.tl h.po hr.1 hr.2 xn,?_⟩
      unfold Mine.goOn lookAt
      split <;> exact xn
    · rw [if_neg c1]
      exact ⟨⟨h.tl,h.po,h.e0,h.e1,(fun z=>by cases z),fun _=>⟨xn,fun e=>absurd (h.h0 c) e⟩,fun e=>absurd e xn,.inr (.inl rfl)⟩,xn⟩
  · rw [if_neg c]
    unfold hearW
    have tl:z.to.length < ns.length:=by
      rcases h.he a1 with ⟨e,_⟩ | ⟨_,t,_⟩
      · exact absurd e c
      · exact t
    by_cases e:(val p xs 0+val p xs 1) % p=z.ed
    · rw [if_pos e]
      exact ⟨⟨h.tl,h.po,h.e0,h.e1,(fun z=>by cases z),fun _=>⟨c,fun _=>⟨ok.ro c,tl⟩⟩,fun e=>absurd e c,.inr (.inl rfl)⟩,c⟩
    · rw [if_neg e]
      exact ⟨⟨h.tl,h.po,h.e0,h.e1,(fun z=>by cases z),(fun z=>by cases z),fun e=>absurd e c,.inr (.inr (.inl rfl))⟩,c⟩
theorem Gd.toss (k:GmK ns ts p) (h:Gd ns ts p z) {r:Int} (ok:TossOk ns p z r):Gd ns ts p (tossD ns ts p r z)∧(tossD ns ts p r z).cl ≠ []:=by
  have p2:=k.p2
  obtain ⟨cl,ro⟩:=h.co ok.aw
  unfold tossD
  by_cases c:z.he=[]
  · rw [if_pos c]
    unfold begR
    have hr:=hor_rng (s:=r) (p:=p) (by omega) z.cl
    refine ⟨Gd.goOn h.tl h.po hr.1 hr.2 cl,?_⟩
    unfold Mine.goOn lookAt
    split <;> exact cl
  · rw [if_neg c]
    have hr:=val_rng (p:=p) (by omega) z.he r
    refine ⟨Gd.goOn ?_ (fun x hx=>?_) hr.1 hr.2 cl,?_⟩
    · show (z.to++[r]).length≤_
      rw [List.length_append,List.length_singleton]
      have:=(ro c).2
      omega
    · rcases List.mem_append.mp hx with h' | h'
      · exact h.po x h'
      · rw [List.mem_singleton.mp h']
        exact ⟨ok.r0,ok.r1⟩
    · unfold Mine.goOn lookAt
      split <;> exact cl
theorem Ran.gd (k:GmK ns ts p) {es:List Ev} (h:Ran ns ts p es):Gd ns ts p (runs ns ts p es)∧(es ≠ []→(runs ns ts p es).cl ≠ []):=by
  have go:∀ i,i≤es.length→Gd ns ts p (runs ns ts p (es.take i))∧(0 < i→(runs ns ts p (es.take i)).cl ≠ []):=by
    intro i
    induction i with
    | zero=>exact fun _=>⟨Gd.new k,fun z=>absurd z (Nat.lt_irrefl _)⟩
    | succ i ih =>
      intro hi
      obtain ⟨e,he⟩:∃ e,es[i]?=some e:=⟨_,List.getElem?_eq_getElem (by omega)⟩
      have ns':runs ns ts p (es.take (i+1))=e.step ns ts p (runs ns ts p (es.take i)):=by
        rw [List.take_add_one,he]
        exact runs_snoc _ _
      rw [ns']
      have g:=(ih (by omega)).1
      have o:=h i e he
      cases e with
      | hear xs=>exact ⟨(g.hear k o).1,fun _=>(g.hear k o).2⟩
      | toss r=>exact ⟨(g.toss k o).1,fun _=>(g.toss k o).2⟩
  have:=go es.length (Nat.le_refl _)
  rw [List.take_length] at this
  refine ⟨this.1,fun n=>this.2 ?_⟩
  cases es with
  | nil=>exact absurd rfl n
  | cons a r=>exact Nat.succ_pos _
theorem deg_le {B:Nat} (t0:ts ≠ []) (h:∀ t ∈ ts,t.size≤B) (x:Str):degOf ts x≤(B:Int):=by
  have:=maxD_mem (ns:=ts.map fun t=>(t.names.count x:Int)) (by simpa using t0)
  obtain ⟨t,ht,e⟩:=List.mem_map.mp this
  unfold degOf
  rw [← e]
  have h1:=List.count_le_length (a:=x) (l:=t.names)
  have h2:=t.names_len
  have h3:=h t ht
  omega
end
end
section
variable {C CG cT cC cN:Addr}
theorem pss_cut {X:Cx} {ss:List Stmt} {t t':TS} (h:PSs X ss t) (hw:∀ D σ H,t' D σ H→t D σ H):PSs X ss t':=fun pins s σ H D I k=>h pins s σ H D I (hw _ _ _ k)
section
variable {H H':Hp} {f D g a b d l:Addr} {z:Db} {ns:List Str} {tv:List V} {ts:List Tr} {p:Int}
theorem Wd.put (h:Wd C CG H f D g a b d l z ns tv ts p) {c:Addr} {ys:List V} (hc:H c=some (.lst ys)) (cf:c ≠ f) (cd:c ≠ d) (cl:c ≠ l) (s:SameBut c H H'):Wd C CG H' f D g a b d l z ns tv ts p:=by
  obtain ⟨⟨u,t,e,r⟩,⟨dx,aA,aC,aH,aT,R⟩,⟨⟨dx',e'⟩,h2,h3,h4,h5⟩,h6,h7,h8⟩:=h
  exact ⟨⟨u,t,s _ _ (Ne.symm cf) e,r⟩,⟨dx,aA,aC,aH,aT,s _ _ (ne_of R.hD hc (by intro z; cases z)) R.hD,s _ _ (ne_of R.hA hc (by intro z; cases z)) R.hA,s _ _ (ne_of R.hC hc (by intro z; cases z)) R.hC,s _ _ (ne_of R.hH hc (by intro z; cases z)) R.hH,s _ _ (ne_of R.hT hc (by intro z; cases z)) R.hT⟩,
    ⟨⟨dx',s _ _ (ne_of e' hc (by intro z; cases z)) e'⟩,s _ _ (ne_of h2 hc (by intro z; cases z)) h2,s _ _ (ne_of h3 hc (by intro z; cases z)) h3,h4.mono (fun c xs hx=>s _ _ (ne_of hx hc (by intro z; cases z)) hx),s _ _ (Ne.symm cd) h5⟩,s _ _ (Ne.symm cl) h6,h7,h8⟩
end
def Sb2 (f D:Addr) (H H':Hp):Prop:=∀ b o,b ≠ f→b ≠ D→H b=some o→H' b=some o
theorem Sb2.same {f D:Addr} {H H':Hp} (s:Same H H'):Sb2 f D H H':=fun b o _ _ e=>s b o e
theorem Sb2.feed {f D:Addr} {H H':Hp} (s:SameBut f H H'):Sb2 f D H H':=fun b o n _ e=>s b o n e
theorem Sb2.db {f D:Addr} {H H':Hp} (s:SameBut D H H'):Sb2 f D H H':=fun b o _ n e=>s b o n e
theorem Sb2.trans {f D:Addr} {H H' H'':Hp} (h:Sb2 f D H H') (h':Sb2 f D H' H''):Sb2 f D H H'':=fun b o n m e=>h' b o n m (h b o n m e)
theorem Keep.sb2 {S:List Addr} {f D C' dx:Addr} {H H':Hp} {fs:List (Str × V)} (s:Sb2 f D H H') (hf:f ∈ S) (hD:H D=some (.ins C' dx fs)):Keep S H H':=fun b o n i e=>s b o (fun z=>n (z ▸ hf)) (fun z=>by
  rw [z,hD] at e
  cases e
  exact i _ _ _ rfl) e
def Lsts (S:List Addr) (H:Hp):Prop:=∀ x ∈ S,∃ ys,H x=some (.lst ys)
theorem Lsts.sb2 {S:List Addr} {f D C' dx:Addr} {H H':Hp} {fs:List (Str × V)} (h:Lsts S H) (s:Sb2 f D H H') (F:FeedAt H' f) (hD:H D=some (.ins C' dx fs)):Lsts S H':=fun x hx=>by
  by_cases c:x=f
  · obtain ⟨u,t,e,_⟩:=F
    exact ⟨_,by rw [c]; exact e⟩
  · obtain ⟨ys,e⟩:=h x hx
    exact ⟨ys,s x _ c (fun z=>by rw [z,hD] at e; cases e) e⟩
theorem Lsts.free {S:List Addr} {H:Hp} (h:Lsts S H) {x:Addr} (hx:H x=none):x ∉ S:=fun z=>by
  obtain ⟨ys,e⟩:=h x z
  rw [hx] at e
  cases e
theorem LogAt.put {H:Hp} {S:List Addr} {l':Addr} {es:List Ev} {vs:List V} {v:V} {e:Ev} (old:∀ (i:Nat) (v:V) (e:Ev),vs[i]?=some v→es[i]?=some e→EvAt H S v e) (vl:vs.length=es.length) (n:l' ∉ S) (hl:H l'=some (.lst (vs++[v]))) (hv:EvAt H S v e):LogAt H S l' (es++[e]):=by
  refine ⟨n,_,hl,by rw [List.length_append,List.length_append,vl]; rfl,fun i w x hw hx=>?_⟩
  by_cases c:i < vs.length
  · rw [List.getElem?_append_left c] at hw
    rw [List.getElem?_append_left (by omega)] at hx
    exact old i w x hw hx
  · rw [List.getElem?_append_right (by omega)] at hw
    rw [List.getElem?_append_right (by omega)] at hx
    have e0:i - vs.length=0:=by
      have:=(List.getElem?_eq_some_iff.mp hw).1
      rw [List.length_singleton] at this
      omega
    rw [e0] at hw
    rw [← vl,e0] at hx
    cases hw
    cases hx
    exact hv
theorem log_more {H:Hp} {S:List Addr} {l:Addr} {es:List Ev} {e:Ev} {kind:Str} {x:V} (L:LogAt H S l es) (hS:Lsts S H) (el:es.length≤900) (xe:∀ (H':Hp) (t:Addr),Same H H'→H' t=some (.tup [.str kind,x])→EvAt H' S (.ref t) e) {QQ:VK} (q:∀ (l':Addr) (H':Hp),Same H H'→LogAt H' S l' (es++[e])→QQ (.ref l') H') :
    2≤sizeLine∧∀ t,H t=none→1≤sizeLine∧∀ l1,upd H t (.tup [.str kind,x]) l1=none→rCat (.ref l) (.ref l1) (upd (upd H t (.tup [.str kind,x])) l1 (.lst [.ref t])) QQ:=by
  obtain ⟨lS,vs,hl,vl,old⟩:=id L
  refine ⟨by decide,fun t ht=>⟨by decide,fun l1 hl1=>?_⟩⟩
  have J1:=Same.new ht (.tup [.str kind,x])
  have g1:upd H t (.tup [.str kind,x]) t=some (.tup [.str kind,x]):=upd_same
  generalize upd H t (.tup [.str kind,x])=H1 at hl1 J1 g1
  have J2:=Same.new hl1 (.lst [.ref t])
  have g2:upd H1 l1 (.lst [.ref t]) l1=some (.lst [.ref t]):=upd_same
  generalize upd H1 l1 (.lst [.ref t])=H2 at J2 g2
  refine ⟨l,l1,vs,_,rfl,rfl,J2 _ _ (J1 _ _ hl),g2,small (by show vs.length+1≤1000; omega),fun l' hl'=>?_⟩
  have J3:=Same.new hl' (.lst (vs++[.ref t]))
  have J:=J1.trans (J2.trans J3)
  have S2:Lsts S H2:=fun z hz=>by
    obtain ⟨ys,ez⟩:=hS z hz
    exact ⟨ys,J2 _ _ (J1 _ _ ez)⟩
  refine q l' _ J (LogAt.put (fun i w y hw hy=>(old i w y hw hy).keep (Keep.same J) hS) vl (S2.free hl') upd_same (xe _ t J (J3 _ _ (J2 _ _ g1))))
def AnsT (C CG f D g a b d:Addr) (S:List Addr) (ns:List Str) (tv:List V) (ts:List Tr) (p:Int) (n:Nat) (H:Hp) (Q:VK):Prop:=∀ (l':Addr) (es':List Ev) (H':Hp),Wd C CG H' f D g a b d d (runs ns ts p es') ns tv ts p→Ran ns ts p es'→LogAt H' S l' es'→es'.length≤n→Sb2 f D H H'→Q (.ref l') H'
theorem AnsT.next {f D g a b d:Addr} {S:List Addr} {ns:List Str} {tv:List V} {ts:List Tr} {p:Int} {n:Nat} {H H':Hp} {Q:VK} (h:AnsT C CG f D g a b d S ns tv ts p n H Q) (s:Sb2 f D H H'):AnsT C CG f D g a b d S ns tv ts p n H' Q:=fun l' es' H'' W R L e s'=>h l' es' H'' W R L e (s.trans s')
def spTold (C CG:Addr):Sp:=fun vs H Q _=>∃ (f D g a b d l:Addr) (S:List Addr) (ns:List Str) (tv:List V) (ts:List Tr) (p:Int) (es:List Ev),vs=[.ref D,.ref l,.ref f,.int p]∧Wd C CG H f D g a b d d (runs ns ts p es) ns tv ts p∧GmK ns ts p∧(∀ x,degOf ts x < 39)∧Ran ns ts p es∧LogAt H S l es∧f ∈ S∧Lsts S H∧es.length≤900∧AnsT C CG f D g a b d S ns tv ts p (es.length+1) H Q
def tT46 (C CG:Addr):TS:=fun Dn σ H=>∃ (x5 x6 x7:Option V) (u f D g a b d l:Addr) (S:List Addr) (ns:List Str) (tv:List V) (ts:List Tr) (p:Int) (es:List Ev),σ=[some (.ref D),some (.ref l),some (.ref f),some (.int p),some (.ref u),x5,x6,x7]∧H u=some (.tup (awV (runs ns ts p es).aw))∧Wd C CG H f D g a b d d (runs ns ts p es) ns tv ts p∧GmK ns ts p∧Ran ns ts p es∧LogAt H S l es∧f ∈ S∧Lsts S H∧es.length≤900∧AnsT C CG f D g a b d S ns tv ts p (es.length+1) H Dn.rt
def tU46 (C CG:Addr):TS:=fun Dn σ H=>∃ (x4 x5 x7:Option V) (v f D g a b d l:Addr) (S:List Addr) (ns:List Str) (tv:List V) (ts:List Tr) (p:Int) (es:List Ev) (xs:List Int),σ=[some (.ref D),some (.ref l),some (.ref f),some (.int p),x4,x5,some (.ref v),x7]∧H v=some (.lst (xs.map V.int))∧v ∉ S∧HearOk ns p (runs ns ts p es) xs∧Wd C CG H f D g a b d d (runs ns ts p es) ns tv ts p∧GmK ns ts p∧Ran ns ts p es∧LogAt H S l es∧f ∈ S∧Lsts S H∧es.length≤900∧AnsT C CG f D g a b d S ns tv ts p (es.length+1) H Dn.rt
theorem sc_l_told:FnScope ["_law_doubter", "_law_log", "_law_feed_here", "_law_p", "_law_step", "_law_r", "_law_values", "_law_handed"] ["_law_doubter", "_law_log", "_law_feed_here", "_law_p"] (defScope s_l_told):=⟨rfl,rfl,rfl,by decide +kernel,rfl,by decide +kernel,by decide +kernel⟩
theorem ok_l_told {f fH fT fU fW:Addr} {fd fdH fdT fdU fdW:FuncData} (F:Fun K "_law_told" "_law_told" s_l_told f fd) (B:Bl mg) (T:DTxt K mg C)
    (mH:Meth K C "hear" fH) (GH:FnOk P w K mg base (CXr P w) 18 fH fdH ["self", "values"] (spHearR C CG cT cC)) (bH:Binds K fdH ["self", "values"] [])
    (mT:Meth K C "toss" fT) (GT:FnOk P w K mg base (CXr P w) 17 fT fdT ["self", "r"] (spTossR C CG cT cN)) (bT:Binds K fdT ["self", "r"] [])
    (mU:Meth K C "due" fU) (GU:FnOk P w K mg base CX0 1 fU fdU ["self"] (spOf C fun z v _=>v=.int z.ed)) (bU:Binds K fdU ["self"] [])
    (mW:Meth K C "waits" fW) (GW:FnOk P w K mg base CX0 1 fW fdW ["self"] (spOf C fun z v H=>∃ a,v=.ref a∧H a=some (.tup (awV z.aw)))) (bW:Binds K fdW ["self"] [])
    (C_l_take:Cal P w K mg base 1 "_law_take" ["_law_feed_here", "_law_many"] spTake) (C_l_coin:Cal P w K mg base 2 "_law_coin" ["_law_feed_here", "_law_p"] spCoin) (C_l_said:Cal P w K mg base 3 "_law_said" ["_law_feed_here", "_law_many", "_law_due", "_law_p", "_law_fits"] spSaid) (C_l_nudged:Cal P w K mg base 19 "_law_nudged" ["_law_doubter", "_law_feed_here", "_law_p"] (spNudge C CG)):FnOk P w K mg base CX0 20 f fd ["_law_doubter", "_law_log", "_law_feed_here", "_law_p"] (spTold C CG):=by
  refine F.ok sc_l_told (fun vs H Q E h=>?_) (fun cdv A outer s H vs Q E hr h=>?_)
  · obtain ⟨f,D,g,a,b,d,l,S,ns,tv,ts,p,es,rfl,_⟩:=h
    rfl
  obtain ⟨f,D,g,a,b,d,l,S,ns,tv,ts,p,es,rfl,W,k,d39,ran,LG,fS,hS,el,q⟩:=h
  have hr1:Room 1 _:=hr.mono (by decide)
  have hr17:Room 17 _:=hr.mono (by decide)
  have hr18:Room 18 _:=hr.mono (by decide)
  refine ⟨_,(pss_cons (ps_set (i:=4) sc_l_told.nd rfl (Or.inl rfl) (pe_meth0 (pv 0) T.cl mW GW hr1 bW .nil pass0))
      (pss_cons (ps_if (PW.pt (pw_and (pt_cmpR op_eq (pe_cal C_l_take hr (by decide) rfl (pa_cons (pv 2) (pa_cons pe_int pa_nil))) pe_int (nomark _)) (pw_and1 (pt_not (pt_val (pe_cal C_l_nudged hr (by decide) rfl (pa_cons (pv 0) (pa_cons (pv 2) (pa_cons (pv 3) pa_nil)))))))))
        (pss_one (ps_ret (pe_op op_cat (pv 1) (pe_lst (pa_cons (pe_tup (pa_cons pe_str (pa_cons (pv 3) pa_nil))) pa_nil))))) pss_nil)
      (pss_cut (t':=tT46 C CG) (pss_cons (ps_if (pt_cmpR op_eq (pe_ix ix_tup (pv 4) pe_int (fun _ _=>rfl)) pe_str (nomark _))
        (pss_cons (ps_set (i:=5) sc_l_told.nd rfl (Or.inl rfl) (pe_cal C_l_coin hr (by decide) rfl (pa_cons (pv 2) (pa_cons (pv 3) pa_nil))))
        (pss_cons (ps_expr (pe_meth (pv 0) T.cl mT GT hr17 bT .nil noRaise (pa_cons (pv 5) pa_nil)))
        (pss_one (ps_ret (pe_op op_cat (pv 1) (pe_lst (pa_cons (pe_tup (pa_cons pe_str (pa_cons (pv 5) pa_nil))) pa_nil))))))) pss_nil)
      (pss_cons (ps_if (pt_cmpR op_ne (pe_ix ix_tup (pv 4) pe_int (fun _ _=>rfl)) pe_str (nomark _)) (pss_one (ps_ret (pv 1))) pss_nil)
      (pss_cons (ps_comp (i:=6) (N:=["_law_feed_here", "_law_p"]) (ix:=[2,3]) sc_l_told.nd rfl (Or.inl rfl) rfl
        (CompScope.two (by with_unfolding_all rfl) (by decide) rfl (by decide) rfl (by decide +kernel) (by first | exact Or.inl rfl | exact Or.inr rfl) (by with_unfolding_all rfl) (by with_unfolding_all rfl) (by with_unfolding_all rfl) (by with_unfolding_all rfl) rfl rfl (by with_unfolding_all rfl) rfl rfl) rfl
        (pi_range1 rfl B.range (pa_cons (pe_ix ix_tup (pv 4) pe_int (fun _ _=>rfl)) pa_nil)) (fun _ _ _=>pb_all (pe_cal C_l_coin hr (by decide) rfl (pa_cons (pv 1) (pa_cons (pv 2) pa_nil)))))
      (pss_cons (ps_if (pt_cmpR (op_neNil (Nat.lt_of_le_of_lt (Nat.le_add_right _ _) hr.units)) (pv 1) (pe_lst pa_nil) (nomark _))
        (pss_one (ps_set (i:=6) sc_l_told.nd rfl (Or.inl rfl) (pe_cal C_l_said hr (by decide) rfl (pa_cons (pv 2) (pa_cons (pe_ix ix_tup (pv 4) pe_int (fun _ _=>rfl)) (pa_cons (pe_meth0 (pv 0) T.cl mU GU hr1 bU .nil pass0) (pa_cons (pv 3) (pa_cons (pe_cmpR op_gt (pe_cal C_l_take hr (by decide) rfl (pa_cons (pv 2) (pa_cons pe_int pa_nil))) pe_int (nomark _)) pa_nil)))))))) pss_nil)
      (pss_cut (t':=tU46 C CG) (pss_cons (ps_set (i:=7) sc_l_told.nd rfl (Or.inl rfl) (pe_callTy call_list_of rfl B.list boot_list' (pa_cons (pv 6) pa_nil)))
      (pss_cons (ps_expr (pe_meth (pv 0) T.cl mH GH hr18 bH .nil noRaise (pa_cons (pv 7) pa_nil)))
      (pss_cons (ps_asg (pe_op op_sub pe_int pe_int) (pg_sub (pv 7) pe_int set_list))
      (pss_one (ps_ret (pe_op op_cat (pv 1) (pe_lst (pa_cons (pe_tup (pa_cons pe_str (pa_cons (pv 6) pa_nil))) pa_nil)))))))) ?uu))))) ?tt))),?_⟩
  case uu =>
    rintro Dn σ H ⟨x4,x5,x7,v,f,D,g,a,b,d,l,S,ns,tv,ts,p,es,xs,rfl,hv,vS,ok,W,k,ran,LG,fS,hS,el,q⟩
    obtain ⟨gd,cne⟩:=ran.gd k
    have xn:=gd.hear_ne k ok
    obtain ⟨dx,fs,hD,_⟩:=W.ins
    have vf:v ≠ f:=fun z=>vS (z ▸ fS)
    have vD:v ≠ D:=ne_of hv hD (by intro z; cases z)
    refine ⟨_,rfl,v,_,rfl,.inl (SqL.of hv),fun l2 hl2=>?_⟩
    have J1:=Same.new hl2 (.lst (xs.map V.int))
    have g1:upd H l2 (.lst (xs.map V.int)) l2=some (.lst (xs.map V.int)):=upd_same
    have W1:=W.same J1
    have l2f:l2 ≠ f:=W.F.ne hl2
    have l2d:l2 ≠ d:=Ne.symm (ne_of_none W.L hl2)
    generalize upd H l2 (.lst (xs.map V.int))=H1 at J1 g1 W1
    obtain ⟨dx1,fs1,hD1,n1,n2,n3,n4,n5⟩:=W1.ins
    refine ⟨_,rfl,D,dx1,fs1,rfl,hD1,n4,_,rfl,.inl ⟨D,g,l2,_,xs,ns,ts,p,rfl,W1.Dd,W1.G.gm,k,g1,ok.aw,ok.xo,ok.x5,ok.ro,ok.tl,ok.po,fun H2 S2 D2=>?_⟩⟩
    have W2:=W1.step S2 D2
    have g2:=S2 _ _ (ne_of g1 hD1 (by intro z; cases z)) g1
    refine ⟨_,_,rfl,rfl,_,rfl,l2,_,0,0,rfl,rfl,g2,?_,?_⟩
    · unfold ixN
      rw [if_pos (by decide),if_pos (by
        rw [List.length_map]
        have:=List.length_pos_iff.mpr xn
        omega)]
      rfl
    have s3:SameBut l2 H2 (upd H2 l2 (.lst ((xs.map V.int).set 0 (.int (0 - 1))))):=fun b o n e=>by
      rw [upd_ne n]
      exact e
    have W3:=W2.put g2 l2f l2d l2d s3
    generalize upd H2 l2 (.lst ((xs.map V.int).set 0 (.int (0 - 1))))=H3 at s3 W3
    have sb:Sb2 f D H H3:=fun b o n m e=>s3 b o (ne_of_none e hl2) (S2 b o m (J1 b o e))
    have LG3:=LG.keep (Keep.sb2 sb fS hD) hS
    have hS3:Lsts S H3:=Lsts.sb2 hS sb W3.F hD
    have hv3:=sb v _ vf vD hv
    have W4:Wd C CG H3 f D g a b d d (runs ns ts p (es++[.hear xs])) ns tv ts p:=by
      rw [runs_snoc]
      exact W3
    refine ⟨_,rfl,_,rfl,?_⟩
    exact log_more (e:=.hear xs) LG3 hS3 el (fun H' t s ht=>⟨t,v,rfl,ht,s _ _ hv3,vS⟩) fun l' H' s L'=>q l' _ H' (W4.same s) (ran.snoc ok) L' (by rw [List.length_append]; exact Nat.le_refl _) (sb.trans (Sb2.same s))
  case tt =>
    rintro Dn σ H ⟨x5,x6,x7,u,f,D,g,a,b,d,l,S,ns,tv,ts,p,es,rfl,hu,W,k,ran,LG,fS,hS,el,q⟩
    obtain ⟨gd,cne⟩:=ran.gd k
    have p2:=k.p2
    have p9:=k.p9
    have pm:=pm_of k.pr (by omega)
    obtain ⟨dx,fs,hD,n1,n2,n3,n4,n5⟩:=W.ins
    refine ⟨_,rfl,u,_,_,_,rfl,rfl,SqT.of hu,atI_nat (j:=0) (awV_0 _),rfl,_,rfl,?_⟩
    by_cases hc:(runs ns ts p es).aw.1 = "coin"
    · refine iteD (congrArg V.str hc) ?_
      refine ⟨_,rfl,_,rfl,f,p,rfl,W.F,by omega,by omega,fun r H1 r0 r1 F1 S1=>?_⟩
      have W1:=W.feed S1 F1
      obtain ⟨dx1,fs1,hD1,n1,n2,n3,n4,n5⟩:=W1.ins
      have ok:TossOk ns p (runs ns ts p es) r:=⟨hc,r0,r1,gd.tl,(gd.co hc).2,gd.po⟩
      refine ⟨_,rfl,D,dx1,fs1,rfl,hD1,n5,_,rfl,?_⟩
      refine .inl ⟨D,g,_,r,ns,ts,p,rfl,W1.Dd,W1.G.gm,k,ok.aw,r0,r1,ok.tl,ok.ro,ok.po,fun H2 S2 D2=>?_⟩
      have W2:=W1.step S2 D2
      have sb:Sb2 f D H H2:=(Sb2.feed S1).trans (Sb2.db S2)
      have LG2:=LG.keep (Keep.sb2 sb fS hD) hS
      have hS2:Lsts S H2:=Lsts.sb2 hS sb W2.F hD
      have W3:Wd C CG H2 f D g a b d d (runs ns ts p (es++[.toss r])) ns tv ts p:=by
        rw [runs_snoc]
        exact W2
      refine ⟨_,rfl,_,rfl,?_⟩
      exact log_more (e:=.toss r) LG2 hS2 el (fun H' t s ht=>⟨t,rfl,ht⟩) fun l' H' s L'=>q l' _ H' (W3.same s) (ran.snoc ok) L' (by rw [List.length_append]; exact Nat.le_refl _) (sb.trans (Sb2.same s))
    refine iteDF (fun e=>hc (V.str.inj e)) ?_
    refine ⟨_,rfl,u,_,_,_,rfl,rfl,SqT.of hu,atI_nat (j:=0) (awV_0 _),rfl,_,rfl,?_⟩
    by_cases hh:(runs ns ts p es).aw.1 = "hear"
    · refine iteNS (congrArg V.str hh) ?_
      obtain ⟨n,en,nn1,nn5,np,nr⟩:∃ n:Int,(runs ns ts p es).aw=(("hear" : Str),some n)∧1≤n∧n≤500∧n≤p∧((runs ns ts p es).cl ≠ []→∃ x ∈ ns,n=degOf ts x+1):=by
        have t1:=k.t1
        have t10:=k.t10
        have tp:=k.tp
        rcases gd.he hh with ⟨c0,w⟩ | ⟨c1,tl,w⟩
        · exact ⟨_,w,by omega,by omega,tp,fun z=>absurd c0 z⟩
        · have hx:ns.getD (runs ns ts p es).to.length "" ∈ ns:=by
            rw [List.getD_eq_getElem?_getD,List.getElem?_eq_getElem tl]
            exact List.getElem_mem tl
          have dr:=k.deg _ hx
          have d4:=deg_400 k (ns.getD (runs ns ts p es).to.length "")
          exact ⟨_,w,by omega,by omega,by omega,fun _=>⟨_,hx,rfl⟩⟩
      have hu':H u=some (.tup [.str "hear", .int n]):=by
        rw [en] at hu
        exact hu
      refine ⟨_,rfl,u,_,_,_,rfl,rfl,SqT.of hu',atI_nat (j:=1) rfl,n,rfl,by omega,by omega,fun D2 hD2=>?_⟩
      have D2f:D2 ≠ f:=W.F.ne hD2
      have D2S:D2 ∉ S:=Lsts.free hS hD2
      refine comp_range (fun i H'=>∃ xs:List Int,H' D2=some (.lst (xs.map V.int))∧xs.length=i∧PtOk xs p∧FeedAt H' f∧SameBut f H H') ⟨[],by rw [upd_same]; rfl,rfl,(fun x hx=>by cases hx),W.F.same (Same.new hD2 _),SameBut.of (Same.new hD2 _)⟩ ?_ ?_
      · rintro i H1 hi ⟨xs,hl,xl,xo,F1,S1⟩
        refine ⟨_,rfl,_,rfl,f,p,rfl,F1,by omega,by omega,fun r H2 r0 r1 F2 S2=>?_⟩
        have hl2:=S2 _ _ D2f hl
        refine ⟨_,hl2,?_,Nx.of hi ⟨xs++[r],?_,?_,?_,?_,fun b o n e=>?_⟩⟩
        · rw [List.length_map]
          exact small1000 (by omega)
        · rw [upd_same,List.map_append]
          rfl
        · rw [List.length_append,List.length_singleton,xl]
        · intro x hx
          rcases List.mem_append.mp hx with h | h
          · exact xo x h
          · rw [List.mem_singleton.mp h]
            exact ⟨r0,r1⟩
        · obtain ⟨u,t,e,z⟩:=F2
          exact ⟨u,t,by rw [upd_ne (Ne.symm D2f)]; exact e,z⟩
        · rw [upd_ne (ne_of_none e hD2)]
          exact S2 _ _ n (S1 _ _ n e)
      rintro H1 ⟨xs,hl1,xl,xo,F1,S1⟩
      have W1:=W.feed S1 F1
      have LG1:=LG.keep (Keep.mem S1 fS) hS
      have hS1:Lsts S H1:=Lsts.sb2 hS (Sb2.feed (D:=D) S1) F1 hD
      have hu1:=S1 _ _ (ne_feed W.F hu' (fun _ z=>by cases z)) hu'
      refine ⟨_,rfl,(by show 0≤sizeLine; decide),fun L0 hL0=>?_⟩
      have J2:=Same.new hL0 (.lst [])
      have g2:upd H1 L0 (.lst []) L0=some (.lst []):=upd_same
      have W2:=W1.same J2
      have LG2:=LG1.keep (Keep.same J2) hS1
      have hS2:Lsts S (upd H1 L0 (.lst [])):=Lsts.sb2 hS1 (Sb2.same (f:=f) (D:=D) J2) W2.F (W1.ins.choose_spec.choose_spec.1)
      have hu2:=J2 _ _ hu1
      have hl2:=J2 _ _ hl1
      have q2:=q.next ((Sb2.feed S1).trans (Sb2.same J2))
      generalize upd H1 L0 (.lst [])=H2 at J2 g2 W2 LG2 hS2 hu2 hl2 q2
      obtain ⟨lS,vs,hl,vl,old⟩:=id LG2
      refine ⟨l,L0,vs,rfl,rfl,SqL.of hl,SqL.of g2,_,rfl,?_⟩
      by_cases hes:es=[]
      · have ve:vs=[]:=List.eq_nil_of_length_eq_zero (by rw [vl,hes]; rfl)
        rw [ve]
        refine iteF ?_
        have ok:HearOk ns p (runs ns ts p es) xs:=⟨by rw [en]; congr 2; omega,xo,by omega,(fun z=>absurd (by rw [hes]; rfl) z),gd.tl,gd.po⟩
        exact ⟨_,_,_,D2,f,D,g,a,b,d,l,S,ns,tv,ts,p,es,xs,rfl,hl2,D2S,ok,W2,k,ran,LG2,fS,hS2,el,q2⟩
      · have ve:(!vs.isEmpty)=true:=by
          cases vs with
          | nil =>
            rw [List.length_nil] at vl
            exact absurd (List.eq_nil_of_length_eq_zero vl.symm) hes
          | cons a r=>rfl
        rw [ve]
        refine iteT ?_
        obtain ⟨x,hx,nx⟩:=nr (cne hes)
        obtain ⟨dx2,fs2,hD2',m1,m2,m3,m4,m5⟩:=W2.ins
        refine ⟨_,rfl,_,rfl,u,_,_,_,rfl,rfl,SqT.of hu2,atI_nat (j:=1) rfl,_,rfl,D,dx2,fs2,rfl,hD2',m2,D,g,_,rfl,W2.Dd,fun v hv=>?_⟩
        subst hv
        refine ⟨_,rfl,_,rfl,f,9,rfl,W2.F,by decide,by decide,fun w9 H3 w0 w1 F3 S3=>⟨_,_,rfl,rfl,?_⟩⟩
        have W3:=W2.feed S3 F3
        have LG3:=LG2.keep (Keep.mem S3 fS) hS2
        have hS3:Lsts S H3:=Lsts.sb2 hS2 (Sb2.feed (D:=D) S3) F3 hD2'
        refine ⟨f,n,_,p,_,rfl,W3.F,nn1,nn5,np,pm,p2,by omega,gd.e0,gd.e1,fun l4 ys H4 l40 l4f hl4 F4 S4 yl yo fi=>?_⟩
        have W4:=W3.feed S4 F4
        have y5:ys.length≤500:=by omega
        have ok:HearOk ns p (runs ns ts p es) ys:=⟨by rw [en,yl],yo,y5,(fun _=>row_ok k hx (by rw [yl,nx]) y5 yo),gd.tl,gd.po⟩
        exact ⟨_,_,_,l4,f,D,g,a,b,d,l,S,ns,tv,ts,p,es,ys,rfl,hl4,Lsts.free hS3 l40,ok,W4,k,ran,LG3.keep (Keep.mem S4 fS) hS3,fS,Lsts.sb2 hS3 (Sb2.feed (D:=D) S4) F4 (W3.ins.choose_spec.choose_spec.1),el,q2.next ((Sb2.feed S3).trans (Sb2.feed S4))⟩
    · refine iteN' (fun e=>hh (V.str.inj e)) ?_
      exact ⟨_,rfl,q l es H W ran LG (by omega) (Sb2.same (Same.refl _))⟩
  obtain ⟨gd,cne⟩:=ran.gd k
  have an:AwN (runs ns ts p es):=fun hh=>by
    have t1:=k.t1
    have t10:=k.t10
    rcases gd.he hh with ⟨c0,w⟩ | ⟨c1,tl,w⟩
    · exact ⟨_,w,by omega,by omega⟩
    · have:=d39 (ns.getD (runs ns ts p es).to.length "")
      have:=deg_400 k (ns.getD (runs ns ts p es).to.length "")
      exact ⟨_,w,by omega,by omega⟩
  obtain ⟨dx,fs,hD,n1,n2,n3,n4,n5⟩:=W.ins
  refine ⟨_,rfl,D,dx,fs,rfl,hD,n1,D,g,_,rfl,W.Dd,fun v hv=>?_⟩
  obtain ⟨u,rfl,hu⟩:=hv
  refine ⟨_,rfl,f,3,rfl,W.F,by decide,by decide,fun wr H1 w0 w1 F1 S1=>⟨rfl,_,rfl,?_⟩⟩
  have W1:=W.feed S1 F1
  have hu1:=S1 _ _ (ne_feed W.F hu (fun _ z=>by cases z)) hu
  have LG1:=LG.keep (Keep.mem S1 fS) hS
  have hS1:Lsts S H1:=Lsts.sb2 hS (Sb2.feed (D:=D) S1) F1 hD
  have q1:=q.next (Sb2.feed S1)
  obtain ⟨dx1,fs1,hD1,_⟩:=W1.ins
  refine ite2 (fun _=>?_) (fun _=>?_)
  · refine ⟨_,rfl,_,rfl,_,rfl,f,D,g,_,ns,ts,p,rfl,F1,W1.Dd,(fun H' s'=>(W1.G.feed W1.F W1.df s').gm),an,fun H2 F2 S2=>?_⟩
    refine ⟨_,rfl,?_⟩
    refine iteF ?_
    have hu2:=S2 _ _ (ne_feed F1 hu1 (fun _ z=>by cases z)) hu1
    exact ⟨_,_,_,u,f,D,g,a,b,d,l,S,ns,tv,ts,p,es,rfl,hu2,W1.feed S2 F2,k,ran,LG1.keep (Keep.mem S2 fS) hS1,fS,Lsts.sb2 hS1 (Sb2.feed (D:=D) S2) F2 hD1,el,q1.next (Sb2.feed S2)⟩
  · refine iteF ?_
    exact ⟨_,_,_,u,f,D,g,a,b,d,l,S,ns,tv,ts,p,es,rfl,hu1,W1,k,ran,LG1,fS,hS1,el,q1⟩
end
def bfD (z:Db):PyData:=.tuple [awD z.aw,.int z.ed,.int z.pl]
theorem rep_bf {K:PySem.W.Frag} {H:Hp} {c t:Addr} {z:Db} (h:H c=some (.tup (awV z.aw))) (ht:H t=some (.tup [.ref c,.int z.ed,.int z.pl])):Rep K H (.ref t) (bfD z):=.tup (SqT.of ht) (.cons (rep_aw h) (.cons (.int _) (.cons (.int _) .nil)))
theorem shaped_bf {z:Db} (h:AwW z.aw.1):SeqAt.shaped (bfD z)=true:=by
  obtain ⟨⟨x,n⟩,a2,a3,a4,a5,a6,a7⟩:=z
  have:=h.ok
  cases n <;> simp [bfD,awD,SeqAt.shaped,PyData.canLay0,PyData.depth,PyData.canLayAll0,PyData.depthAll] <;> exact this
theorem eqv_bf {z:Db} (h:AwW z.aw.1):PyData.eqv (bfD z) (bfD z)=true:=PySem.SeqAt.eqv_refl _ (SeqAt.canLay_of_shaped (shaped_bf h))
section
variable {C CG cT cC cN:Addr}
theorem call_list_ofK {X:Cx} (K:PySem.W.Frag) (hK:X.K=K:=by rfl):CallR X (.type "list") (fun xs H Q=>∃ p ys,xs=[.ref p]∧(SqL K H p ys∨SqT K H p ys)∧∀ l,H l=none→Q (.ref l) (upd H l (.lst ys))):=by subst hK; exact call_list_of
theorem LogAt.more {H:Hp} {S:List Addr} {l x:Addr} {es:List Ev} (L:LogAt H S l es) (hx:H x=none):LogAt H (x::S) l es:=by
  obtain ⟨n,vs,hl,vl,old⟩:=L
  have nx:∀ {y:Addr} {o:HO},H y=some o→y ∉ S→y ∉ x::S:=fun {y o} hy hn z=>by
    rcases List.mem_cons.mp z with h | h
    · rw [h,hx] at hy
      cases hy
    · exact hn h
  refine ⟨nx hl n,vs,hl,vl,fun i v e hv he=>?_⟩
  have:=old i v e hv he
  cases e with
  | hear xs =>
    obtain ⟨a,l2,e1,e2,e3,e4⟩:=this
    exact ⟨a,l2,e1,e2,e3,nx e3 e4⟩
  | toss r=>exact this
theorem LogAt.copy {H H':Hp} {S:List Addr} {l l':Addr} {es:List Ev} {vs:List V} (L:LogAt H S l es) (hl:H l=some (.lst vs)) (s:Same H H') (hS:Lsts S H) (n:l' ∉ S) (hl':H' l'=some (.lst vs)):LogAt H' S l' es:=by
  obtain ⟨_,ws,hw,wl,old⟩:=L
  rw [hl] at hw
  cases hw
  exact ⟨n,vs,hl',wl,fun i v e hv he=>(old i v e hv he).keep (Keep.same s) hS⟩
theorem DbAt.sb2 {H H':Hp} {f D E g C' dx':Addr} {fs:List (Str × V)} {z:Db} (h:DbAt C H E g z) (F:FeedAt H f) (hD:H D=some (.ins C' dx' fs)) (ne:E ≠ D) (s:Sb2 f D H H'):DbAt C H' E g z:=by
  obtain ⟨dx,aA,aC,aH,aT,R⟩:=h
  exact ⟨dx,aA,aC,aH,aT,s _ _ (ne_feed F R.hD (fun _ z=>by cases z)) ne R.hD,s _ _ (ne_feed F R.hA (fun _ z=>by cases z)) (ne_of R.hA hD (by intro z; cases z)) R.hA,s _ _ (ne_feed F R.hC (fun _ z=>by cases z)) (ne_of R.hC hD (by intro z; cases z)) R.hC,s _ _ (ne_feed F R.hH (fun _ z=>by cases z)) (ne_of R.hH hD (by intro z; cases z)) R.hH,s _ _ (ne_feed F R.hT (fun _ z=>by cases z)) (ne_of R.hT hD (by intro z; cases z)) R.hT⟩
theorem DbAt.put {H H':Hp} {E g c:Addr} {ys:List V} {z:Db} (h:DbAt C H E g z) (hc:H c=some (.lst ys)) (s:SameBut c H H'):DbAt C H' E g z:=by
  obtain ⟨dx,aA,aC,aH,aT,R⟩:=h
  exact ⟨dx,aA,aC,aH,aT,s _ _ (ne_of R.hD hc (by intro z; cases z)) R.hD,s _ _ (ne_of R.hA hc (by intro z; cases z)) R.hA,s _ _ (ne_of R.hC hc (by intro z; cases z)) R.hC,s _ _ (ne_of R.hH hc (by intro z; cases z)) R.hH,s _ _ (ne_of R.hT hc (by intro z; cases z)) R.hT⟩
theorem GmA.put {H H':Hp} {g a b d c:Addr} {ns:List Str} {tv:List V} {ts:List Tr} {p:Int} {ys:List V} (h:GmA CG H g a b d ns tv ts p) (hc:H c=some (.lst ys)) (cd:c ≠ d) (s:SameBut c H H'):GmA CG H' g a b d ns tv ts p:=by
  obtain ⟨⟨dx',e'⟩,h2,h3,h4,h5⟩:=h
  exact ⟨⟨dx',s _ _ (ne_of e' hc (by intro z; cases z)) e'⟩,s _ _ (ne_of h2 hc (by intro z; cases z)) h2,s _ _ (ne_of h3 hc (by intro z; cases z)) h3,h4.mono (fun c xs hx=>s _ _ (ne_of hx hc (by intro z; cases z)) hx),s _ _ (Ne.symm cd) h5⟩
def three (D:Nat→Addr):List V:=[.ref (D 0),.ref (D 1),.ref (D 2)]
def setA (D:Nat→Addr) (j:Nat) (x:Addr):Nat→Addr:=fun i=>if i=j then x else D i
def setE (E:Nat→List Ev) (j:Nat) (x:List Ev):Nat→List Ev:=fun i=>if i=j then x else E i
theorem trio_at (D:Nat→Addr) {j:Nat} (hj:j < 3):atI (three D) (j:Int)=some (.ref (D j)):=by
  have:j=0∨j=1∨j=2:=by omega
  rcases this with h | h | h <;> subst h <;> rfl
theorem trio_set (D:Nat→Addr) {j:Nat} (hj:j < 3) (x:Addr):(three D).set j (.ref x)=three (setA D j x):=by
  have:j=0∨j=1∨j=2:=by omega
  rcases this with h | h | h <;> subst h <;> rfl
structure Trio (C CG:Addr) (H:Hp) (f g a b d Pr Lg:Addr) (D l:Nat→Addr) (es:Nat→List Ev) (ns:List Str) (tv:List V) (ts:List Tr) (p:Int) (n:Nat):Prop where
  F:FeedAt H f
  G:GmA CG H g a b d ns tv ts p
  df:d ≠ f
  dP:Pr ≠ d
  dL:Lg ≠ d
  pr:H Pr=some (.lst (three D))
  lg:H Lg=some (.lst (three l))
  db:∀ j,j < 3→DbAt C H (D j) g (runs ns ts p (es j))
  ra:∀ j,j < 3→Ran ns ts p (es j)
  lo:∀ j,j < 3→LogAt H [Lg,Pr,f] (l j) (es j)
  ne:∀ i j,i < 3→j < 3→i ≠ j→D i ≠ D j
  fp:Pr ≠ f
  fl:Lg ≠ f
  pl:Lg ≠ Pr
  le:∀ j,j < 3→(es j).length≤n
section
variable {H H':Hp} {f g a b d Pr Lg:Addr} {D l:Nat→Addr} {es:Nat→List Ev} {ns:List Str} {tv:List V} {ts:List Tr} {p:Int} {n:Nat}
theorem Trio.lsts (h:Trio C CG H f g a b d Pr Lg D l es ns tv ts p n):Lsts [Lg,Pr,f] H:=fun x hx=>by
  simp only [List.mem_cons,List.not_mem_nil,or_false] at hx
  rcases hx with e | e | e <;> subst e
  · exact ⟨_,h.lg⟩
  · exact ⟨_,h.pr⟩
  · obtain ⟨u,t,e,_⟩:=h.F
    exact ⟨_,e⟩
theorem Trio.same (h:Trio C CG H f g a b d Pr Lg D l es ns tv ts p n) (s:Same H H'):Trio C CG H' f g a b d Pr Lg D l es ns tv ts p n :=
  ⟨h.F.same s,h.G.same s,h.df,h.dP,h.dL,s _ _ h.pr,s _ _ h.lg,fun j hj=>(h.db j hj).same s,h.ra,fun j hj=>(h.lo j hj).keep (Keep.same s) h.lsts,h.ne,h.fp,h.fl,h.pl,h.le⟩
theorem Trio.feed (h:Trio C CG H f g a b d Pr Lg D l es ns tv ts p n) (s:SameBut f H H') (F':FeedAt H' f):Trio C CG H' f g a b d Pr Lg D l es ns tv ts p n :=
  ⟨F',h.G.feed h.F h.df s,h.df,h.dP,h.dL,s _ _ h.fp h.pr,s _ _ h.fl h.lg,fun j hj=>(h.db j hj).feed h.F s,h.ra,fun j hj=>(h.lo j hj).keep (Keep.mem s (by simp)) h.lsts,h.ne,h.fp,h.fl,h.pl,h.le⟩
theorem Trio.wd (h:Trio C CG H f g a b d Pr Lg D l es ns tv ts p n) {j:Nat} (hj:j < 3):Wd C CG H f (D j) g a b d d (runs ns ts p (es j)) ns tv ts p:=⟨h.F,h.db j hj,h.G,h.G.2.2.2.2,h.df,h.df⟩
theorem Trio.twin (h:Trio C CG H f g a b d Pr Lg D l es ns tv ts p n) {i j:Nat} (hi:i < 3) (hj:j < 3) {x y:Addr} (hx:∀ k,k < 3→D k ≠ x) (hdx:DbAt C H x g (runs ns ts p (es i))) (hy:LogAt H [Lg,Pr,f] y (es i)) :
    Trio C CG (upd (upd H Pr (.lst (three (setA D j x)))) Lg (.lst (three (setA l j y)))) f g a b d Pr Lg (setA D j x) (setA l j y) (setE es j (es i)) ns tv ts p n:=by
  have s1:SameBut Pr H (upd H Pr (.lst (three (setA D j x)))):=fun b o n e=>by rw [upd_ne n]; exact e
  have lg1:=s1 _ _ h.pl h.lg
  have s2:SameBut Lg (upd H Pr (.lst (three (setA D j x)))) (upd (upd H Pr (.lst (three (setA D j x)))) Lg (.lst (three (setA l j y)))):=fun b o n e=>by rw [upd_ne n]; exact e
  have k1:Keep [Lg,Pr,f] H (upd H Pr (.lst (three (setA D j x)))):=Keep.mem s1 (by simp)
  have k2:Keep [Lg,Pr,f] (upd H Pr (.lst (three (setA D j x)))) (upd (upd H Pr (.lst (three (setA D j x)))) Lg (.lst (three (setA l j y)))):=Keep.mem s2 (by simp)
  have kk:=k1.trans k2
  have F1:FeedAt (upd (upd H Pr (.lst (three (setA D j x)))) Lg (.lst (three (setA l j y)))) f:=by
    obtain ⟨u,t,e,r⟩:=h.F
    exact ⟨u,t,s2 _ _ (Ne.symm h.fl) (s1 _ _ (Ne.symm h.fp) e),r⟩
  refine ⟨F1,(h.G.put h.pr h.dP s1).put lg1 h.dL s2,h.df,h.dP,h.dL,s2 _ _ (Ne.symm h.pl) upd_same,upd_same,fun k hk=>?_,fun k hk=>?_,fun k hk=>?_,fun u v hu hv n=>?_,h.fp,h.fl,h.pl,fun k hk=>?_⟩
  · unfold setA setE
    by_cases c:k=j
    · rw [if_pos c,if_pos c]
      exact (hdx.put h.pr s1).put lg1 s2
    · rw [if_neg c,if_neg c]
      exact ((h.db k hk).put h.pr s1).put lg1 s2
  · unfold setE
    by_cases c:k=j
    · rw [if_pos c]
      exact h.ra i hi
    · rw [if_neg c]
      exact h.ra k hk
  · unfold setA setE
    by_cases c:k=j
    · rw [if_pos c,if_pos c]
      exact hy.keep kk h.lsts
    · rw [if_neg c,if_neg c]
      exact (h.lo k hk).keep kk h.lsts
  · unfold setA
    by_cases c:u=j
    · rw [if_pos c,if_neg (by omega)]
      exact Ne.symm (hx v hv)
    · rw [if_neg c]
      by_cases c2:v=j
      · rw [if_pos c2]
        exact hx u hu
      · rw [if_neg c2]
        exact h.ne u v hu hv n
  · unfold setE
    by_cases c:k=j
    · rw [if_pos c]
      exact h.le i hi
    · rw [if_neg c]
      exact h.le k hk
theorem Trio.told (h:Trio C CG H f g a b d Pr Lg D l es ns tv ts p n) {j:Nat} (hj:j < 3) {l':Addr} {es':List Ev} (W:Wd C CG H' f (D j) g a b d d (runs ns ts p es') ns tv ts p) (R:Ran ns ts p es') (L:LogAt H' [Lg,Pr,f] l' es') (e:es'.length≤n+1) (s:Sb2 f (D j) H H') :
    H' Lg=some (.lst (three l))∧Trio C CG (upd H' Lg (.lst (three (setA l j l')))) f g a b d Pr Lg D (setA l j l') (setE es j es') ns tv ts p (n+1):=by
  obtain ⟨dx,fs,hD,_⟩:=(h.wd hj).ins
  have lg1:=s _ _ h.fl (ne_of h.lg hD (by intro z; cases z)) h.lg
  have pr1:=s _ _ h.fp (ne_of h.pr hD (by intro z; cases z)) h.pr
  have k1:Keep [Lg,Pr,f] H H':=Keep.sb2 s (by simp) hD
  have s2:SameBut Lg H' (upd H' Lg (.lst (three (setA l j l')))):=fun b o n e=>by rw [upd_ne n]; exact e
  have k2:Keep [Lg,Pr,f] H' (upd H' Lg (.lst (three (setA l j l')))):=Keep.mem s2 (by simp)
  have F1:FeedAt (upd H' Lg (.lst (three (setA l j l')))) f:=by
    obtain ⟨u,t,e,r⟩:=W.F
    exact ⟨u,t,s2 _ _ (Ne.symm h.fl) e,r⟩
  have ls:Lsts [Lg,Pr,f] H':=Lsts.sb2 h.lsts s W.F hD
  refine ⟨lg1,F1,W.G.put lg1 h.dL s2,h.df,h.dP,h.dL,s2 _ _ (Ne.symm h.pl) pr1,upd_same,fun k hk=>?_,fun k hk=>?_,fun k hk=>?_,h.ne,h.fp,h.fl,h.pl,fun k hk=>?_⟩
  · unfold setE
    by_cases c:k=j
    · rw [if_pos c,c]
      exact W.Dd.put lg1 s2
    · rw [if_neg c]
      exact ((h.db k hk).sb2 h.F hD (h.ne k j hk hj c) s).put lg1 s2
  · unfold setE
    by_cases c:k=j
    · rw [if_pos c]
      exact R
    · rw [if_neg c]
      exact h.ra k hk
  · unfold setA setE
    by_cases c:k=j
    · rw [if_pos c,if_pos c]
      exact L.keep k2 ls
    · rw [if_neg c,if_neg c]
      exact ((h.lo k hk).keep k1 h.lsts).keep k2 ls
  · unfold setE
    by_cases c:k=j
    · rw [if_pos c]
      exact e
    · rw [if_neg c]
      have:=h.le k hk
      omega
end
end
section
variable {C CG cT cC cN:Addr}
theorem dl_n11 {g aA aC:Addr} {s:Int} {aH aT:Addr} {ed pl:Int}:(dl g aA aC s aH aT ed pl).lookup ("twin" : Str)=none:=by with_unfolding_all rfl
theorem upd_comm {H:Hp} {x y:Addr} {u v:HO} (h:y ≠ x):upd (upd H x u) y v=upd (upd H y v) x u:=by
  funext z
  by_cases c:z=y
  · rw [c,upd_same,upd_ne h,upd_same]
  · rw [upd_ne c]
    by_cases c2:z=x
    · rw [c2,upd_same,upd_same]
    · rw [upd_ne c2,upd_ne c2,upd_ne c]
theorem ix3 {xs:List V} (h:xs.length=3) {j:Nat} (hj:j < 3):ixN xs.length (j:Int)=some j:=by
  unfold ixN
  rw [if_pos (by omega),if_pos (by omega),Int.toNat_natCast]
def tP46 (C CG:Addr):TS:=fun Dn σ H=>∃ (x0 x8 x10 x11 x12 x13:Option V) (f g a b d l Pr:Addr) (D:Nat→Addr) (ns:List Str) (tv:List V) (ts:List Tr) (p:Int) (es:List Ev),σ=[x0,some (.ref a),some (.ref b),some (.int p),some (.ref g),some (.ref f),some (.ref (D 0)),some (.ref l),x8,some (.ref Pr),x10,x11,x12,x13]∧FeedAt H f∧GmA CG H g a b d ns tv ts p∧d ≠ f∧Pr ≠ d∧Pr ≠ f∧H Pr=some (.lst (three D))∧(∀ j,j < 3→DbAt C H (D j) g (runs ns ts p es))∧(∀ i j,i < 3→j < 3→i ≠ j→D i ≠ D j)∧Ran ns ts p es∧LogAt H [Pr,f] l es∧es.length≤20∧GmK ns ts p∧(∀ x,degOf ts x < 39)∧ns.length≤4∧∀ H',Dn.rt (.bl true) H'
def tQ46 (C CG:Addr):TS:=fun Dn σ H=>∃ (x0 x6 x7 x8 x11 x12 x13:Option V) (f g a b d Pr Lg:Addr) (D l:Nat→Addr) (es:Nat→List Ev) (ns:List Str) (tv:List V) (ts:List Tr) (p:Int) (n:Nat),σ=[x0,some (.ref a),some (.ref b),some (.int p),some (.ref g),some (.ref f),x6,x7,x8,some (.ref Pr),some (.ref Lg),x11,x12,x13]∧Trio C CG H f g a b d Pr Lg D l es ns tv ts p n∧GmK ns ts p∧(∀ x,degOf ts x < 39)∧n≤800 ∧
  (∀ (y11 y13:Option V) (l':Nat→Addr) (es':Nat→List Ev) (H':Hp),Trio C CG H' f g a b d Pr Lg D l' es' ns tv ts p (n+1)→Dn.nx [x0,some (.ref a),some (.ref b),some (.int p),some (.ref g),some (.ref f),x6,x7,x8,some (.ref Pr),some (.ref Lg),y11,x12,y13] H')
theorem sc_law:FnScope ["_law_script", "_law_names_here", "_law_trees", "_law_p", "_law_game_here", "_law_feed_here", "_law_doubter", "_law_log", "_law_k", "_law_pair", "_law_logs", "_law_j", "_law_later", "_law_at"] ["_law_script"] (defScope s_law):=⟨rfl,rfl,rfl,by decide +kernel,rfl,by decide +kernel,by decide +kernel⟩
theorem ok_law {f fI fD fTw:Addr} {fd fdI fdD fdTw:FuncData} (F:Fun K "law" "law" s_law f fd) (B:Bl mg) (T:DTxt K mg C) (TG:GTxt K mg CG)
    (M:Mk K CG fI) (GI:FnOk P w K mg base CX0 14 fI fdI ["self", "switches", "trees", "field"] (spGInit CG)) (bI:Binds K fdI ["self", "switches", "trees", "field"] [])
    (MD:Mk K C fD) (GD:FnOk P w K mg base CX0 1 fD fdD ["self", "game"] (spDInit C CG)) (bD:Binds K fdD ["self", "game"] [])
    (mTw:Meth K C "twin" fTw) (GTw:FnOk P w K mg base CX0 3 fTw fdTw ["self"] (spTwin C CG)) (bTw:Binds K fdTw ["self"] [])
    (C_l_feed:Cal P w K mg base 1 "_law_feed" ["_law_script", "_law_k"] (spFeed K)) (C_l_take:Cal P w K mg base 1 "_law_take" ["_law_feed_here", "_law_many"] spTake) (C_l_game:Cal P w K mg base 14 "_law_game" ["_law_feed_here", "_law_most", "_law_room"] spGame)
    (C_l_state:Cal P w K mg base 2 "_law_state" ["_law_doubter"] (spState C)) (C_l_fresh:Cal P w K mg base 19 "_law_fresh" ["_law_game_here", "_law_log"] (spFresh C CG)) (C_l_told:Cal P w K mg base 20 "_law_told" ["_law_doubter", "_law_log", "_law_feed_here", "_law_p"] (spTold C CG)):FnOk P w K mg base CX0 21 f fd ["_law_script"] (spLaw K):=by
  refine F.ok sc_law (fun vs H Q E h=>?_) (fun cdv A outer s H vs Q E hr h=>?_)
  · obtain ⟨a,ns,rfl,_⟩:=h
    rfl
  obtain ⟨a0,ns0,rfl,hS,h63,q⟩:=h
  have hr3:Room 3 _:=hr.mono (by decide)
  have hr15:Room (14+1) _:=hr.mono (by decide)
  have hr2:Room (1+1) _:=hr.mono (by decide)
  refine ⟨_,(pss_cons (ps_asg (pe_cal C_l_game hr (by decide) rfl (pa_cons (pe_cal C_l_feed hr (by decide) rfl (pa_cons (pv 0) (pa_cons pe_int pa_nil))) (pa_cons pe_int (pa_cons pe_int pa_nil)))) (pg_tup rfl (pgs_cons (pg_name (i:=1) sc_law.nd rfl (Or.inl rfl)) (pgs_cons (pg_name (i:=2) sc_law.nd rfl (Or.inl rfl)) (pgs_cons (pg_name (i:=3) sc_law.nd rfl (Or.inl rfl)) pgs_nil)))))
      (pss_cons (ps_set (i:=4) sc_law.nd rfl (Or.inl rfl) (pe_make M GI hr15 rfl TG.mgC bI .nil pass0 (pa_cons (pv 1) (pa_cons (pv 2) (pa_cons (pv 3) pa_nil)))))
      (pss_cons (ps_set (i:=5) sc_law.nd rfl (Or.inl rfl) (pe_cal C_l_feed hr (by decide) rfl (pa_cons (pv 0) (pa_cons pe_int pa_nil))))
      (pss_cons (ps_set (i:=6) sc_law.nd rfl (Or.inl rfl) (pe_make MD GD hr2 rfl T.mgC bD .nil pass0 (pa_cons (pv 4) pa_nil)))
      (pss_cons (ps_set (i:=7) sc_law.nd rfl (Or.inr rfl) (pe_lst pa_nil))
      (pss_cons (ps_for PassesOwn.never rfl (pi_range1 rfl B.range (pa_cons (pe_cal C_l_take hr (by decide) rfl (pa_cons (pv 5) (pa_cons (pe_op op_add (pe_op op_mul pe_int (pe_callB call_len_seq rfl B.len PySem.boot_len (pa_cons (pv 1) pa_nil))) pe_int) pa_nil))) pa_nil)) (pg_name (i:=8) sc_law.nd rfl (Or.inl rfl))
        (pss_one (ps_set (i:=7) sc_law.nd rfl (Or.inr rfl) (pe_cal C_l_told hr (by decide) rfl (pa_cons (pv 6) (pa_cons (pv 7) (pa_cons (pv 5) (pa_cons (pv 3) pa_nil))))))))
      (pss_cons (ps_set (i:=9) sc_law.nd rfl (Or.inl rfl) (pe_lst (pa_cons (pv 6) (pa_cons (pe_meth0 (pv 6) T.cl mTw GTw hr3 bTw .nil pass0) (pa_cons (pe_meth0 (pv 6) T.cl mTw GTw hr3 bTw .nil pass0) pa_nil)))))
      (pss_cons (ps_if (pt_cmpR op_eq (pe_cal C_l_take hr (by decide) rfl (pa_cons (pv 5) (pa_cons pe_int pa_nil))) pe_int (nomark _))
        (pss_one (ps_asg (pe_meth0 (pe_ix ix_list (pv 9) pe_int (fun _ _=>rfl)) T.cl mTw GTw hr3 bTw .nil pass0) (pg_sub (pv 9) pe_int set_list))) pss_nil)
      (pss_cut (t':=tP46 C CG) (pss_cons (ps_comp (i:=10) (N:=["_law_log"]) (ix:=[7]) sc_law.nd rfl (Or.inl rfl) rfl
          (CompScope.one (by with_unfolding_all rfl) (by decide) rfl (by decide) rfl (by decide +kernel) (by with_unfolding_all rfl) (by with_unfolding_all rfl) (by with_unfolding_all rfl) rfl rfl) rfl
          (pi_range1 rfl B.range (pa_cons pe_int pa_nil)) (fun _ _ _=>pb_all (pe_callTy (call_list_ofK K) rfl B.list boot_list' (pa_cons (pv 1) pa_nil))))
      (pss_cons (ps_for PassesOwn.never rfl (pi_range1 rfl B.range (pa_cons pe_int pa_nil)) (pg_name (i:=11) sc_law.nd rfl (Or.inl rfl))
        (pss_one (ps_if (pt_cmpR (op_neD hr.units) (pe_cal C_l_state hr (by decide) rfl (pa_cons (pe_ix ix_list (pv 9) (pv 11) (fun _ _=>rfl)) pa_nil)) (pe_cal C_l_state hr (by decide) rfl (pa_cons (pv 6) pa_nil)) (nomark _)) (pss_one (ps_ret pe_bl)) pss_nil)))
      (pss_cons (ps_set (i:=12) sc_law.nd rfl (Or.inl rfl) (pe_cal C_l_take hr (by decide) rfl (pa_cons (pv 5) (pa_cons (pe_op op_add (pe_op op_mul pe_int (pe_callB call_len_seq rfl B.len PySem.boot_len (pa_cons (pv 1) pa_nil))) pe_int) pa_nil))))
      (pss_cons (ps_for PassesOwn.never rfl (pi_range1 rfl B.range (pa_cons (pe_op op_add (pe_op op_mul pe_int (pe_callB call_len_seq rfl B.len PySem.boot_len (pa_cons (pv 1) pa_nil))) pe_int) pa_nil)) (pg_name (i:=8) sc_law.nd rfl (Or.inl rfl))
        (pss_cons (ps_if (pt_cmpR op_eq (pv 8) (pv 12) (nomark _))
          (pss_cons (ps_asg (pe_meth0 (pe_ix ix_list (pv 9) pe_int (fun _ _=>rfl)) T.cl mTw GTw hr3 bTw .nil pass0) (pg_sub (pv 9) pe_int set_list))
          (pss_one (ps_asg (pe_callTy call_list_of rfl B.list boot_list' (pa_cons (pe_ix ix_list (pv 10) pe_int (fun _ _=>rfl)) pa_nil)) (pg_sub (pv 10) pe_int set_list)))) pss_nil)
        (pss_cut (t':=tQ46 C CG) (pss_cons (ps_set (i:=13) sc_law.nd rfl (Or.inl rfl) (pe_cal C_l_take hr (by decide) rfl (pa_cons (pv 5) (pa_cons pe_int pa_nil))))
        (pss_cons (ps_asg (pe_cal C_l_told hr (by decide) rfl (pa_cons (pe_ix ix_list (pv 9) (pv 13) (fun _ _=>rfl)) (pa_cons (pe_ix ix_list (pv 10) (pv 13) (fun _ _=>rfl)) (pa_cons (pv 5) (pa_cons (pv 3) pa_nil))))) (pg_sub (pv 10) (pv 13) set_list))
        (pss_one (ps_for PassesOwn.never rfl (pi_range1 rfl B.range (pa_cons pe_int pa_nil)) (pg_name (i:=11) sc_law.nd rfl (Or.inl rfl))
          (pss_one (ps_if (pt_cmpR (op_neD hr.units) (pe_cal C_l_state hr (by decide) rfl (pa_cons (pe_ix ix_list (pv 9) (pv 11) (fun _ _=>rfl)) pa_nil)) (pe_cal C_l_state hr (by decide) rfl (pa_cons (pe_cal C_l_fresh hr (by decide) rfl (pa_cons (pv 4) (pa_cons (pe_ix ix_list (pv 10) (pv 11) (fun _ _=>rfl)) pa_nil))) pa_nil)) (nomark _)) (pss_one (ps_ret pe_bl)) pss_nil)))))) ?qq)))
      (pss_one (ps_ret pe_bl)))))) ?pp))))))))),?_⟩
  case qq =>
    rintro Dn σ H ⟨x0,x6,x7,x8,x11,x12,x13,f,g,a,b,d,Pr,Lg,D,l,es,ns,tv,ts,p,n,rfl,Tr0,k,d39,n8,q⟩
    refine ⟨_,rfl,f,3,rfl,Tr0.F,by decide,by decide,fun at5 H1 a0 a1 F1 S1=>?_⟩
    have Tr1:=Tr0.feed S1 F1
    obtain ⟨j,rfl⟩:∃ j:Nat,at5=(j:Int):=⟨at5.toNat,by omega⟩
    have hj:j < 3:=by omega
    refine ⟨_,rfl,_,rfl,Pr,_,_,_,rfl,rfl,SqL.of Tr1.pr,trio_at D hj,_,rfl,_,rfl,Lg,_,_,_,rfl,rfl,SqL.of Tr1.lg,trio_at l hj,_,rfl,_,rfl,f,D j,g,a,b,d,l j,[Lg,Pr,f],ns,tv,ts,p,es j,rfl,Tr1.wd hj,k,d39,Tr1.ra j hj,Tr1.lo j hj,by simp,Tr1.lsts,by have:=Tr1.le j hj; omega,fun l' es' H2 W2 R2 L2 e2 s2=>?_⟩
    obtain ⟨lg2,Tr2⟩:=Tr1.told hj W2 R2 L2 (by have:=Tr1.le j hj; omega) s2
    refine ⟨_,rfl,_,rfl,Lg,_,_,j,rfl,rfl,lg2,ix3 rfl hj,?_⟩
    rw [trio_set l hj]
    generalize upd H2 Lg (.lst (three (setA l j l')))=H3 at Tr2
    refine ⟨_,rfl,by decide,by decide,for_range (fun i σ H'=>∃ y11:Option V,σ=[x0,some (.ref a),some (.ref b),some (.int p),some (.ref g),some (.ref f),x6,x7,x8,some (.ref Pr),some (.ref Lg),y11,x12,some (.int (j:Int))]∧Same H3 H') ⟨_,rfl,Same.refl _⟩ ?_ ?_⟩
    · rintro i σ H4 hi ⟨y11,rfl,S4⟩
      have hi3:i < 3:=by
        have:((3:Int)).toNat=3:=rfl
        omega
      have ei:(0:Int)+(i:Int)=(i:Int):=by omega
      have Tr4:=Tr2.same S4
      have gd:=((Tr4.ra i hi3).gd k).1
      refine ⟨_,rfl,_,rfl,Pr,_,_,_,rfl,rfl,SqL.of Tr4.pr,by rw [ei]; exact trio_at D hi3,D i,g,_,rfl,Tr4.db i hi3,fun t u H5 S5 ht hu=>?_⟩
      have Tr5:=Tr4.same S5
      refine ⟨_,rfl,_,rfl,_,rfl,Lg,_,_,_,rfl,rfl,SqL.of Tr5.lg,by rw [ei]; exact trio_at _ hi3,g,_,[Lg,Pr,f],ns,ts,p,_,rfl,Tr5.G.gm,k,Tr5.lo i hi3,Tr5.ra i hi3,fun D6 H6 d6 S6 db6=>?_⟩
      refine ⟨D6,g,_,rfl,db6,fun t7 u7 H7 S7 ht7 hu7=>?_⟩
      have S57:=S6.trans S7
      refine ⟨_,_,rep_bf (S57 _ _ hu) (S57 _ _ ht),rep_bf hu7 ht7,shaped_bf gd.ww,shaped_bf gd.ww,_,rfl,?_⟩
      rw [eqv_bf gd.ww]
      refine iteF ?_
      exact ⟨_,rfl,S4.trans (S5.trans S57)⟩
    · rintro σ H4 ⟨y11,rfl,S4⟩
      exact q _ _ _ _ _ (Tr2.same S4)
  case pp =>
    rintro Dn σ H ⟨x0,x8,x10,x11,x12,x13,f,g,a,b,d,l,Pr,D,ns,tv,ts,p,es,rfl,FA,G,df,dP,fP,hPr,db,ne,ran,LG,el,k,d39,nl,q⟩
    have gd:=(ran.gd k).1
    have ll:((ns.map V.str).length:Int)=(ns.length:Int):=by rw [List.length_map]
    obtain ⟨_,vs,hl,_,_⟩:=id LG
    refine ⟨_,rfl,by decide,by decide,fun Lg hLg=>?_⟩
    have LGm:=LG.more hLg
    have Lf:Lg ≠ f:=FA.ne hLg
    have LP:Lg ≠ Pr:=Ne.symm (ne_of_none hPr hLg)
    have Ld:Lg ≠ d:=Ne.symm (ne_of_none G.2.2.2.2 hLg)
    refine comp_range (fun i H'=>∃ ls:List Addr,H' Lg=some (.lst (ls.map V.ref))∧ls.length=i∧(∀ x ∈ ls,LogAt H' [Lg,Pr,f] x es)∧Same H H') ⟨[],by rw [upd_same]; rfl,rfl,(fun x hx=>by cases hx),Same.new hLg _⟩ ?_ ?_
    · rintro i H1 hi ⟨ls,h1,h2,h3,S1⟩
      refine ⟨_,rfl,l,vs,rfl,.inl (SqL.of (S1 _ _ hl)),fun y hy=>?_⟩
      have J:=Same.new hy (.lst vs)
      have lst1:Lsts [Lg,Pr,f] H1:=fun x hx=>by
        simp only [List.mem_cons,List.not_mem_nil,or_false] at hx
        rcases hx with e | e | e <;> subst e
        · exact ⟨_,h1⟩
        · exact ⟨_,S1 _ _ hPr⟩
        · obtain ⟨u,t,e,_⟩:=FA
          exact ⟨_,S1 _ _ e⟩
      have Lm:∀ {H2:Hp},Same H H2→LogAt H2 [Lg,Pr,f] l es:=fun {H2} s2=>by
        obtain ⟨n0,ws,w1,w2,w3⟩:=id LGm
        refine ⟨n0,ws,s2 _ _ w1,w2,fun i v e hv he=>?_⟩
        have:=w3 i v e hv he
        cases e with
        | hear xs =>
          obtain ⟨a1,l2,e1,e2,e3,e4⟩:=this
          exact ⟨a1,l2,e1,s2 _ _ e2,s2 _ _ e3,e4⟩
        | toss r =>
          obtain ⟨a1,e1,e2⟩:=this
          exact ⟨a1,e1,s2 _ _ e2⟩
      have ynS:=Lsts.free lst1 hy
      have Ly:=(Lm S1).copy (S1 _ _ hl) J lst1 ynS upd_same
      have h1y:=J _ _ h1
      have s3:SameBut Lg (upd H1 y (.lst vs)) (upd (upd H1 y (.lst vs)) Lg (.lst (ls.map V.ref++[.ref y]))):=fun b o n e=>by rw [upd_ne n]; exact e
      have lst2:Lsts [Lg,Pr,f] (upd H1 y (.lst vs)):=fun x hx=>by
        obtain ⟨ys,e⟩:=lst1 x hx
        exact ⟨ys,J _ _ e⟩
      refine ⟨_,h1y,?_,Nx.of hi ⟨ls++[y],?_,?_,fun x hx=>?_,fun b' o' e'=>?_⟩⟩
      · rw [List.length_map]
        exact small1000 (by
          have:((3:Int)).toNat=3:=rfl
          omega)
      · rw [upd_same,List.map_append]
        rfl
      · rw [List.length_append,List.length_singleton,h2]
      · rcases List.mem_append.mp hx with h | h
        · exact ((h3 x h).keep (Keep.same J) lst1).keep (Keep.mem s3 (by simp)) lst2
        · rw [List.mem_singleton.mp h]
          exact Ly.keep (Keep.mem s3 (by simp)) lst2
      · rw [upd_ne (ne_of_none e' hLg)]
        exact J _ _ (S1 _ _ e')
    rintro H1 ⟨ls,h1,h2,h3,S1⟩
    obtain ⟨y0,y1,y2,rfl⟩:∃ y0 y1 y2,ls=[y0,y1,y2]:=by
      have:ls.length=3:=h2
      match ls,this with
      | [y0,y1,y2],_=>exact ⟨_,_,_,rfl⟩
    have Tr1:Trio C CG H1 f g a b d Pr Lg D (fun j=>if j=0 then y0 else if j=1 then y1 else y2) (fun _=>es) ns tv ts p 20:=by
      refine ⟨FA.same S1,G.same S1,df,dP,Ld,S1 _ _ hPr,h1,fun j hj=>(db j hj).same S1,fun j _=>ran,fun j hj=>?_,ne,fP,Lf,LP,fun j _=>el⟩
      show LogAt H1 [Lg,Pr,f] (if j=0 then y0 else if j=1 then y1 else y2) es
      split
      · exact h3 _ (by simp)
      · split
        · exact h3 _ (by simp)
        · exact h3 _ (by simp)
    generalize (fun j=>if j=0 then y0 else if j=1 then y1 else y2:Nat→Addr)=l1 at Tr1
    refine ⟨_,rfl,by decide,by decide,for_range (fun i σ H'=>∃ y11:Option V,σ=[x0,some (.ref a),some (.ref b),some (.int p),some (.ref g),some (.ref f),some (.ref (D 0)),some (.ref l),x8,some (.ref Pr),some (.ref Lg),y11,x12,x13]∧Same H1 H') ⟨_,rfl,Same.refl _⟩ ?_ ?_⟩
    · rintro i σ H4 hi ⟨y11,rfl,S4⟩
      have hi3:i < 3:=by
        have:((3:Int)).toNat=3:=rfl
        omega
      have ei:(0:Int)+(i:Int)=(i:Int):=by omega
      have Tr4:=Tr1.same S4
      refine ⟨_,rfl,_,rfl,Pr,_,_,_,rfl,rfl,SqL.of Tr4.pr,by rw [ei]; exact trio_at D hi3,D i,g,_,rfl,Tr4.db i hi3,fun t u H5 S5 ht hu=>?_⟩
      have Tr5:=Tr4.same S5
      refine ⟨_,rfl,D 0,g,_,rfl,Tr5.db 0 (by decide),fun t7 u7 H7 S7 ht7 hu7=>?_⟩
      refine ⟨_,_,rep_bf (S7 _ _ hu) (S7 _ _ ht),rep_bf hu7 ht7,shaped_bf gd.ww,shaped_bf gd.ww,_,rfl,?_⟩
      rw [eqv_bf gd.ww]
      refine iteF ?_
      exact ⟨_,rfl,S4.trans (S5.trans S7)⟩
    rintro σ H2 ⟨y11,rfl,S2⟩
    have Tr2:=Tr1.same S2
    refine ⟨_,rfl,_,rfl,a,_,rfl,.inr (SqT.of Tr2.G.2.1),_,_,rfl,rfl,.inl ⟨by decide,by decide⟩,_,_,rfl,rfl,f,_,rfl,Tr2.F,by omega,by omega,fun wr H3 w0 w1 F3 S3=>?_⟩
    have Tr3:=Tr2.feed S3 F3
    refine ⟨_,rfl,a,_,rfl,.inr (SqT.of Tr3.G.2.1),_,_,rfl,rfl,.inl ⟨by decide,by decide⟩,_,_,rfl,rfl,_,rfl,by omega,by omega,for_range (fun i σ H'=>∃ (y8 y11 y13:Option V) (D' l':Nat→Addr) (es':Nat→List Ev),σ=[x0,some (.ref a),some (.ref b),some (.int p),some (.ref g),some (.ref f),some (.ref (D 0)),some (.ref l),y8,some (.ref Pr),some (.ref Lg),y11,some (.int wr),y13]∧Trio C CG H' f g a b d Pr Lg D' l' es' ns tv ts p (20+i)) ⟨_,_,_,D,l1,_,rfl,Tr3⟩ ?_ ?_⟩
    · rintro i σ H4 hi ⟨y8,y11,y13,D',l',es',rfl,Tr4⟩
      have i8:20+i≤800:=by omega
      refine ⟨_,rfl,_,rfl,rfl,_,rfl,?_⟩
      refine ite2 (fun _=>?_) (fun _=>?_)
      · obtain ⟨dx,fs⟩:=id (Tr4.db 0 (by decide))
        obtain ⟨aA,aC,aH,aT,R⟩:=fs
        refine ⟨_,rfl,Pr,_,_,_,rfl,rfl,SqL.of Tr4.pr,trio_at D' (j:=0) (by decide),D' 0,dx,_,rfl,R.hD,dl_n11,D' 0,g,_,ns,ts,p,rfl,Tr4.db 0 (by decide),Tr4.G.gm,fun X H5 hX S5 dX=>?_⟩
        have Tr5:=Tr4.same S5
        refine ⟨_,rfl,Pr,_,_,2,rfl,rfl,Tr5.pr,ix3 (j:=2) rfl (by decide),?_⟩
        rw [trio_set D' (j:=2) (by decide)]
        have hX':∀ k,k < 3→D' k ≠ X:=fun k hk=>by
          obtain ⟨dx,aA,aC,aH,aT,R⟩:=Tr4.db k hk
          exact ne_of_none R.hD hX
        have lg6:upd H5 Pr (.lst (three (setA D' 2 X))) Lg=some (.lst (three l')):=by
          rw [upd_ne Tr5.pl]
          exact Tr5.lg
        obtain ⟨n0,ws,w1,_,_⟩:=id (Tr5.lo 0 (by decide))
        have w6:upd H5 Pr (.lst (three (setA D' 2 X))) (l' 0)=some (.lst ws):=by
          rw [upd_ne (fun z=>n0 (by rw [z]; simp))]
          exact w1
        refine ⟨_,rfl,Lg,_,_,_,rfl,rfl,SqL.of lg6,trio_at l' (j:=0) (by decide),l' 0,ws,rfl,.inl (SqL.of w6),fun y hy=>?_⟩
        have yP:y ≠ Pr:=fun z=>by
          rw [z,upd_same] at hy
          cases hy
        have y5:H5 y=none:=by
          rw [upd_ne yP] at hy
          exact hy
        have yL:Lg ≠ y:=fun z=>by
          rw [← z,lg6] at hy
          cases hy
        rw [upd_comm yP]
        have J6:=Same.new y5 (.lst ws)
        have Tr6:=Tr5.same J6
        have dX6:=dX.same J6
        have Ly:=(Tr5.lo 0 (by decide)).copy w1 J6 Tr5.lsts (Lsts.free Tr5.lsts y5) upd_same
        generalize upd H5 y (.lst ws)=H6 at J6 Tr6 dX6 Ly
        refine ⟨_,rfl,Lg,_,_,2,rfl,rfl,(by rw [upd_ne Tr6.pl]; exact Tr6.lg),ix3 (j:=2) rfl (by decide),?_⟩
        rw [trio_set l' (j:=2) (by decide)]
        have Tr7:=Tr6.twin (i:=0) (j:=2) (by decide) (by decide) hX' dX6 Ly
        exact ⟨_,_,_,_,_,_,_,f,g,a,b,d,Pr,Lg,_,_,_,ns,tv,ts,p,20+i,rfl,Tr7,k,d39,i8,fun y11 y13 l2 es2 H8 Tr8=>⟨_,_,_,_,_,_,rfl,Tr8⟩⟩
      · exact ⟨_,_,_,_,_,_,_,f,g,a,b,d,Pr,Lg,_,_,_,ns,tv,ts,p,20+i,rfl,Tr4,k,d39,i8,fun y11 y13 l2 es2 H8 Tr8=>⟨_,_,_,_,_,_,rfl,Tr8⟩⟩
    · rintro σ H4 ⟨y8,y11,y13,D',l',es',rfl,Tr4⟩
      exact q H4
  refine ⟨_,rfl,a0,ns0,1,rfl,hS,h63,by decide,by decide,fun f2 H1 f20 s1 F1=>?_⟩
  refine ⟨f2,4,8,rfl,F1,by decide,by decide,by decide,by decide,fun gt sa sb ns tv ts p H2 hgt hsa snl snok snd hsb TS tl1 tl4 tok pp p3 p9 tp tc F2 S2=>?_⟩
  have S02:Same H H2:=s1.but f20 S2
  refine ⟨gt,_,rfl,SqT.of hgt,rfl,_,_,rfl,_,_,rfl,_,_,rfl,rfl,?_⟩
  have nl:ns.length≤4:=by omega
  have ll:((ns.map V.str).length:Int)=(ns.length:Int):=by rw [List.length_map]
  have k:GmK ns ts p:=⟨pp,p3,p9,by omega,tl1,by omega,fun t ht=>⟨(tok t ht).1,Tr.ok_wf snok t (tok t ht).1,by have:=(tok t ht).2.1; omega,by have:=(tok t ht).2.2; omega⟩,tp,tc⟩
  have d39:∀ x,degOf ts x < 39:=fun x=>by
    have:=deg_le (ts:=ts) (B:=8) (fun z=>by rw [z] at tl1; cases tl1) (fun t ht=>by have:=(tok t ht).2.2; omega) x
    omega
  refine ⟨_,rfl,_,rfl,_,rfl,fun g dx nx ndx nex=>?_⟩
  have s5:Same H2 (upd (upd H2 dx (.own g)) g (.ins CG dx [])):=fun b o e=>by
    rw [upd_ne (ne_of_none e nx),upd_ne (ne_of_none e ndx)]
    exact e
  refine ⟨g,dx,sa,sb,ns,tv,ts,p,rfl,upd_same,s5 _ _ hsa,snd,by omega,s5 _ _ hsb,TS.mono (keepT_same s5),tl1,by omega,k.tok,pp,p3,p9,tp,tc,fun d H3 d0 GA hd S3=>⟨rfl,?_⟩⟩
  have S23:Same H2 H3:=fun b o e=>S3 b o (ne_of_none e nx) (s5 b o e)
  have G3:GmA CG H3 g sa sb d ns tv ts p:=⟨GA,S23 _ _ hsa,S23 _ _ hsb,TS.mono (keepT_same S23),hd⟩
  refine ⟨_,rfl,a0,ns0,2,rfl,(S02.trans S23).seq hS,h63,by decide,by decide,fun f H4 f0 S4 F4=>?_⟩
  have G4:=G3.same S4
  have df:d ≠ f:=ne_of_none hd f0
  refine ⟨_,rfl,fun D dD nD ndD neD=>?_⟩
  have s10:Same H4 (upd (upd H4 dD (.own D)) D (.ins C dD [])):=fun b o e=>by
    rw [upd_ne (ne_of_none e nD),upd_ne (ne_of_none e ndD)]
    exact e
  have hD10:upd (upd H4 dD (.own D)) D (.ins C dD []) D=some (.ins C dD []):=upd_same
  generalize upd (upd H4 dD (.own D)) D (.ins C dD [])=H10 at s10 hD10
  have gD:g ≠ D:=by
    obtain ⟨⟨dg,hg⟩,_⟩:=G4
    exact ne_of_none hg nD
  refine ⟨D,g,dD,ns,ts,p,rfl,hD10,(G4.same s10).gm,gD,fun H5 S5 D5=>⟨rfl,?_⟩⟩
  have S45:Same H4 H5:=fun b o e=>S5 b o (ne_of_none e nD) (s10 b o e)
  have W5:Wd C CG H5 f D g sa sb d d (Db.new ts) ns tv ts p:=⟨F4.same S45,D5,G4.same S45,(G4.same S45).2.2.2.2,df,df⟩
  refine ⟨(by show 0≤sizeLine; decide),fun l hl=>?_⟩
  have J6:=Same.new hl (.lst [])
  have gl:upd H5 l (.lst []) l=some (.lst []):=upd_same
  have lf:l ≠ f:=W5.F.ne hl
  have W6:=W5.same J6
  generalize upd H5 l (.lst [])=H6 at J6 gl W6
  have lsf:∀ {H':Hp},FeedAt H' f→Lsts [f] H':=fun {H'} F' x hx=>by
    rw [List.mem_singleton.mp hx]
    obtain ⟨u,t,e,_⟩:=F'
    exact ⟨_,e⟩
  have LG6:LogAt H6 [f] l []:=⟨by simpa using lf,[],gl,rfl,fun i v e hv he=>by cases he⟩
  refine ⟨_,rfl,_,rfl,sa,_,rfl,.inr (SqT.of W6.G.2.1),_,_,rfl,rfl,.inl ⟨by decide,by decide⟩,_,_,rfl,rfl,f,_,rfl,W6.F,by omega,by omega,fun n H7 n0 n1 F7 S7=>?_⟩
  have W7:=W6.feed S7 F7
  have LG7:=LG6.keep (Keep.mem S7 (by simp)) (lsf W6.F)
  refine ⟨n,rfl,by omega,by omega,for_range (fun i σ H'=>∃ (y8:Option V) (l:Addr) (es:List Ev),σ=[some (.ref a0),some (.ref sa),some (.ref sb),some (.int p),some (.ref g),some (.ref f),some (.ref D),some (.ref l),y8,none,none,none,none,none]∧Wd C CG H' f D g sa sb d d (runs ns ts p es) ns tv ts p∧Ran ns ts p es∧LogAt H' [f] l es∧es.length≤i) ⟨_,l,[],rfl,W7,Ran.nil,LG7,Nat.le_refl _⟩ ?_ ?_⟩
  · rintro i σ H8 hi ⟨y8,l,es,rfl,W8,ran,LG8,el⟩
    exact ⟨_,rfl,_,rfl,_,rfl,_,rfl,f,D,g,sa,sb,d,l,[f],ns,tv,ts,p,es,rfl,W8,k,d39,ran,LG8,by simp,lsf W8.F,by omega,fun l' es' H' W' R' L' e' s'=>⟨_,l',es',rfl,W',R',L',by omega⟩⟩
  rintro σ H8 ⟨y8,l,es,rfl,W8,ran,LG8,el⟩
  obtain ⟨dx8,aA,aC,aH,aT,R8⟩:=id W8.Dd
  refine ⟨_,rfl,_,rfl,D,dx8,_,rfl,R8.hD,dl_n11,D,g,_,ns,ts,p,rfl,W8.Dd,W8.G.gm,fun D1 H9 h1 S9 d1=>?_⟩
  have W9:=W8.same S9
  refine ⟨_,rfl,D,dx8,_,rfl,S9 _ _ R8.hD,dl_n11,D,g,_,ns,ts,p,rfl,W9.Dd,W9.G.gm,fun D2 H10 h2 S10 d2=>?_⟩
  have W10:=W9.same S10
  have LG10:=(LG8.keep (Keep.same S9) (lsf W8.F)).keep (Keep.same S10) (lsf W9.F)
  have nD1:D ≠ D1:=ne_of_none R8.hD h1
  have nD2:D ≠ D2:=ne_of_none (S9 _ _ R8.hD) h2
  have n12:D1 ≠ D2:=by
    obtain ⟨_,_,_,_,_,R⟩:=id d1
    exact ne_of_none R.hD h2
  refine ⟨(by show 3≤sizeLine; decide),fun Pr hPr=>?_⟩
  have J11:=Same.new hPr (.lst [.ref D,.ref D1,.ref D2])
  have gP:upd H10 Pr (.lst [.ref D,.ref D1,.ref D2]) Pr=some (.lst [.ref D,.ref D1,.ref D2]):=upd_same
  have Pf:Pr ≠ f:=W10.F.ne hPr
  have Pd:Pr ≠ d:=Ne.symm (ne_of_none W10.L hPr)
  have W11:=W10.same J11
  have e1:=(d1.same S10).same J11
  have e2:=d2.same J11
  have LG11:LogAt (upd H10 Pr (.lst [.ref D,.ref D1,.ref D2])) [Pr,f] l es:=by
    obtain ⟨m0,ws,w1,w2,w3⟩:=LG10.more hPr
    refine ⟨m0,ws,J11 _ _ w1,w2,fun i v e hv he=>?_⟩
    have:=w3 i v e hv he
    cases e with
    | hear xs =>
      obtain ⟨a1,l2,u1,u2,u3,u4⟩:=this
      exact ⟨a1,l2,u1,J11 _ _ u2,J11 _ _ u3,u4⟩
    | toss r =>
      obtain ⟨a1,u1,u2⟩:=this
      exact ⟨a1,u1,J11 _ _ u2⟩
  generalize upd H10 Pr (.lst [.ref D,.ref D1,.ref D2])=H11 at J11 gP W11 e1 e2 LG11
  obtain ⟨Df,eDf,f0',db,ne⟩:∃ Df:Nat→Addr,three Df=[.ref D,.ref D1,.ref D2]∧Df 0=D∧(∀ j,j < 3→DbAt C H11 (Df j) g (runs ns ts p es))∧∀ i j,i < 3→j < 3→i ≠ j→Df i ≠ Df j:=by
    refine ⟨fun j=>if j=0 then D else if j=1 then D1 else D2,rfl,rfl,fun j hj=>?_,fun i j hi hj n=>?_⟩
    · have:j=0∨j=1∨j=2:=by omega
      rcases this with h | h | h <;> subst h
      · exact W11.Dd
      · exact e1
      · exact e2
    · have hi':i=0∨i=1∨i=2:=by omega
      have hj':j=0∨j=1∨j=2:=by omega
      rcases hi' with h | h | h <;> rcases hj' with h' | h' | h' <;> subst h <;> subst h'
      · exact absurd rfl n
      · exact nD1
      · exact nD2
      · exact Ne.symm nD1
      · exact absurd rfl n
      · exact n12
      · exact Ne.symm nD2
      · exact Ne.symm n12
      · exact absurd rfl n
  rw [← eDf] at gP
  subst f0'
  have lst11:∀ {H':Hp},FeedAt H' f→(∃ ys,H' Pr=some (.lst ys))→Lsts [Pr,f] H':=fun {H'} F' hp x hx=>by
    rcases List.mem_cons.mp hx with e | e
    · rw [e]
      exact hp
    · exact lsf F' x e
  refine ⟨_,rfl,f,2,rfl,W11.F,by decide,by decide,fun w2 H12 w0 w1 F12 S12=>⟨rfl,_,rfl,?_⟩⟩
  have G12:=W11.G.feed W11.F df S12
  have gP12:=S12 _ _ Pf gP
  have db12:∀ j,j < 3→DbAt C H12 (Df j) g (runs ns ts p es):=fun j hj=>(db j hj).feed W11.F S12
  have LG12:=LG11.keep (Keep.mem S12 (by simp)) (lst11 W11.F ⟨_,gP⟩)
  have el2:es.length≤20:=by omega
  refine ite2 (fun _=>?_) (fun _=>?_)
  · obtain ⟨dx1,bA,bC,bH,bT,R1⟩:=id (db12 1 (by decide))
    refine ⟨_,rfl,Pr,_,_,_,rfl,rfl,SqL.of gP12,trio_at Df (j:=1) (by decide),Df 1,dx1,_,rfl,R1.hD,dl_n11,Df 1,g,_,ns,ts,p,rfl,db12 1 (by decide),G12.gm,fun X H13 hX S13 dX=>?_⟩
    have gP13:=S13 _ _ gP12
    refine ⟨_,rfl,Pr,_,_,1,rfl,rfl,gP13,ix3 (j:=1) rfl (by decide),?_⟩
    rw [trio_set Df (j:=1) (by decide)]
    have hX':∀ j,j < 3→Df j ≠ X:=fun j hj=>by
      obtain ⟨_,_,_,_,_,R⟩:=db12 j hj
      exact ne_of_none R.hD hX
    have F13:=F12.same S13
    have LG13:=LG12.keep (Keep.same S13) (lst11 F12 ⟨_,gP12⟩)
    have s14:SameBut Pr H13 (upd H13 Pr (.lst (three (setA Df 1 X)))):=fun b o n e=>by rw [upd_ne n]; exact e
    have F14:FeedAt (upd H13 Pr (.lst (three (setA Df 1 X)))) f:=by
      obtain ⟨u,t,e,r⟩:=F13
      exact ⟨u,t,s14 _ _ (Ne.symm Pf) e,r⟩
    refine ⟨_,_,_,_,_,_,f,g,sa,sb,d,l,Pr,setA Df 1 X,ns,tv,ts,p,es,rfl,F14,(G12.same S13).put gP13 Pd s14,df,Pd,Pf,upd_same,fun j hj=>?_,fun i j hi hj n=>?_,ran,LG13.keep (Keep.mem s14 (by simp)) (lst11 F13 ⟨_,gP13⟩),el2,k,d39,nl,q⟩
    · unfold setA
      by_cases c:j=1
      · rw [if_pos c]
        exact dX.put gP13 s14
      · rw [if_neg c]
        exact ((db12 j hj).same S13).put gP13 s14
    · unfold setA
      by_cases c:i=1
      · rw [if_pos c,if_neg (by omega)]
        exact Ne.symm (hX' j hj)
      · rw [if_neg c]
        by_cases c2:j=1
        · rw [if_pos c2]
          exact hX' i hi
        · rw [if_neg c2]
          exact ne i j hi hj n
  · exact ⟨_,_,_,_,_,_,f,g,sa,sb,d,l,Pr,Df,ns,tv,ts,p,es,rfl,F12,G12,df,Pd,Pf,gP12,db12,ne,ran,LG12,el2,k,d39,nl,q⟩
end
end
theorem all_mk {l:PySem.W.OpenLaw} {w:World} {K:PySem.W.Frag} {h:Heap} {mg:Str→Option Value} {fa f0 f1 f2 f3 f4 f5 f6 f7 f8 f9 f10 f11 f12 f13 f14 f15 f16 f17 f18 f19 f20 f21 f22 f23 f24 f25 f26 f27 f28 f29 f30 f31 f32 f33 f34 f35:Addr} (X:K.In h) (G:h.Ns mainGlobals mg) (hfa:mg "law" = some (.ref fa))
    {od0 an0 od1 an1 od2 an2 od3 an3 od4 an4 od5 an5 od6 an6 od7 an7 od8 an8 od9 an9 od10 an10 od11 an11 od12 an12 od13 an13 od14 an14 od15 an15 od16 an16 od17 an17 od18 an18 od19 an19 od20 an20 od21 an21 od22 an22 od23 an23 od24 an24 od25 an25 od26 an26 od27 an27 od28 an28 od29 an29 od30 an30 od31 an31 od32 an32 od33 an33 od34 an34 od35 an35:Option Addr} {sl0 sl1 sl2 sl3 sl4 sl5 sl6 sl7 sl8 sl9 sl10 sl11 sl12 sl13 sl14 sl15 sl16 sl17 sl18 sl19 sl20 sl21 sl22 sl23 sl24 sl25 sl26 sl27 sl28 sl29 sl30 sl31 sl32 sl33 sl34 sl35:Array (Option Value)} {oc0 kV0 dc0 pm0 cd0 ct0 oc1 kV1 dc1 pm1 cd1 ct1 oc2 kV2 dc2 pm2 cd2 ct2 oc3 kV3 dc3 pm3 cd3 ct3 oc4 kV4 dc4 pm4 cd4 ct4 oc5 kV5 dc5 pm5 cd5 ct5 oc6 kV6 dc6 pm6 cd6 ct6 oc7 kV7 dc7 pm7 cd7 ct7 oc8 kV8 dc8 pm8 cd8 ct8 oc9 kV9 dc9 pm9 cd9 ct9 oc10 kV10 dc10 pm10 cd10 ct10 oc11 kV11 dc11 pm11 cd11 ct11 oc12 kV12 dc12 pm12 cd12 ct12 oc13 kV13 dc13 pm13 cd13 ct13 oc14 kV14 dc14 pm14 cd14 ct14 oc15 kV15 dc15 pm15 cd15 ct15 oc16 kV16 dc16 pm16 cd16 ct16 oc17 kV17 dc17 pm17 cd17 ct17 oc18 kV18 dc18 pm18 cd18 ct18 oc19 kV19 dc19 pm19 cd19 ct19 oc20 kV20 dc20 pm20 cd20 ct20 oc21 kV21 dc21 pm21 cd21 ct21 oc22 kV22 dc22 pm22 cd22 ct22 oc23 kV23 dc23 pm23 cd23 ct23 oc24 kV24 dc24 pm24 cd24 ct24 oc25 kV25 dc25 pm25 cd25 ct25 oc26 kV26 dc26 pm26 cd26 ct26 oc27 kV27 dc27 pm27 cd27 ct27 oc28 kV28 dc28 pm28 cd28 ct28 oc29 kV29 dc29 pm29 cd29 ct29 oc30 kV30 dc30 pm30 cd30 ct30 oc31 kV31 dc31 pm31 cd31 ct31 oc32 kV32 dc32 pm32 cd32 ct32 oc33 kV33 dc33 pm33 cd33 ct33 oc34 kV34 dc34 pm34 cd34 ct34 oc35 kV35 dc35 pm35 cd35 ct35:Value}
    (a0:PySem.W.nsIn K mainGlobals "is_field" = some (some (.ref f0))) (l0:K.lookup f0=some ⟨oc0,od0,.func (PySem.W.fnOf "is_field" "is_field" (defArgs s_is_field) (defBody s_is_field) (defScope s_is_field) .none kV0 dc0 pm0 an0 cd0 ct0),sl0⟩) (c0:PySem.W.codeIn K cd0 "is_field" = true) (k0:PySem.W.keepIn K (.ref f0)=true)
    (a1:PySem.W.nsIn K mainGlobals "inverse_of" = some (some (.ref f1))) (l1:K.lookup f1=some ⟨oc1,od1,.func (PySem.W.fnOf "inverse_of" "inverse_of" (defArgs s_inverse_of) (defBody s_inverse_of) (defScope s_inverse_of) .none kV1 dc1 pm1 an1 cd1 ct1),sl1⟩) (c1:PySem.W.codeIn K cd1 "inverse_of" = true) (k1:PySem.W.keepIn K (.ref f1)=true)
    (a2:PySem.W.nsIn K mainGlobals "is_number" = some (some (.ref f2))) (l2:K.lookup f2=some ⟨oc2,od2,.func (PySem.W.fnOf "is_number" "is_number" (defArgs s_is_number) (defBody s_is_number) (defScope s_is_number) .none kV2 dc2 pm2 an2 cd2 ct2),sl2⟩) (c2:PySem.W.codeIn K cd2 "is_number" = true) (k2:PySem.W.keepIn K (.ref f2)=true)
    (a3:PySem.W.nsIn K mainGlobals "value_at" = some (some (.ref f3))) (l3:K.lookup f3=some ⟨oc3,od3,.func (PySem.W.fnOf "value_at" "value_at" (defArgs s_value_at) (defBody s_value_at) (defScope s_value_at) .none kV3 dc3 pm3 an3 cd3 ct3),sl3⟩) (c3:PySem.W.codeIn K cd3 "value_at" = true) (k3:PySem.W.keepIn K (.ref f3)=true)
    (a4:PySem.W.nsIn K mainGlobals "both_ends" = some (some (.ref f4))) (l4:K.lookup f4=some ⟨oc4,od4,.func (PySem.W.fnOf "both_ends" "both_ends" (defArgs s_both_ends) (defBody s_both_ends) (defScope s_both_ends) .none kV4 dc4 pm4 an4 cd4 ct4),sl4⟩) (c4:PySem.W.codeIn K cd4 "both_ends" = true) (k4:PySem.W.keepIn K (.ref f4)=true)
    (a5:PySem.W.nsIn K mainGlobals "value_behind" = some (some (.ref f5))) (l5:K.lookup f5=some ⟨oc5,od5,.func (PySem.W.fnOf "value_behind" "value_behind" (defArgs s_value_behind) (defBody s_value_behind) (defScope s_value_behind) .none kV5 dc5 pm5 an5 cd5 ct5),sl5⟩) (c5:PySem.W.codeIn K cd5 "value_behind" = true) (k5:PySem.W.keepIn K (.ref f5)=true)
    (a6:PySem.W.nsIn K mainGlobals "products" = some (some (.ref f6))) (l6:K.lookup f6=some ⟨oc6,od6,.func (PySem.W.fnOf "products" "products" (defArgs s_products) (defBody s_products) (defScope s_products) .none kV6 dc6 pm6 an6 cd6 ct6),sl6⟩) (c6:PySem.W.codeIn K cd6 "products" = true) (k6:PySem.W.keepIn K (.ref f6)=true)
    (a7:PySem.W.nsIn K mainGlobals "inverse_factorials" = some (some (.ref f7))) (l7:K.lookup f7=some ⟨oc7,od7,.func (PySem.W.fnOf "inverse_factorials" "inverse_factorials" (defArgs s_inverse_factorials) (defBody s_inverse_factorials) (defScope s_inverse_factorials) .none kV7 dc7 pm7 an7 cd7 ct7),sl7⟩) (c7:PySem.W.codeIn K cd7 "inverse_factorials" = true) (k7:PySem.W.keepIn K (.ref f7)=true)
    (a8:PySem.W.nsIn K mainGlobals "trees_within" = some (some (.ref f8))) (l8:K.lookup f8=some ⟨oc8,od8,.func (PySem.W.fnOf "trees_within" "trees_within" (defArgs s_trees_within) (defBody s_trees_within) (defScope s_trees_within) .none kV8 dc8 pm8 an8 cd8 ct8),sl8⟩) (c8:PySem.W.codeIn K cd8 "trees_within" = true) (k8:PySem.W.keepIn K (.ref f8)=true)
    (a9:PySem.W.nsIn K mainGlobals "size_of" = some (some (.ref f9))) (l9:K.lookup f9=some ⟨oc9,od9,.func (PySem.W.fnOf "size_of" "size_of" (defArgs s_size_of) (defBody s_size_of) (defScope s_size_of) .none kV9 dc9 pm9 an9 cd9 ct9),sl9⟩) (c9:PySem.W.codeIn K cd9 "size_of" = true) (k9:PySem.W.keepIn K (.ref f9)=true)
    (a10:PySem.W.nsIn K mainGlobals "names_in" = some (some (.ref f10))) (l10:K.lookup f10=some ⟨oc10,od10,.func (PySem.W.fnOf "names_in" "names_in" (defArgs s_names_in) (defBody s_names_in) (defScope s_names_in) .none kV10 dc10 pm10 an10 cd10 ct10),sl10⟩) (c10:PySem.W.codeIn K cd10 "names_in" = true) (k10:PySem.W.keepIn K (.ref f10)=true)
    (a11:PySem.W.nsIn K mainGlobals "all_sizes" = some (some (.ref f11))) (l11:K.lookup f11=some ⟨oc11,od11,.func (PySem.W.fnOf "all_sizes" "all_sizes" (defArgs s_all_sizes) (defBody s_all_sizes) (defScope s_all_sizes) .none kV11 dc11 pm11 an11 cd11 ct11),sl11⟩) (c11:PySem.W.codeIn K cd11 "all_sizes" = true) (k11:PySem.W.keepIn K (.ref f11)=true)
    (a12:PySem.W.nsIn K mainGlobals "worth_of" = some (some (.ref f12))) (l12:K.lookup f12=some ⟨oc12,od12,.func (PySem.W.fnOf "worth_of" "worth_of" (defArgs s_worth_of) (defBody s_worth_of) (defScope s_worth_of) .none kV12 dc12 pm12 an12 cd12 ct12),sl12⟩) (c12:PySem.W.codeIn K cd12 "worth_of" = true) (k12:PySem.W.keepIn K (.ref f12)=true)
    (a13:PySem.W.nsIn K mainGlobals "joined_worth" = some (some (.ref f13))) (l13:K.lookup f13=some ⟨oc13,od13,.func (PySem.W.fnOf "joined_worth" "joined_worth" (defArgs s_joined_worth) (defBody s_joined_worth) (defScope s_joined_worth) .none kV13 dc13 pm13 an13 cd13 ct13),sl13⟩) (c13:PySem.W.codeIn K cd13 "joined_worth" = true) (k13:PySem.W.keepIn K (.ref f13)=true)
    (a14:PySem.W.nsIn K mainGlobals "degree_of" = some (some (.ref f14))) (l14:K.lookup f14=some ⟨oc14,od14,.func (PySem.W.fnOf "degree_of" "degree_of" (defArgs s_degree_of) (defBody s_degree_of) (defScope s_degree_of) .none kV14 dc14 pm14 an14 cd14 ct14),sl14⟩) (c14:PySem.W.codeIn K cd14 "degree_of" = true) (k14:PySem.W.keepIn K (.ref f14)=true)
    (a15:PySem.W.nsIn K mainGlobals "look_switches" = some (some (.ref f15))) (l15:K.lookup f15=some ⟨oc15,od15,.func (PySem.W.fnOf "look_switches" "look_switches" (defArgs s_look_switches) (defBody s_look_switches) (defScope s_look_switches) .none kV15 dc15 pm15 an15 cd15 ct15),sl15⟩) (c15:PySem.W.codeIn K cd15 "look_switches" = true) (k15:PySem.W.keepIn K (.ref f15)=true)
    (a16:PySem.W.nsIn K mainGlobals "look_names" = some (some (.ref f16))) (l16:K.lookup f16=some ⟨oc16,od16,.func (PySem.W.fnOf "look_names" "look_names" (defArgs s_look_names) (defBody s_look_names) (defScope s_look_names) .none kV16 dc16 pm16 an16 cd16 ct16),sl16⟩) (c16:PySem.W.codeIn K cd16 "look_names" = true) (k16:PySem.W.keepIn K (.ref f16)=true)
    (a17:PySem.W.nsIn K mainGlobals "look_field" = some (some (.ref f17))) (l17:K.lookup f17=some ⟨oc17,od17,.func (PySem.W.fnOf "look_field" "look_field" (defArgs s_look_field) (defBody s_look_field) (defScope s_look_field) .none kV17 dc17 pm17 an17 cd17 ct17),sl17⟩) (c17:PySem.W.codeIn K cd17 "look_field" = true) (k17:PySem.W.keepIn K (.ref f17)=true)
    (a18:PySem.W.nsIn K mainGlobals "look_size" = some (some (.ref f18))) (l18:K.lookup f18=some ⟨oc18,od18,.func (PySem.W.fnOf "look_size" "look_size" (defArgs s_look_size) (defBody s_look_size) (defScope s_look_size) .none kV18 dc18 pm18 an18 cd18 ct18),sl18⟩) (c18:PySem.W.codeIn K cd18 "look_size" = true) (k18:PySem.W.keepIn K (.ref f18)=true)
    (a19:PySem.W.nsIn K mainGlobals "_law_feed" = some (some (.ref f19))) (l19:K.lookup f19=some ⟨oc19,od19,.func (PySem.W.fnOf "_law_feed" "_law_feed" (defArgs s_l_feed) (defBody s_l_feed) (defScope s_l_feed) .none kV19 dc19 pm19 an19 cd19 ct19),sl19⟩) (c19:PySem.W.codeIn K cd19 "_law_feed" = true) (k19:PySem.W.keepIn K (.ref f19)=true)
    (a20:PySem.W.nsIn K mainGlobals "_law_take" = some (some (.ref f20))) (l20:K.lookup f20=some ⟨oc20,od20,.func (PySem.W.fnOf "_law_take" "_law_take" (defArgs s_l_take) (defBody s_l_take) (defScope s_l_take) .none kV20 dc20 pm20 an20 cd20 ct20),sl20⟩) (c20:PySem.W.codeIn K cd20 "_law_take" = true) (k20:PySem.W.keepIn K (.ref f20)=true)
    (a21:PySem.W.nsIn K mainGlobals "_law_names" = some (some (.ref f21))) (l21:K.lookup f21=some ⟨oc21,od21,.func (PySem.W.fnOf "_law_names" "_law_names" (defArgs s_l_names) (defBody s_l_names) (defScope s_l_names) .none kV21 dc21 pm21 an21 cd21 ct21),sl21⟩) (c21:PySem.W.codeIn K cd21 "_law_names" = true) (k21:PySem.W.keepIn K (.ref f21)=true)
    (a22:PySem.W.nsIn K mainGlobals "_law_tree" = some (some (.ref f22))) (l22:K.lookup f22=some ⟨oc22,od22,.func (PySem.W.fnOf "_law_tree" "_law_tree" (defArgs s_l_tree) (defBody s_l_tree) (defScope s_l_tree) .none kV22 dc22 pm22 an22 cd22 ct22),sl22⟩) (c22:PySem.W.codeIn K cd22 "_law_tree" = true) (k22:PySem.W.keepIn K (.ref f22)=true)
    (a23:PySem.W.nsIn K mainGlobals "_law_names_of" = some (some (.ref f23))) (l23:K.lookup f23=some ⟨oc23,od23,.func (PySem.W.fnOf "_law_names_of" "_law_names_of" (defArgs s_l_names_of) (defBody s_l_names_of) (defScope s_l_names_of) .none kV23 dc23 pm23 an23 cd23 ct23),sl23⟩) (c23:PySem.W.codeIn K cd23 "_law_names_of" = true) (k23:PySem.W.keepIn K (.ref f23)=true)
    (a24:PySem.W.nsIn K mainGlobals "_law_need" = some (some (.ref f24))) (l24:K.lookup f24=some ⟨oc24,od24,.func (PySem.W.fnOf "_law_need" "_law_need" (defArgs s_l_need) (defBody s_l_need) (defScope s_l_need) .none kV24 dc24 pm24 an24 cd24 ct24),sl24⟩) (c24:PySem.W.codeIn K cd24 "_law_need" = true) (k24:PySem.W.keepIn K (.ref f24)=true)
    (a25:PySem.W.nsIn K mainGlobals "_law_is_prime" = some (some (.ref f25))) (l25:K.lookup f25=some ⟨oc25,od25,.func (PySem.W.fnOf "_law_is_prime" "_law_is_prime" (defArgs s_l_is_prime) (defBody s_l_is_prime) (defScope s_l_is_prime) .none kV25 dc25 pm25 an25 cd25 ct25),sl25⟩) (c25:PySem.W.codeIn K cd25 "_law_is_prime" = true) (k25:PySem.W.keepIn K (.ref f25)=true)
    (a26:PySem.W.nsIn K mainGlobals "_law_field" = some (some (.ref f26))) (l26:K.lookup f26=some ⟨oc26,od26,.func (PySem.W.fnOf "_law_field" "_law_field" (defArgs s_l_field) (defBody s_l_field) (defScope s_l_field) .none kV26 dc26 pm26 an26 cd26 ct26),sl26⟩) (c26:PySem.W.codeIn K cd26 "_law_field" = true) (k26:PySem.W.keepIn K (.ref f26)=true)
    (a27:PySem.W.nsIn K mainGlobals "_law_game" = some (some (.ref f27))) (l27:K.lookup f27=some ⟨oc27,od27,.func (PySem.W.fnOf "_law_game" "_law_game" (defArgs s_l_game) (defBody s_l_game) (defScope s_l_game) .none kV27 dc27 pm27 an27 cd27 ct27),sl27⟩) (c27:PySem.W.codeIn K cd27 "_law_game" = true) (k27:PySem.W.keepIn K (.ref f27)=true)
    (a28:PySem.W.nsIn K mainGlobals "_law_inverse" = some (some (.ref f28))) (l28:K.lookup f28=some ⟨oc28,od28,.func (PySem.W.fnOf "_law_inverse" "_law_inverse" (defArgs s_l_inverse) (defBody s_l_inverse) (defScope s_l_inverse) .none kV28 dc28 pm28 an28 cd28 ct28),sl28⟩) (c28:PySem.W.codeIn K cd28 "_law_inverse" = true) (k28:PySem.W.keepIn K (.ref f28)=true)
    (a29:PySem.W.nsIn K mainGlobals "_law_coin" = some (some (.ref f29))) (l29:K.lookup f29=some ⟨oc29,od29,.func (PySem.W.fnOf "_law_coin" "_law_coin" (defArgs s_l_coin) (defBody s_l_coin) (defScope s_l_coin) .none kV29 dc29 pm29 an29 cd29 ct29),sl29⟩) (c29:PySem.W.codeIn K cd29 "_law_coin" = true) (k29:PySem.W.keepIn K (.ref f29)=true)
    (a30:PySem.W.nsIn K mainGlobals "_law_said" = some (some (.ref f30))) (l30:K.lookup f30=some ⟨oc30,od30,.func (PySem.W.fnOf "_law_said" "_law_said" (defArgs s_l_said) (defBody s_l_said) (defScope s_l_said) .none kV30 dc30 pm30 an30 cd30 ct30),sl30⟩) (c30:PySem.W.codeIn K cd30 "_law_said" = true) (k30:PySem.W.keepIn K (.ref f30)=true)
    (a31:PySem.W.nsIn K mainGlobals "_law_state" = some (some (.ref f31))) (l31:K.lookup f31=some ⟨oc31,od31,.func (PySem.W.fnOf "_law_state" "_law_state" (defArgs s_l_state) (defBody s_l_state) (defScope s_l_state) .none kV31 dc31 pm31 an31 cd31 ct31),sl31⟩) (c31:PySem.W.codeIn K cd31 "_law_state" = true) (k31:PySem.W.keepIn K (.ref f31)=true)
    (a32:PySem.W.nsIn K mainGlobals "_law_fresh" = some (some (.ref f32))) (l32:K.lookup f32=some ⟨oc32,od32,.func (PySem.W.fnOf "_law_fresh" "_law_fresh" (defArgs s_l_fresh) (defBody s_l_fresh) (defScope s_l_fresh) .none kV32 dc32 pm32 an32 cd32 ct32),sl32⟩) (c32:PySem.W.codeIn K cd32 "_law_fresh" = true) (k32:PySem.W.keepIn K (.ref f32)=true)
    (a33:PySem.W.nsIn K mainGlobals "_law_nudged" = some (some (.ref f33))) (l33:K.lookup f33=some ⟨oc33,od33,.func (PySem.W.fnOf "_law_nudged" "_law_nudged" (defArgs s_l_nudged) (defBody s_l_nudged) (defScope s_l_nudged) .none kV33 dc33 pm33 an33 cd33 ct33),sl33⟩) (c33:PySem.W.codeIn K cd33 "_law_nudged" = true) (k33:PySem.W.keepIn K (.ref f33)=true)
    (a34:PySem.W.nsIn K mainGlobals "_law_told" = some (some (.ref f34))) (l34:K.lookup f34=some ⟨oc34,od34,.func (PySem.W.fnOf "_law_told" "_law_told" (defArgs s_l_told) (defBody s_l_told) (defScope s_l_told) .none kV34 dc34 pm34 an34 cd34 ct34),sl34⟩) (c34:PySem.W.codeIn K cd34 "_law_told" = true) (k34:PySem.W.keepIn K (.ref f34)=true)
    (a35:PySem.W.nsIn K mainGlobals "law" = some (some (.ref f35))) (l35:K.lookup f35=some ⟨oc35,od35,.func (PySem.W.fnOf "law" "law" (defArgs s_law) (defBody s_law) (defScope s_law) .none kV35 dc35 pm35 an35 cd35 ct35),sl35⟩) (c35:PySem.W.codeIn K cd35 "law" = true) (k35:PySem.W.keepIn K (.ref f35)=true)
    {CG gmgI gmgM gmgW:Addr} {gmodI gmanI gmodM gmanM gmodW gmanW:Option Addr} {gmslI gmslM gmslW:Array (Option Value)} {gmocI gmkVI gmdcI gmpmI gmcdI gmctI gmocM gmkVM gmdcM gmpmM gmcdM gmctM gmocW gmkVW gmdcW gmpmW gmcdW gmctW:Value}
    {C dbgI dbgW dbgU dbgH dbgT dbgC dbgB dbgR dbgG dbgE dbgX dbgL:Addr} {dbodI dbanI dbodW dbanW dbodU dbanU dbodH dbanH dbodT dbanT dbodC dbanC dbodB dbanB dbodR dbanR dbodG dbanG dbodE dbanE dbodX dbanX dbodL dbanL:Option Addr} {dbslI dbslW dbslU dbslH dbslT dbslC dbslB dbslR dbslG dbslE dbslX dbslL:Array (Option Value)} {dbocI dbkVI dbdcI dbpmI dbcdI dbctI dbocW dbkVW dbdcW dbpmW dbcdW dbctW dbocU dbkVU dbdcU dbpmU dbcdU dbctU dbocH dbkVH dbdcH dbpmH dbcdH dbctH dbocT dbkVT dbdcT dbpmT dbcdT dbctT dbocC dbkVC dbdcC dbpmC dbcdC dbctC dbocB dbkVB dbdcB dbpmB dbcdB dbctB dbocR dbkVR dbdcR dbpmR dbcdR dbctR dbocG dbkVG dbdcG dbpmG dbcdG dbctG dbocE dbkVE dbdcE dbpmE dbcdE dbctE dbocX dbkVX dbdcX dbpmX dbcdX dbctX dbocL dbkVL dbdcL dbpmL dbcdL dbctL:Value}
    {te:Tok}
    {CA gA TA NA cc6 g6 N6 T6:Addr} {odA anA tdA ddA od_6 an_6 dd6 td6:Option Addr} {slA tslA sl_6 tsl6:Array (Option Value)} {ocA kVA dcA pmA cdA ctA kV_6 dc_6 pm_6 cd_6 ct_6:Value} {tkA:Tok} {tnA tn6:Nat} {nm6 qn6 nmA qnA:Str} {bs6 sub6 bsA subA:List Value} {sn6 snA:List Str} {ab6 abA:Bool} {col6 colA:Option Bool} {q06 q16 q26 q36 q56 q0A q1A q2A q3A q5A:Option Value}
    {cc7 g7 N7 T7:Addr} {od_7 an_7 dd7 td7:Option Addr} {sl_7 tsl7:Array (Option Value)} {kV_7 dc_7 pm_7 cd_7 ct_7:Value} {tn7:Nat} {nm7 qn7:Str} {bs7 sub7:List Value} {sn7:List Str} {ab7:Bool} {col7:Option Bool} {q07 q17 q27 q37 q57:Option Value}
    {cc8 g8 N8 T8:Addr} {od_8 an_8 dd8 td8:Option Addr} {sl_8 tsl8:Array (Option Value)} {kV_8 dc_8 pm_8 cd_8 ct_8:Value} {tn8:Nat} {nm8 qn8:Str} {bs8 sub8:List Value} {sn8:List Str} {ab8:Bool} {col8:Option Bool} {q08 q18 q28 q38 q58:Option Value}
    (gmgg:PySem.W.nsIn K mainGlobals "Game" = some (some (.ref CG)))
    (gmaI:PySem.W.findIn K (.ref CG) "__init__" = some (some (.ref gmgI)))
    (gmiI:PySem.W.isFn K (.ref gmgI)=true)
    (gmlI:K.lookup gmgI=some ⟨gmocI,gmodI,.func (PySem.W.fnOf "__init__" "Game.__init__" (defArgs s_ginit) (defBody s_ginit) (defScope s_ginit) .none gmkVI gmdcI gmpmI gmanI gmcdI gmctI),gmslI⟩)
    (gmcI:PySem.W.codeIn K gmcdI "Game.__init__" = true)
    (gmkI:PySem.W.keepIn K (.ref gmgI)=true)
    (gmaM:PySem.W.findIn K (.ref CG) "mix" = some (some (.ref gmgM)))
    (gmiM:PySem.W.isFn K (.ref gmgM)=true)
    (gmlM:K.lookup gmgM=some ⟨gmocM,gmodM,.func (PySem.W.fnOf "mix" "Game.mix" (defArgs s_gmix) (defBody s_gmix) (defScope s_gmix) .none gmkVM gmdcM gmpmM gmanM gmcdM gmctM),gmslM⟩)
    (gmcM:PySem.W.codeIn K gmcdM "Game.mix" = true)
    (gmkM:PySem.W.keepIn K (.ref gmgM)=true)
    (gmaW:PySem.W.findIn K (.ref CG) "worth_at" = some (some (.ref gmgW)))
    (gmiW:PySem.W.isFn K (.ref gmgW)=true)
    (gmlW:K.lookup gmgW=some ⟨gmocW,gmodW,.func (PySem.W.fnOf "worth_at" "Game.worth_at" (defArgs s_gworth) (defBody s_gworth) (defScope s_gworth) .none gmkVW gmdcW gmpmW gmanW gmcdW gmctW),gmslW⟩)
    (gmcW:PySem.W.codeIn K gmcdW "Game.worth_at" = true)
    (gmkW:PySem.W.keepIn K (.ref gmgW)=true)
    (gmpg:PySem.W.plainGet K CG Str.empty=true)
    (gmhdi:PySem.W.hasDictIn K CG=true)
    (gmpov:PySem.W.plainOver K CG=true)
    (gmsat:PySem.W.findIn K (.ref CG) "__setattr__" = some (some (.builtin "object.__setattr__")))
    (gmmki:PySem.W.makesIn K CG=true)
    (gmkcl:PySem.W.keepIn K (.ref CG)=true)
    (gmn_switches:PySem.W.findIn K (.ref CG) "switches" = some none)
    (gmn_trees:PySem.W.findIn K (.ref CG) "trees" = some none)
    (gmn_field:PySem.W.findIn K (.ref CG) "field" = some none)
    (gmn_degrees:PySem.W.findIn K (.ref CG) "degrees" = some none)
    (dbgg:PySem.W.nsIn K mainGlobals "Doubter" = some (some (.ref C)))
    (dbaI:PySem.W.findIn K (.ref C) "__init__" = some (some (.ref dbgI)))
    (dbiI:PySem.W.isFn K (.ref dbgI)=true)
    (dblI:K.lookup dbgI=some ⟨dbocI,dbodI,.func (PySem.W.fnOf "__init__" "Doubter.__init__" (defArgs s_dinit) (defBody s_dinit) (defScope s_dinit) .none dbkVI dbdcI dbpmI dbanI dbcdI dbctI),dbslI⟩)
    (dbcI:PySem.W.codeIn K dbcdI "Doubter.__init__" = true)
    (dbkI:PySem.W.keepIn K (.ref dbgI)=true)
    (dbaW:PySem.W.findIn K (.ref C) "waits" = some (some (.ref dbgW)))
    (dbiW:PySem.W.isFn K (.ref dbgW)=true)
    (dblW:K.lookup dbgW=some ⟨dbocW,dbodW,.func (PySem.W.fnOf "waits" "Doubter.waits" (defArgs s_dwaits) (defBody s_dwaits) (defScope s_dwaits) .none dbkVW dbdcW dbpmW dbanW dbcdW dbctW),dbslW⟩)
    (dbcW:PySem.W.codeIn K dbcdW "Doubter.waits" = true)
    (dbkW:PySem.W.keepIn K (.ref dbgW)=true)
    (dbaU:PySem.W.findIn K (.ref C) "due" = some (some (.ref dbgU)))
    (dbiU:PySem.W.isFn K (.ref dbgU)=true)
    (dblU:K.lookup dbgU=some ⟨dbocU,dbodU,.func (PySem.W.fnOf "due" "Doubter.due" (defArgs s_ddue) (defBody s_ddue) (defScope s_ddue) .none dbkVU dbdcU dbpmU dbanU dbcdU dbctU),dbslU⟩)
    (dbcU:PySem.W.codeIn K dbcdU "Doubter.due" = true)
    (dbkU:PySem.W.keepIn K (.ref dbgU)=true)
    (dbaH:PySem.W.findIn K (.ref C) "hear" = some (some (.ref dbgH)))
    (dbiH:PySem.W.isFn K (.ref dbgH)=true)
    (dblH:K.lookup dbgH=some ⟨dbocH,dbodH,.func (PySem.W.fnOf "hear" "Doubter.hear" (defArgs s_dhear) (defBody s_dhear) (defScope s_dhear) .none dbkVH dbdcH dbpmH dbanH dbcdH dbctH),dbslH⟩)
    (dbcH:PySem.W.codeIn K dbcdH "Doubter.hear" = true)
    (dbkH:PySem.W.keepIn K (.ref dbgH)=true)
    (dbaT:PySem.W.findIn K (.ref C) "toss" = some (some (.ref dbgT)))
    (dbiT:PySem.W.isFn K (.ref dbgT)=true)
    (dblT:K.lookup dbgT=some ⟨dbocT,dbodT,.func (PySem.W.fnOf "toss" "Doubter.toss" (defArgs s_dtoss) (defBody s_dtoss) (defScope s_dtoss) .none dbkVT dbdcT dbpmT dbanT dbcdT dbctT),dbslT⟩)
    (dbcT:PySem.W.codeIn K dbcdT "Doubter.toss" = true)
    (dbkT:PySem.W.keepIn K (.ref dbgT)=true)
    (dbaC:PySem.W.findIn K (.ref C) "hear_claims" = some (some (.ref dbgC)))
    (dbiC:PySem.W.isFn K (.ref dbgC)=true)
    (dblC:K.lookup dbgC=some ⟨dbocC,dbodC,.func (PySem.W.fnOf "hear_claims" "Doubter.hear_claims" (defArgs s_dclaims) (defBody s_dclaims) (defScope s_dclaims) .none dbkVC dbdcC dbpmC dbanC dbcdC dbctC),dbslC⟩)
    (dbcC:PySem.W.codeIn K dbcdC "Doubter.hear_claims" = true)
    (dbkC:PySem.W.keepIn K (.ref dbgC)=true)
    (dbaB:PySem.W.findIn K (.ref C) "begin_rounds" = some (some (.ref dbgB)))
    (dbiB:PySem.W.isFn K (.ref dbgB)=true)
    (dblB:K.lookup dbgB=some ⟨dbocB,dbodB,.func (PySem.W.fnOf "begin_rounds" "Doubter.begin_rounds" (defArgs s_dbegin) (defBody s_dbegin) (defScope s_dbegin) .none dbkVB dbdcB dbpmB dbanB dbcdB dbctB),dbslB⟩)
    (dbcB:PySem.W.codeIn K dbcdB "Doubter.begin_rounds" = true)
    (dbkB:PySem.W.keepIn K (.ref dbgB)=true)
    (dbaR:PySem.W.findIn K (.ref C) "hear_row" = some (some (.ref dbgR)))
    (dbiR:PySem.W.isFn K (.ref dbgR)=true)
    (dblR:K.lookup dbgR=some ⟨dbocR,dbodR,.func (PySem.W.fnOf "hear_row" "Doubter.hear_row" (defArgs s_drow) (defBody s_drow) (defScope s_drow) .none dbkVR dbdcR dbpmR dbanR dbcdR dbctR),dbslR⟩)
    (dbcR:PySem.W.codeIn K dbcdR "Doubter.hear_row" = true)
    (dbkR:PySem.W.keepIn K (.ref dbgR)=true)
    (dbaG:PySem.W.findIn K (.ref C) "go_on" = some (some (.ref dbgG)))
    (dbiG:PySem.W.isFn K (.ref dbgG)=true)
    (dblG:K.lookup dbgG=some ⟨dbocG,dbodG,.func (PySem.W.fnOf "go_on" "Doubter.go_on" (defArgs s_dgo) (defBody s_dgo) (defScope s_dgo) .none dbkVG dbdcG dbpmG dbanG dbcdG dbctG),dbslG⟩)
    (dbcG:PySem.W.codeIn K dbcdG "Doubter.go_on" = true)
    (dbkG:PySem.W.keepIn K (.ref dbgG)=true)
    (dbaE:PySem.W.findIn K (.ref C) "look_at_trees" = some (some (.ref dbgE)))
    (dbiE:PySem.W.isFn K (.ref dbgE)=true)
    (dblE:K.lookup dbgE=some ⟨dbocE,dbodE,.func (PySem.W.fnOf "look_at_trees" "Doubter.look_at_trees" (defArgs s_dtrees) (defBody s_dtrees) (defScope s_dtrees) .none dbkVE dbdcE dbpmE dbanE dbcdE dbctE),dbslE⟩)
    (dbcE:PySem.W.codeIn K dbcdE "Doubter.look_at_trees" = true)
    (dbkE:PySem.W.keepIn K (.ref dbgE)=true)
    (dbaX:PySem.W.findIn K (.ref C) "twin" = some (some (.ref dbgX)))
    (dbiX:PySem.W.isFn K (.ref dbgX)=true)
    (dblX:K.lookup dbgX=some ⟨dbocX,dbodX,.func (PySem.W.fnOf "twin" "Doubter.twin" (defArgs s_dtwin) (defBody s_dtwin) (defScope s_dtwin) .none dbkVX dbdcX dbpmX dbanX dbcdX dbctX),dbslX⟩)
    (dbcX:PySem.W.codeIn K dbcdX "Doubter.twin" = true)
    (dbkX:PySem.W.keepIn K (.ref dbgX)=true)
    (dbaL:PySem.W.findIn K (.ref C) "looked" = some (some (.ref dbgL)))
    (dbiL:PySem.W.isFn K (.ref dbgL)=true)
    (dblL:K.lookup dbgL=some ⟨dbocL,dbodL,.func (PySem.W.fnOf "looked" "Doubter.looked" (defArgs s_dlooked) (defBody s_dlooked) (defScope s_dlooked) .none dbkVL dbdcL dbpmL dbanL dbcdL dbctL),dbslL⟩)
    (dbcL:PySem.W.codeIn K dbcdL "Doubter.looked" = true)
    (dbkL:PySem.W.keepIn K (.ref dbgL)=true)
    (dbpg:PySem.W.plainGet K C Str.empty=true)
    (dbhdi:PySem.W.hasDictIn K C=true)
    (dbpov:PySem.W.plainOver K C=true)
    (dbsat:PySem.W.findIn K (.ref C) "__setattr__" = some (some (.builtin "object.__setattr__")))
    (dbmki:PySem.W.makesIn K C=true)
    (dbkcl:PySem.W.keepIn K (.ref C)=true)
    (dbn_game:PySem.W.findIn K (.ref C) "game" = some none)
    (dbn_awaited:PySem.W.findIn K (.ref C) "awaited" = some none)
    (dbn_claims:PySem.W.findIn K (.ref C) "claims" = some none)
    (dbn_s:PySem.W.findIn K (.ref C) "s" = some none)
    (dbn_heard:PySem.W.findIn K (.ref C) "heard" = some none)
    (dbn_tossed:PySem.W.findIn K (.ref C) "tossed" = some none)
    (dbn_held:PySem.W.findIn K (.ref C) "held" = some none)
    (dbn_places:PySem.W.findIn K (.ref C) "places" = some none)
    (ge:PySem.W.nsIn K mainGlobals "FIELDS_END" = some (some (.int 1000000 te)))
    (gAs:PySem.W.nsIn K mainGlobals "AskError" = some (some (.ref CA)))
    (iAs0:K.lookup CA=some (excClassObj nmA qnA CA NA bsA bmV true snA subA abA colA ddA q0A q1A q2A q3A q5A "ValueError.__new__"))
    (xga:PySem.W.specialIn K (.ref CA) "__getattribute__" = some (some (.builtin "type.__getattribute__")))
    (xrd:PySem.W.readsIn K CA (.type "type")=true)
    (xfc0:PySem.W.findCls K (.ref CA) (.type "type") "__init__" = some (.val (.ref gA)))
    (xlk:K.lookup gA=some ⟨ocA,odA,.func (PySem.W.fnOf "__init__" "AskError.__init__" (defArgs s_AskError) (defBody s_AskError) (defScope s_AskError) (.ref TA) kVA dcA pmA anA cdA ctA),slA⟩)
    (xtp:K.lookup TA=some ⟨.type "tuple", tdA,.seq #[.str "" tkA] tnA,tslA⟩)
    (xcd:PySem.W.codeIn K cdA "AskError.__init__" = true)
    (xkp:PySem.W.keepIn K (.ref gA)=true)
    (yg6:PySem.W.nsIn K mainGlobals "NoTurn" = some (some (.ref cc6)))
    (yo6:K.lookup cc6=some (excClassObj nm6 qn6 cc6 N6 bs6 (.ref CA::bmV) true sn6 sub6 ab6 col6 dd6 q06 q16 q26 q36 q56 "ValueError.__new__"))
    (ys6:PySem.W.findIn K (.ref cc6) "__setattr__" = some (some (.builtin "object.__setattr__")))
    (ya6:PySem.W.findIn K (.ref cc6) "__getattribute__" = some (some (.builtin "BaseException.__getattribute__")))
    (yt6:PySem.W.findIn K (.ref cc6) "__getattr__" = some none)
    (yc6:PySem.W.findIn K (.ref cc6) "__class__" = some (some (.builtin "object.__class__")))
    (yi6:PySem.W.findIn K (.ref cc6) "__init__" = some (some (.ref g6)))
    (yl6:K.lookup g6=some ⟨.type "function", od_6,.func (PySem.W.fnOf "__init__" "NoTurn.__init__" (defArgs s_NoTurn) (defBody s_NoTurn) (defScope s_NoTurn) (.ref T6) kV_6 dc_6 pm_6 an_6 cd_6 ct_6),sl_6⟩)
    (yd6:K.lookup T6=some ⟨.type "tuple", td6,.seq #[.none] tn6,tsl6⟩)
    (yk6:PySem.W.codeIn K cd_6 "NoTurn.__init__" = true)
    (yp6:PySem.W.keepIn K (.ref g6)=true)
    (yq6:PySem.W.keepIn K (.ref cc6)=true)
    (yn6:PySem.W.findIn K (.ref cc6) "row" = some none)
    (yg7:PySem.W.nsIn K mainGlobals "NoCount" = some (some (.ref cc7)))
    (yo7:K.lookup cc7=some (excClassObj nm7 qn7 cc7 N7 bs7 (.ref CA::bmV) true sn7 sub7 ab7 col7 dd7 q07 q17 q27 q37 q57 "ValueError.__new__"))
    (ys7:PySem.W.findIn K (.ref cc7) "__setattr__" = some (some (.builtin "object.__setattr__")))
    (ya7:PySem.W.findIn K (.ref cc7) "__getattribute__" = some (some (.builtin "BaseException.__getattribute__")))
    (yt7:PySem.W.findIn K (.ref cc7) "__getattr__" = some none)
    (yc7:PySem.W.findIn K (.ref cc7) "__class__" = some (some (.builtin "object.__class__")))
    (yi7:PySem.W.findIn K (.ref cc7) "__init__" = some (some (.ref g7)))
    (yl7:K.lookup g7=some ⟨.type "function", od_7,.func (PySem.W.fnOf "__init__" "NoCount.__init__" (defArgs s_NoCount) (defBody s_NoCount) (defScope s_NoCount) (.ref T7) kV_7 dc_7 pm_7 an_7 cd_7 ct_7),sl_7⟩)
    (yd7:K.lookup T7=some ⟨.type "tuple", td7,.seq #[.none] tn7,tsl7⟩)
    (yk7:PySem.W.codeIn K cd_7 "NoCount.__init__" = true)
    (yp7:PySem.W.keepIn K (.ref g7)=true)
    (yq7:PySem.W.keepIn K (.ref cc7)=true)
    (yn7:PySem.W.findIn K (.ref cc7) "row" = some none)
    (yg8:PySem.W.nsIn K mainGlobals "NoNumber" = some (some (.ref cc8)))
    (yo8:K.lookup cc8=some (excClassObj nm8 qn8 cc8 N8 bs8 (.ref CA::bmV) true sn8 sub8 ab8 col8 dd8 q08 q18 q28 q38 q58 "ValueError.__new__"))
    (ys8:PySem.W.findIn K (.ref cc8) "__setattr__" = some (some (.builtin "object.__setattr__")))
    (ya8:PySem.W.findIn K (.ref cc8) "__getattribute__" = some (some (.builtin "BaseException.__getattribute__")))
    (yt8:PySem.W.findIn K (.ref cc8) "__getattr__" = some none)
    (yc8:PySem.W.findIn K (.ref cc8) "__class__" = some (some (.builtin "object.__class__")))
    (yi8:PySem.W.findIn K (.ref cc8) "__init__" = some (some (.ref g8)))
    (yl8:K.lookup g8=some ⟨.type "function", od_8,.func (PySem.W.fnOf "__init__" "NoNumber.__init__" (defArgs s_NoNumber) (defBody s_NoNumber) (defScope s_NoNumber) (.ref T8) kV_8 dc_8 pm_8 an_8 cd_8 ct_8),sl_8⟩)
    (yd8:K.lookup T8=some ⟨.type "tuple", td8,.seq #[.none] tn8,tsl8⟩)
    (yk8:PySem.W.codeIn K cd_8 "NoNumber.__init__" = true)
    (yp8:PySem.W.keepIn K (.ref g8)=true)
    (yq8:PySem.W.keepIn K (.ref cc8)=true)
    (yn8:PySem.W.findIn K (.ref cc8) "row" = some none)
    (hV0:PySem.W.nsIn K mainGlobals "ValueError" = some none)
    (z0:PySem.W.nsIn K mainGlobals "len" = some none) (z1:PySem.W.nsIn K mainGlobals "range" = some none) (z2:PySem.W.nsIn K mainGlobals "isinstance" = some none) (z3:PySem.W.nsIn K mainGlobals "int" = some none) (z4:PySem.W.nsIn K mainGlobals "bool" = some none) (z5:PySem.W.nsIn K mainGlobals "list" = some none) (z6:PySem.W.nsIn K mainGlobals "tuple" = some none) (z7:PySem.W.nsIn K mainGlobals "max" = some none) (z8:PySem.W.nsIn K mainGlobals "min" = some none) (z9:PySem.W.nsIn K mainGlobals "reversed" = some none) (z10:PySem.W.nsIn K mainGlobals "enumerate" = some none) (z11:PySem.W.nsIn K mainGlobals "sum" = some none) (z12:PySem.W.nsIn K mainGlobals "all" = some none) (z13:PySem.W.nsIn K mainGlobals "zip" = some none) :
    ∃ fd:FuncData,(∀ (s:Shared) (v:Value),BindsTo s fd ⟨[v],[]⟩ [("_law_script", v)])∧∀ base:Heap,K.In base→base.Ns mainGlobals mg→FnOk l.prog w K mg base CX0 21 fa fd ["_law_script"] (spLaw K):=by
  have e:=hfa.symm.trans (PySem.W.mg_of X G a35)
  cases e
  have F_is_field:=fun_mk (st:=s_is_field) l0 c0 k0
  have m_is_field:=PySem.W.mg_of X G a0
  have F_inverse_of:=fun_mk (st:=s_inverse_of) l1 c1 k1
  have m_inverse_of:=PySem.W.mg_of X G a1
  have F_is_number:=fun_mk (st:=s_is_number) l2 c2 k2
  have m_is_number:=PySem.W.mg_of X G a2
  have F_value_at:=fun_mk (st:=s_value_at) l3 c3 k3
  have m_value_at:=PySem.W.mg_of X G a3
  have F_both_ends:=fun_mk (st:=s_both_ends) l4 c4 k4
  have m_both_ends:=PySem.W.mg_of X G a4
  have F_value_behind:=fun_mk (st:=s_value_behind) l5 c5 k5
  have m_value_behind:=PySem.W.mg_of X G a5
  have F_products:=fun_mk (st:=s_products) l6 c6 k6
  have m_products:=PySem.W.mg_of X G a6
  have F_inverse_factorials:=fun_mk (st:=s_inverse_factorials) l7 c7 k7
  have m_inverse_factorials:=PySem.W.mg_of X G a7
  have F_trees_within:=fun_mk (st:=s_trees_within) l8 c8 k8
  have m_trees_within:=PySem.W.mg_of X G a8
  have F_size_of:=fun_mk (st:=s_size_of) l9 c9 k9
  have m_size_of:=PySem.W.mg_of X G a9
  have F_names_in:=fun_mk (st:=s_names_in) l10 c10 k10
  have m_names_in:=PySem.W.mg_of X G a10
  have F_all_sizes:=fun_mk (st:=s_all_sizes) l11 c11 k11
  have m_all_sizes:=PySem.W.mg_of X G a11
  have F_worth_of:=fun_mk (st:=s_worth_of) l12 c12 k12
  have m_worth_of:=PySem.W.mg_of X G a12
  have F_joined_worth:=fun_mk (st:=s_joined_worth) l13 c13 k13
  have m_joined_worth:=PySem.W.mg_of X G a13
  have F_degree_of:=fun_mk (st:=s_degree_of) l14 c14 k14
  have m_degree_of:=PySem.W.mg_of X G a14
  have F_look_switches:=fun_mk (st:=s_look_switches) l15 c15 k15
  have m_look_switches:=PySem.W.mg_of X G a15
  have F_look_names:=fun_mk (st:=s_look_names) l16 c16 k16
  have m_look_names:=PySem.W.mg_of X G a16
  have F_look_field:=fun_mk (st:=s_look_field) l17 c17 k17
  have m_look_field:=PySem.W.mg_of X G a17
  have F_look_size:=fun_mk (st:=s_look_size) l18 c18 k18
  have m_look_size:=PySem.W.mg_of X G a18
  have F_l_feed:=fun_mk (st:=s_l_feed) l19 c19 k19
  have m_l_feed:=PySem.W.mg_of X G a19
  have F_l_take:=fun_mk (st:=s_l_take) l20 c20 k20
  have m_l_take:=PySem.W.mg_of X G a20
  have F_l_names:=fun_mk (st:=s_l_names) l21 c21 k21
  have m_l_names:=PySem.W.mg_of X G a21
  have F_l_tree:=fun_mk (st:=s_l_tree) l22 c22 k22
  have m_l_tree:=PySem.W.mg_of X G a22
  have F_l_names_of:=fun_mk (st:=s_l_names_of) l23 c23 k23
  have m_l_names_of:=PySem.W.mg_of X G a23
  have F_l_need:=fun_mk (st:=s_l_need) l24 c24 k24
  have m_l_need:=PySem.W.mg_of X G a24
  have F_l_is_prime:=fun_mk (st:=s_l_is_prime) l25 c25 k25
  have m_l_is_prime:=PySem.W.mg_of X G a25
  have F_l_field:=fun_mk (st:=s_l_field) l26 c26 k26
  have m_l_field:=PySem.W.mg_of X G a26
  have F_l_game:=fun_mk (st:=s_l_game) l27 c27 k27
  have m_l_game:=PySem.W.mg_of X G a27
  have F_l_inverse:=fun_mk (st:=s_l_inverse) l28 c28 k28
  have m_l_inverse:=PySem.W.mg_of X G a28
  have F_l_coin:=fun_mk (st:=s_l_coin) l29 c29 k29
  have m_l_coin:=PySem.W.mg_of X G a29
  have F_l_said:=fun_mk (st:=s_l_said) l30 c30 k30
  have m_l_said:=PySem.W.mg_of X G a30
  have F_l_state:=fun_mk (st:=s_l_state) l31 c31 k31
  have m_l_state:=PySem.W.mg_of X G a31
  have F_l_fresh:=fun_mk (st:=s_l_fresh) l32 c32 k32
  have m_l_fresh:=PySem.W.mg_of X G a32
  have F_l_nudged:=fun_mk (st:=s_l_nudged) l33 c33 k33
  have m_l_nudged:=PySem.W.mg_of X G a33
  have F_l_told:=fun_mk (st:=s_l_told) l34 c34 k34
  have m_l_told:=PySem.W.mg_of X G a34
  have F_law:=fun_mk (st:=s_law) l35 c35 k35
  have B:Bl mg:=⟨PySem.W.mg_none_of X G z0,PySem.W.mg_none_of X G z1,PySem.W.mg_none_of X G z2,PySem.W.mg_none_of X G z3,PySem.W.mg_none_of X G z4,PySem.W.mg_none_of X G z5,PySem.W.mg_none_of X G z6,PySem.W.mg_none_of X G z7,PySem.W.mg_none_of X G z8,PySem.W.mg_none_of X G z9,PySem.W.mg_none_of X G z10,PySem.W.mg_none_of X G z11,PySem.W.mg_none_of X G z12,PySem.W.mg_none_of X G z13⟩
  refine ⟨PySem.W.fnOf "law" "law" (defArgs s_law) (defBody s_law) (defScope s_law) .none kV35 dc35 pm35 an35 cd35 ct35,fun s v=>.of_eq rfl,fun base _ _=>?_⟩
  have xfc:=clsfc xfc0
  have hV:=PySem.W.mg_none_of X G hV0
  have F_A:=funD_mk (st:=s_AskError) xlk xcd xkp
  have K_A:AskC l.prog w K mg base CA gA _:=⟨PySem.W.mg_of X G gAs,⟨xga,xrd,xfc,xkp⟩,ok_AskError (P:=l.prog) (w:=w) (base:=base) F_A hV,fun s us KX hl=>match us,hl with | [_,_],_=>PySem.W.binds_K KX rfl xtp rfl rfl rfl⟩
  have L_6:ClsX K cc6 CA:=⟨⟨_,_,_,_,_,_,_,_,_,_,_,_,_,_,yo6⟩,ys6,ya6,yt6,yc6⟩
  have J_6:MkX K cc6 g6:=L_6.mk' yi6 ⟨_,yl6,rfl⟩ yq6
  have F_6:=funD_mk (st:=s_NoTurn) yl6 yk6 yp6
  have N:NoX l.prog w K mg base "NoTurn" cc6 CA g6 _:=⟨J_6,ok_NoTurn (P:=l.prog) (w:=w) (base:=base) F_6 K_A J_6 L_6 yn6,binds1 fun s u KX=>PySem.W.binds_K KX rfl yd6 rfl rfl rfl,L_6,PySem.W.mg_of X G yg6⟩
  have L_7:ClsX K cc7 CA:=⟨⟨_,_,_,_,_,_,_,_,_,_,_,_,_,_,yo7⟩,ys7,ya7,yt7,yc7⟩
  have J_7:MkX K cc7 g7:=L_7.mk' yi7 ⟨_,yl7,rfl⟩ yq7
  have F_7:=funD_mk (st:=s_NoCount) yl7 yk7 yp7
  have NC:NoX l.prog w K mg base "NoCount" cc7 CA g7 _:=⟨J_7,ok_NoCount (P:=l.prog) (w:=w) (base:=base) F_7 K_A J_7 L_7 yn7,binds1 fun s u KX=>PySem.W.binds_K KX rfl yd7 rfl rfl rfl,L_7,PySem.W.mg_of X G yg7⟩
  have L_8:ClsX K cc8 CA:=⟨⟨_,_,_,_,_,_,_,_,_,_,_,_,_,_,yo8⟩,ys8,ya8,yt8,yc8⟩
  have J_8:MkX K cc8 g8:=L_8.mk' yi8 ⟨_,yl8,rfl⟩ yq8
  have F_8:=funD_mk (st:=s_NoNumber) yl8 yk8 yp8
  have NN:NoX l.prog w K mg base "NoNumber" cc8 CA g8 _:=⟨J_8,ok_NoNumber (P:=l.prog) (w:=w) (base:=base) F_8 K_A J_8 L_8 yn8,binds1 fun s u KX=>PySem.W.binds_K KX rfl yd8 rfl rfl rfl,L_8,PySem.W.mg_of X G yg8⟩
  have hA:isBaseX K CA:=⟨_,_,_,_,_,_,_,_,_,_,_,_,_,_,iAs0⟩
  have gAq:=PySem.W.mg_of X G gAs
  have TG:GTxt K mg CG:=⟨⟨gmpg,gmhdi,gmpov,gmsat⟩,gmn_switches,gmn_trees,gmn_field,gmn_degrees,PySem.W.mg_of X G gmgg⟩
  have T:DTxt K mg C:=⟨⟨dbpg,dbhdi,dbpov,dbsat⟩,dbn_game,dbn_awaited,dbn_claims,dbn_s,dbn_heard,dbn_tossed,dbn_held,dbn_places,PySem.W.mg_of X G dbgg⟩
  have F_gmI:=fun_mk (st:=s_ginit) gmlI gmcI gmkI
  have b_gmI:=F_gmI.binds (ps:=["self", "switches", "trees", "field"]) fun _ _ _ _ _ _ us hl=>by obtain ⟨u0,u1,u2,u3,rfl⟩:=len4 hl; rfl
  have F_gmM:=fun_mk (st:=s_gmix) gmlM gmcM gmkM
  have b_gmM:=F_gmM.binds (ps:=["self", "numbers", "s"]) fun _ _ _ _ _ _ us hl=>by obtain ⟨u0,u1,u2,rfl⟩:=len3 hl; rfl
  have m_gmM:Meth K CG "mix" gmgM:=⟨gmaM,gmiM,gmkM⟩
  have F_gmW:=fun_mk (st:=s_gworth) gmlW gmcW gmkW
  have b_gmW:=F_gmW.binds (ps:=["self", "point", "s"]) fun _ _ _ _ _ _ us hl=>by obtain ⟨u0,u1,u2,rfl⟩:=len3 hl; rfl
  have m_gmW:Meth K CG "worth_at" gmgW:=⟨gmaW,gmiW,gmkW⟩
  have F_dbI:=fun_mk (st:=s_dinit) dblI dbcI dbkI
  have b_dbI:=F_dbI.binds (ps:=["self", "game"]) fun _ _ _ _ _ _ us hl=>by obtain ⟨u0,u1,rfl⟩:=len2 hl; rfl
  have F_dbW:=fun_mk (st:=s_dwaits) dblW dbcW dbkW
  have b_dbW:=F_dbW.binds (ps:=["self"]) fun _ _ _ _ _ _ us hl=>by obtain ⟨u0,rfl⟩:=len1 hl; rfl
  have m_dbW:Meth K C "waits" dbgW:=⟨dbaW,dbiW,dbkW⟩
  have F_dbU:=fun_mk (st:=s_ddue) dblU dbcU dbkU
  have b_dbU:=F_dbU.binds (ps:=["self"]) fun _ _ _ _ _ _ us hl=>by obtain ⟨u0,rfl⟩:=len1 hl; rfl
  have m_dbU:Meth K C "due" dbgU:=⟨dbaU,dbiU,dbkU⟩
  have F_dbH:=fun_mk (st:=s_dhear) dblH dbcH dbkH
  have b_dbH:=F_dbH.binds (ps:=["self", "values"]) fun _ _ _ _ _ _ us hl=>by obtain ⟨u0,u1,rfl⟩:=len2 hl; rfl
  have m_dbH:Meth K C "hear" dbgH:=⟨dbaH,dbiH,dbkH⟩
  have F_dbT:=fun_mk (st:=s_dtoss) dblT dbcT dbkT
  have b_dbT:=F_dbT.binds (ps:=["self", "r"]) fun _ _ _ _ _ _ us hl=>by obtain ⟨u0,u1,rfl⟩:=len2 hl; rfl
  have m_dbT:Meth K C "toss" dbgT:=⟨dbaT,dbiT,dbkT⟩
  have F_dbC:=fun_mk (st:=s_dclaims) dblC dbcC dbkC
  have b_dbC:=F_dbC.binds (ps:=["self", "values"]) fun _ _ _ _ _ _ us hl=>by obtain ⟨u0,u1,rfl⟩:=len2 hl; rfl
  have m_dbC:Meth K C "hear_claims" dbgC:=⟨dbaC,dbiC,dbkC⟩
  have F_dbB:=fun_mk (st:=s_dbegin) dblB dbcB dbkB
  have b_dbB:=F_dbB.binds (ps:=["self", "s"]) fun _ _ _ _ _ _ us hl=>by obtain ⟨u0,u1,rfl⟩:=len2 hl; rfl
  have m_dbB:Meth K C "begin_rounds" dbgB:=⟨dbaB,dbiB,dbkB⟩
  have F_dbR:=fun_mk (st:=s_drow) dblR dbcR dbkR
  have b_dbR:=F_dbR.binds (ps:=["self", "values"]) fun _ _ _ _ _ _ us hl=>by obtain ⟨u0,u1,rfl⟩:=len2 hl; rfl
  have m_dbR:Meth K C "hear_row" dbgR:=⟨dbaR,dbiR,dbkR⟩
  have F_dbG:=fun_mk (st:=s_dgo) dblG dbcG dbkG
  have b_dbG:=F_dbG.binds (ps:=["self"]) fun _ _ _ _ _ _ us hl=>by obtain ⟨u0,rfl⟩:=len1 hl; rfl
  have m_dbG:Meth K C "go_on" dbgG:=⟨dbaG,dbiG,dbkG⟩
  have F_dbE:=fun_mk (st:=s_dtrees) dblE dbcE dbkE
  have b_dbE:=F_dbE.binds (ps:=["self"]) fun _ _ _ _ _ _ us hl=>by obtain ⟨u0,rfl⟩:=len1 hl; rfl
  have m_dbE:Meth K C "look_at_trees" dbgE:=⟨dbaE,dbiE,dbkE⟩
  have F_dbX:=fun_mk (st:=s_dtwin) dblX dbcX dbkX
  have b_dbX:=F_dbX.binds (ps:=["self"]) fun _ _ _ _ _ _ us hl=>by obtain ⟨u0,rfl⟩:=len1 hl; rfl
  have m_dbX:Meth K C "twin" dbgX:=⟨dbaX,dbiX,dbkX⟩
  have F_dbL:=fun_mk (st:=s_dlooked) dblL dbcL dbkL
  have b_dbL:=F_dbL.binds (ps:=["self"]) fun _ _ _ _ _ _ us hl=>by obtain ⟨u0,rfl⟩:=len1 hl; rfl
  have m_dbL:Meth K C "looked" dbgL:=⟨dbaL,dbiL,dbkL⟩
  have C_l_feed:=Cal.of (P:=l.prog) (w:=w) (base:=base) F_l_feed (ok_l_feed F_l_feed B.len) m_l_feed (fun _ _ _ _ _ _ us hl=>by obtain ⟨u0,u1,rfl⟩:=len2 hl; rfl)
  have C_l_take:=Cal.of (P:=l.prog) (w:=w) (base:=base) F_l_take (ok_l_take F_l_take ) m_l_take (fun _ _ _ _ _ _ us hl=>by obtain ⟨u0,u1,rfl⟩:=len2 hl; rfl)
  have C_is_field:=Cal.of (P:=l.prog) (w:=w) (base:=base) F_is_field (ok_is_field F_is_field ) m_is_field (fun _ _ _ _ _ _ us hl=>by obtain ⟨u0,rfl⟩:=len1 hl; rfl)
  have C_inverse_of:=Cal.of (P:=l.prog) (w:=w) (base:=base) F_inverse_of (ok_inverse_of F_inverse_of ) m_inverse_of (fun _ _ _ _ _ _ us hl=>by obtain ⟨u0,u1,rfl⟩:=len2 hl; rfl)
  have C_is_number:=Cal.of (P:=l.prog) (w:=w) (base:=base) F_is_number (ok_is_number F_is_number B) m_is_number (fun _ _ _ _ _ _ us hl=>by obtain ⟨u0,u1,rfl⟩:=len2 hl; rfl)
  have C_products:=Cal.of (P:=l.prog) (w:=w) (base:=base) F_products (ok_products F_products ) m_products (fun _ _ _ _ _ _ us hl=>by obtain ⟨u0,u1,rfl⟩:=len2 hl; rfl)
  have C_inverse_factorials:=Cal.of (P:=l.prog) (w:=w) (base:=base) F_inverse_factorials (ok_inverse_factorials F_inverse_factorials B C_products C_inverse_of) m_inverse_factorials (fun _ _ _ _ _ _ us hl=>by obtain ⟨u0,u1,rfl⟩:=len2 hl; rfl)
  have C_value_behind:=Cal.of (P:=l.prog) (w:=w) (base:=base) F_value_behind (ok_value_behind F_value_behind B C_products C_inverse_factorials) m_value_behind (fun _ _ _ _ _ _ us hl=>by obtain ⟨u0,u1,u2,rfl⟩:=len3 hl; rfl)
  have C_value_at:=Cal.of (P:=l.prog) (w:=w) (base:=base) F_value_at (ok_value_at F_value_at B C_value_behind) m_value_at (fun _ _ _ _ _ _ us hl=>by obtain ⟨u0,u1,u2,rfl⟩:=len3 hl; rfl)
  have C_both_ends:=Cal.of (P:=l.prog) (w:=w) (base:=base) F_both_ends (ok_both_ends F_both_ends C_value_at) m_both_ends (fun _ _ _ _ _ _ us hl=>by obtain ⟨u0,u1,rfl⟩:=len2 hl; rfl)
  have C_trees_within:=Cal.of (P:=l.prog) (w:=w) (base:=base) F_trees_within (ok_trees_within F_trees_within ) m_trees_within (fun _ _ _ _ _ _ us hl=>by obtain ⟨u0,rfl⟩:=len1 hl; rfl)
  have C_size_of:=Cal.of (P:=l.prog) (w:=w) (base:=base) F_size_of (ok_size_of F_size_of B m_size_of C_trees_within 10) m_size_of (fun _ _ _ _ _ _ us hl=>by obtain ⟨u0,rfl⟩:=len1 hl; rfl)
  have C_names_in:=Cal.of (P:=l.prog) (w:=w) (base:=base) F_names_in (ok_names_in F_names_in m_names_in C_trees_within 10) m_names_in (fun _ _ _ _ _ _ us hl=>by obtain ⟨u0,rfl⟩:=len1 hl; rfl)
  have C_joined_worth:=Cal.of (P:=l.prog) (w:=w) (base:=base) F_joined_worth (ok_joined_worth F_joined_worth ) m_joined_worth (fun _ _ _ _ _ _ us hl=>by obtain ⟨u0,u1,u2,u3,rfl⟩:=len4 hl; rfl)
  have C_worth_of:=Cal.of (P:=l.prog) (w:=w) (base:=base) F_worth_of (ok_worth_of F_worth_of m_worth_of C_joined_worth 10) m_worth_of (fun _ _ _ _ _ _ us hl=>by obtain ⟨u0,u1,u2,u3,rfl⟩:=len4 hl; rfl)
  have C_degree_of:=Cal.of (P:=l.prog) (w:=w) (base:=base) F_degree_of (ok_degree_of F_degree_of B.max C_names_in) m_degree_of (fun _ _ _ _ _ _ us hl=>by obtain ⟨u0,u1,rfl⟩:=len2 hl; rfl)
  have C_look_switches:=Cal.of (P:=l.prog) (w:=w) (base:=base) F_look_switches (ok_look_switches F_look_switches B.enumerate) m_look_switches (fun _ _ _ _ _ _ us hl=>by obtain ⟨u0,rfl⟩:=len1 hl; rfl)
  have C_look_names:=Cal.of (P:=l.prog) (w:=w) (base:=base) F_look_names (ok_look_names F_look_names C_names_in) m_look_names (fun _ _ _ _ _ _ us hl=>by obtain ⟨u0,u1,rfl⟩:=len2 hl; rfl)
  have C_look_field:=Cal.of (P:=l.prog) (w:=w) (base:=base) F_look_field (ok_look_field F_look_field ⟨te,PySem.W.mg_of X G ge⟩ C_is_field) m_look_field (fun _ _ _ _ _ _ us hl=>by obtain ⟨u0,rfl⟩:=len1 hl; rfl)
  have C_look_size:=Cal.of (P:=l.prog) (w:=w) (base:=base) F_look_size (ok_look_size F_look_size B.max) m_look_size (fun _ _ _ _ _ _ us hl=>by obtain ⟨u0,u1,rfl⟩:=len2 hl; rfl)
  have C_l_names:=Cal.of (P:=l.prog) (w:=w) (base:=base) F_l_names (ok_l_names F_l_names B.range C_l_take) m_l_names (fun _ _ _ _ _ _ us hl=>by obtain ⟨u0,u1,rfl⟩:=len2 hl; rfl)
  have C_l_tree:=Cal.of (P:=l.prog) (w:=w) (base:=base) F_l_tree (ok_l_tree F_l_tree B.len m_l_tree C_l_take 10) m_l_tree (fun _ _ _ _ _ _ us hl=>by obtain ⟨u0,u1,u2,u3,rfl⟩:=len4 hl; rfl)
  have C_l_names_of:=Cal.of (P:=l.prog) (w:=w) (base:=base) F_l_names_of (ok_l_names_of F_l_names_of m_l_names_of 10) m_l_names_of (fun _ _ _ _ _ _ us hl=>by obtain ⟨u0,rfl⟩:=len1 hl; rfl)
  have C_l_need:=Cal.of (P:=l.prog) (w:=w) (base:=base) F_l_need (ok_l_need F_l_need B.len B.max C_l_names_of) m_l_need (fun _ _ _ _ _ _ us hl=>by obtain ⟨u0,u1,rfl⟩:=len2 hl; rfl)
  have C_l_is_prime:=Cal.of (P:=l.prog) (w:=w) (base:=base) F_l_is_prime (ok_l_is_prime F_l_is_prime B.range) m_l_is_prime (fun _ _ _ _ _ _ us hl=>by obtain ⟨u0,rfl⟩:=len1 hl; rfl)
  have C_l_field:=Cal.of (P:=l.prog) (w:=w) (base:=base) F_l_field (ok_l_field F_l_field C_l_take C_l_is_prime) m_l_field (fun _ _ _ _ _ _ us hl=>by obtain ⟨u0,u1,rfl⟩:=len2 hl; rfl)
  have C_l_game:=Cal.of (P:=l.prog) (w:=w) (base:=base) F_l_game (ok_l_game F_l_game B.range B.tuple C_l_take C_l_names C_l_tree C_l_need C_l_field) m_l_game (fun _ _ _ _ _ _ us hl=>by obtain ⟨u0,u1,u2,rfl⟩:=len3 hl; rfl)
  have C_all_sizes:=Cal.of (P:=l.prog) (w:=w) (base:=base) F_all_sizes (ok_all_sizes F_all_sizes B TG C_size_of) m_all_sizes (fun _ _ _ _ _ _ us hl=>by obtain ⟨u0,rfl⟩:=len1 hl; rfl)
  have G_gmI:=ok_ginit (P:=l.prog) (w:=w) (base:=base) F_gmI TG B.tuple B.len C_degree_of C_look_switches C_look_names C_look_field C_look_size
  have G_gmM:=ok_gmix (P:=l.prog) (w:=w) (base:=base) F_gmM TG B.reversed
  have G_gmW:=ok_gworth (P:=l.prog) (w:=w) (base:=base) F_gmW TG m_gmM G_gmM b_gmM C_worth_of
  have G_dbE:=ok_dtrees (P:=l.prog) (w:=w) (base:=base) F_dbE B T TG m_gmW G_gmW b_gmW C_all_sizes
  have G_dbG:=ok_dgo (P:=l.prog) (w:=w) (base:=base) F_dbG B T TG m_dbE G_dbE b_dbE
  have G_dbB:=ok_dbegin (P:=l.prog) (w:=w) (base:=base) F_dbB T TG m_gmM G_gmM b_gmM m_dbG G_dbG b_dbG
  have G_dbC:=ok_dclaims (P:=l.prog) (w:=w) (base:=base) F_dbC B T TG m_dbB G_dbB b_dbB
  have G_dbR:=ok_drow (P:=l.prog) (w:=w) (base:=base) F_dbR B T TG C_both_ends
  have G_dbH:=ok_dhearR (P:=l.prog) (w:=w) (base:=base) F_dbH B T TG N NC C_is_number m_dbC G_dbC b_dbC m_dbR G_dbR b_dbR
  have G_dbT:=ok_dtossR (P:=l.prog) (w:=w) (base:=base) F_dbT B T TG N NN C_is_number C_value_at m_dbB G_dbB b_dbB m_dbG G_dbG b_dbG
  have G_dbI:=ok_dinit (P:=l.prog) (w:=w) (base:=base) F_dbI B T TG
  have G_dbW:=ok_dwaits (P:=l.prog) (w:=w) (base:=base) F_dbW T
  have G_dbU:=ok_ddue (P:=l.prog) (w:=w) (base:=base) F_dbU T
  have C_l_coin:=Cal.of (P:=l.prog) (w:=w) (base:=base) F_l_coin (ok_l_coin F_l_coin C_l_take) m_l_coin (fun _ _ _ _ _ _ us hl=>by obtain ⟨u0,u1,rfl⟩:=len2 hl; rfl)
  have G_dbL:=ok_dlooked (P:=l.prog) (w:=w) (base:=base) F_dbL T
  have MDk:Mk K C dbgI:=⟨dbmki,dbaI,dbiI,dbkcl⟩
  have G_dbX:=ok_dtwin (P:=l.prog) (w:=w) (base:=base) F_dbX T MDk G_dbI b_dbI
  have C_l_inverse:=Cal.of (P:=l.prog) (w:=w) (base:=base) F_l_inverse (ok_l_inverse F_l_inverse ) m_l_inverse (fun _ _ _ _ _ _ us hl=>by obtain ⟨u0,u1,rfl⟩:=len2 hl; rfl)
  have C_l_said:=Cal.of (P:=l.prog) (w:=w) (base:=base) F_l_said (ok_l_said F_l_said B C_l_take C_l_coin C_l_inverse) m_l_said (fun _ _ _ _ _ _ us hl=>by obtain ⟨u0,u1,u2,u3,u4,rfl⟩:=len5 hl; rfl)
  have C_l_state:=Cal.of (P:=l.prog) (w:=w) (base:=base) F_l_state (ok_l_state F_l_state T m_dbU G_dbU b_dbU m_dbW G_dbW b_dbW m_dbL G_dbL b_dbL) m_l_state (fun _ _ _ _ _ _ us hl=>by obtain ⟨u0,rfl⟩:=len1 hl; rfl)
  have C_l_fresh:=Cal.of (P:=l.prog) (w:=w) (base:=base) F_l_fresh (ok_l_fresh F_l_fresh B T MDk G_dbI b_dbI m_dbH G_dbH b_dbH m_dbT G_dbT b_dbT) m_l_fresh (fun _ _ _ _ _ _ us hl=>by obtain ⟨u0,u1,rfl⟩:=len2 hl; rfl)
  have C_l_nudged:=Cal.of (P:=l.prog) (w:=w) (base:=base) F_l_nudged (ok_l_nudged F_l_nudged T gAq hA N NC NN m_dbH G_dbH b_dbH m_dbT G_dbT b_dbT C_l_take) m_l_nudged (fun _ _ _ _ _ _ us hl=>by obtain ⟨u0,u1,u2,rfl⟩:=len3 hl; rfl)
  have C_l_told:=Cal.of (P:=l.prog) (w:=w) (base:=base) F_l_told (ok_l_told F_l_told B T m_dbH G_dbH b_dbH m_dbT G_dbT b_dbT m_dbU G_dbU b_dbU m_dbW G_dbW b_dbW C_l_take C_l_coin C_l_said C_l_nudged) m_l_told (fun _ _ _ _ _ _ us hl=>by obtain ⟨u0,u1,u2,u3,rfl⟩:=len4 hl; rfl)
  exact ok_law F_law B T TG ⟨gmmki,gmaI,gmiI,gmkcl⟩ G_gmI b_gmI MDk G_dbI b_dbI m_dbX G_dbX b_dbX C_l_feed C_l_take C_l_game C_l_state C_l_fresh C_l_told
theorem walk {l:PySem.W.OpenLaw} {q:Program} {loose:List Str} {XP:(Str→Option Value)→Heap→Prop} {YP:World→Heap→Prop} {d:DefRec} {K:Params→PySem.W.Frag} (hn:l.most=some 63) (hdf:d.params.defaults=[])
    (hY:∀ (w:World) (h:Heap),YP w h→(K w.params).In h)
    (F:∀ (w:World) (mg:Str→Option Value) (fa:Addr) (h:Heap),(K w.params).In h→h.Ns mainGlobals mg→mg d.name=some (.ref fa) →
      ∃ fd:FuncData,(∀ (s:Shared) (u:Value),BindsTo s fd ⟨[u],[]⟩ [("_law_script", u)])∧∀ base:Heap,(K w.params).In base→base.Ns mainGlobals mg→FnOk l.prog w (K w.params) mg base CX0 21 fa fd ["_law_script"] (spLaw (K w.params))) :
    PySem.W.WalkO q loose XP YP l.row.toRowW d [] (fun f vs=>PySem.call f vs) :=
  L2.walk_of (n:=63) (k:=21) (x := "_law_script") (CX:=fun _=>CX0) (sp:=fun w=>spLaw (K w.params)) hn (by decide) hdf ⟨rfl,by decide,by decide⟩ hY F (fun _ _ a ns hl _ hS=>⟨a,ns,rfl,hS,hl,fun _=>rfl⟩) fun _ _ _ _ _ z=>z
end Mine
namespace PySem.W.Fast
def tw16039927744270259303:=()
def tw11443931316913372721:=()
def tw7548484077742422288:=()
def tw12480886953370753173:=()
def tw11613719992257210601:=()
def tw2415346982425733322:=()
def tw5039455591596343241:=()
def tw2299062409212123378:=()
def tw9891274793907165656:=()
def tw16362279217792658097:=()
def tw8898945209513507113:=()
def tw1341958122741690888:=()
def tw5397997535588123106:=()
def tw2642428140047947608:=()
def tw8275660437685683703:=()
def tw9200282228767129545:=()
def tw14147523070988146569:=()
def tw18110222165610537165:=()
def tw5805569286562510237:=()
def tw10652909714229288512:=()
def tw9713810088371675492:=()
def tw3468859432837191482:=()
def tw3609266113357497082:=()
def tw8478132911119017367:=()
def tw321407672275359869:=()
def tw17581395703263515199:=()
def tw15115363134611643405:=()
def tw6663445758789866584:=()
def tw10656566487201230531:=()
def tw15303680212849821675:=()
def tw4139465180123903355:=()
def tw16069938443924385381:=()
def tw1099220132192501176:=()
def tw12747909288221594882:=()
def tw6048583238483778994:=()
def tw16468497840483508416:=()
def tw16709620096474557985:=()
def tw13389589769159856273:=()
def tw15796082393578369976:=()
def tw18186918256404274889:=()
def tw5807145512260381920:=()
def tw14413700891417552042:=()
def tw14772063375749022407:=()
def tw10815855056353013862:=()
def tw18081481175091362797:=()
def tw14412544467831536301:=()
def tw14468094223523105308:=()
def tw13525344866752607552:=()
def tw15260665002479771182:=()
def tw12196204694988219166:=()
def tw4729047850681022069:=()
def tw14008257210668847694:=()
def tw1635644425714105492:=()
def tw3117020318373016620:=()
def tw11910863845938769707:=()
def tw13411469523966738683:=()
def tw10508854134815430850:=()
def tw17709283800788595656:=()
def tw6234807245835635416:=()
def tw11378973611208649251:=()
def tw4009549641013724054:=()
def tw15237921231871015768:=()
def tw3075641425432555150:=()
def tw7286264321120319949:=()
def tw12922204432188900432:=()
def tw14233159428461869814:=()
def tw3331500067110431953:=()
def tw4400298447270092582:=()
def tw16764087597526398400:=()
def tw6582759658307333962:=()
def tw17847273339053901692:=()
def tw10138144642820008663:=()
def tw1067371498024711063:=()
def tw10249886562730451247:=()
def tw6283690311848907707:=()
def tw4024109967114336744:=()
def tw540422437596428790:=()
def tw4562432036599511311:=()
def tw10084645810360686430:=()
def tw10959433164026956660:=()
def tw18205900067557211122:=()
def tw3016830930833415387:=()
def tw628296361600496043:=()
def tw1536009983997137048:=()
def tw5750884070171511233:=()
def tw9706848688374046486:=()
def tw12480084665332255596:=()
def tw5320673190883650824:=()
def tw4830722662936144228:=()
def tw13092105869117218439:=()
def tw16893755027779670419:=()
def tw4653442605965999176:=()
def tw16653434743673180293:=()
def tw3052329374308611588:=()
def tw13173993630921357880:=()
def tw7156546888692821909:=()
def tw8038763491681762684:=()
def tw2491814712434567331:=()
def tw3794451993713540276:=()
def tw6306096184975716736:=()
def tw5377132820609705418:=()
def tw9612964269715364044:=()
def tw15500639779785249410:=()
def tw13162733421052480549:=()
def tw4501063444876170155:=()
def tw6506598035083356381:=()
def tw14983234773935050568:=()
def tw4164080470314798758:=()
def tw10849423903361453644:=()
def tw3625439311108733893:=()
def tw2859363550728546774:=()
def tw17827740787922279801:=()
def tw17480755850385877692:=()
def tw14351449215855836139:=()
def tw17758445696679351900:=()
def tw11612230810032695743:=()
def tw4111764811084675086:=()
def tw8382212303159406216:=()
def tw7157015369388201894:=()
def tw18099162356845231987:=()
def tw16382106486032149436:=()
def tw3190758043425188023:=()
def tw13499198844295355398:=()
def tw8659521246844619855:=()
def tw15451056441686366863:=()
def tw15111958855551438949:=()
def tw15642056043663355496:=()
def tw13554373937035230515:=()
def tw2994216962364263231:=()
def tw3576337247428052390:=()
def tw6434455164023038077:=()
def tw16615619227572291114:=()
def tw1392185662793988521:=()
def tw13950982132239205633:=()
def tw10898672705075652973:=()
def tw3636658629591466413:=()
def tw15921714117673783179:=()
def tw9632357916602517614:=()
def tw8050240090765870293:=()
def tw1353160068810535744:=()
def tw187535951211502636:=()
def tw14191144723778496615:=()
def tw6276897354525104892:=()
def tw7654263090482588336:=()
def tw3192948965831666639:=()
def tw7717041294088160738:=()
def tw8778506485572784241:=()
def tw1571589025355791060:=()
def tw2140413840831599158:=()
def tw15365766163184328721:=()
def tw15364293342035294084:=()
def tw2791116002052778158:=()
def tw15197975204360523973:=()
def tw1698581215423066368:=()
def tw3343860482702222827:=()
def tw7811376588149025903:=()
def tw9416106940227053752:=()
def tw7673174512423794066:=()
def tw7872941299107359944:=()
def tw5967639963770609388:=()
def tw9575572465896862490:=()
def tw10890213855419762874:=()
def tw6824591576766373547:=()
def tw12894631279403915244:=()
def tw10250222541266153304:=()
def tw10550211591340554020:=()
def tw17865003553959414195:=()
def tw6209663741767678025:=()
def tw7785358967969280552:=()
def tw3754376625621896433:=()
def tw14305688063075677125:=()
def tw11746590196855924419:=()
def tw1265613908816902245:=()
def tw3006631694194604395:=()
def tw15425926315076751517:=()
def tw6245157486867946229:=()
def tw17349044474628644013:=()
def tw14932305669814207275:=()
def tw17676050697009166909:=()
def tw8477629058657701348:=()
def tw5218300525854130054:=()
def tw16864113501947378235:=()
def tw1377556889023389981:=()
def tw3055922764258334506:=()
def tw3025373359938657722:=()
def tw16446220677130642608:=()
def tw8670263943362029051:=()
def tw1495090718800266506:=()
def tw471341327646689251:=()
def tw16940085596505388690:=()
def tw13683842969155848006:=()
def tw9306105500223421971:=()
def tw12413163545543717200:=()
def tw5347782591716589326:=()
def tw8706144185177906188:=()
def tw139170509867795334:=()
def tw8998717721538952818:=()
def tw16009034771968905030:=()
def tw3623919834068360492:=()
def tw2295792935071002430:=()
def tw15575562934001536477:=()
def tw14800525318889357422:=()
def tw2633032324092927913:=()
def tw14634122735444730019:=()
def tw776333919054542423:=()
def tw3411198892610359829:=()
def tw10819256179928074925:=()
def tw14322445698750177847:=()
def tw7606414189420919867:=()
def tw2855986525096515539:=()
def tw5968345351704274836:=()
def tw17059633110794223276:=()
def tw7414067560849829306:=()
def tw14520132928953995663:=()
def tw12670426397811931421:=()
def tw18200440984544005621:=()
def tw6787175787606594018:=()
def tw5188498836646310228:=()
def tw15432402305405858201:=()
def tw18093851385175193496:=()
def tw14217647050373236720:=()
def tw9184343427334970457:=()
def tw7899586351081380404:=()
def tw15228370522985874766:=()
def tw9596031199927616544:=()
def tw8655534751106344935:=()
def tw4906418344276299951:=()
def tw11061736581100360905:=()
def tw13409281897931287811:=()
def tw14560913274251148244:=()
def tw4176948136735376220:=()
def tw2616359165935547997:=()
def tw10720416711311414016:=()
def tw15350023961374249369:=()
def tw6823716088674036007:=()
def tw553782192468691064:=()
def tw6248771772888694298:=()
def tw10465551693138184309:=()
def tw1591364646493110877:=()
def tw13138997367311149719:=()
def tw7215810041853488976:=()
def tw10495153153088781071:=()
def tw13057459580147117991:=()
def tw3527663555468049826:=()
def tw10627824279516818556:=()
def tw7535331953065899609:=()
def tw13553646880027074070:=()
def tw5377321493958233303:=()
def tw6906416198507030385:=()
def tw11874902142038013363:=()
def tw12204009244581209761:=()
def tw14671788681246785796:=()
def tw1491486351821327969:=()
def tw15238014618020400763:=()
def tw5999969556122937426:=()
def tw3430666593090755872:=()
def tw9067376913336227300:=()
def tw12625947888513411164:=()
def tw4714873005827096525:=()
def tw10113668467433439368:=()
def tw3276880732906288015:=()
def tw17161627196029522184:=()
def tw7102633855453743065:=()
def tw10646533397649809773:=()
def tw9428883841273375189:=()
def tw7107714285690492224:=()
def tw2143276902636714911:=()
def tw3330176369719077649:=()
def tw7970748702450756019:=()
def tw13070711177031964319:=()
def tw12738922876031086856:=()
def tw4151741352569734845:=()
def tw7617686563394844788:=()
def tw17973155626396319557:=()
def tw5491481049520150230:=()
def tw17363501287241223370:=()
def tw13157120865252626645:=()
def tw1796178243156608818:=()
def tw8994978462173238046:=()
def tw4492214176431390532:=()
def tw7851692896498996088:=()
def tw11991837432375745061:=()
def tw12182205256362884492:=()
def tw14186826082041513681:=()
def tw4681930326215294668:=()
def tw15149994587517750758:=()
def tw10108033978949985044:=()
def tw10381122762768341929:=()
def tw4546443531861040817:=()
def tw4712924390779776927:=()
def tw18108973005583218461:=()
def tw7416909213602148925:=()
def tw10672071371759016155:=()
def tw8157960635288297698:=()
def tw5546458326119509162:=()
def tw15497660643643853873:=()
def tw15764792539328010127:=()
def tw11479919017930500361:=()
def tw12925686908733290691:=()
def tw3589018033661022404:=()
def tw1711926738569156134:=()
def tw11793117219710197800:=()
def tw3851158573428588282:=()
def tw5492056603872051572:=()
def tw10089042164853973162:=()
def tw13989562237223153435:=()
def tw5106935600012184492:=()
def tw12207560864018474006:=()
def tw4279502266257514303:=()
def tw15426524776270022705:=()
def tw12799400325293330673:=()
def tw18378974682357297157:=()
def tw7810175121099001689:=()
def tw8805507091785483662:=()
def tw2073047696789866531:=()
def tw617821325228955898:=()
def tw9756357031233562492:=()
def tw15598410794752219805:=()
def tw16242887378376492437:=()
def tw13339375383716276928:=()
def tw8478982379277575873:=()
def tw852250886743837354:=()
def tw17952254168494732668:=()
def tw8177328511444090782:=()
def tw4050992051944486604:=()
def tw10373151771270091290:=()
def tw8626198163477999875:=()
def tw11491170476279392797:=()
def tw2527383456428097439:=()
def tw5442161079970405562:=()
def tw16009571081927728842:=()
def tw3992060400495151960:=()
def tw11121340842610825794:=()
def tw4600560891911875612:=()
def tw14750388326843368684:=()
def tw16293987340132545688:=()
def tw498792083189743216:=()
def tw12120358831001541551:=()
def tw1627237812826450752:=()
def tw959489818252339600:=()
def tw5386882716537176863:=()
def tw3404468897985988075:=()
def tw11383219451605098170:=()
def tw5406913045101690571:=()
def tw14440246850870112837:=()
def tw18394318957051262753:=()
def tw9130582791097101981:=()
def tw14502537102882480386:=()
def tw18026485494760686397:=()
def tw2070477902642197441:=()
def tw17833422757455700150:=()
def tw9830462919063407912:=()
def tw4693838346632689765:=()
def tw4283747443159616474:=()
def tw16358496734646176296:=()
def tw10729175264337329819:=()
def tw16521408223147603872:=()
def tw9474821416394981128:=()
def tw6659117131983959903:=()
def tw4344165630073642230:=()
def tw1078257900764970283:=()
def tw5809713483023956029:=()
def tw3633393539280145220:=()
def tw16449437361103227194:=()
def tw18157809090427383976:=()
def tw7442211504537190420:=()
def tw8075955883834951202:=()
def tw16618282736430075813:=()
def tw17039878104786526725:=()
def tw13894318262721548388:=()
def tw4941797415073595205:=()
def tw12756592366511503196:=()
def tw5411159067954145831:=()
def tw10290096092839451845:=()
def tw1233884248463289921:=()
def tw11012236383529513922:=()
def tw6974737335713324994:=()
def tw16368522614305932858:=()
def tw1849365130841168135:=()
def tw15202308266536885013:=()
def tw7898270539684608530:=()
def tw13896401667090108102:=()
def tw13146965449731285511:=()
def tw4003099674573902579:=()
def tw2159149530073584523:=()
def tw5113222083349412395:=()
def tw13856240832476431869:=()
def tw8500258586026110598:=()
def tw10017072805504220284:=()
def tw14386928181213901484:=()
def tw7373875504077373947:=()
def tw6288301941430379909:=()
def tw3672955478971877220:=()
def tw14237551476830071804:=()
def tw10560888459821260968:=()
def tw7641852805513352128:=()
def tw12636186083167252145:=()
def tw12215976258497340217:=()
def tw12167076570478339590:=()
def tw916771686296852130:=()
def tw12671529311055175479:=()
def tw4485926007382107554:=()
def tw4068947582442109607:=()
def tw7210462537218893094:=()
def tw1262521328662757843:=()
def tw5745543843298253698:=()
def tw5577496385011514308:=()
def tw8932856753120445559:=()
def tw10897119370490411035:=()
def tw4960504879252820446:=()
def tw15868388684963754123:=()
def tw7999463856675165977:=()
def tw15599213666764127278:=()
def tw8358341204411895131:=()
def tw6881011647420401589:=()
def tw4763669374272090621:=()
def tw4325417451755604636:=()
def tw1958506694486870293:=()
def tw7727821746129059277:=()
def tw7436018416037639118:=()
def tw1497679495206022372:=()
def tw17583906349511197411:=()
def tw11425645504804524908:=()
def tw16958644861900539265:=()
def tw15521560087657091500:=()
def tw789388395665660573:=()
def tw15732294609946849886:=()
def tw5976508085834499157:=()
def tw14403937198613829557:=()
def tw2269466852605076547:=()
def tw7857378390974813616:=()
def tw7407608060516184281:=()
def tw10112632990845011984:=()
def tw5750516668205080168:=()
def tw12776084389714987727:=()
def tw6584002042332986786:=()
def tw2808383581488730128:=()
def tw4493637708230067188:=()
def tw14833438421364417233:=()
def tw589531555255199046:=()
def tw4530318829239344808:=()
def tw9826454566370884906:=()
def tw12363120269610583772:=()
def tw15798648651724067477:=()
def tw1907154344298309615:=()
def tw17399976204230498571:=()
def tw1346451879501481706:=()
def tw16209643350682408129:=()
def tw9620357668907244200:=()
def tw13483003520468935016:=()
def tw7822395518706614326:=()
def tw11128441400280528623:=()
def tw14879118045547150226:=()
def tw13743369227072182354:=()
def tw5962123959812364137:=()
def tw3992540829963370545:=()
def tw12513256752451856963:=()
def tw4108835334465211436:=()
def tw10071365330527433315:=()
def tw11692439683201011229:=()
def tw8999985577601501669:=()
def tw15892860221392864846:=()
def tw16212848709784656599:=()
def tw6348356399042674649:=()
def tw8696517936868517464:=()
def tw11578251899017650773:=()
def tw18156841821741645668:=()
def tw17270800453068929603:=()
def tw2018611388703348024:=()
def tw16042907932493695633:=()
def tw2313893232316444529:=()
def tw12857615656759602424:=()
def tw3415990734094758271:=()
def tw1259242109960081000:=()
def tw12167272221688824446:=()
def tw15762256412116883429:=()
def tw5797184766527654164:=()
def tw18033043387882356592:=()
def tw9303682839816488729:=()
def tw8371871856536723447:=()
def tw39540473984366875:=()
def tw3192957476662249205:=()
def tw12848360751554256445:=()
def tw16960416544166150803:=()
def tw9858235437681644591:=()
def tw13680085727882806915:=()
def tw11407181926910923189:=()
def tw11584193425604308142:=()
def tw4673336305203178632:=()
def tw11670298839160928717:=()
def tw7736790517133403078:=()
def tw10978807359874287914:=()
def tw9436003445189615840:=()
def tw5195316845145122006:=()
def tw2879912323524098746:=()
def tw5208444844353365884:=()
def tw2422568221502212033:=()
def tw11736829781586286589:=()
def tw5043549616507742850:=()
def tw1198784674730343967:=()
def tw10803652774407556886:=()
def tw17555942913095794193:=()
def tw9332839701708344239:=()
def tw16548421124941454520:=()
def tw10748884355290545021:=()
def tw11212269832538656703:=()
def tw10004874499715694315:=()
def tw7174934375163807490:=()
def tw7291347067873431171:=()
def tw5742465351602512939:=()
def tw5047918272107224386:=()
def tw8932997517498486408:=()
def tw6652983056912717324:=()
def tw17012799911669106306:=()
def tw9891951263824637903:=()
def tw7928620407015235121:=()
def tw13463749338141557839:=()
def tw7599466909293019070:=()
def tw9640466427342577002:=()
def tw12134556465184522216:=()
def tw16794472574136119328:=()
def tw9232733573615024155:=()
def tw6786544528497191522:=()
def tw15390509418550709775:=()
def tw18292025641226515373:=()
def tw6847295420755598205:=()
def tw1164355963734268124:=()
def tw7731544772384269294:=()
def tw3909949175479245206:=()
def tw17806263078115053458:=()
def tw2000582856375922408:=()
def tw7090856217336493064:=()
def tw16820843049284461415:=()
def tw18285441621320717246:=()
def tw5213056091647708011:=()
def tw7757854099968212974:=()
def tw673266289328124340:=()
def tw8839187346712943637:=()
def tw3066256421131671206:=()
end PySem.W.Fast
open PySem PySem.W PyProof.Rows
set_option maxRecDepth 100000 in
set_option maxHeartbeats 0 in
theorem PySem.Challenge.cw_asktally_k46_twins_of_doubters_holds : PySem.Challenge.rw_asktally_k46_twins_of_doubters.Holds := by
  w_on; o_law; k_head; (case hw=>w_witness2)
  k_fill
  refine Mine.walk (l:=PySem.Challenge.rw_asktally_k46_twins_of_doubters) rfl rfl (fun w h Y=>PySem.W.kIn_of Y) ?F
  case F =>
    intro w mg fa h KX G hmg
    refine' Mine.all_mk KX G hmg ?a0 ?l0 ?c0 ?k0 ?a1 ?l1 ?c1 ?k1 ?a2 ?l2 ?c2 ?k2 ?a3 ?l3 ?c3 ?k3 ?a4 ?l4 ?c4 ?k4 ?a5 ?l5 ?c5 ?k5 ?a6 ?l6 ?c6 ?k6 ?a7 ?l7 ?c7 ?k7 ?a8 ?l8 ?c8 ?k8 ?a9 ?l9 ?c9 ?k9 ?a10 ?l10 ?c10 ?k10 ?a11 ?l11 ?c11 ?k11 ?a12 ?l12 ?c12 ?k12 ?a13 ?l13 ?c13 ?k13 ?a14 ?l14 ?c14 ?k14 ?a15 ?l15 ?c15 ?k15 ?a16 ?l16 ?c16 ?k16 ?a17 ?l17 ?c17 ?k17 ?a18 ?l18 ?c18 ?k18 ?a19 ?l19 ?c19 ?k19 ?a20 ?l20 ?c20 ?k20 ?a21 ?l21 ?c21 ?k21 ?a22 ?l22 ?c22 ?k22 ?a23 ?l23 ?c23 ?k23 ?a24 ?l24 ?c24 ?k24 ?a25 ?l25 ?c25 ?k25 ?a26 ?l26 ?c26 ?k26 ?a27 ?l27 ?c27 ?k27 ?a28 ?l28 ?c28 ?k28 ?a29 ?l29 ?c29 ?k29 ?a30 ?l30 ?c30 ?k30 ?a31 ?l31 ?c31 ?k31 ?a32 ?l32 ?c32 ?k32 ?a33 ?l33 ?c33 ?k33 ?a34 ?l34 ?c34 ?k34 ?a35 ?l35 ?c35 ?k35 ?gmgg ?gmaI ?gmiI ?gmlI ?gmcI ?gmkI ?gmaM ?gmiM ?gmlM ?gmcM ?gmkM ?gmaW ?gmiW ?gmlW ?gmcW ?gmkW ?gmpg ?gmhdi ?gmpov ?gmsat ?gmmki ?gmkcl ?gmn_switches ?gmn_trees ?gmn_field ?gmn_degrees ?dbgg ?dbaI ?dbiI ?dblI ?dbcI ?dbkI ?dbaW ?dbiW ?dblW ?dbcW ?dbkW ?dbaU ?dbiU ?dblU ?dbcU ?dbkU ?dbaH ?dbiH ?dblH ?dbcH ?dbkH ?dbaT ?dbiT ?dblT ?dbcT ?dbkT ?dbaC ?dbiC ?dblC ?dbcC ?dbkC ?dbaB ?dbiB ?dblB ?dbcB ?dbkB ?dbaR ?dbiR ?dblR ?dbcR ?dbkR ?dbaG ?dbiG ?dblG ?dbcG ?dbkG ?dbaE ?dbiE ?dblE ?dbcE ?dbkE ?dbaX ?dbiX ?dblX ?dbcX ?dbkX ?dbaL ?dbiL ?dblL ?dbcL ?dbkL ?dbpg ?dbhdi ?dbpov ?dbsat ?dbmki ?dbkcl ?dbn_game ?dbn_awaited ?dbn_claims ?dbn_s ?dbn_heard ?dbn_tossed ?dbn_held ?dbn_places ?ge ?gAs ?iAs0 ?xga ?xrd ?xfc0 ?xlk ?xtp ?xcd ?xkp ?yg6 ?yo6 ?ys6 ?ya6 ?yt6 ?yc6 ?yi6 ?yl6 ?yd6 ?yk6 ?yp6 ?yq6 ?yn6 ?yg7 ?yo7 ?ys7 ?ya7 ?yt7 ?yc7 ?yi7 ?yl7 ?yd7 ?yk7 ?yp7 ?yq7 ?yn7 ?yg8 ?yo8 ?ys8 ?ya8 ?yt8 ?yc8 ?yi8 ?yl8 ?yd8 ?yk8 ?yp8 ?yq8 ?yn8 ?hV0 ?z0 ?z1 ?z2 ?z3 ?z4 ?z5 ?z6 ?z7 ?z8 ?z9 ?z10 ?z11 ?z12 ?z13
    (case a0=>k_is); (case l0=>k_is); (case c0=>k_is); (case k0=>k_is)
    (case a1=>k_is); (case l1=>k_is); (case c1=>k_is); (case k1=>k_is)
    (case a2=>k_is); (case l2=>k_is); (case c2=>k_is); (case k2=>k_is)
    (case a3=>k_is); (case l3=>k_is); (case c3=>k_is); (case k3=>k_is)
    (case a4=>k_is); (case l4=>k_is); (case c4=>k_is); (case k4=>k_is)
    (case a5=>k_is); (case l5=>k_is); (case c5=>k_is); (case k5=>k_is)
    (case a6=>k_is); (case l6=>k_is); (case c6=>k_is); (case k6=>k_is)
    (case a7=>k_is); (case l7=>k_is); (case c7=>k_is); (case k7=>k_is)
    (case a8=>k_is); (case l8=>k_is); (case c8=>k_is); (case k8=>k_is)
    (case a9=>k_is); (case l9=>k_is); (case c9=>k_is); (case k9=>k_is)
    (case a10=>k_is); (case l10=>k_is); (case c10=>k_is); (case k10=>k_is)
    (case a11=>k_is); (case l11=>k_is); (case c11=>k_is); (case k11=>k_is)
    (case a12=>k_is); (case l12=>k_is); (case c12=>k_is); (case k12=>k_is)
    (case a13=>k_is); (case l13=>k_is); (case c13=>k_is); (case k13=>k_is)
    (case a14=>k_is); (case l14=>k_is); (case c14=>k_is); (case k14=>k_is)
    (case a15=>k_is); (case l15=>k_is); (case c15=>k_is); (case k15=>k_is)
    (case a16=>k_is); (case l16=>k_is); (case c16=>k_is); (case k16=>k_is)
    (case a17=>k_is); (case l17=>k_is); (case c17=>k_is); (case k17=>k_is)
    (case a18=>k_is); (case l18=>k_is); (case c18=>k_is); (case k18=>k_is)
    (case a19=>k_is); (case l19=>k_is); (case c19=>k_is); (case k19=>k_is)
    (case a20=>k_is); (case l20=>k_is); (case c20=>k_is); (case k20=>k_is)
    (case a21=>k_is); (case l21=>k_is); (case c21=>k_is); (case k21=>k_is)
    (case a22=>k_is); (case l22=>k_is); (case c22=>k_is); (case k22=>k_is)
    (case a23=>k_is); (case l23=>k_is); (case c23=>k_is); (case k23=>k_is)
    (case a24=>k_is); (case l24=>k_is); (case c24=>k_is); (case k24=>k_is)
    (case a25=>k_is); (case l25=>k_is); (case c25=>k_is); (case k25=>k_is)
    (case a26=>k_is); (case l26=>k_is); (case c26=>k_is); (case k26=>k_is)
    (case a27=>k_is); (case l27=>k_is); (case c27=>k_is); (case k27=>k_is)
    (case a28=>k_is); (case l28=>k_is); (case c28=>k_is); (case k28=>k_is)
    (case a29=>k_is); (case l29=>k_is); (case c29=>k_is); (case k29=>k_is)
    (case a30=>k_is); (case l30=>k_is); (case c30=>k_is); (case k30=>k_is)
    (case a31=>k_is); (case l31=>k_is); (case c31=>k_is); (case k31=>k_is)
    (case a32=>k_is); (case l32=>k_is); (case c32=>k_is); (case k32=>k_is)
    (case a33=>k_is); (case l33=>k_is); (case c33=>k_is); (case k33=>k_is)
    (case a34=>k_is); (case l34=>k_is); (case c34=>k_is); (case k34=>k_is)
    (case a35=>k_is); (case l35=>k_is); (case c35=>k_is); (case k35=>k_is)
    (case gmgg=>k_is)
    (case gmaI=>k_is)
    (case gmiI=>k_is)
    (case gmlI=>k_is)
    (case gmcI=>k_is)
    (case gmkI=>k_is)
    (case gmaM=>k_is)
    (case gmiM=>k_is)
    (case gmlM=>k_is)
    (case gmcM=>k_is)
    (case gmkM=>k_is)
    (case gmaW=>k_is)
    (case gmiW=>k_is)
    (case gmlW=>k_is)
    (case gmcW=>k_is)
    (case gmkW=>k_is)
    (case gmpg=>k_is)
    (case gmhdi=>k_is)
    (case gmpov=>k_is)
    (case gmsat=>k_is)
    (case gmmki=>k_is)
    (case gmkcl=>k_is)
    (case gmn_switches=>k_is)
    (case gmn_trees=>k_is)
    (case gmn_field=>k_is)
    (case gmn_degrees=>k_is)
    (case dbgg=>k_is)
    (case dbaI=>k_is)
    (case dbiI=>k_is)
    (case dblI=>k_is)
    (case dbcI=>k_is)
    (case dbkI=>k_is)
    (case dbaW=>k_is)
    (case dbiW=>k_is)
    (case dblW=>k_is)
    (case dbcW=>k_is)
    (case dbkW=>k_is)
    (case dbaU=>k_is)
    (case dbiU=>k_is)
    (case dblU=>k_is)
    (case dbcU=>k_is)
    (case dbkU=>k_is)
    (case dbaH=>k_is)
    (case dbiH=>k_is)
    (case dblH=>k_is)
    (case dbcH=>k_is)
    (case dbkH=>k_is)
    (case dbaT=>k_is)
    (case dbiT=>k_is)
    (case dblT=>k_is)
    (case dbcT=>k_is)
    (case dbkT=>k_is)
    (case dbaC=>k_is)
    (case dbiC=>k_is)
    (case dblC=>k_is)
    (case dbcC=>k_is)
    (case dbkC=>k_is)
    (case dbaB=>k_is)
    (case dbiB=>k_is)
    (case dblB=>k_is)
    (case dbcB=>k_is)
    (case dbkB=>k_is)
    (case dbaR=>k_is)
    (case dbiR=>k_is)
    (case dblR=>k_is)
    (case dbcR=>k_is)
    (case dbkR=>k_is)
    (case dbaG=>k_is)
    (case dbiG=>k_is)
    (case dblG=>k_is)
    (case dbcG=>k_is)
    (case dbkG=>k_is)
    (case dbaE=>k_is)
    (case dbiE=>k_is)
    (case dblE=>k_is)
    (case dbcE=>k_is)
    (case dbkE=>k_is)
    (case dbaX=>k_is)
    (case dbiX=>k_is)
    (case dblX=>k_is)
    (case dbcX=>k_is)
    (case dbkX=>k_is)
    (case dbaL=>k_is)
    (case dbiL=>k_is)
    (case dblL=>k_is)
    (case dbcL=>k_is)
    (case dbkL=>k_is)
    (case dbpg=>k_is)
    (case dbhdi=>k_is)
    (case dbpov=>k_is)
    (case dbsat=>k_is)
    (case dbmki=>k_is)
    (case dbkcl=>k_is)
    (case dbn_game=>k_is)
    (case dbn_awaited=>k_is)
    (case dbn_claims=>k_is)
    (case dbn_s=>k_is)
    (case dbn_heard=>k_is)
    (case dbn_tossed=>k_is)
    (case dbn_held=>k_is)
    (case dbn_places=>k_is)
    (case ge=>k_is)
    (case gAs=>k_is)
    (case iAs0=>k_is)
    (case xga=>k_is)
    (case xrd=>k_is)
    (case xfc0=>k_is)
    (case xlk=>k_is)
    (case xtp=>k_is)
    (case xcd=>k_is)
    (case xkp=>k_is)
    (case yg6=>k_is)
    (case yo6=>k_is)
    (case ys6=>k_is)
    (case ya6=>k_is)
    (case yt6=>k_is)
    (case yc6=>k_is)
    (case yi6=>k_is)
    (case yl6=>k_is)
    (case yd6=>k_is)
    (case yk6=>k_is)
    (case yp6=>k_is)
    (case yq6=>k_is)
    (case yn6=>k_is)
    (case yg7=>k_is)
    (case yo7=>k_is)
    (case ys7=>k_is)
    (case ya7=>k_is)
    (case yt7=>k_is)
    (case yc7=>k_is)
    (case yi7=>k_is)
    (case yl7=>k_is)
    (case yd7=>k_is)
    (case yk7=>k_is)
    (case yp7=>k_is)
    (case yq7=>k_is)
    (case yn7=>k_is)
    (case yg8=>k_is)
    (case yo8=>k_is)
    (case ys8=>k_is)
    (case ya8=>k_is)
    (case yt8=>k_is)
    (case yc8=>k_is)
    (case yi8=>k_is)
    (case yl8=>k_is)
    (case yd8=>k_is)
    (case yk8=>k_is)
    (case yp8=>k_is)
    (case yq8=>k_is)
    (case yn8=>k_is)
    (case hV0=>k_is)
    (case z0=>k_is)
    (case z1=>k_is)
    (case z2=>k_is)
    (case z3=>k_is)
    (case z4=>k_is)
    (case z5=>k_is)
    (case z6=>k_is)
    (case z7=>k_is)
    (case z8=>k_is)
    (case z9=>k_is)
    (case z10=>k_is)
    (case z11=>k_is)
    (case z12=>k_is)
    (case z13=>k_is)
