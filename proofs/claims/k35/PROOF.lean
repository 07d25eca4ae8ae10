import PyProof.Rows.All
import Wide.All
import OpenK.AllK
import Wide.FinOn
import Lean
import PyProof.EqAt
import PyProof.EqKinds
import PyProof.TupleCall
import PySem.Challenge.RW_asktally_k35_two_hundred_rows
set_option Elab.async false
set_option linter.all false
set_option maxRecDepth 100000
namespace L2
open PySem PySem.Spec PyProof.Rows
abbrev Key:=Sum Int Str
def keyIs:Key→Value→Bool
  | .inl k,v=>Value.isInt k v
  | .inr x,v=>Value.isStrOf x v
def keyH (w:World):Key→Int
  | .inl k=>hashInt k
  | .inr x=>hashStr w x
theorem keyIs_shape:∀ {k:Key} {v:Value},keyIs k v=true→(∃ i t,k=Sum.inl i∧v=Value.int i t)∨(∃ x t,k=Sum.inr x∧v=Value.str x t)
  | .inl i,v,h=>by
    obtain ⟨t,e⟩:=Value.isInt_shape (k:=i) (v:=v) h
    exact .inl ⟨i,t,rfl,e⟩
  | .inr x,v,h=>by
    obtain ⟨t,e⟩:=Value.isStrOf_shape (x:=x) (v:=v) h
    exact .inr ⟨x,t,rfl,e⟩
theorem keyIs_int (i:Int) (t:Tok):keyIs (.inl i) (.int i t)=true:=by simp [keyIs,Value.isInt]
theorem keyIs_str (x:Str) (t:Tok):keyIs (.inr x) (.str x t)=true:=by simp [keyIs,Value.isStrOf]
theorem key_ll (a b:Int):decide ((Sum.inl a:Key)=Sum.inl b)=(a == b):=by
  by_cases e:a=b
  · subst e; simp
  · have h:¬ (Sum.inl a:Key)=Sum.inl b:=fun q=>e (Sum.inl.inj q)
    rw [decide_eq_false h]
    exact (beq_eq_false_iff_ne.mpr e).symm
theorem key_rr (a b:Str):decide ((Sum.inr a:Key)=Sum.inr b)=decide (a=b):=by
  by_cases e:a=b
  · subst e; simp
  · have h:¬ (Sum.inr a:Key)=Sum.inr b:=fun q=>e (Sum.inr.inj q)
    rw [decide_eq_false h,decide_eq_false e]
theorem key_lr (a:Int) (b:Str):decide ((Sum.inl a:Key)=Sum.inr b)=false:=decide_eq_false (fun q=>nomatch q)
theorem key_rl (a:Str) (b:Int):decide ((Sum.inr a:Key)=Sum.inl b)=false:=decide_eq_false (fun q=>nomatch q)
def mixKind (prog:Program) (w:World):PySem.KeyKind prog w Key where
  is:=keyIs
  hash:=keyH w
  inj:=fun v a b ha hb=>by
    rcases keyIs_shape ha with ⟨i,t,rfl,rfl⟩ | ⟨x,t,rfl,rfl⟩
    · rcases keyIs_shape hb with ⟨j,u,rfl,e⟩ | ⟨y,u,rfl,e⟩
      · injection e with e1 _; rw [e1]
      · exact nomatch e
    · rcases keyIs_shape hb with ⟨j,u,rfl,e⟩ | ⟨y,u,rfl,e⟩
      · exact nomatch e
      · injection e with e1 _; rw [e1]
  byValue:=fun k v h=>by
    rcases keyIs_shape h with ⟨i,t,rfl,rfl⟩ | ⟨x,t,rfl,rfl⟩ <;> rfl
  pyHash:=fun hv h=>by
    rcases keyIs_shape hv with ⟨i,t,rfl,rfl⟩ | ⟨x,t,rfl,rfl⟩
    · exact wpAny_pyHash_int h
    · exact wpAny_pyHash_str h
  eqBool:=fun hu hv h=>by
    rcases keyIs_shape hu with ⟨i,t,rfl,rfl⟩ | ⟨x,t,rfl,rfl⟩
    · rcases keyIs_shape hv with ⟨j,u,rfl,rfl⟩ | ⟨y,u,rfl,rfl⟩
      · rw [key_ll] at h; exact wpAny_eqBool_int h
      · rw [key_lr] at h; exact SeqAt.EqAt.int_str i t y u _ _ _ _ h
    · rcases keyIs_shape hv with ⟨j,u,rfl,rfl⟩ | ⟨y,u,rfl,rfl⟩
      · rw [key_rl] at h; exact SeqAt.EqAt.str_int x t j u _ _ _ _ h
      · rw [key_rr] at h; exact wpAny_eqBool_str h
  «strs»:=fun k x t v h=>by
    rcases keyIs_shape h with ⟨i,u,rfl,e⟩ | ⟨y,u,rfl,e⟩
    · exact nomatch e
    · injection e with e1 _
      subst e1
      cases v <;> rfl
theorem mixKind_int (prog:Program) (w:World) (i:Int) (t:Tok):(mixKind prog w).is (.inl i) (.int i t)=true:=keyIs_int i t
theorem mixKind_str (prog:Program) (w:World) (x:Str) (t:Tok):(mixKind prog w).is (.inr x) (.str x t)=true:=keyIs_str x t
end L2
namespace L2
open PySem PySem.Spec PyProof.Rows
inductive V where
  | non | bl (b:Bool) | int (i:Int) | str (x:Str) | byt (b:Array UInt8) | flt (b:UInt64) | ref (a:Addr) | ty (n:String)
  deriving DecidableEq
def RelV:V→Value→Prop
  | .non,u=>u=Value.none
  | .bl b,u=>u=Value.bool b
  | .int i,u=>∃ t,u=Value.int i t
  | .str x,u=>∃ t,u=Value.str x t
  | .byt b,u=>∃ t,u=Value.bytes b t
  | .flt b,u=>∃ t,u=Value.float b t
  | .ref a,u=>u=Value.ref a
  | .ty n,u=>u=Value.type n
abbrev Vals:List V→List Value→Prop:=Paired RelV
theorem Vals.length {xs:List V} {us:List Value} (r:Vals xs us):xs.length=us.length:=Paired.length r
theorem Vals.get:∀ {xs:List V} {us:List Value} {i:Nat} {x:V},Vals xs us→xs[i]?=some x→∃ u,us[i]?=some u∧RelV x u
  | _,_,_,_,.nil,e=>by simp at e
  | _,_,0,_,.cons r _,e=>by simp at e; subst e; exact ⟨_,rfl,r⟩
  | _,_,i+1,x,.cons _ t,e=>by
    obtain ⟨u,h1,h2⟩:=Vals.get (i:=i) (x:=x) t (by simpa using e)
    exact ⟨u,by simpa using h1,h2⟩
theorem Vals.set {x:V} {u:Value} (r:RelV x u):∀ {xs:List V} {us:List Value} (i:Nat),Vals xs us→Vals (xs.set i x) (us.set i u)
  | _,_,_,.nil=>.nil
  | _,_,0,.cons _ t=>.cons r t
  | _,_,i+1,.cons q t=>.cons q (Vals.set r i t)
theorem Vals.append:∀ {xs ys:List V} {us ws:List Value},Vals xs us→Vals ys ws→Vals (xs++ys) (us++ws)
  | _,_,_,_,.nil,s=>s
  | _,_,_,_,.cons r t,s=>.cons r (Vals.append t s)
theorem Vals.take:∀ {xs:List V} {us:List Value} (n:Nat),Vals xs us→Vals (xs.take n) (us.take n)
  | _,_,0,_=>.nil
  | _,_,_+1,.nil=>.nil
  | _,_,n+1,.cons r t=>.cons r (Vals.take n t)
theorem Vals.drop:∀ {xs:List V} {us:List Value} (n:Nat),Vals xs us→Vals (xs.drop n) (us.drop n)
  | _,_,0,r=>r
  | _,_,_+1,.nil=>.nil
  | _,_,n+1,.cons _ t=>Vals.drop n t
def RelO:Option V→Option Value→Prop
  | some v,some u=>RelV v u
  | none,none=>True
  | _,_=>False
def KV {κ:Type}:List (κ × V)→List (κ × Value)→Prop:=Paired fun (p:κ × V) (q:κ × Value)=>p.1=q.1∧RelV p.2 q.2
def kV:Key→V
  | .inl i=>.int i
  | .inr x=>.str x
inductive HO where
    | lst (xs:List V)
    | tup (xs:List V)
    | dK (kvs:List (Key × V)) | dT (kvs:List (List Key × V))
    | set (S:Int→Bool) (n:Nat)
    | ins (C dx:Addr) (fs:List (Str × V))
    | own (x:Addr)
    | xd (fs:List (Str × V))
    | met (f x:Addr)
    | rng (lo hi:Int)
    | frz (o:Obj) (u:HO)
    | tbl (ps:Array Value)
    | ext (φ:Heap→Prop)
abbrev Hp:=Addr→Option HO
def upd (H:Hp) (a:Addr) (o:HO):Hp:=fun b=>if b=a then some o else H b
theorem upd_same {H:Hp} {a:Addr} {o:HO}:upd H a o a=some o:=by unfold upd; rw [if_pos rfl]
theorem upd_ne {H:Hp} {a b:Addr} {o:HO} (h:b ≠ a):upd H a o b=H b:=by unfold upd; rw [if_neg h]
theorem ne_of {H:Hp} {a b:Addr} {o u:HO} (h:H a=some o) (h':H b=some u) (d:o ≠ u):a ≠ b:=by
  intro e; subst e; rw [h] at h'; exact d (Option.some.inj h')
theorem ne_of_none {H:Hp} {a b:Addr} {o:HO} (h:H a=some o) (h':H b=none):a ≠ b:=by
  intro e; subst e; rw [h] at h'; cases h'
section
variable (P:Program) (w:World)
def ObjOk (H:Hp) (h:Heap) (a:Addr):HO→Prop
  | .lst xs=>xs.length≤sizeLine∧∃ (its:List Value) (n:Nat),Vals xs its∧h.get? a=some { cls:=.type "list", data:=.seq its.toArray n }
  | .tup xs=>xs.length≤sizeLine∧∃ its:List Value,Vals xs its∧IsTup h a its.toArray∧∃ o,h.get? a=some o∧o.dict=none
  | .dK kvs=>kvs.length≤sizeLine∧(a == sysModules)=false∧∃ vs,KV kvs vs∧h.DictOf (mixKind P w) a vs
  | .dT kvs=>kvs.length≤sizeLine∧(a == sysModules)=false∧∃ xs:List (List Key × Addr × Value),
      Paired (fun (p:List Key × V) (q:List Key × Addr × Value)=>p.1=q.1∧H q.2.1=some (.tup (p.1.map kV))∧RelV p.2 q.2.2) kvs xs ∧
      ∃ o es ep,h.get? a=some o∧o.ExactDict∧o.data=.dict es ep∧es.toList=xs.map (entryOfKey (tupleKind (mixKind P w)))∧(xs.map (·.1)).Nodup
  | .set S n=>h.SetOf (intKind P w) a S n
  | .ins C dx fs=>H dx=some (.own a)∧fs.length≤1000∧dx ≠ a∧h.get? a=some (PySem.W.instObj C dx) ∧
      ∃ mA,h.Ns1 dx mA∧(∀ f,RelO (fs.lookup f) (mA f))∧PySem.Within mA (fs.map (·.1))
  | .own _=>∃ o,h.get? a=some o
  | .xd fs=>∃ mA,h.Ns1 a mA∧∀ f,RelO (fs.lookup f) (mA f)
  | .rng lo hi=>∃ t u v,h.get? a=some { cls:=.type "range", data:=.fields #[.int lo t,.int hi u,.int 1 v] }
  | .frz o u=>h.get? a=some o∧ObjOk H h a u
  | .tbl ps=>h.get? a=some { cls:=.none,data:=.fields ps }
  | .met f x=>h.get? a=some (PySem.W.methodObj (.ref f) (.ref x))
  | .ext φ=>φ h∧(∃ o,h.get? a=some o)∧∀ h1 h2:Heap,φ h1→(∀ o,h1.get? a=some o→h2.get? a=some o)→φ h2
def HOk (H:Hp) (h:Heap):Prop:=∀ a o,H a=some o→ObjOk P w H h a o
end
section
variable {P:Program} {w:World} {H H':Hp} {h h':Heap} {a:Addr} {o:HO}
theorem ObjOk.lt (x:ObjOk P w H h a o):a < h.objs.size:=by
  cases o with
  | lst xs=>obtain ⟨_,_,_,_,e⟩:=x; exact Heap.lt_size e
  | tup xs=>obtain ⟨_,_,_,p,_⟩:=x; exact p.lt
  | dK kvs=>obtain ⟨_,_,_,_,o,_,_,e,_⟩:=x; exact Heap.lt_size e
  | dT kvs=>obtain ⟨_,_,_,_,o,_,_,e,_⟩:=x; exact Heap.lt_size e
  | set S n=>obtain ⟨o,_,_,_,e,_⟩:=x; exact Heap.lt_size e
  | ins C dx fs=>obtain ⟨_,_,_,e,_⟩:=x; exact Heap.lt_size e
  | own y=>obtain ⟨_,e⟩:=x; exact Heap.lt_size e
  | xd fs=>obtain ⟨_,⟨_,_,_,e,_⟩,_⟩:=x; exact Heap.lt_size e
  | rng lo hi=>obtain ⟨_,_,_,e⟩:=x; exact Heap.lt_size e
  | frz ob u=>obtain ⟨e,_⟩:=x; exact Heap.lt_size e
  | tbl ps=>exact Heap.lt_size (show h.get? a=some _ from x)
  | met f y=>exact Heap.lt_size (show h.get? a=some _ from x)
  | ext φ=>obtain ⟨_,⟨_,e⟩,_⟩:=x; exact Heap.lt_size e
theorem Paired.mapP {α β:Type} {F G:α→β→Prop}:∀ {l₁:List α} {l₂:List β},Paired F l₁ l₂→(∀ a b,F a b→G a b)→Paired G l₁ l₂
  | _,_,.nil,_=>.nil
  | _,_,.cons r t,f=>.cons (f _ _ r) (Paired.mapP t f)
theorem ObjOk.stay (x:ObjOk P w H h a o) (k:∀ b u,(b=a∨H b=some (.own a))→h.get? b=some u→h'.get? b=some u)
    (ho:∀ b,H b=some (.own a)→H' b=some (.own a)) (ht:∀ b xs,H b=some (.tup xs)→H' b=some (.tup xs)):ObjOk P w H' h' a o:=by
  induction o with
  | lst xs=>obtain ⟨z,its,n,r,e⟩:=x; exact ⟨z,its,n,r,k _ _ (.inl rfl) e⟩
  | tup xs=>obtain ⟨z,its,r,⟨ob,e,c⟩,od,e2,d⟩:=x; exact ⟨z,its,r,⟨ob,k _ _ (.inl rfl) e,c⟩,od,k _ _ (.inl rfl) e2,d⟩
  | dK kvs=>obtain ⟨z,y,vs,r,ob,es,ep,e,c⟩:=x; exact ⟨z,y,vs,r,ob,es,ep,k _ _ (.inl rfl) e,c⟩
  | dT kvs =>
    obtain ⟨z,y,xs,r,ob,es,ep,e,c⟩:=x
    exact ⟨z,y,xs,Paired.mapP r fun p q z=>⟨z.1,ht _ _ z.2.1,z.2.2⟩,ob,es,ep,k _ _ (.inl rfl) e,c⟩
  | set S n=>obtain ⟨ob,es,ep,t,e,c⟩:=x; exact ⟨ob,es,ep,t,k _ _ (.inl rfl) e,c⟩
  | ins C dx fs =>
    obtain ⟨d,z,ne,e,mA,⟨od,es,ep,e2,c⟩,r⟩:=x
    exact ⟨ho _ d,z,ne,k _ _ (.inl rfl) e,mA,⟨od,es,ep,k _ _ (.inr d) e2,c⟩,r⟩
  | own y=>obtain ⟨ob,e⟩:=x; exact ⟨ob,k _ _ (.inl rfl) e⟩
  | xd fs=>obtain ⟨mA,⟨od,es,ep,e,c⟩,r⟩:=x; exact ⟨mA,⟨od,es,ep,k _ _ (.inl rfl) e,c⟩,r⟩
  | rng lo hi=>obtain ⟨t,u,v,e⟩:=x; exact ⟨t,u,v,k _ _ (.inl rfl) e⟩
  | frz ob u ih=>obtain ⟨e,q⟩:=x; exact ⟨k _ _ (.inl rfl) e,ih q⟩
  | tbl ps =>
    have e:h.get? a=some { cls:=.none,data:=.fields ps }:=x
    show h'.get? a=some { cls:=.none,data:=.fields ps }
    exact k a _ (.inl rfl) e
  | met f y =>
    have e:h.get? a=some (PySem.W.methodObj (.ref f) (.ref y)):=x
    show h'.get? a=some (PySem.W.methodObj (.ref f) (.ref y))
    exact k a _ (.inl rfl) e
  | ext φ=>obtain ⟨p,⟨o,e⟩,st⟩:=x; exact ⟨st _ _ p fun o q=>k _ _ (.inl rfl) q,⟨o,k _ _ (.inl rfl) e⟩,st⟩
theorem HOk.lt (x:HOk P w H h) (e:H a=some o):a < h.objs.size:=(x a o e).lt
theorem HOk.fresh (x:HOk P w H h) (e:h.objs.size≤a):H a=none:=by
  cases q:H a with
  | none=>rfl
  | some u=>exact absurd (Nat.lt_of_lt_of_le (x.lt q) e) (Nat.lt_irrefl _)
theorem HOk.kept (x:HOk P w H h) (k:∀ b u,h.get? b=some u→h'.get? b=some u):HOk P w H h':=fun a o e =>
  (x a o e).stay (fun b u _ q=>k b u q) (fun _ q=>q) fun _ _ q=>q
theorem HOk.laid (x:HOk P w H h) (k:∀ b u,h.get? b=some u→h'.get? b=some u) (hp:h.objs.size≤a) (new:ObjOk P w (upd H a o) h' a o):HOk P w (upd H a o) h':=fun b u e=>by
  have hn:=x.fresh hp
  by_cases hb:b=a
  · subst hb; rw [upd_same] at e; cases e; exact new
  · rw [upd_ne hb] at e
    exact (x b u e).stay (fun c v _ q=>k c v q) (fun c q=>by rw [upd_ne (ne_of_none q hn)]; exact q) fun c xs q=>by rw [upd_ne (ne_of_none q hn)]; exact q
end
def Rd (H:Hp) (a:Addr) (u:HO):Prop:=H a=some u∨∃ o,H a=some (.frz o u)
theorem Rd.ok {P:Program} {w:World} {H:Hp} {h:Heap} {a:Addr} {u:HO} (r:Rd H a u) (x:HOk P w H h):ObjOk P w H h a u:=by
  rcases r with r | ⟨o,r⟩
  · exact x a u r
  · obtain ⟨_,q⟩:=x a _ r
    exact q
def Mut:Option HO→Prop
  | some (.lst _)=>True
  | some (.dK _)=>True
  | some (.dT _)=>True
  | some (.set _ _)=>True
  | some (.ins _ _ _)=>True
  | some (.ext _)=>True
  | _=>False
section
variable {P:Program} {w:World} {H:Hp} {h h':Heap} {x e:Addr} {o':HO}
theorem HOk.write (ok:HOk P w H h) (mu:Mut (H x)) (he:e=x∨H e=some (.own x)) (k:∀ b u,b ≠ e→h.get? b=some u→h'.get? b=some u) (heo:∃ u,h'.get? e=some u)
    (new:ObjOk P w (upd H x o') h' x o'):HOk P w (upd H x o') h':=fun b u q=>by
  have nown:∀ c y,H c=some (.own y)→c ≠ x:=fun c y r z=>by subst z; rw [r] at mu; exact mu
  have ntup:∀ c xs,H c=some (.tup xs)→c ≠ x:=fun c xs r z=>by subst z; rw [r] at mu; exact mu
  by_cases hb:b=x
  · subst hb; rw [upd_same] at q; cases q; exact new
  · rw [upd_ne hb] at q
    by_cases hbe:b=e
    · have q':H b=some (.own x):=by
        rcases he with z | z
        · exact absurd (hbe.trans z) hb
        · rw [hbe]; exact z
      rw [q] at q'; cases q'
      obtain ⟨v,hv⟩:=heo
      exact ⟨v,by rw [hbe]; exact hv⟩
    · refine (ok b u q).stay (fun c v hc r=>k c v ?_ r) (fun c r=>by rw [upd_ne (nown c b r)]; exact r) fun c xs r=>by rw [upd_ne (ntup c xs r)]; exact r
      rcases hc with rfl | hc
      · exact hbe
      · rintro rfl
        rcases he with z | z
        · exact nown c b hc z
        · rw [hc] at z; cases z; exact hb rfl
end
structure Un (fs ex:List Addr) (H H':Hp) (h h':Heap):Prop where
  keep:∀ b o,h.get? b=some o→H b=none→b ∉ fs→b ∉ ex→h'.get? b=some o
  slot:∀ b o,h.get? b=some o→H b=none→b ∈ fs→b ∉ ex→∃ sl,h'.get? b=some { o with slots:=sl }
  free:∀ b o,h.get? b=some o→H b=none→b ∉ ex→H' b=none
  there:∀ b o,h.get? b=some o→b ∉ ex→∃ o',h'.get? b=some o'
  tups:∀ b xs,H b=some (.tup xs)→H' b=some (.tup xs)
  frzs:∀ b o u,H b=some (.frz o u)→H' b=some (.frz o u)
  tbls:∀ b ps,H b=some (.tbl ps)→∃ more,H' b=some (.tbl (ps++more))
section
variable {fs fs' ex ex':List Addr} {H H1 H2:Hp} {h h1 h2 h':Heap} {a x e:Addr} {o:HO}
theorem Un.any (u:Un fs ex H H1 h h1) {b:Addr} {ob:Obj} (q:h.get? b=some ob) (n:H b=none) (hx:b ∉ ex):∃ sl,h1.get? b=some { ob with slots:=sl }:=by
  by_cases hb:b ∈ fs
  · exact u.slot b ob q n hb hx
  · exact ⟨ob.slots,u.keep b ob q n hb hx⟩
theorem Un.kept (k:∀ b u,h.get? b=some u→h'.get? b=some u):Un fs ex H H h h' :=
  ⟨fun b ob q _ _ _=>k b ob q,fun b ob q _ _ _=>⟨ob.slots,k b ob q⟩,fun _ _ _ n _=>n,fun b ob q _=>⟨ob,k b ob q⟩,fun _ _ q=>q,fun _ _ _ q=>q,fun _ ps q=>⟨#[],by rw [q]; simp⟩⟩
theorem Un.refl:Un fs ex H H h h:=Un.kept fun _ _ q=>q
theorem Un.laid (k:∀ b u,h.get? b=some u→h'.get? b=some u) (hp:h.objs.size≤a) (hn:H a=none):Un fs ex H (upd H a o) h h' where
  keep:=fun b u q _ _ _=>k b u q
  slot:=fun b u q _ _ _=>⟨u.slots,k b u q⟩
  free:=fun b u q n _=>by rw [upd_ne (Nat.ne_of_lt (Nat.lt_of_lt_of_le (Heap.lt_size q) hp))]; exact n
  there:=fun b u q _=>⟨u,k b u q⟩
  tups:=fun b xs q=>by rw [upd_ne (ne_of_none q hn)]; exact q
  frzs:=fun b u xs q=>by rw [upd_ne (ne_of_none q hn)]; exact q
  tbls:=fun b ps q=>⟨#[],by rw [upd_ne (ne_of_none q hn),q]; simp⟩
theorem Un.write (mu:Mut (H x)) (he:e=x∨H e=some (.own x)) (k:∀ b u,b ≠ e→h.get? b=some u→h'.get? b=some u) (heo:∃ u,h'.get? e=some u):Un fs ex H (upd H x o) h h':=by
  have hx:∀ b,H b=none→b ≠ x:=fun b n z=>by subst z; rw [n] at mu; exact mu
  have hb:∀ b,H b=none→b ≠ e:=fun b n z=>by
    subst z
    rcases he with r | r
    · exact hx b n r
    · rw [n] at r; cases r
  have hm:∀ b u,H b=some u→¬ Mut (some u)→b ≠ x:=fun b u q nm z=>by subst z; rw [q] at mu; exact nm mu
  refine ⟨fun b u q n _ _=>k b u (hb b n) q,fun b u q n _ _=>⟨u.slots,k b u (hb b n) q⟩,fun b u q n _=>by rw [upd_ne (hx b n)]; exact n,fun b u q _=>?_,
    fun b xs q=>by rw [upd_ne (hm b _ q fun z=>z)]; exact q,fun b u xs q=>by rw [upd_ne (hm b _ q fun z=>z)]; exact q,fun b ps q=>⟨#[],by rw [upd_ne (hm b _ q fun z=>z),q]; simp⟩⟩
  by_cases hbe:b=e
  · subst hbe; exact heo
  · exact ⟨u,k b u hbe q⟩
end
def trk (h:Heap) (H:Hp):List Addr:=(List.range h.objs.size).filter fun a=>(H a).isSome
def hidT (h:Heap) (H:Hp):Heap:=PySem.W.hideAll h (trk h H)
theorem hidT_size (h:Heap) (H:Hp):(hidT h H).objs.size=h.objs.size:=PySem.W.hideAll_size _ _
theorem hidT_get {h:Heap} {H:Hp} {b:Addr} {o:Obj} (e:h.get? b=some o) (n:H b=none):(hidT h H).get? b=some o :=
  PySem.W.hideAll_get _ e fun hm=>by
    have q:(H b).isSome=true:=(List.mem_filter.mp hm).2
    rw [n] at q; simp at q
theorem of_hidT {h:Heap} {H:Hp} {b:Addr} {o:Obj} (e:(hidT h H).get? b=some o):h.get? b=some o∧H b=none:=by
  have e':h.get? b=some o:=PySem.W.of_hideAll (trk h H) e
  refine ⟨e',?_⟩
  cases q:H b with
  | none=>rfl
  | some x =>
    have hm:b ∈ trk h H:=List.mem_filter.mpr ⟨List.mem_range.mpr (Heap.lt_size e'),by simp [q]⟩
    have z:(hidT h H).get? b=none:=PySem.W.hideAll_none (trk h H) hm
    rw [z] at e; cases e
def allNews (g h:Heap) (L:Addr):List (Addr × Obj):=(List.range h.objs.size).filterMap fun a=>if a=L∨(g.get? a).isSome=true then none else (h.get? a).map fun o=>(a,o)
def rest (g h:Heap) (L d:Addr):List (Addr × Obj):=(allNews g h L).filter fun p=>decide (p.1 ≠ d)
end L2
namespace L2
open PySem PySem.Spec PyProof.Rows
structure Mod (K:PySem.W.Frag) (mg:Str→Option Value) (base:Heap):Prop where
  kin:K.In base
  glob:base.Ns mainGlobals mg
  blt:∃ mb,base.Ns builtinsNs mb∧∀ x:Str,x ≠ "__name__" → mb x=bootBuiltins x
  nolimit:base.NoLimit
structure Cx where
  prog:Program
  w:World
  K:PySem.W.Frag
  mg:Str→Option Value
  base:Heap
  A:Around
  N:List Str
  s₀:Shared
  H₀:Hp
  env:Env
  outer:List Env
  stack:List Env
  ex:List Addr
  fn:Str→Bool
  calm:Bool
  pn:List (Addr × Obj)
  xe:Value→Shared→Prop
def frs (l:List Env):List Addr:=l.filterMap (·.frame)
abbrev Cx.fs (X:Cx):List Addr:=frs X.outer
def Vis (sc:Scope) (x:Str):Prop:=sc.names.lookup x=some .local∨sc.names.lookup x=some .cell∨sc.names.lookup x=some .free
def Loc (sc:Scope) (x:Str):Prop:=sc.names.lookup x=some .local∨sc.names.lookup x=some .cell
def Look (env:Env) (h:Heap) (m:Str→Option Value) (x:Str) (u:Value):Prop :=
  (env.kindOf x=some .local∧m x=some u)∨((env.kindOf x=some .cell∨env.kindOf x=some .free)∧∃ c,env.cells.lookup x=some c∧h.IsCell c (some u))
structure Cx.Ok (X:Cx):Prop where
  mod:Mod X.K X.mg X.base
  kind:X.env.scope.kind=.function
  glob:X.env.globals=mainGlobals
  blt:X.env.builtins=builtinsNs
  above:X.s₀.heap.objs.size≤X.env.locals
  inj:∀ x y c,X.env.cells.lookup x=some c→X.env.cells.lookup y=some c→x=y
  has:∀ x,(X.env.kindOf x=some .cell∨X.env.kindOf x=some .free)→∃ c,X.env.cells.lookup x=some c
  cab:∀ x c,X.fn x=true→X.env.cells.lookup x=some c→X.s₀.heap.objs.size≤c
  hd:X.calm=true→X.A.handled=none
  frames:X.A.frames=some X.stack
  stk:X.stack=X.outer∨(X.stack=X.env::X.outer∧X.env.frame=some X.env.locals)
  exf:∀ b ∈ X.ex,b ≠ X.env.locals∧∀ x c,X.env.cells.lookup x=some c→c ≠ b
  bs:∀ b o,X.base.get? b=some o→X.s₀.heap.get? b=some o∧X.H₀ b=none
  bsz:X.base.objs.size≤X.s₀.heap.objs.size
  noex:∀ b o,X.base.get? b=some o→b ∉ X.ex
  exfs:∀ b ∈ X.ex,b ∉ X.fs
  funs:X.s₀.heap.FunFrames X.base X.outer
  frf:∀ b ∈ X.fs,X.H₀ b=none
structure Inv (X:Cx) (pins:List (Addr × Obj)) (σ:List (Option V)) (H:Hp) (s:Shared):Prop where
  ok:X.Ok
  os:s.os=X.s₀.os
  bare:AllBare s.gens
  base:Un X.fs X.ex X.H₀ H X.s₀.heap s.heap
  loc:∃ m,s.heap.Ns X.env.locals m∧∀ (i:Nat) (x:Str) (v:V),X.N[i]?=some x→σ[i]?=some (some v)→Vis X.env.scope x→∃ u,RelV v u∧Look X.env s.heap m x u
  cell:∀ x c,X.env.cells.lookup x=some c→∃ v,s.heap.IsCell c v
  free:H X.env.locals=none
  freeC:∀ x c,X.env.cells.lookup x=some c→H c=none
  pin:∀ p ∈ X.pn++pins,s.heap.get? p.1=some p.2∧H p.1=none∧p.1 ≠ X.env.locals∧p.1 ∉ X.fs∧∀ v,p.2.data ≠ .cell v
  hok:HOk X.prog X.w H s.heap
  len:σ.length=X.N.length
section
variable {X:Cx} {pins:List (Addr × Obj)} {σ:List (Option V)} {H H':Hp} {s:Shared} {h':Heap}
theorem Cx.Ok.nofr (ok:X.Ok) {b:Addr} {o:Obj} (e:X.base.get? b=some o):b ∉ X.fs:=fun hb=>by
  have:=(ok.funs.mem hb).1
  rw [e] at this; cases this
theorem Inv.bs (I:Inv X pins σ H s):∀ b o,X.base.get? b=some o→s.heap.get? b=some o∧H b=none:=fun b o e =>
  ⟨I.base.keep b o (I.ok.bs b o e).1 (I.ok.bs b o e).2 (I.ok.nofr e) (I.ok.noex b o e),I.base.free b o (I.ok.bs b o e).1 (I.ok.bs b o e).2 (I.ok.noex b o e)⟩
theorem Inv.bk (I:Inv X pins σ H s):∀ b o,X.base.get? b=some o→s.heap.get? b=some o:=fun b o e=>(I.bs b o e).1
theorem Inv.mod (I:Inv X pins σ H s):Mod X.K X.mg X.base:=I.ok.mod
theorem Inv.kIn (I:Inv X pins σ H s):X.K.In s.heap:=I.ok.mod.kin.keeps I.bk
theorem Inv.lt (I:Inv X pins σ H s):X.env.locals < s.heap.objs.size:=let ⟨_,hn,_⟩:=I.loc; hn.lt
theorem Inv.sz (I:Inv X pins σ H s):X.s₀.heap.objs.size≤s.heap.objs.size:=Nat.le_trans I.ok.above (Nat.le_of_lt I.lt)
theorem Inv.nofs (I:Inv X pins σ H s) {a:Addr} (h:s.heap.objs.size≤a):a ∉ X.fs:=fun hb=>by
  obtain ⟨_,o,ho,_⟩:=I.ok.funs.mem hb
  exact absurd (Nat.lt_of_lt_of_le (Heap.lt_size ho) (Nat.le_trans I.sz h)) (Nat.lt_irrefl _)
theorem Inv.cne (I:Inv X pins σ H s):∀ x c,X.env.cells.lookup x=some c→c ≠ X.env.locals:=fun x c e z=>by
  obtain ⟨v,o,ho,hd⟩:=I.cell x c e
  obtain ⟨m,⟨o',es,ep,ho',hd',_⟩,_⟩:=I.loc
  rw [z,ho'] at ho; cases ho; rw [hd'] at hd; cases hd
theorem Inv.funs (I:Inv X pins σ H s):s.heap.FunFrames X.base X.outer:=by
  have all:∀ (l:List Env),(∀ b ∈ frs l,b ∈ X.fs)→X.s₀.heap.FunFrames X.base l→s.heap.FunFrames X.base l:=by
    intro l
    induction l with
    | nil=>intro _ _; trivial
    | cons env r ih =>
      intro hs hl
      obtain ⟨hk,⟨L,o,hf,hn,ho,hd⟩,hr⟩:=hl
      have hL:L ∈ X.fs:=hs L (by unfold frs; rw [List.filterMap_cons,hf]; exact List.mem_cons_self)
      obtain ⟨sl,e⟩:=I.base.slot L o ho (I.ok.frf L hL) hL fun z=>I.ok.exfs L z hL
      exact ⟨hk,⟨L,_,hf,hn,e,hd⟩,ih (fun b hb=>hs b (by unfold frs; rw [List.filterMap_cons,hf]; exact List.mem_cons_of_mem _ hb)) hr⟩
  exact all X.outer (fun _ hb=>hb) I.ok.funs
theorem Inv.stack (I:Inv X pins σ H s):s.heap.FunFrames X.base X.stack:=by
  rcases I.ok.stk with e | ⟨e,hf⟩
  · rw [e]; exact I.funs
  · rw [e]
    obtain ⟨m,hn,_⟩:=I.loc
    refine .cons (by rw [I.ok.kind]; decide) hf hn ?_ I.funs
    exact Heap.get?_none_of_le (Nat.le_trans I.ok.bsz I.ok.above)
theorem Inv.stkSub (I:Inv X pins σ H s):∀ b ∈ frs X.stack,b ∈ X.env.locals::X.fs:=fun b hb=>by
  rcases I.ok.stk with e | ⟨e,hf⟩
  · rw [e] at hb; exact List.mem_cons_of_mem _ hb
  · rw [e] at hb
    unfold frs at hb
    rw [List.filterMap_cons,hf] at hb
    exact hb
theorem Inv.stkFree (I:Inv X pins σ H s):∀ b ∈ frs X.stack,H b=none:=fun b hb=>by
  rcases List.mem_cons.mp (I.stkSub b hb) with e | hb
  · rw [e]; exact I.free
  · obtain ⟨_,o,ho,_⟩:=I.ok.funs.mem hb
    exact I.base.free b o ho (I.ok.frf b hb) fun z=>I.ok.exfs b z hb
theorem Inv.step {g':Array GenState} {t':Nat} {d':Drawn} {ch:List Addr} (I:Inv X pins σ H s)
    (hch:∀ b ∈ ch,(b ∈ X.ex∨X.s₀.heap.objs.size≤b)∧b ≠ X.env.locals∧(∀ x c,X.env.cells.lookup x=some c→c ≠ b)∧∀ p ∈ X.pn++pins,p.1 ≠ b)
    (keep:∀ b o,b ≠ X.env.locals→b ∉ X.fs→b ∉ ch→s.heap.get? b=some o→H b=none→h'.get? b=some o)
    (slot:∀ b o,b ≠ X.env.locals→b ∈ X.fs→b ∉ ch→s.heap.get? b=some o→H b=none→∃ sl,h'.get? b=some { o with slots:=sl }) (free:∀ b o,b ∉ ch→s.heap.get? b=some o→H b=none→H' b=none)
    (there:∀ b o,b ∉ ch→s.heap.get? b=some o→∃ o',h'.get? b=some o')
    (tups:∀ b xs,H b=some (.tup xs)→H' b=some (.tup xs)) (frzs:∀ b o u,H b=some (.frz o u)→H' b=some (.frz o u)) (tbls:∀ b ps,H b=some (.tbl ps)→∃ more,H' b=some (.tbl (ps++more)))
    (ns:∀ m,s.heap.Ns X.env.locals m→h'.Ns X.env.locals m) (hok:HOk X.prog X.w H' h') (hg:AllBare g') :
    Inv X pins σ H' { s with heap:=h',gens:=g',drawn:=d',toks:=t' }:=by
  have neL:∀ b o,X.s₀.heap.get? b=some o→b ≠ X.env.locals:=fun b o e=>Nat.ne_of_lt (Nat.lt_of_lt_of_le (Heap.lt_size e) I.ok.above)
  have neC:∀ b o,X.s₀.heap.get? b=some o→b ∉ X.ex→b ∉ ch:=fun b o e hx hb=>by
    rcases (hch b hb).1 with z | z
    · exact hx z
    · exact absurd (Nat.lt_of_lt_of_le (Heap.lt_size e) z) (Nat.lt_irrefl _)
  have cellK:∀ x c,X.env.cells.lookup x=some c→∀ v,s.heap.IsCell c v→h'.IsCell c v:=fun x c e v ⟨o,ho,hd⟩=>by
    have nch:c ∉ ch:=fun z=>(hch c z).2.2.1 x c e rfl
    by_cases hc:c ∈ X.fs
    · obtain ⟨sl,q⟩:=slot c o (I.cne x c e) hc nch ho (I.freeC x c e)
      exact ⟨_,q,hd⟩
    · exact ⟨o,keep c o (I.cne x c e) hc nch ho (I.freeC x c e),hd⟩
  refine ⟨I.ok,I.os,hg,⟨fun b o e n hb hx=>?_,fun b o e n hb hx=>?_,fun b o e n hx=>?_,fun b o e hx=>?_,fun b xs e=>tups b xs (I.base.tups b xs e),fun b o xs e=>frzs b o xs (I.base.frzs b o xs e),fun b ps e=>?_⟩,?_,fun x c e=>?_,?_,fun x c e=>?_,fun p hp=>?_,hok,I.len⟩
  · exact keep b o (neL b o e) hb (neC b o e hx) (I.base.keep b o e n hb hx) (I.base.free b o e n hx)
  · obtain ⟨sl,e1⟩:=I.base.slot b o e n hb hx
    obtain ⟨sl',e2⟩:=slot b _ (neL b o e) hb (neC b o e hx) e1 (I.base.free b o e n hx)
    exact ⟨sl',e2⟩
  · obtain ⟨o',e1⟩:=I.base.there b o e hx
    exact free b o' (neC b o e hx) e1 (I.base.free b o e n hx)
  · obtain ⟨o',e1⟩:=I.base.there b o e hx
    exact there b o' (neC b o e hx) e1
  · obtain ⟨m1,e1⟩:=I.base.tbls b ps e
    obtain ⟨m2,e2⟩:=tbls b _ e1
    exact ⟨m1++m2,by rw [e2,Array.append_assoc]⟩
  · obtain ⟨m,hn,hl⟩:=I.loc
    refine ⟨m,ns m hn,fun i x v e1 e2 e3=>?_⟩
    obtain ⟨u,r,l⟩:=hl i x v e1 e2 e3
    refine ⟨u,r,?_⟩
    rcases l with l | ⟨k,c,e,z⟩
    · exact .inl l
    · exact .inr ⟨k,c,e,cellK x c e _ z⟩
  · obtain ⟨v,z⟩:=I.cell x c e
    exact ⟨v,cellK x c e v z⟩
  · obtain ⟨m,⟨o,_,_,ho,_⟩,_⟩:=I.loc
    exact free _ o (fun z=>(hch _ z).2.1 rfl) ho I.free
  · obtain ⟨v,o,ho,hd⟩:=I.cell x c e
    exact free c o (fun z=>(hch c z).2.2.1 x c e rfl) ho (I.freeC x c e)
  · obtain ⟨e,n,ne,nf,d⟩:=I.pin p hp
    have nch:p.1 ∉ ch:=fun z=>(hch p.1 z).2.2.2 p hp rfl
    exact ⟨keep p.1 p.2 ne nf nch e n,free p.1 p.2 nch e n,ne,nf,d⟩
theorem Inv.un {t':Nat} (I:Inv X pins σ H s) (u:Un X.fs [] H H' s.heap h') (hok:HOk X.prog X.w H' h'):Inv X pins σ H' { s with heap:=h',toks:=t' }:=by
  obtain ⟨m,⟨o,es,ep,ho,r⟩,_⟩:=id I.loc
  obtain ⟨sl,hL⟩:=u.any ho I.free (by simp)
  exact I.step (g':=s.gens) (d':=s.drawn) (ch:=[]) (fun _ z=>nomatch z) (fun b o _ hb _ e n=>u.keep b o e n hb (by simp)) (fun b o _ hb _ e n=>u.slot b o e n hb (by simp)) (fun b o _ e n=>u.free b o e n (by simp)) (fun b o _ e=>u.there b o e (by simp)) u.tups u.frzs u.tbls (fun m' hm=>by
    obtain ⟨o',es',ep',ho',r'⟩:=hm
    rw [ho] at ho'; cases ho'
    exact ⟨_,es',ep',hL,r'⟩) hok I.bare
theorem Inv.call {g':Array GenState} {t':Nat} {d':Drawn} {ch:List Addr} (I:Inv X pins σ H s) (u:Un (frs X.stack) ch H H' s.heap h') (hok:HOk X.prog X.w H' h') (hg:AllBare g')
    (hch:∀ b ∈ ch,(b ∈ X.ex∨X.s₀.heap.objs.size≤b)∧b ≠ X.env.locals∧(∀ x c,X.env.cells.lookup x=some c→c ≠ b)∧∀ p ∈ X.pn++pins,p.1 ≠ b) :
    Inv X pins σ H' { s with heap:=h',gens:=g',drawn:=d',toks:=t' }:=by
  obtain ⟨m,⟨o,es,ep,ho,r⟩,_⟩:=id I.loc
  obtain ⟨sl,hL⟩:=u.any ho I.free fun z=>(hch _ z).2.1 rfl
  exact I.step (ch:=ch) hch (fun b o hL hb hc e n=>u.keep b o e n (fun z=>(List.mem_cons.mp (I.stkSub b z)).elim hL hb) hc) (fun b o _ _ hc e n=>u.any e n hc) (fun b o hc e n=>u.free b o e n hc) (fun b o hc e=>u.there b o e hc) u.tups u.frzs u.tbls (fun m' hm=>by
    obtain ⟨o',es',ep',ho',r'⟩:=hm
    rw [ho] at ho'; cases ho'
    exact ⟨_,es',ep',hL,r'⟩) hok hg
theorem Inv.turned {t':Nat} {it:Addr} (I:Inv X pins σ H s) (k:∀ b o,b ≠ it→s.heap.get? b=some o→h'.get? b=some o) (hn:H it=none) (hL:it ≠ X.env.locals)
    (h1:it ∈ X.ex∨X.s₀.heap.objs.size≤it) (h2:∀ x c,X.env.cells.lookup x=some c→c ≠ it) (h3:∀ p ∈ X.pn++pins,p.1 ≠ it):Inv X pins σ H { s with heap:=h',toks:=t' }:=by
  have nit:∀ b u,H b=some u→b ≠ it:=fun b u e z=>by rw [z,hn] at e; cases e
  refine I.step (g':=s.gens) (d':=s.drawn) (ch:=[it]) (fun b hb=>?_) (fun b o _ _ hc e _=>k b o (fun z=>hc (by simp [z])) e) (fun b o _ _ hc e _=>⟨o.slots,k b o (fun z=>hc (by simp [z])) e⟩) (fun _ _ _ _ n=>n)
    (fun b o hc e=>⟨o,k b o (fun z=>hc (by simp [z])) e⟩) (fun _ _ e=>e) (fun _ _ _ e=>e) (fun b ps e=>⟨#[],by rw [e]; simp⟩) (fun m hm=>?_) (fun b u e=>?_) I.bare
  · have e:b=it:=by simpa using hb
    subst e
    exact ⟨h1,hL,h2,h3⟩
  · obtain ⟨o,es,ep,ho,r⟩:=hm
    exact ⟨o,es,ep,k _ o (Ne.symm hL) ho,r⟩
  · refine (I.hok b u e).stay (fun c v hc q=>k c v ?_ q) (fun _ q=>q) fun _ _ q=>q
    rcases hc with z | z
    · rw [z]; exact nit b u e
    · exact nit c _ z
theorem Inv.tok (I:Inv X pins σ H s) (t:Nat):Inv X pins σ H { s with toks:=t }:=I.un (h':=s.heap) (t':=t) Un.refl I.hok
theorem Inv.kept {t':Nat} (I:Inv X pins σ H s) (k:∀ b u,s.heap.get? b=some u→h'.get? b=some u):Inv X pins σ H { s with heap:=h',toks:=t' }:=I.un (Un.kept k) (I.hok.kept k)
theorem Inv.laid {a:Addr} {o:HO} {t':Nat} (I:Inv X pins σ H s) (k:∀ b u,s.heap.get? b=some u→h'.get? b=some u) (hp:s.heap.objs.size≤a) (new:ObjOk X.prog X.w (upd H a o) h' a o) :
    Inv X pins σ (upd H a o) { s with heap:=h',toks:=t' }:=I.un (Un.laid k hp (I.hok.fresh hp)) (I.hok.laid k hp new)
theorem Inv.write {x e:Addr} {o:HO} {t':Nat} (I:Inv X pins σ H s) (mu:Mut (H x)) (he:e=x∨H e=some (.own x)) (k:∀ b u,b ≠ e→s.heap.get? b=some u→h'.get? b=some u) (heo:∃ u,h'.get? e=some u)
    (new:ObjOk X.prog X.w (upd H x o) h' x o):Inv X pins σ (upd H x o) { s with heap:=h',toks:=t' }:=I.un (Un.write mu he k heo) (I.hok.write mu he k heo new)
theorem Inv.pins_of {pins':List (Addr × Obj)} (I:Inv X pins σ H s) (h:∀ p ∈ pins',s.heap.get? p.1=some p.2∧H p.1=none∧p.1 ≠ X.env.locals∧p.1 ∉ X.fs∧∀ v,p.2.data ≠ .cell v):Inv X pins' σ H s :=
  ⟨I.ok,I.os,I.bare,I.base,I.loc,I.cell,I.free,I.freeC,fun p hp=>(List.mem_append.mp hp).elim (fun z=>I.pin p (List.mem_append_left _ z)) (h p),I.hok,I.len⟩
theorem nodup_ix {N:List Str} (hN:N.Nodup) {i j:Nat} {x:Str} (a:N[i]?=some x) (b:N[j]?=some x):i=j:=by
  obtain ⟨h1,e1⟩:=List.getElem?_eq_some_iff.mp a
  obtain ⟨h2,e2⟩:=List.getElem?_eq_some_iff.mp b
  exact (List.getElem_inj hN).mp (e1.trans e2.symm)
theorem store_ok2 {M:Model} {A:Around} {E:Value→Shared→Prop} {i:Nat} {x:Str} {v:V} {u:Value} {Q:Unit→Shared→Prop} (I:Inv X pins σ H s) (hN:X.N.Nodup) (hi:X.N[i]?=some x) (hx:Loc X.env.scope x) (r:RelV v u)
    (h:∀ s',Inv X pins (σ.set i (some v)) H s'→(∃ a,Heap.SameBut a s.heap s'.heap∧(a=X.env.locals∨X.env.cells.lookup x=some a))→Q () s') (hf:X.fn x=true∨X.env.scope.names.lookup x=some .local:=by first | exact .inl rfl | exact .inr rfl | assumption):wpAny M A (storeName X.env x u) Q E s:=by
  obtain ⟨m,hn,hl⟩:=id I.loc
  have hcls:(X.env.scope.kind == .class || (X.env.scope.kind == .module && X.env.locals != X.env.globals))=false:=by rw [I.ok.kind]; rfl
  have hiσ:i < σ.length:=by rw [I.len]; exact (List.getElem?_eq_some_iff.mp hi).1
  have cne:=I.cne
  have tracked:∀ {a:Addr} {h':Heap},(∃ o,s.heap.get? a=some o∧H a=none)→Heap.SameBut a s.heap h'→HOk X.prog X.w H h':=fun {a h'} ha hs b ob e=>by
    obtain ⟨_,_,hfree⟩:=ha
    refine (I.hok b ob e).stay (fun c w' hc q=>(hs.2 c ?_).trans q) (fun _ q=>q) fun _ _ q=>q
    rintro rfl
    rcases hc with rfl | hc
    · rw [hfree] at e; cases e
    · rw [hfree] at hc; cases hc
  rcases hx with hk | hk
  · refine wpAny_storeName_local hk hn (fun h' hn' hs=>?_) hcls
    obtain ⟨oL,_,_,hoL,_⟩:=id hn
    refine h _ ⟨I.ok,I.os,I.bare,⟨fun b o e n hb hx=>?_,fun b o e n hb hx=>?_,I.base.free,fun b o e hx=>?_,I.base.tups,I.base.frzs,I.base.tbls⟩,⟨_,hn',fun j y v' e1 e2 e3=>?_⟩,fun y c e=>?_,I.free,I.freeC,fun p hp=>?_,tracked ⟨oL,hoL,I.free⟩ hs,by simpa using I.len⟩ ⟨_,hs,.inl rfl⟩
    · exact (hs.2 b (Nat.ne_of_lt (Nat.lt_of_lt_of_le (Heap.lt_size e) I.ok.above))).trans (I.base.keep b o e n hb hx)
    · obtain ⟨sl,e1⟩:=I.base.slot b o e n hb hx
      exact ⟨sl,(hs.2 b (Nat.ne_of_lt (Nat.lt_of_lt_of_le (Heap.lt_size e) I.ok.above))).trans e1⟩
    · obtain ⟨o',e1⟩:=I.base.there b o e hx
      exact ⟨o',(hs.2 b (Nat.ne_of_lt (Nat.lt_of_lt_of_le (Heap.lt_size e) I.ok.above))).trans e1⟩
    · by_cases hj:j=i
      · subst hj
        rw [hi] at e1; cases e1
        rw [List.getElem?_set_self hiσ] at e2
        cases e2
        exact ⟨u,r,.inl ⟨hk,by simp⟩⟩
      · rw [List.getElem?_set_ne (Ne.symm hj)] at e2
        obtain ⟨u',r',q⟩:=hl j y v' e1 e2 e3
        refine ⟨u',r',?_⟩
        rcases q with ⟨k,e⟩ | ⟨k,c,e,z⟩
        · refine .inl ⟨k,?_⟩
          have:y ≠ x:=fun e=>hj (nodup_ix hN e1 (e ▸ hi))
          simp [this,e]
        · exact .inr ⟨k,c,e,z.sameBut hs (cne y c e)⟩
    · obtain ⟨w',z⟩:=I.cell y c e
      exact ⟨w',z.sameBut hs (cne y c e)⟩
    · obtain ⟨e,n,ne,nf,d⟩:=I.pin p hp
      exact ⟨(hs.2 p.1 ne).trans e,n,ne,nf,d⟩
  · have hfn:X.fn x=true:=by
      rcases hf with z | z
      · exact z
      · rw [z] at hk; cases hk
    obtain ⟨c,hc⟩:=I.ok.has x (.inl hk)
    obtain ⟨w',z⟩:=I.cell x c hc
    refine wpAny_storeName_cell I.ok.kind hk hc z (fun h' hc' hs=>?_)
    obtain ⟨oc,hoc,hocd⟩:=id z
    refine h { s with heap:=h' } ⟨I.ok,I.os,I.bare,⟨fun b o e n hb hx=>?_,fun b o e n hb hx=>?_,I.base.free,fun b o e hx=>?_,I.base.tups,I.base.frzs,I.base.tbls⟩,⟨m,hn.sameBut hs (Ne.symm (cne x c hc)),fun j y v' e1 e2 e3=>?_⟩,fun y c' e=>?_,I.free,I.freeC,fun p hp=>?_,tracked ⟨oc,hoc,I.freeC x c hc⟩ hs,by simpa using I.len⟩ ⟨c,hs,.inr hc⟩
    · exact (hs.2 b (Nat.ne_of_lt (Nat.lt_of_lt_of_le (Heap.lt_size e) (I.ok.cab x c hfn hc)))).trans (I.base.keep b o e n hb hx)
    · obtain ⟨sl,e1⟩:=I.base.slot b o e n hb hx
      exact ⟨sl,(hs.2 b (Nat.ne_of_lt (Nat.lt_of_lt_of_le (Heap.lt_size e) (I.ok.cab x c hfn hc)))).trans e1⟩
    · obtain ⟨o',e1⟩:=I.base.there b o e hx
      exact ⟨o',(hs.2 b (Nat.ne_of_lt (Nat.lt_of_lt_of_le (Heap.lt_size e) (I.ok.cab x c hfn hc)))).trans e1⟩
    · by_cases hj:j=i
      · subst hj
        rw [hi] at e1; cases e1
        rw [List.getElem?_set_self hiσ] at e2
        cases e2
        exact ⟨u,r,.inr ⟨.inl hk,c,hc,hc'⟩⟩
      · rw [List.getElem?_set_ne (Ne.symm hj)] at e2
        obtain ⟨u',r',q⟩:=hl j y v' e1 e2 e3
        refine ⟨u',r',?_⟩
        rcases q with q | ⟨k,c',e,z'⟩
        · exact .inl q
        · refine .inr ⟨k,c',e,z'.sameBut hs ?_⟩
          rintro rfl
          exact hj (nodup_ix hN e1 (I.ok.inj _ _ _ e hc ▸ hi))
    · by_cases hcc:c'=c
      · subst hcc; exact ⟨_,hc'⟩
      · obtain ⟨w2,z2⟩:=I.cell y c' e
        exact ⟨w2,z2.sameBut hs hcc⟩
    · obtain ⟨e,n,ne,nf,d⟩:=I.pin p hp
      refine ⟨(hs.2 p.1 ?_).trans e,n,ne,nf,d⟩
      intro q
      rw [q,hoc] at e
      have q':oc=p.2:=Option.some.inj e
      exact d w' (by rw [← q']; exact hocd)
theorem store_ok {M:Model} {A:Around} {E:Value→Shared→Prop} {i:Nat} {x:Str} {v:V} {u:Value} {Q:Unit→Shared→Prop} (I:Inv X pins σ H s) (hN:X.N.Nodup) (hi:X.N[i]?=some x) (hx:Loc X.env.scope x) (r:RelV v u)
    (h:∀ s',Inv X pins (σ.set i (some v)) H s'→Q () s') (hf:X.fn x=true∨X.env.scope.names.lookup x=some .local:=by first | exact .inl rfl | exact .inr rfl | assumption):wpAny M A (storeName X.env x u) Q E s :=
  store_ok2 I hN hi hx r (fun s' I' _=>h s' I') hf
theorem Inv.call' {s':Shared} {ch:List Addr} (I:Inv X pins σ H s) (ho:s'.os=s.os) (u:Un (frs X.stack) ch H H' s.heap s'.heap) (hok:HOk X.prog X.w H' s'.heap) (hg:AllBare s'.gens)
    (hch:∀ b ∈ ch,(b ∈ X.ex∨X.s₀.heap.objs.size≤b)∧b ≠ X.env.locals∧(∀ x c,X.env.cells.lookup x=some c→c ≠ b)∧∀ p ∈ X.pn++pins,p.1 ≠ b):Inv X pins σ H' s':=by
  obtain ⟨h',g',d',t',o'⟩:=s'
  have e:o'=s.os:=ho
  subst e
  exact I.call (g':=g') (t':=t') (d':=d') u hok hg hch
end
abbrev XK:=Value→Option Addr→Hp→Prop
abbrev St:=List (Option V)
abbrev VK:=V→Hp→Prop
abbrev TE:=St→Hp→VK→Prop
abbrev TT:=St→Hp→(Bool→Hp→Prop)→Prop
abbrev TA:=St→Hp→(List V→Hp→Prop)→Prop
structure Ends where
  nx:St→Hp→Prop
  rt:VK
  bk:St→Hp→Prop:=fun _ _=>False
  ct:St→Hp→Prop:=fun _ _=>False
abbrev TS:=Ends→St→Hp→Prop
def EP (X:Cx) (pins:List (Addr × Obj)) (σ:St) (Q:VK) (u:Value) (s':Shared):Prop:=∃ v H',Inv X pins σ H' s'∧RelV v u∧Q v H'
def TP (X:Cx) (pins:List (Addr × Obj)) (σ:St) (Q:Bool→Hp→Prop) (b:Bool) (s':Shared):Prop:=∃ H',Inv X pins σ H' s'∧Q b H'
def AP (X:Cx) (pins:List (Addr × Obj)) (σ:St) (Q:List V→Hp→Prop) (us:List Value) (s':Shared):Prop:=∃ vs H',Inv X pins σ H' s'∧Vals vs us∧Q vs H'
def SP (X:Cx) (pins:List (Addr × Obj)) (D:Ends) (f:Flow) (s':Shared):Prop :=
  match f with
  | .next=>∃ σ' H',Inv X pins σ' H' s'∧D.nx σ' H'
  | .brk=>∃ σ' H',Inv X pins σ' H' s'∧D.bk σ' H'
  | .cont=>∃ σ' H',Inv X pins σ' H' s'∧D.ct σ' H'
  | .ret u=>∃ v σ' H',Inv X pins σ' H' s'∧RelV v u∧D.rt v H'
def PE (X:Cx) (e:Expr) (t:TE):Prop :=
  ∀ (pins:List (Addr × Obj)) (s:Shared) (σ:St) (H:Hp) (Q:VK),Inv X pins σ H s→t σ H Q→wpAny (model X.prog X.w) X.A (eval e X.env) (EP X pins σ Q) X.xe s
def PT (X:Cx) (e:Expr) (t:TT):Prop :=
  ∀ (pins:List (Addr × Obj)) (s:Shared) (σ:St) (H:Hp) (Q:Bool→Hp→Prop),Inv X pins σ H s→t σ H Q→wpAny (model X.prog X.w) X.A (isTrue e X.env (eval e X.env)) (TP X pins σ Q) X.xe s
def PW (X:Cx) (e:Expr) (t:TT):Prop :=
  ∀ (whole:Sem Value) (pins:List (Addr × Obj)) (s:Shared) (σ:St) (H:Hp) (Q:Bool→Hp→Prop),Inv X pins σ H s→t σ H Q→wpAny (model X.prog X.w) X.A (isTrue e X.env whole) (TP X pins σ Q) X.xe s
theorem PW.pt {X:Cx} {e:Expr} {t:TT} (h:PW X e t):PT X e t:=h _
def PA (X:Cx) (es:List Expr) (t:TA):Prop :=
  ∀ (pos:Pos) (pins:List (Addr × Obj)) (s:Shared) (σ:St) (H:Hp) (Q:List V→Hp→Prop),Inv X pins σ H s→t σ H Q→wpAny (model X.prog X.w) X.A (spliced (backTo pos (starEach es X.env))) (AP X pins σ Q) X.xe s
def PS (X:Cx) (st:Stmt) (t:TS):Prop :=
  ∀ (pins:List (Addr × Obj)) (s:Shared) (σ:St) (H:Hp) (D:Ends),Inv X pins σ H s→t D σ H→wpAny (model X.prog X.w) X.A (exec st X.env) (SP X pins D) X.xe s
def PSs (X:Cx) (st:List Stmt) (t:TS):Prop :=
  ∀ (pins:List (Addr × Obj)) (s:Shared) (σ:St) (H:Hp) (D:Ends),Inv X pins σ H s→t D σ H→wpAny (model X.prog X.w) X.A (execs st X.env) (SP X pins D) X.xe s
theorem thn {α:Type} {t:Sem α} {Q Q':α→Shared→Prop} {M:Model} {A:Around} {E:Value→Shared→Prop} {s:Shared} (h:wpAny M A t Q E s) (hQ:∀ a s,Q a s→Q' a s):wpAny M A t Q' E s:=wpAny_mono h hQ fun _ _ x=>x
end L2
namespace L2
open PySem PySem.Spec PyProof.Rows
section
variable {X:Cx}
def tVar (i:Nat):TE:=fun σ H Q=>∃ v,σ[i]?=some (some v)∧Q v H
def tC (v:V):TE:=fun _ H Q=>Q v H
theorem pe_var {i:Nat} {x:Str} {pos:Pos} (hN:X.N[i]?=some x) (hv:Vis X.env.scope x) (hd:(x == ("__debug__" : Str))=false:=by decide) (hcd:(x == ("__classdict__" : Str))=false:=by decide):PE X (.Name x pos) (tVar i):=by
  intro pins s σ H Q I h
  obtain ⟨v,e,h⟩:=h
  obtain ⟨m,hn,hl⟩:=I.loc
  obtain ⟨u,r,l⟩:=hl i x v hN e hv
  have fin:EP X pins σ Q u s:=⟨v,H,I,r,h⟩
  rcases l with ⟨hk,hm⟩ | ⟨hk,c,hc,hcell⟩
  · exact wpAny_Name (wpAny_loadName_local I.ok.kind hk hn hm fin) hd
  · rcases hk with hk | hk
    · exact wpAny_Name (wpAny_loadName_cell I.ok.kind hk hc hcell fin) hd
    · exact wpAny_Name (wpAny_loadName_free I.ok.kind hk hc hcell fin hcd) hd
theorem pe_int {i j pos}:PE X (.Constant (.int i) j pos) (tC (.int i)):=fun _ _ _ H _ I h=>wpAny_Constant_int ⟨.int i,H,I.tok _,⟨_,rfl⟩,h⟩
theorem pe_bl {b j pos}:PE X (.Constant (.bool b) j pos) (tC (.bl b)):=fun _ _ _ H _ I h=>Constant_bool ⟨.bl b,H,I,rfl,h⟩
theorem pe_non {j pos}:PE X (.Constant .none j pos) (tC .non):=fun _ _ _ H _ I h=>Constant_none ⟨.non,H,I,rfl,h⟩
theorem pe_str {x j pos}:PE X (.Constant (.str x) j pos) (tC (.str x)):=fun _ _ _ H _ I h=>Calls.Constant_str ⟨.str x,H,I.tok _,⟨_,rfl⟩,h⟩
def Gl (X:Cx) (x:Str):Prop:=X.env.kindOf x=some .globalImplicit
theorem ld_glob {E:Value→Shared→Prop} {pins:List (Addr × Obj)} {s:Shared} {σ:St} {H:Hp} {x:Str} {u:Value} {pos:Pos} {Q:Value→Shared→Prop} (I:Inv X pins σ H s) (hg:Gl X x) (hm:X.mg x=some u) (h:Q u s)
    (hd:(x == ("__debug__" : Str))=false:=by decide):wpAny (model X.prog X.w) X.A (eval (.Name x pos) X.env) Q E s :=
  Calls.Name_function_global I.ok.kind hg (Calls.loadGlobal_global (by rw [I.ok.glob]; exact I.mod.glob.keeps I.bk) hm h) hd
theorem ld_blt {E:Value→Shared→Prop} {pins:List (Addr × Obj)} {s:Shared} {σ:St} {H:Hp} {x:Str} {u:Value} {pos:Pos} {Q:Value→Shared→Prop} (I:Inv X pins σ H s) (hg:Gl X x) (hm:X.mg x=none) (hv:bootBuiltins x=some u) (h:Q u s)
    (hn:x ≠ "__name__" := by decide) (hd:(x == ("__debug__" : Str))=false:=by decide):wpAny (model X.prog X.w) X.A (eval (.Name x pos) X.env) Q E s:=by
  obtain ⟨mb,h1,h2⟩:=I.mod.blt
  exact Calls.Name_function_global I.ok.kind hg (Calls.loadGlobal_builtin (by rw [I.ok.glob]; exact I.mod.glob.keeps I.bk) hm (by rw [I.ok.blt]; exact h1.keeps I.bk) ((h2 x hn).trans hv) h) hd
theorem pe_glob {x:Str} {v:V} {u:Value} {pos:Pos} (hg:Gl X x) (hm:X.mg x=some u) (r:RelV v u) (hd:(x == ("__debug__" : Str))=false:=by decide):PE X (.Name x pos) (tC v) :=
  fun _ _ _ H _ I h=>ld_glob I hg hm ⟨v,H,I,r,h⟩ hd
theorem pe_bltn {x:Str} {v:V} {u:Value} {pos:Pos} (hg:Gl X x) (hm:X.mg x=none) (hv:bootBuiltins x=some u) (r:RelV v u) (hn:x ≠ "__name__" := by decide) (hd:(x == ("__debug__" : Str))=false:=by decide):PE X (.Name x pos) (tC v) :=
  fun _ _ _ H _ I h=>ld_blt I hg hm hv ⟨v,H,I,r,h⟩ hn hd
def t2I (ta tb:TE) (k:Int→Int→Hp→Prop):St→Hp→Prop:=fun σ H=>ta σ H fun x H1=>tb σ H1 fun y H2=>∃ i j,x=.int i∧y=.int j∧k i j H2
def tAdd (ta tb:TE):TE:=fun σ H Q=>t2I ta tb (fun i j H2=>Q (.int (i+j)) H2) σ H
def tSub (ta tb:TE):TE:=fun σ H Q=>t2I ta tb (fun i j H2=>Q (.int (i - j)) H2) σ H
def tMul (ta tb:TE):TE:=fun σ H Q=>t2I ta tb (fun i j H2=>(-(2 ^ 64) < i∧i < 2 ^ 64)∧Q (.int (i*j)) H2) σ H
variable {a b:Expr} {ta tb:TE} {pos:Pos}
def PC (X:Cx) (op:CmpOp) (a b:Expr) (t:TE):Prop :=
  ∀ (pins:List (Addr × Obj)) (s:Shared) (σ:St) (H:Hp) (Q:VK),Inv X pins σ H s→t σ H Q →
    wpAny (model X.prog X.w) X.A (eval a X.env) (fun v s₁=>wpAny (model X.prog X.w) X.A (eval b X.env) (fun u s₂=>wpAny (model X.prog X.w) X.A (compareOp op v u) (EP X pins σ Q) X.xe s₂) X.xe s₁) X.xe s
def tCmp (p:Int→Int→Bool) (ta tb:TE):TE:=fun σ H Q=>t2I ta tb (fun i j H2=>Q (.bl (p i j)) H2) σ H
abbrev tLt:TE→TE→TE:=tCmp fun i j=>decide (i < j)
abbrev tLe:TE→TE→TE:=tCmp fun i j=>decide (i≤j)
abbrev tGt:TE→TE→TE:=tCmp fun i j=>decide (j < i)
abbrev tGe:TE→TE→TE:=tCmp fun i j=>decide (j≤i)
abbrev tEqI:TE→TE→TE:=tCmp fun i j=>decide (i=j)
abbrev tNeI:TE→TE→TE:=tCmp fun i j=>!decide (i=j)
def tIsN (ta:TE):TE:=fun σ H Q=>ta σ H fun x H1=>Q (.bl (decide (x=.non))) H1
def tNotN (ta:TE):TE:=fun σ H Q=>ta σ H fun x H1=>Q (.bl (!decide (x=.non))) H1
def tB (t:TE):TT:=fun σ H Q=>t σ H fun x H1=>∃ c,x=.bl c∧Q c H1
theorem pt_val {e:Expr} {t:TE} (h:PE X e t) (he:∀ whole,isTrue e X.env whole=(do let v ← whole; standAt e.pos; holding [v] (truthy v)):=by intro _; rfl):PT X e (tB t):=by
  intro pins s σ H Q I hw
  refine isTrue_plain (thn (h pins s σ H _ I hw) fun v s1 ⟨x,H1,I1,r1,q1⟩=>?_) (he _)
  obtain ⟨d,rfl,q⟩:=q1
  cases r1
  exact wpAny_truthy_bool ⟨H1,I1,q⟩
variable {tA tB':TT} {rest:List Expr}
def tAnd (t u:TT):TT:=fun σ H Q=>t σ H fun c H1=>if c=true then u σ H1 Q else Q false H1
def tOr (t u:TT):TT:=fun σ H Q=>t σ H fun c H1=>if c=true then Q true H1 else u σ H1 Q
def tNot (t:TT):TT:=fun σ H Q=>t σ H fun c H1=>Q (!c) H1
theorem pw_and1 (ha:PT X a tA):PW X (.BoolOp .And [a] pos) tA:=by
  intro wh pins s σ H Q I h
  refine isTrue_and (thn (ha pins s σ H Q I h) fun c s1 e=>?_)
  cases c with
  | true=>exact isTrue_and_nil e
  | false=>exact e
theorem pw_or1 (ha:PT X a tA):PW X (.BoolOp .Or [a] pos) tA:=by
  intro wh pins s σ H Q I h
  refine isTrue_or (thn (ha pins s σ H Q I h) fun c s1 e=>?_)
  cases c with
  | false=>exact isTrue_or_nil e
  | true=>exact e
theorem pw_and (ha:PT X a tA) (hb:PW X (.BoolOp .And (b::rest) pos) tB'):PW X (.BoolOp .And (a::b::rest) pos) (tAnd tA tB'):=by
  intro wh pins s σ H Q I h
  refine isTrue_and (thn (ha pins s σ H _ I h) fun c s1 ⟨H1,I1,q1⟩=>?_)
  cases c with
  | true=>exact hb wh pins s1 σ H1 Q I1 q1
  | false=>exact ⟨H1,I1,q1⟩
theorem pw_or (ha:PT X a tA) (hb:PW X (.BoolOp .Or (b::rest) pos) tB'):PW X (.BoolOp .Or (a::b::rest) pos) (tOr tA tB'):=by
  intro wh pins s σ H Q I h
  refine isTrue_or (thn (ha pins s σ H _ I h) fun c s1 ⟨H1,I1,q1⟩=>?_)
  cases c with
  | true=>exact ⟨H1,I1,q1⟩
  | false=>exact hb wh pins s1 σ H1 Q I1 q1
theorem pt_not (ha:PT X a tA):PT X (.UnaryOp .Not a pos) (tNot tA):=by
  intro pins s σ H Q I h
  exact isTrue_not (ha pins s σ H (fun c H1=>Q (!c) H1) I h)
def tAndV (ta tb:TE):TE:=fun σ H Q=>ta σ H fun x H1=>∃ c,x=.bl c∧if c=true then tb σ H1 Q else Q (.bl false) H1
def tOrV (ta tb:TE):TE:=fun σ H Q=>ta σ H fun x H1=>∃ c,x=.bl c∧if c=true then Q (.bl true) H1 else tb σ H1 Q
def tNotV (ta:TE):TE:=fun σ H Q=>ta σ H fun x H1=>∃ c,x=.bl c∧Q (.bl (!c)) H1
theorem pe_one {op} {t:TE} (h:PE X a t):PE X (.BoolOp op [a] pos) t:=fun pins s σ H Q I hw=>BoolOp_one (h pins s σ H Q I hw)
theorem pe_and (ha:PE X a ta) (hb:PE X (.BoolOp .And (b::rest) pos) tb):PE X (.BoolOp .And (a::b::rest) pos) (tAndV ta tb):=by
  intro pins s σ H Q I h
  refine BoolOp_and (thn (ha pins s σ H _ I h) fun v s1 ⟨x,H1,I1,r1,q1⟩=>?_)
  obtain ⟨c,rfl,q1⟩:=q1
  cases r1
  refine wpAny_truthy_bool ?_
  cases c with
  | true=>exact hb pins s1 σ H1 Q I1 q1
  | false=>exact ⟨.bl false,H1,I1,rfl,q1⟩
def tIf (t:TT) (ta tb:TE):TE:=fun σ H Q=>t σ H fun c H1=>if c=true then ta σ H1 Q else tb σ H1 Q
theorem pe_ifExp {c:Expr} (hc:PT X c tA) (ha:PE X a ta) (hb:PE X b tb):PE X (.IfExp c a b pos) (tIf tA ta tb):=by
  intro pins s σ H Q I h
  refine wpAny_IfExp (thn (hc pins s σ H _ I h) fun d s1 ⟨H1,I1,q1⟩=>?_)
  cases d with
  | true=>exact ha pins s1 σ H1 Q I1 q1
  | false=>exact hb pins s1 σ H1 Q I1 q1
end
end L2
namespace L2
open PySem PySem.Spec PyProof.Rows
def SqL (K:PySem.W.Frag) (H:Hp) (a:Addr) (xs:List V):Prop :=
  Rd H a (.lst xs) ∨
    ∃ (o:Obj) (its:Array Value) (n:Nat),K.lookup a=some o∧o.cls=.type "list" ∧ o.dict=none∧o.data=.seq its n∧its.size≤sizeLine∧Vals xs its.toList
def SqT (K:PySem.W.Frag) (H:Hp) (a:Addr) (xs:List V):Prop :=
  Rd H a (.tup xs) ∨
    ∃ (o:Obj) (its:Array Value) (n:Nat),K.lookup a=some o∧o.cls=.type "tuple" ∧ o.data=.seq its n∧its.size≤sizeLine∧Vals xs its.toList
def absV:Value→Option V
  | .none=>some .non
  | .bool b=>some (.bl b)
  | .int i _=>some (.int i)
  | .str x _=>some (.str x)
  | .bytes b _=>some (.byt b)
  | .float b _=>some (.flt b)
  | .ref a=>some (.ref a)
  | .type n=>some (.ty n)
  | _=>none
theorem RelV.abs {x:V} {u:Value} (r:RelV x u):absV u=some x:=by
  cases x with
  | non=>cases r; rfl
  | bl _=>cases r; rfl
  | int _=>obtain ⟨t,rfl⟩:=r; rfl
  | str _=>obtain ⟨t,rfl⟩:=r; rfl
  | byt _=>obtain ⟨t,rfl⟩:=r; rfl
  | flt _=>obtain ⟨t,rfl⟩:=r; rfl
  | ref _=>cases r; rfl
  | ty _=>cases r; rfl
theorem RelV.inj {x y:V} {u:Value} (r:RelV x u) (q:RelV y u):x=y:=Option.some.inj (r.abs.symm.trans q.abs)
theorem Vals.inj:∀ {xs ys:List V} {us:List Value},Vals xs us→Vals ys us→xs=ys
  | _,_,_,.nil,.nil=>rfl
  | _,_,_,.cons r t,.cons r' t'=>by rw [r.inj r',Vals.inj t t']
section
variable {X:Cx} {pins:List (Addr × Obj)} {σ:St} {H:Hp} {s:Shared} {a:Addr} {xs ys:List V}
theorem SqL.of {K:PySem.W.Frag} (h:H a=some (.lst xs)):SqL K H a xs:=.inl (.inl h)
theorem SqT.of {K:PySem.W.Frag} (h:H a=some (.tup xs)):SqT K H a xs:=.inl (.inl h)
theorem Inv.list (I:Inv X pins σ H s) (h:SqL X.K H a xs):∃ its:List Value,Vals xs its∧PlainL s.heap a its.toArray∧xs.length≤sizeLine:=by
  rcases h with h | ⟨o,its,n,hk,hc,hd,hs,hz,r⟩
  · obtain ⟨z,its,n,r,e⟩:=h.ok I.hok
    exact ⟨its,r,⟨_,n,e,rfl,rfl,rfl⟩,z⟩
  · refine ⟨its.toList,r,⟨o,n,I.kIn a o hk,hc,hd,by simpa using hs⟩,?_⟩
    have e:=r.length
    simp only [Array.length_toList] at e
    omega
theorem Inv.tuple (I:Inv X pins σ H s) (h:SqT X.K H a xs):∃ its:List Value,Vals xs its∧IsTup s.heap a its.toArray∧xs.length≤sizeLine:=by
  rcases h with h | ⟨o,its,n,hk,hc,hs,hz,r⟩
  · obtain ⟨z,its,r,p,_⟩:=h.ok I.hok
    exact ⟨its,r,p,z⟩
  · refine ⟨its.toList,r,⟨o,I.kIn a o hk,hc,n,by simpa using hs⟩,?_⟩
    have e:=r.length
    simp only [Array.length_toList] at e
    omega
theorem Inv.list_inj (I:Inv X pins σ H s) (h:SqL X.K H a xs) (h':SqL X.K H a ys):xs=ys:=by
  obtain ⟨its,r,⟨o,n,e,_,_,d⟩,_⟩:=I.list h
  obtain ⟨its',r',⟨o',n',e',_,_,d'⟩,_⟩:=I.list h'
  rw [e] at e'; cases e'
  rw [d] at d'
  injection d' with d1 _
  have:its=its':=by simpa using congrArg Array.toList d1
  subst this
  exact r.inj r'
theorem Inv.tuple_inj (I:Inv X pins σ H s) (h:SqT X.K H a xs) (h':SqT X.K H a ys):xs=ys:=by
  obtain ⟨its,r,⟨o,e,_,n,d⟩,_⟩:=I.tuple h
  obtain ⟨its',r',⟨o',e',_,n',d'⟩,_⟩:=I.tuple h'
  rw [e] at e'; cases e'
  rw [d] at d'
  injection d' with d1 _
  have:its=its':=by simpa using congrArg Array.toList d1
  subst this
  exact r.inj r'
end
abbrev Cx.wish (X:Cx) (E:Value→Shared→Prop):Cx:={ X with xe:=E }
abbrev Cx.nox (X:Cx):Cx:=X.wish fun _ _=>False
theorem Cx.Ok.wish {X:Cx} (ok:X.Ok) (E:Value→Shared→Prop):(X.wish E).Ok :=
  ⟨ok.mod,ok.kind,ok.glob,ok.blt,ok.above,ok.inj,ok.has,ok.cab,ok.hd,ok.frames,ok.stk,ok.exf,ok.bs,ok.bsz,ok.noex,ok.exfs,ok.funs,ok.frf⟩
theorem Cx.Ok.unwish {X:Cx} {E:Value→Shared→Prop} (ok:(X.wish E).Ok):X.Ok :=
  ⟨ok.mod,ok.kind,ok.glob,ok.blt,ok.above,ok.inj,ok.has,ok.cab,ok.hd,ok.frames,ok.stk,ok.exf,ok.bs,ok.bsz,ok.noex,ok.exfs,ok.funs,ok.frf⟩
section
variable {X:Cx} {pins:List (Addr × Obj)} {σ:St} {H:Hp} {s:Shared} {E:Value→Shared→Prop}
theorem Inv.wish (I:Inv X pins σ H s) (E:Value→Shared→Prop):Inv (X.wish E) pins σ H s:=⟨I.ok.wish E,I.os,I.bare,I.base,I.loc,I.cell,I.free,I.freeC,I.pin,I.hok,I.len⟩
theorem Inv.unwish (I:Inv (X.wish E) pins σ H s):Inv X pins σ H s:=⟨I.ok.unwish,I.os,I.bare,I.base,I.loc,I.cell,I.free,I.freeC,I.pin,I.hok,I.len⟩
theorem SP.unwish {D:Ends} {f:Flow} {s':Shared} (h:SP (X.wish E) pins D f s'):SP X pins D f s':=by
  cases f with
  | next=>obtain ⟨σ',H',I,q⟩:=h; exact ⟨σ',H',I.unwish,q⟩
  | brk=>obtain ⟨σ',H',I,q⟩:=h; exact ⟨σ',H',I.unwish,q⟩
  | cont=>obtain ⟨σ',H',I,q⟩:=h; exact ⟨σ',H',I.unwish,q⟩
  | ret u=>obtain ⟨v,σ',H',I,r,q⟩:=h; exact ⟨v,σ',H',I.unwish,r,q⟩
theorem PSs.nox {st:List Stmt} {t:TS} (h:PSs X.nox st t):PSs X st t:=fun pins s σ H D I hw =>
  wpAny_mono (h pins s σ H D (I.wish _) hw) (fun _ _ q=>q.unwish) fun _ _ z=>False.elim z
end
section
variable {X:Cx} {st:Stmt} {rest:List Stmt} {t u:TS} {e:Expr} {te:TE} {pos:Pos}
def tNext:TS:=fun D σ H=>D.nx σ H
def tSeq (t u:TS):TS:=fun D σ H=>t { D with nx:=u D } σ H
theorem pss_nil:PSs X [] tNext:=fun _ _ σ H _ I h=>wpAny_execs_nil ⟨σ,H,I,h⟩
theorem pss_cons (h1:PS X st t) (h2:PSs X rest u):PSs X (st::rest) (tSeq t u):=by
  intro pins s σ H D I h
  refine wpAny_execs_cons (thn (h1 pins s σ H { D with nx:=u D } I h) fun f s1 q=>?_)
  cases f with
  | next =>
    obtain ⟨σ',H',I',q⟩:=q
    exact h2 pins s1 σ' H' D I' q
  | ret v=>exact q
  | brk=>exact q
  | cont=>exact q
theorem pss_one (h1:PS X st t):PSs X [st] t:=by
  intro pins s σ H D I h
  refine wpAny_execs_cons (thn (h1 pins s σ H D I h) fun f s1 q=>?_)
  cases f with
  | next=>exact wpAny_execs_nil q
  | ret v=>exact q
  | brk=>exact q
  | cont=>exact q
def tBreak:TS:=fun D σ H=>D.bk σ H
def tCont:TS:=fun D σ H=>D.ct σ H
theorem Inv.quiet {pins:List (Addr × Obj)} {σ:St} {H:Hp} {s:Shared} (I:Inv X pins σ H s):interactive X.env=false:=by simp [interactive,I.ok.kind]
def tDrop (te:TE):TS:=fun D σ H=>te σ H fun _ H1=>D.nx σ H1
theorem ps_expr (he:PE X e te) (hs:swapsWith e none pos.line X.env=pure false:=by rfl):PS X (.Expr e pos) (tDrop te):=by
  intro pins s σ H D I h
  exact wpAny_Expr_any (thn (he pins s σ H _ I h) fun v s1 ⟨x,H1,I1,r1,q1⟩=>⟨σ,H1,I1,q1⟩) I.quiet hs
def tRet (te:TE):TS:=fun D σ H=>te σ H D.rt
theorem ps_ret (he:PE X e te):PS X (.Return (some e) pos) (tRet te):=by
  intro pins s σ H D I h
  exact wpAny_Return_some (thn (he pins s σ H _ I h) fun v s1 ⟨x,H1,I1,r1,q1⟩=>⟨x,σ,H1,I1,r1,q1⟩)
def tRetN:TS:=fun D _ H=>D.rt .non H
def tIfS (c:TT) (t u:TS):TS:=fun D σ H=>c σ H fun b H1=>if b=true then t D σ H1 else u D σ H1
theorem ps_if {c:Expr} {a b:List Stmt} {tc:TT} (hc:PT X c tc) (ha:PSs X a t) (hb:PSs X b u):PS X (.If c a b pos) (tIfS tc t u):=by
  intro pins s σ H D I h
  refine wpAny_If (thn (hc pins s σ H _ I h) fun d s1 ⟨H1,I1,q1⟩=>?_)
  cases d with
  | true=>exact ha pins s1 σ H1 D I1 q1
  | false=>exact hb pins s1 σ H1 D I1 q1
def tNever:TS:=fun _ _ _=>False
theorem pss_never {sts:List Stmt}:PSs X sts tNever:=fun _ _ _ _ _ _ h=>h.elim
end
abbrev TG:=V→St→Hp→(St→Hp→Prop)→Prop
abbrev TGs:=List V→St→Hp→(St→Hp→Prop)→Prop
def PG (X:Cx) (target:Expr) (t:TG):Prop :=
  ∀ (pins:List (Addr × Obj)) (s:Shared) (σ:St) (H:Hp) (v:V) (u:Value) (Q:St→Hp→Prop),Inv X pins σ H s→RelV v u→t v σ H Q →
    wpAny (model X.prog X.w) X.A (assign target X.env u) (fun _ s'=>∃ σ' H',Inv X pins σ' H' s'∧Q σ' H') X.xe s
def PGs (X:Cx) (ts:List Expr) (t:TGs):Prop :=
  ∀ (pins:List (Addr × Obj)) (s:Shared) (σ:St) (H:Hp) (vs:List V) (us:List Value) (Q:St→Hp→Prop),Inv X pins σ H s→Vals vs us→t vs σ H Q →
    wpAny (model X.prog X.w) X.A (assignInOrder ((assignEach ts X.env).map (·.2)) us) (fun _ s'=>∃ σ' H',Inv X pins σ' H' s'∧Q σ' H') X.xe s
abbrev TSet:=V→V→V→Hp→(Hp→Prop)→Prop
def PSet (X:Cx) (t:TSet):Prop :=
  ∀ (pins:List (Addr × Obj)) (s:Shared) (σ:St) (H:Hp) (o i v:V) (ov iv u:Value) (Q:Hp→Prop),Inv X pins σ H s→RelV o ov→RelV i iv→RelV v u→t o i v H Q →
    wpAny (model X.prog X.w) X.A (setItem ov iv u) (fun _ s'=>∃ H',Inv X pins σ H' s'∧Q H') X.xe s
abbrev TIp:=V→V→Hp→VK→Prop
def PIp (X:Cx) (op:Operator) (t:TIp):Prop :=
  ∀ (pins:List (Addr × Obj)) (s:Shared) (σ:St) (H:Hp) (x y:V) (v u:Value) (Q:VK),Inv X pins σ H s→RelV x v→RelV y u→t x y H Q →
    wpAny (model X.prog X.w) X.A (inplaceOp op v u) (EP X pins σ Q) X.xe s
section
variable {X:Cx} {pos:Pos}
def gName (i:Nat):TG:=fun v σ H Q=>Q (σ.set i (some v)) H
theorem pg_name {i:Nat} {x:Str} (hN:X.N.Nodup) (hi:X.N[i]?=some x) (hx:Loc X.env.scope x) (hf:X.fn x=true∨X.env.scope.names.lookup x=some .local:=by first | exact .inl rfl | exact .inr rfl | assumption):PG X (.Name x pos) (gName i):=by
  intro pins s σ H v u Q I r h
  exact wpAny_assign_Name (store_ok I hN hi hx r (fun s' I'=>⟨_,H,I',h⟩) hf)
def gNil:TGs:=fun vs σ H Q=>vs=[]∧Q σ H
def gCons (t:TG) (u:TGs):TGs:=fun vs σ H Q=>∃ v r,vs=v::r∧t v σ H fun σ' H'=>u r σ' H' Q
theorem pgs_nil:PGs X [] gNil:=by
  intro pins s σ H vs us Q I r h
  obtain ⟨e,h⟩:=h
  subst e
  cases r
  exact assignInOrder_nil ⟨σ,H,I,h⟩
theorem pgs_cons {e:Expr} {es:List Expr} {t:TG} {u:TGs} (h1:PG X e t) (h2:PGs X es u)
    (hs:(assignEach (e::es) X.env).map (·.2)=assign e X.env::(assignEach es X.env).map (·.2):=by rfl):PGs X (e::es) (gCons t u):=by
  intro pins s σ H vs us Q I r h
  obtain ⟨v,vr,e1,h⟩:=h
  subst e1
  cases r with
  | cons r rr =>
    rw [hs]
    refine assignInOrder_cons (thn (h1 pins s σ H _ _ _ I r h) fun _ s1 ⟨σ1,H1,I1,q1⟩=>?_)
    exact h2 pins s1 σ1 H1 _ _ Q I1 rr q1
def gTup (K:PySem.W.Frag) (n:Nat) (t:TGs):TG:=fun v σ H Q=>∃ a xs,v=.ref a∧SqT K H a xs∧xs.length=n∧t xs σ H Q
theorem pg_tup {es:List Expr} {k:Nat} {t:TGs} {n:Nat} (hc:X.calm=true) (h:PGs X es t)
    (hn:(assignEach es X.env).length=n:=by rfl) (hst:(assignEach es X.env).findIdx? (·.1)=none:=by rfl):PG X (.Tuple es k pos) (gTup X.K n t):=by
  intro pins s σ H v u Q I r hw
  obtain ⟨a,xs,e1,hq,hl,hw⟩:=hw
  subst e1
  cases r
  obtain ⟨its,rv,ht,hz⟩:=I.tuple hq
  refine assign_Tuple_tuple (I.ok.hd hc) ht (by simp [hn,← hl,rv.length]) hst fun h' hx=>?_
  have I1:Inv X pins σ H { s with heap:=h' }:=I.kept (t':=s.toks) fun b o e=>hx b o (Nat.ne_of_lt (Heap.lt_size e)) e
  exact h pins _ σ H xs _ Q I1 (by simpa using rv) hw
def gSub (to ti:TE) (t:TSet):TG:=fun v σ H Q=>to σ H fun o H1=>ti σ H1 fun i H2=>t o i v H2 fun H3=>Q σ H3
theorem pg_sub {o i:Expr} {to ti:TE} {t:TSet} (ho:PE X o to) (hi:PE X i ti) (hs:PSet X t)
    (ha:∀ v,assign (.Subscript o i pos) X.env v=(do
      let ov ← holding [v] (eval o X.env)
      let iv ← holding [v,ov] (eval i X.env)
      standAt pos
      holding [v,ov,iv] (setItem ov iv v)
      release [v,ov,iv] []):=by intro _; rfl):PG X (.Subscript o i pos) (gSub to ti t):=by
  intro pins s σ H v u Q I r h
  rw [ha]
  refine wpAny_bind (wpAny_holding (thn (ho pins s σ H _ I h) fun ov s1 ⟨x,H1,I1,r1,q1⟩=>?_))
  refine wpAny_bind (wpAny_holding (thn (hi pins s1 σ H1 _ I1 q1) fun iv s2 ⟨y,H2,I2,r2,q2⟩=>?_))
  refine wpAny_bind (wpAny_standAt (wpAny_bind (wpAny_holding (thn (hs pins s2 σ H2 x y v ov iv u _ I2 r1 r2 r q2) fun _ s3 ⟨H3,I3,q3⟩=>?_))))
  exact wpAny_release ⟨σ,H3,I3,q3⟩
def tAsg (te:TE) (g:TG):TS:=fun D σ H=>te σ H fun x H1=>g x σ H1 D.nx
theorem ps_asg {tg e:Expr} {te:TE} {g:TG} (he:PE X e te) (hg:PG X tg g) (hs:swapsWithSole [tg] e pos.line X.env=pure false:=by rfl) (hw:swappedStores [tg] e X.env=pure none:=by rfl)
    (h1:(assignEach [tg] X.env).map (·.2)=[assign tg X.env]:=by rfl):PS X (.Assign [tg] e pos) (tAsg te g):=by
  intro pins s σ H D I h
  refine wpAny_Assign_stores (thn (he pins s σ H _ I h) fun v s1 ⟨x,H1,I1,r1,q1⟩=>?_) hs hw
  rw [h1]
  exact thn (hg pins s1 σ H1 x v _ I1 r1 q1) fun _ s2 q=>q
theorem ps_set {i:Nat} {x:Str} {e:Expr} {te:TE} {pos':Pos} (hN:X.N.Nodup) (hi:X.N[i]?=some x) (hx:Loc X.env.scope x) (he:PE X e te) (hs:swapsWith e (some (.Name x pos')) pos.line X.env=pure false:=by rfl) (hf:X.fn x=true∨X.env.scope.names.lookup x=some .local:=by first | exact .inl rfl | exact .inr rfl | assumption) :
    PS X (.Assign [.Name x pos'] e pos) (tAsg te (gName i)):=by
  intro pins s σ H D I h
  refine wpAny_Assign_Name (thn (he pins s σ H _ I h) fun v s1 ⟨y,H1,I1,r1,q1⟩=>?_) hs
  exact store_ok I1 hN hi hx r1 (fun s2 I2=>⟨_,H1,I2,q1⟩) hf
def tPar (i j:Nat) (ta:TA):TS:=fun D σ H=>ta σ H fun vs H1=>∃ v w,vs=[v,w]∧D.nx ((σ.set i (some v)).set j (some w)) H1
def tAug (i:Nat) (te:TE) (ti:TIp):TS:=fun D σ H=>∃ x,σ[i]?=some (some x)∧te σ H fun y H1=>ti x y H1 fun z H2=>D.nx (σ.set i (some z)) H2
def tAugS (to ti te:TE) (tget:V→V→Hp→VK→Prop) (tip:TIp) (tset:TSet):TS:=fun D σ H=>to σ H fun o H1=>ti σ H1 fun i H2=>tget o i H2 fun x H3=>te σ H3 fun y H4=>tip x y H4 fun z H5=>tset o i z H5 fun H6=>D.nx σ H6
def PGet (X:Cx) (t:V→V→Hp→VK→Prop):Prop :=
  ∀ (pins:List (Addr × Obj)) (s:Shared) (σ:St) (H:Hp) (o i:V) (ov iv:Value) (Q:VK),Inv X pins σ H s→RelV o ov→RelV i iv→t o i H Q →
    wpAny (model X.prog X.w) X.A (getItem ov iv) (EP X pins σ Q) X.xe s
def ipI (f:Int→Int→Int):TIp:=fun x y H Q=>∃ i j,x=.int i∧y=.int j∧Q (.int (f i j)) H
end
section
variable {X:Cx} {pos:Pos}
def tWhile (c:TT) (tb:TS):TS:=fun D σ H=>∃ W:Nat→St→Hp→Prop,(∃ m,W m σ H)∧∀ m σ H,W m σ H →
  c σ H fun b H1=>if b=true then ∃ N:St→Hp→Prop,(∀ σ' H',N σ' H'→∃ m',m' < m∧W m' σ' H')∧tb { D with nx:=N,ct:=N,bk:=D.nx } σ H1 else D.nx σ H1
theorem ps_while {c:Expr} {body:List Stmt} {tc:TT} {tb:TS} (hp:PassesOwn (model X.prog X.w) X.A X.env X.xe) (hc:PT X c tc) (hb:PSs X body tb):PS X (.While c body [] pos) (tWhile tc tb):=by
  intro pins s σ H D I h
  obtain ⟨W,⟨m0,w0⟩,turn⟩:=h
  refine wpAny_While (codeAny_whileLoop (fun n s'=>∃ σ' H',Inv X pins σ' H' s'∧W n σ' H') ?_ m0 ⟨σ,H,I,w0⟩)
  rintro n s1 ⟨σ1,H1,I1,w1⟩
  refine wpAny_passesOwn hp (thn (hc pins s1 σ1 H1 _ I1 (turn n σ1 H1 w1)) fun b s2 ⟨H2,I2,q2⟩=>?_)
  cases b with
  | true =>
    obtain ⟨N,hN,q2⟩:=q2
    rw [if_pos rfl]
    refine wpAny_passesOwn hp (thn (hb pins s2 σ1 H2 _ I2 q2) fun f s3 q3=>?_)
    cases f with
    | next =>
      obtain ⟨σ3,H3,I3,n3⟩:=q3
      obtain ⟨m',hm,w3⟩:=hN σ3 H3 n3
      exact ⟨m',hm,σ3,H3,I3,w3⟩
    | cont =>
      obtain ⟨σ3,H3,I3,n3⟩:=q3
      obtain ⟨m',hm,w3⟩:=hN σ3 H3 n3
      exact ⟨m',hm,σ3,H3,I3,w3⟩
    | brk=>exact q3
    | ret v=>exact q3
  | false =>
    rw [if_neg Bool.false_ne_true]
    exact wpAny_execs_nil ⟨σ1,H2,I2,q2⟩
end
structure It where
  go:Nat→Hp→Prop
  yld:Nat→Hp→V→Hp→Prop
  stop:Nat→Hp→Prop
def FpOk (X:Cx) (pins:List (Addr × Obj)) (H:Hp) (b:Addr):Prop :=
  H b=none∧b ≠ X.env.locals∧b ∉ X.fs∧(b ∈ X.ex∨X.s₀.heap.objs.size≤b)∧(∀ x c,X.env.cells.lookup x=some c→c ≠ b)∧∀ p ∈ X.pn++pins,p.1 ≠ b
theorem Inv.fpOk {X:Cx} {pins:List (Addr × Obj)} {σ:St} {H H':Hp} {s:Shared} {b:Addr} (I:Inv X pins σ H s) (hb:s.heap.objs.size≤b) (hn:H' b=none):FpOk X pins H' b:=by
  refine ⟨hn,Nat.ne_of_gt (Nat.lt_of_lt_of_le I.lt hb),I.nofs hb,.inr (Nat.le_trans I.sz hb),fun x c e z=>?_,fun p hp z=>?_⟩
  · obtain ⟨v,q⟩:=I.cell x c e
    exact absurd (Nat.lt_of_lt_of_le q.lt (by rw [z]; exact hb)) (Nat.lt_irrefl _)
  · exact absurd (Nat.lt_of_lt_of_le (Heap.lt_size (I.pin p hp).1) (by rw [z]; exact hb)) (Nat.lt_irrefl _)
structure Turn (P:Program) (w:World) (K:PySem.W.Frag) (tg:Expr) (J:It) (fp:List Addr) (it:Addr) (tn:Nat→Heap→Prop):Prop where
  mem:it ∈ fp
  obj:∀ i h,tn i h→∀ b ∈ fp,∃ o,h.get? b=some o∧∀ v,o.data ≠ .cell v
  keep:∀ i h h',tn i h→(∀ b ∈ fp,∀ o,h.get? b=some o→h'.get? b=some o)→tn i h'
  item:∀ (X:Cx),X.prog=P→X.w=w→X.K=K→X.calm=true→∀ (i:Nat) (pins:List (Addr × Obj)) (s:Shared) (σ:St) (H:Hp) (E:Value→Shared→Prop),Inv X pins σ H s→(∀ b ∈ fp,FpOk X pins H b)→tn i s.heap→J.go i H →
    wpAny (model P w) X.A (pyNext (.ref it)) (fun r s1=>∃ u,r=some u ∧
      wpAny (model P w) X.A (letOwnedTupleGo tg (.ref it) u) (fun _ s2=>∃ x H',Inv X pins σ H' s2∧RelV x u∧J.yld i H x H'∧tn (i+1) s2.heap∧∀ b ∈ fp,H' b=none) E s1) E s
  done:∀ (X:Cx),X.prog=P→X.w=w→X.K=K→X.calm=true→∀ (i:Nat) (pins:List (Addr × Obj)) (s:Shared) (σ:St) (H:Hp) (E:Value→Shared→Prop),Inv X pins σ H s→(∀ b ∈ fp,FpOk X pins H b)→tn i s.heap→J.stop i H →
    wpAny (model P w) X.A (pyNext (.ref it)) (fun r s1=>r=none∧Inv X pins σ H s1) E s
  self:∀ (A:Around) (i:Nat) (s:Shared) (Q:Value→Shared→Prop) (E:Value→Shared→Prop),tn i s.heap→Q (.ref it) s→wpAny (model P w) A (pyIter (.ref it)) Q E s
abbrev TI:=St→Hp→(It→Hp→Prop)→Prop
def PIE (X:Cx) (pins:List (Addr × Obj)) (σ:St) (tg:Expr) (R:It→Hp→Prop) (itv:Value) (s2:Shared):Prop :=
  ∃ (it:Addr) (fp:List Addr) (tn:Nat→Heap→Prop) (J:It) (H':Hp),itv=.ref it∧Inv X pins σ H' s2∧Turn X.prog X.w X.K tg J fp it tn∧tn 0 s2.heap∧(∀ b ∈ fp,FpOk X pins H' b)∧R J H'
def PI (X:Cx) (tg iter:Expr) (wi:TI):Prop :=
  ∀ (pins:List (Addr × Obj)) (s:Shared) (σ:St) (H:Hp) (R:It→Hp→Prop),Inv X pins σ H s→wi σ H R →
    wpAny (model X.prog X.w) X.A (eval iter X.env) (fun v s1=>wpAny (model X.prog X.w) X.A (pyIter v) (PIE X pins σ tg R) X.xe s1) X.xe s
theorem go_of {M:Model} {A:Around} {E:Value→Shared→Prop} {s:Shared} {tg:Expr} {it:Addr} {u:Value} {o:Obj} {n:String} {vs:Array Value} {Q:Unit→Shared→Prop} (ho:s.heap.get? it=some o) (hc:o.cls=.type n) (hd:o.data=.fields vs)
    (hn:["enumerate", "zip", "dict_itemiterator", "dict_reverseitemiterator", "odict_iterator", "itertools.zip_longest", "itertools.pairwise"].contains n=false) (hQ:Q () s):wpAny M A (letOwnedTupleGo tg (.ref it) u) Q E s:=by
  unfold letOwnedTupleGo
  cases tg <;> first
    | exact wpAny_pure hQ
    | (cases u <;> first
        | exact wpAny_pure hQ
        | (refine wpAny_bind (wpAny_load ho ?_)
           rw [hc,hd]
           show wpAny M A (if (["enumerate", "zip", "dict_itemiterator", "dict_reverseitemiterator", "odict_iterator", "itertools.zip_longest", "itertools.pairwise"].contains n && vs[0]? == some (rawInt _))=true then _ else _) Q E s
           rw [if_neg (by intro h; rw [hn,Bool.false_and] at h; cases h)]
           exact wpAny_pure hQ))
def Itl (K:PySem.W.Frag) (a:Addr):It :=
  ⟨fun i H=>∃ xs x,SqL K H a xs∧xs[i]?=some x,fun i H x H'=>H'=H∧∀ xs,SqL K H a xs→xs[i]?=some x,fun i H=>∃ xs,SqL K H a xs∧xs.length≤i⟩
def Itt (K:PySem.W.Frag) (a:Addr):It :=
  ⟨fun i H=>∃ xs x,SqT K H a xs∧xs[i]?=some x,fun i H x H'=>H'=H∧∀ xs,SqT K H a xs→xs[i]?=some x,fun i H=>∃ xs,SqT K H a xs∧xs.length≤i⟩
def Itr (lo:Int) (n:Nat):It:=⟨fun i _=>i < n,fun i H x H'=>H'=H∧x=.int (lo+i),fun i _=>n≤i⟩
theorem turn_list {P:Program} {w:World} {K:PySem.W.Frag} {tg:Expr} (a it:Addr):Turn P w K tg (Itl K a) [it] it (fun i h=>h.IsListIter it a i) where
  mem:=by simp
  obj:=fun i h st b hb=>by
    have e:b=it:=by simpa using hb
    subst e
    obtain ⟨o,e,c,d⟩:=st
    exact ⟨o,e,fun v z=>by rw [d] at z; cases z⟩
  keep:=fun i h h' st k=>st.at fun o e=>k it (by simp) o e
  item:=by
    intro X hP hw hK hc i pins s σ H E I hf st hg
    subst hP hw hK
    obtain ⟨xs,x,hq,hx⟩:=hg
    obtain ⟨its,rv,p,hz⟩:=I.list hq
    obtain ⟨u,hu,ru⟩:=rv.get hx
    obtain ⟨f0,f1,f2,f3,f4,f5⟩:=hf it (by simp)
    refine wpAny_pyNext_list_item st p.isList (x:=u) (by simpa using hu) fun h' st' sb=>?_
    have I1:Inv X pins σ H { s with heap:=h' }:=I.turned (t':=s.toks) (fun b o hb e=>(sb.2 b hb).trans e) f0 f1 f3 f4 f5
    obtain ⟨o,e,c,d⟩:=id st'
    exact ⟨u,rfl,go_of (s:={ s with heap:=h' }) e c d (by decide) ⟨x,H,I1,ru,⟨rfl,fun ys hy=>by rw [I.list_inj hy hq]; exact hx⟩,st',fun b hb=>(hf b hb).1⟩⟩
  done:=by
    intro X hP hw hK hc i pins s σ H E I hf st hg
    subst hP hw hK
    obtain ⟨xs,hq,hx⟩:=hg
    obtain ⟨its,rv,p,hz⟩:=I.list hq
    obtain ⟨f0,f1,f2,f3,f4,f5⟩:=hf it (by simp)
    have hl:=rv.length
    exact wpAny_pyNext_list_end (I.ok.hd hc) st p.isList (by simp; omega) fun h' eb=>⟨rfl,I.turned (t':=s.toks) (fun b o hb e=>eb b o hb e) f0 f1 f3 f4 f5⟩
  self:=fun _ _ _ _ _ st h=>wpAny_pyIter_listiter st h
theorem turn_tuple {P:Program} {w:World} {K:PySem.W.Frag} {tg:Expr} (a it:Addr):Turn P w K tg (Itt K a) [it] it (fun i h=>h.IsTupleIter it a i) where
  mem:=by simp
  obj:=fun i h st b hb=>by
    have e:b=it:=by simpa using hb
    subst e
    obtain ⟨o,e,c,d⟩:=st
    exact ⟨o,e,fun v z=>by rw [d] at z; cases z⟩
  keep:=fun i h h' st k=>st.at fun o e=>k it (by simp) o e
  item:=by
    intro X hP hw hK hc i pins s σ H E I hf st hg
    subst hP hw hK
    obtain ⟨xs,x,hq,hx⟩:=hg
    obtain ⟨its,rv,p,hz⟩:=I.tuple hq
    obtain ⟨u,hu,ru⟩:=rv.get hx
    obtain ⟨f0,f1,f2,f3,f4,f5⟩:=hf it (by simp)
    refine wpAny_pyNext_tuple_item st (show s.heap.IsTuple a its.toArray from p) (x:=u) (by simpa using hu) fun h' st' sb=>?_
    have I1:Inv X pins σ H { s with heap:=h' }:=I.turned (t':=s.toks) (fun b o hb e=>(sb.2 b hb).trans e) f0 f1 f3 f4 f5
    obtain ⟨o,e,c,d⟩:=id st'
    exact ⟨u,rfl,go_of (s:={ s with heap:=h' }) e c d (by decide) ⟨x,H,I1,ru,⟨rfl,fun ys hy=>by rw [I.tuple_inj hy hq]; exact hx⟩,st',fun b hb=>(hf b hb).1⟩⟩
  done:=by
    intro X hP hw hK hc i pins s σ H E I hf st hg
    subst hP hw hK
    obtain ⟨xs,hq,hx⟩:=hg
    obtain ⟨its,rv,p,hz⟩:=I.tuple hq
    obtain ⟨f0,f1,f2,f3,f4,f5⟩:=hf it (by simp)
    have hl:=rv.length
    exact wpAny_pyNext_tuple_end (I.ok.hd hc) st (show s.heap.IsTuple a its.toArray from p) (by simp; omega) fun h' eb=>⟨rfl,I.turned (t':=s.toks) (fun b o hb e=>eb b o hb e) f0 f1 f3 f4 f5⟩
  self:=fun _ _ _ _ _ st h=>wpAny_pyIter_tupleiter st h
theorem turn_range {P:Program} {w:World} {K:PySem.W.Frag} {tg:Expr} (it:Addr) (lo:Int) (n:Nat):Turn P w K tg (Itr lo n) [it] it (fun i h=>IsRangeIter h it (lo+(i:Nat)*1) ((n:Int) - (i:Nat)) 1) where
  mem:=by simp
  obj:=fun i h st b hb=>by
    have e:b=it:=by simpa using hb
    subst e
    exact ⟨_,st,fun v z=>by
      have z':Data.fields _=Data.cell v:=z
      cases z'⟩
  keep:=fun i h h' st k=>k it (by simp) _ st
  item:=by
    intro X hP hw hK hc i pins s σ H E I hf st hg
    subst hP hw hK
    obtain ⟨f0,f1,f2,f3,f4,f5⟩:=hf it (by simp)
    have W:=Walks.range (prog:=X.prog) (w:=X.w) (I.ok.hd hc) it lo 1 n
    refine W.item i s _ _ hg st fun v h' tk hv st' kk=>?_
    obtain ⟨t,rfl⟩:=hv
    have I1:Inv X pins σ H { s with heap:=h',toks:=tk }:=I.turned (fun b o hb e=>kk b o (by simpa using hb) e) f0 f1 f3 f4 f5
    refine ⟨_,rfl,go_of (s:={ s with heap:=h',toks:=tk }) (n := "range_iterator") st' rfl rfl (by decide) ⟨.int (lo+i),H,I1,⟨t,?_⟩,⟨rfl,rfl⟩,st',fun b hb=>(hf b hb).1⟩⟩
    rw [Int.mul_one]
  done:=by
    intro X hP hw hK hc i pins s σ H E I hf st hg
    subst hP hw hK
    obtain ⟨f0,f1,f2,f3,f4,f5⟩:=hf it (by simp)
    exact wpAny_pyNext_range_end (I.ok.hd hc) st (by have:n≤i:=hg; omega) fun h' eb=>⟨rfl,I.turned (t':=s.toks) (fun b o hb e=>eb b o hb e) f0 f1 f3 f4 f5⟩
  self:=fun _ _ _ _ _ st h=>wpAny_pyIter_rangeiter st h
end L2
namespace L2
open PySem PySem.Spec PyProof.Rows
section
variable {X:Cx} {tg:Expr}
def iList (K:PySem.W.Frag) (tl:TE):TI:=fun σ H R=>tl σ H fun x H1=>∃ a,x=.ref a∧(∃ xs,SqL K H1 a xs)∧R (Itl K a) H1
def iTup (K:PySem.W.Frag) (tl:TE):TI:=fun σ H R=>tl σ H fun x H1=>∃ a,x=.ref a∧(∃ xs,SqT K H1 a xs)∧R (Itt K a) H1
theorem pi_list {l:Expr} {tl:TE} (hl:PE X l tl):PI X tg l (iList X.K tl):=by
  intro pins s σ H R I h
  refine thn (hl pins s σ H _ I h) fun v s1 ⟨x,H1,I1,r1,q1⟩=>?_
  obtain ⟨a,e,⟨xs,hq⟩,q⟩:=q1
  subst e
  cases r1
  obtain ⟨its,rv,p,hz⟩:=I1.list hq
  refine wpAny_pyIter_list p.isList ?_
  refine ⟨s1.heap.objs.size,[s1.heap.objs.size],_,_,H1,rfl,I1.kept (t':=s1.toks) fun b o e=>Heap.get?_push_of_some _ e,turn_list a _,⟨_,Heap.get?_push_size _ rfl,rfl,rfl⟩,fun b hb=>?_,q⟩
  have e:b=s1.heap.objs.size:=by simpa using hb
  subst e
  exact I1.fpOk (Nat.le_refl _) (I1.hok.fresh (Nat.le_refl _))
theorem pi_tup {l:Expr} {tl:TE} (hl:PE X l tl):PI X tg l (iTup X.K tl):=by
  intro pins s σ H R I h
  refine thn (hl pins s σ H _ I h) fun v s1 ⟨x,H1,I1,r1,q1⟩=>?_
  obtain ⟨a,e,⟨xs,hq⟩,q⟩:=q1
  subst e
  cases r1
  obtain ⟨its,rv,p,hz⟩:=I1.tuple hq
  refine wpAny_pyIter_tuple (show s1.heap.IsTuple a its.toArray from p) ?_
  refine ⟨s1.heap.objs.size,[s1.heap.objs.size],_,_,H1,rfl,I1.kept (t':=s1.toks) fun b o e=>Heap.get?_push_of_some _ e,turn_tuple a _,⟨_,Heap.get?_push_size _ rfl,rfl,rfl⟩,fun b hb=>?_,q⟩
  have e:b=s1.heap.objs.size:=by simpa using hb
  subst e
  exact I1.fpOk (Nat.le_refl _) (I1.hok.fresh (Nat.le_refl _))
theorem range_it {pins:List (Addr × Obj)} {σ:St} {H:Hp} {s:Shared} {R:It→Hp→Prop} {E:Value→Shared→Prop} {lo hi:Int} {t u v:Tok} {tk:Nat} (I:Inv X pins σ H s) (h1:-(2 ^ 62)≤lo) (h2:lo < 2 ^ 62) (h3:-(2 ^ 62)≤hi) (h4:hi < 2 ^ 62)
    (q:R (Itr lo (hi - lo).toNat) H):wpAny (model X.prog X.w) X.A (pyIter (.ref s.heap.objs.size)) (PIE X pins σ tg R) E { s with heap:=s.heap.push { cls:=.type "range", data:=.fields #[.int lo t,.int hi u,.int 1 v] },toks:=tk }:=by
  refine wpAny_pyIter_range (IsRange.new ..) (small_one h1 h2 h3 h4) ?_
  have I1:Inv X pins σ H { s with heap:=s.heap.push { cls:=.type "range", data:=.fields #[.int lo t,.int hi u,.int 1 v] },toks:=tk }:=I.kept fun b o e=>Heap.get?_push_of_some _ e
  refine ⟨(s.heap.push { cls:=.type "range", data:=.fields #[.int lo t,.int hi u,.int 1 v] }).objs.size,[(s.heap.push { cls:=.type "range", data:=.fields #[.int lo t,.int hi u,.int 1 v] }).objs.size],_,_,H,rfl,
    I1.kept (t':=tk) fun b o e=>Heap.get?_push_of_some _ e,turn_range _ lo (hi - lo).toNat,?_,fun b hb=>?_,q⟩
  · have e1:lo+((0:Nat):Int)*1=lo:=by simp
    have e2:(((hi - lo).toNat:Nat):Int) - ((0:Nat):Int)=Builtin.Range.rangeSize lo hi 1:=by rw [rangeSize_one]; split <;> omega
    show IsRangeIter _ _ (lo+((0:Nat):Int)*1) ((((hi - lo).toNat:Nat):Int) - ((0:Nat):Int)) 1
    rw [e1,e2]
    exact Heap.get?_push_size _ rfl
  · have e:b=(s.heap.push { cls:=.type "range", data:=.fields #[.int lo t,.int hi u,.int 1 v] }).objs.size:=by simpa using hb
    subst e
    exact I1.fpOk (Nat.le_refl _) (I1.hok.fresh (Nat.le_refl _))
def iRng1 (ta:TA):TI:=fun σ H R=>ta σ H fun vs H1=>∃ j:Int,vs=[.int j]∧-(2 ^ 62)≤j∧j < 2 ^ 62∧R (Itr 0 j.toNat) H1
def iRng2 (ta:TA):TI:=fun σ H R=>ta σ H fun vs H1=>∃ i j:Int,vs=[.int i,.int j]∧(-(2 ^ 62)≤i∧i < 2 ^ 62∧-(2 ^ 62)≤j∧j < 2 ^ 62)∧R (Itr i (j - i).toNat) H1
theorem pi_range1 {a:Expr} {ta:TA} {p pos:Pos} (hg:Gl X "range") (hm:X.mg "range" = none) (ha:PA X [a] ta) (hs:starEach [a] X.env=[(false,eval a X.env)]:=by rfl):PI X tg (.Call (.Name "range" p) [a] [] pos) (iRng1 ta):=by
  intro pins s σ H R I h
  refine Call_ (ld_blt I hg hm boot_range (PyProof.Rows.callWith_type1 (thn (ha pos pins s σ H _ I h) fun us s1 ⟨vs,H1,I1,r1,q1⟩=>?_) hs rfl))
  obtain ⟨j,e,q1,q2,q⟩:=q1
  subst e
  cases r1 with
  | cons r rr =>
    cases rr
    obtain ⟨t,rfl⟩:=r
    exact call_range_1 (range_it I1 (by omega) (by omega) q1 q2 (by simpa using q))
theorem pi_range2 {a b:Expr} {ta:TA} {p pos:Pos} (hg:Gl X "range") (hm:X.mg "range" = none) (ha:PA X [a,b] ta) (hs:starEach [a,b] X.env=[(false,eval a X.env),(false,eval b X.env)]:=by rfl) (hs2:starEach [b] X.env=[(false,eval b X.env)]:=by rfl) :
    PI X tg (.Call (.Name "range" p) [a,b] [] pos) (iRng2 ta):=by
  intro pins s σ H R I h
  refine Call_ (ld_blt I hg hm boot_range (PyProof.Rows.callWith_type1 (thn (ha pos pins s σ H _ I h) fun us s1 ⟨vs,H1,I1,r1,q1⟩=>?_) (by rw [hs,hs2]) (by rw [hs2]; rfl)))
  obtain ⟨i,j,e,⟨q1,q2,q3,q4⟩,q⟩:=q1
  subst e
  cases r1 with
  | cons r rr =>
    cases rr with
    | cons r' rr =>
      cases rr
      obtain ⟨t,rfl⟩:=r
      obtain ⟨t',rfl⟩:=r'
      exact call_range_2 (range_it I1 q1 q2 q3 q4 q)
def tFor (wi:TI) (g:TG) (tb:TS):TS:=fun D σ H=>wi σ H fun J H1=>∃ W:Nat→Nat→St→Hp→Prop,(∃ m,W 0 m σ H1)∧∀ i m σ H,W i m σ H →
  (J.stop i H∧D.nx σ H)∨(J.go i H∧∃ N:St→Hp→Prop,(∀ σ' H',N σ' H'→∃ m',m' < m∧W (i+1) m' σ' H')∧∀ x H',J.yld i H x H'→g x σ H' fun σ2 H2=>tb { D with nx:=N,ct:=N,bk:=D.nx } σ2 H2)
def pinsAt (fp:List Addr) (h:Heap):List (Addr × Obj):=fp.filterMap fun b=>(h.get? b).map fun o=>(b,o)
theorem mem_pinsAt {fp:List Addr} {h:Heap} {b:Addr} {o:Obj} (hb:b ∈ fp) (e:h.get? b=some o):(b,o) ∈ pinsAt fp h:=List.mem_filterMap.mpr ⟨b,hb,by rw [e]; rfl⟩
theorem of_pinsAt {fp:List Addr} {h:Heap} {p:Addr × Obj} (hp:p ∈ pinsAt fp h):p.1 ∈ fp∧h.get? p.1=some p.2:=by
  obtain ⟨b,hb,e⟩:=List.mem_filterMap.mp hp
  cases q:h.get? b with
  | none=>rw [q] at e; cases e
  | some o =>
    rw [q] at e
    have e':(b,o)=p:=Option.some.inj e
    subst e'
    exact ⟨hb,q⟩
theorem Inv.pinned {pins:List (Addr × Obj)} {σ:St} {H:Hp} {s:Shared} {fp:List Addr} (I:Inv X pins σ H s) (hf:∀ b ∈ fp,FpOk X pins H b) (ho:∀ b ∈ fp,∃ o,s.heap.get? b=some o∧∀ v,o.data ≠ .cell v):Inv X (pins++pinsAt fp s.heap) σ H s :=
  I.pins_of fun p hp=>(List.mem_append.mp hp).elim (fun z=>I.pin p (List.mem_append_right _ z)) fun z=>by
    obtain ⟨hb,e⟩:=of_pinsAt z
    obtain ⟨f0,f1,f2,_⟩:=hf p.1 hb
    obtain ⟨o,e',d⟩:=ho p.1 hb
    rw [e] at e'; cases e'
    exact ⟨e,f0,f1,f2,d⟩
theorem Inv.unpinned {pins pl:List (Addr × Obj)} {σ:St} {H:Hp} {s:Shared} (I:Inv X (pins++pl) σ H s):Inv X pins σ H s:=I.pins_of fun p hp=>I.pin p (List.mem_append_right _ (List.mem_append_left _ hp))
theorem ps_for {iter:Expr} {body:List Stmt} {wi:TI} {g:TG} {tb:TS} {pos:Pos} (hp:PassesOwn (model X.prog X.w) X.A X.env X.xe) (hc:X.calm=true) (hi:PI X tg iter wi) (hg:PG X tg g) (hb:PSs X body tb)
    (hs:∀ x,foldedSetIterable iter X.env x=pure x:=by intro _; rfl):PS X (.For tg iter body [] pos) (tFor wi g tb):=by
  intro pins s σ H D I h
  refine wpAny_For (thn (hi pins s σ H _ I h) fun v s1 h1=>thn h1 fun itv s2 h2=>?_) hs
  obtain ⟨it,fp,tn,J,H2,e,I2,T,st2,f2,W,⟨m0,w0⟩,turn⟩:=h2
  subst e
  have stat:∀ {H':Hp},(∀ b ∈ fp,H' b=none)→∀ b ∈ fp,FpOk X pins H' b:=fun hn b hb=>⟨hn b hb,(f2 b hb).2⟩
  refine codeAny_forLoop_any (fun n s'=>∃ i σ' H',Inv X pins σ' H' s'∧tn i s'.heap∧(∀ b ∈ fp,H' b=none)∧W i n σ' H') ?_ m0 ⟨0,σ,H2,I2,st2,fun b hb=>(f2 b hb).1,w0⟩
  rintro n s3 ⟨i,σ3,H3,I3,st3,fr3,w3⟩
  rcases turn i n σ3 H3 w3 with ⟨stop,qn⟩ | ⟨go,N,hN,step⟩
  · refine wpAny_passesOwn hp (thn (T.done X rfl rfl rfl hc i pins s3 σ3 H3 X.xe I3 (stat fr3) st3 stop) fun r s4 ⟨hr,I4⟩=>?_)
    subst hr
    exact wpAny_execs_nil ⟨σ3,H3,I4,qn⟩
  · refine wpAny_passesOwn hp (thn (T.item X rfl rfl rfl hc i pins s3 σ3 H3 X.xe I3 (stat fr3) st3 go) fun r s4 ⟨u,hr,h4⟩=>?_)
    subst hr
    refine wpAny_passesOwn hp (thn h4 fun _ s5 ⟨x,H5,I5,r5,y5,st5,fr5⟩=>?_)
    have I5':=I5.pinned (stat fr5) (T.obj _ _ st5)
    refine wpAny_passesOwn hp (thn (hg _ s5 σ3 H5 x u _ I5' r5 (step x H5 y5)) fun _ s6 ⟨σ6,H6,I6,q6⟩=>?_)
    refine wpAny_passesOwn hp (thn (hb _ s6 σ6 H6 _ I6 q6) fun f s7 q7=>?_)
    have again:∀ {σ7:St} {H7:Hp},Inv X (pins++pinsAt fp s5.heap) σ7 H7 s7→N σ7 H7→∃ m,m < n∧∃ i σ' H',Inv X pins σ' H' s7∧tn i s7.heap∧(∀ b ∈ fp,H' b=none)∧W i m σ' H':=fun {σ7 H7} I7 n7=>by
      obtain ⟨m',hm,w7⟩:=hN σ7 H7 n7
      refine ⟨m',hm,i+1,σ7,H7,I7.unpinned,T.keep _ _ _ st5 fun b hb o e=>(I7.pin (b,o) (List.mem_append_right _ (List.mem_append_right _ (mem_pinsAt hb e)))).1,fun b hb=>?_,w7⟩
      obtain ⟨o,e,d⟩:=T.obj _ _ st5 b hb
      exact (I7.pin (b,o) (List.mem_append_right _ (List.mem_append_right _ (mem_pinsAt hb e)))).2.1
    cases f with
    | next=>obtain ⟨σ7,H7,I7,n7⟩:=q7; exact again I7 n7
    | cont=>obtain ⟨σ7,H7,I7,n7⟩:=q7; exact again I7 n7
    | brk=>obtain ⟨σ7,H7,I7,q7⟩:=q7; exact ⟨σ7,H7,I7.unpinned,q7⟩
    | ret v=>obtain ⟨x7,σ7,H7,I7,r7,q7⟩:=q7; exact ⟨x7,σ7,H7,I7.unpinned,r7,q7⟩
end
theorem for_list {K:PySem.W.Frag} {a:Addr} {xs:List V} {g:TG} {tb:TS} {D:Ends} {σ:St} {H:Hp} (Pv:Nat→St→Hp→Prop) (h0:Pv 0 σ H) (hl:∀ i σ H,i≤xs.length→Pv i σ H→SqL K H a xs)
    (hs:∀ i x σ H,xs[i]?=some x→Pv i σ H→g x σ H fun σ2 H2=>tb { D with nx:=Pv (i+1),ct:=Pv (i+1),bk:=D.nx } σ2 H2) (hd:∀ σ H,Pv xs.length σ H→D.nx σ H) :
    ∃ W:Nat→Nat→St→Hp→Prop,(∃ m,W 0 m σ H)∧∀ i m σ H,W i m σ H →
      ((Itl K a).stop i H∧D.nx σ H)∨((Itl K a).go i H∧∃ N:St→Hp→Prop,(∀ σ' H',N σ' H'→∃ m',m' < m∧W (i+1) m' σ' H')∧∀ x H',(Itl K a).yld i H x H'→g x σ H' fun σ2 H2=>tb { D with nx:=N,ct:=N,bk:=D.nx } σ2 H2):=by
  refine ⟨fun i m σ H=>m=xs.length - i∧i≤xs.length∧Pv i σ H,⟨xs.length,by simp,Nat.zero_le _,h0⟩,?_⟩
  rintro i m σ H ⟨rfl,hi,p⟩
  have q:=hl i σ H hi p
  by_cases hlt:i < xs.length
  · refine .inr ⟨⟨xs,xs[i],q,by simp [hlt]⟩,Pv (i+1),fun σ' H' p'=>⟨xs.length - (i+1),by omega,rfl,hlt,p'⟩,fun x H' y=>?_⟩
    obtain ⟨e,y⟩:=y
    subst e
    exact hs i x σ _ (y xs q) p
  · have e:i=xs.length:=by omega
    subst e
    exact .inl ⟨⟨xs,q,Nat.le_refl _⟩,hd σ H p⟩
theorem for_tup {K:PySem.W.Frag} {a:Addr} {xs:List V} {g:TG} {tb:TS} {D:Ends} {σ:St} {H:Hp} (Pv:Nat→St→Hp→Prop) (h0:Pv 0 σ H) (hl:∀ i σ H,i≤xs.length→Pv i σ H→SqT K H a xs)
    (hs:∀ i x σ H,xs[i]?=some x→Pv i σ H→g x σ H fun σ2 H2=>tb { D with nx:=Pv (i+1),ct:=Pv (i+1),bk:=D.nx } σ2 H2) (hd:∀ σ H,Pv xs.length σ H→D.nx σ H) :
    ∃ W:Nat→Nat→St→Hp→Prop,(∃ m,W 0 m σ H)∧∀ i m σ H,W i m σ H →
      ((Itt K a).stop i H∧D.nx σ H)∨((Itt K a).go i H∧∃ N:St→Hp→Prop,(∀ σ' H',N σ' H'→∃ m',m' < m∧W (i+1) m' σ' H')∧∀ x H',(Itt K a).yld i H x H'→g x σ H' fun σ2 H2=>tb { D with nx:=N,ct:=N,bk:=D.nx } σ2 H2):=by
  refine ⟨fun i m σ H=>m=xs.length - i∧i≤xs.length∧Pv i σ H,⟨xs.length,by simp,Nat.zero_le _,h0⟩,?_⟩
  rintro i m σ H ⟨rfl,hi,p⟩
  have q:=hl i σ H hi p
  by_cases hlt:i < xs.length
  · refine .inr ⟨⟨xs,xs[i],q,by simp [hlt]⟩,Pv (i+1),fun σ' H' p'=>⟨xs.length - (i+1),by omega,rfl,hlt,p'⟩,fun x H' y=>?_⟩
    obtain ⟨e,y⟩:=y
    subst e
    exact hs i x σ _ (y xs q) p
  · have e:i=xs.length:=by omega
    subst e
    exact .inl ⟨⟨xs,q,Nat.le_refl _⟩,hd σ H p⟩
theorem for_range {lo:Int} {n:Nat} {g:TG} {tb:TS} {D:Ends} {σ:St} {H:Hp} (Pv:Nat→St→Hp→Prop) (h0:Pv 0 σ H)
    (hs:∀ i σ H,i < n→Pv i σ H→g (.int (lo+i)) σ H fun σ2 H2=>tb { D with nx:=Pv (i+1),ct:=Pv (i+1),bk:=D.nx } σ2 H2) (hd:∀ σ H,Pv n σ H→D.nx σ H) :
    ∃ W:Nat→Nat→St→Hp→Prop,(∃ m,W 0 m σ H)∧∀ i m σ H,W i m σ H →
      ((Itr lo n).stop i H∧D.nx σ H)∨((Itr lo n).go i H∧∃ N:St→Hp→Prop,(∀ σ' H',N σ' H'→∃ m',m' < m∧W (i+1) m' σ' H')∧∀ x H',(Itr lo n).yld i H x H'→g x σ H' fun σ2 H2=>tb { D with nx:=N,ct:=N,bk:=D.nx } σ2 H2):=by
  refine ⟨fun i m σ H=>m=n - i∧i≤n∧Pv i σ H,⟨n,by simp,Nat.zero_le _,h0⟩,?_⟩
  rintro i m σ H ⟨rfl,hi,p⟩
  by_cases hlt:i < n
  · refine .inr ⟨hlt,Pv (i+1),fun σ' H' p'=>⟨n - (i+1),by omega,rfl,hlt,p'⟩,fun x H' y=>?_⟩
    obtain ⟨e,y⟩:=y
    subst e y
    exact hs i σ _ hlt p
  · have e:i=n:=by omega
    subst e
    exact .inl ⟨Nat.le_refl _,hd σ H p⟩
end L2
namespace L2
open PySem PySem.Spec PyProof.Rows
abbrev R2:=V→V→Hp→VK→Prop
def OpR (X:Cx) (f:Value→Value→Sem Value) (r:R2):Prop :=
  ∀ (pins:List (Addr × Obj)) (s:Shared) (σ:St) (H:Hp) (x y:V) (v u:Value) (Q:VK),Inv X pins σ H s→RelV x v→RelV y u→r x y H Q →
    wpAny (model X.prog X.w) X.A (f v u) (EP X pins σ Q) X.xe s
def UnR (X:Cx) (f:Value→Sem Value) (r:V→Hp→VK→Prop):Prop :=
  ∀ (pins:List (Addr × Obj)) (s:Shared) (σ:St) (H:Hp) (x:V) (v:Value) (Q:VK),Inv X pins σ H s→RelV x v→r x H Q →
    wpAny (model X.prog X.w) X.A (f v) (EP X pins σ Q) X.xe s
def CallR (X:Cx) (f:Value) (r:List V→Hp→VK→Prop):Prop :=
  ∀ (pins:List (Addr × Obj)) (s:Shared) (σ:St) (H:Hp) (xs:List V) (us:List Value) (Q:VK),Inv X pins σ H s→Vals xs us→r xs H Q →
    wpAny (model X.prog X.w) X.A (call f us) (EP X pins σ Q) X.xe s
def TruR (X:Cx) (r:V→Hp→(Bool→Hp→Prop)→Prop):Prop :=
  ∀ (pins:List (Addr × Obj)) (s:Shared) (σ:St) (H:Hp) (x:V) (v:Value) (Q:Bool→Hp→Prop),Inv X pins σ H s→RelV x v→r x H Q →
    wpAny (model X.prog X.w) X.A (truthy v) (TP X pins σ Q) X.xe s
def tOp (r:R2) (ta tb:TE):TE:=fun σ H Q=>ta σ H fun x H1=>tb σ H1 fun y H2=>r x y H2 Q
def tUn (r:V→Hp→VK→Prop) (ta:TE):TE:=fun σ H Q=>ta σ H fun x H1=>r x H1 Q
def rI (C:Int→Int→Prop) (g:Int→Int→V):R2:=fun x y H Q=>∃ i j,x=.int i∧y=.int j∧C i j∧Q (g i j) H
def rI0 (g:Int→Int→V):R2:=fun x y H Q=>∃ i j,x=.int i∧y=.int j∧Q (g i j) H
def rU (g:Int→V):V→Hp→VK→Prop:=fun x H Q=>∃ i,x=.int i∧Q (g i) H
section
variable {X:Cx} {a b c:Expr} {ta tb tc:TE} {pos:Pos}
theorem binT (ha:PE X a ta) (hb:PE X b tb) {pins:List (Addr × Obj)} {s:Shared} {σ:St} {H:Hp} {R:V→V→Hp→Prop} (I:Inv X pins σ H s)
    (h:ta σ H fun x H1=>tb σ H1 fun y H2=>R x y H2) {Q:Value→Shared→Prop} {f:Value→Value→Sem Value}
    (hf:∀ v u s2 x y H2,Inv X pins σ H2 s2→RelV x v→RelV y u→R x y H2→wpAny (model X.prog X.w) X.A (f v u) Q X.xe s2) :
    wpAny (model X.prog X.w) X.A (eval a X.env) (fun v s₁=>wpAny (model X.prog X.w) X.A (eval b X.env) (fun u s₂=>wpAny (model X.prog X.w) X.A (f v u) Q X.xe s₂) X.xe s₁) X.xe s:=by
  refine thn (ha pins s σ H _ I h) fun v s1 ⟨x,H1,I1,r1,q1⟩=>?_
  refine thn (hb pins s1 σ H1 _ I1 q1) fun u s2 ⟨y,H2,I2,r2,q2⟩=>?_
  exact hf v u s2 x y H2 I2 r1 r2 q2
theorem pe_op {op:Operator} {r:R2} (ho:OpR X (binaryOp op) r) (ha:PE X a ta) (hb:PE X b tb):PE X (.BinOp a op b pos) (tOp r ta tb):=by
  intro pins s σ H Q I h
  exact wpAny_BinOp (binT ha hb I h fun v u s2 x y H2 I2 rx ry q=>ho pins s2 σ H2 x y v u Q I2 rx ry q)
theorem opI {f:Value→Value→Sem Value} {C:Int→Int→Prop} {g:Int→Int→Int}
    (rule:∀ (i j:Int) (t u:Tok) (s:Shared) (Q:Value→Shared→Prop) (E:Value→Shared→Prop),C i j→Q (.int (g i j) s.toks) { s with toks:=s.toks+1 }→wpAny (model X.prog X.w) X.A (f (.int i t) (.int j u)) Q E s) :
    OpR X f (rI C fun i j=>.int (g i j)):=by
  intro pins s σ H x y v u Q I rx ry h
  obtain ⟨i,j,rfl,rfl,hc,q⟩:=h
  obtain ⟨t,rfl⟩:=rx
  obtain ⟨t',rfl⟩:=ry
  exact rule i j t t' s _ _ hc ⟨.int (g i j),H,I.tok _,⟨_,rfl⟩,q⟩
theorem opI0 {f:Value→Value→Sem Value} {g:Int→Int→Int}
    (rule:∀ (i j:Int) (t u:Tok) (s:Shared) (Q:Value→Shared→Prop) (E:Value→Shared→Prop),Q (.int (g i j) s.toks) { s with toks:=s.toks+1 }→wpAny (model X.prog X.w) X.A (f (.int i t) (.int j u)) Q E s) :
    OpR X f (rI0 fun i j=>.int (g i j)):=by
  intro pins s σ H x y v u Q I rx ry h
  obtain ⟨i,j,rfl,rfl,q⟩:=h
  obtain ⟨t,rfl⟩:=rx
  obtain ⟨t',rfl⟩:=ry
  exact rule i j t t' s _ _ ⟨.int (g i j),H,I.tok _,⟨_,rfl⟩,q⟩
theorem opB0 {f:Value→Value→Sem Value} {g:Int→Int→Bool}
    (rule:∀ (i j:Int) (t u:Tok) (s:Shared) (Q:Value→Shared→Prop) (E:Value→Shared→Prop),Q (.bool (g i j)) s→wpAny (model X.prog X.w) X.A (f (.int i t) (.int j u)) Q E s) :
    OpR X f (rI0 fun i j=>.bl (g i j)):=by
  intro pins s σ H x y v u Q I rx ry h
  obtain ⟨i,j,rfl,rfl,q⟩:=h
  obtain ⟨t,rfl⟩:=rx
  obtain ⟨t',rfl⟩:=ry
  exact rule i j t t' s _ _ ⟨.bl (g i j),H,I,rfl,q⟩
def CDiv (i j:Int):Prop:=0 < j∧j < 1073741824
def CDivN (i j:Int):Prop:=j ≠ 0∧j.natAbs < 1073741824
def CPow (i j:Int):Prop:=0≤j∧j≤1000000∧i.natAbs < 2 ^ 64
def CMul (i j:Int):Prop:=(-(2 ^ 64) < i∧i < 2 ^ 64)∨(-(2 ^ 64) < j∧j < 2 ^ 64)
theorem CMul.ok {i j:Int} (h:CMul i j):IntMulOk i j:=by
  rcases h with ⟨h1,h2⟩ | ⟨h1,h2⟩
  · exact .of_left (intBits_le_64 h1 h2)
  · exact .of_right (intBits_le_64 h1 h2)
theorem op_add:OpR X (binaryOp .Add) (rI0 fun i j=>.int (i+j)):=opI0 fun _ _ _ _ _ _ _ q=>add_int q
theorem op_sub:OpR X (binaryOp .Sub) (rI0 fun i j=>.int (i - j)):=opI0 fun _ _ _ _ _ _ _ q=>sub_int q
theorem op_mul:OpR X (binaryOp .Mult) (rI CMul fun i j=>.int (i*j)):=opI fun _ _ _ _ _ _ _ hc q=>mul_int q hc.ok
theorem op_fdiv:OpR X (binaryOp .FloorDiv) (rI CDiv fun i j=>.int (i / j)):=opI fun i j _ _ _ _ _ hc q=>by
  have h1:(0:Int) < j:=hc.1
  have h2:j < 1073741824:=hc.2
  exact floordiv_int (by omega) (by rw [Int.fdiv_eq_ediv_of_nonneg i (by omega)]; exact q) (.inl (PyProof.noPylong_small (by omega)))
theorem op_mod:OpR X (binaryOp .Mod) (rI (fun _ j=>0 < j) fun i j=>.int (i % j)):=opI fun i j _ _ _ _ _ hc q=>by
  have h1:(0:Int) < j:=hc
  exact mod_int' (by omega) (by rw [Int.fmod_eq_emod_of_nonneg i (by omega)]; exact q)
theorem op_pow:OpR X (binaryOp .Pow) (rI CPow fun i j=>.int (i ^ j.toNat)):=opI fun _ _ _ _ _ _ _ hc q=>pow_int_small hc.1 hc.2.1 hc.2.2 q
end
def scal:V→V→Bool
  | .non,.non=>true | .non,.int _=>true | .int _,.non=>true | .non,.bl _=>true | .bl _,.non=>true | .non,.str _=>true | .str _,.non=>true
  | .int _,.int _=>true | .bl _,.bl _=>true | .str _,.str _=>true | .byt _,.byt _=>true
  | .int _,.str _=>true | .str _,.int _=>true | .bl _,.str _=>true | .str _,.bl _=>true
  | _,_=>false
def rEq:R2:=fun x y H Q=>scal x y=true∧Q (.bl (decide (x=y))) H
def rNe:R2:=fun x y H Q=>scal x y=true∧Q (.bl (!decide (x=y))) H
theorem dec_int {i j:Int}:decide (V.int i=V.int j)=(i == j):=by
  rw [Bool.eq_iff_iff]
  simp
theorem dec_bl {i j:Bool}:decide (V.bl i=V.bl j)=(i == j):=by
  rw [Bool.eq_iff_iff]
  simp
theorem dec_str {i j:Str}:decide (V.str i=V.str j)=(i == j):=by
  rw [Bool.eq_iff_iff]
  simp
theorem dec_byt {i j:Array UInt8}:decide (V.byt i=V.byt j)=(i.toList == j.toList):=by
  rw [Bool.eq_iff_iff]
  cases i
  cases j
  simp
section
variable {X:Cx} {a b c:Expr} {ta tb tc:TE} {pos:Pos}
theorem fin_bl {pins:List (Addr × Obj)} {σ:St} {H:Hp} {s:Shared} {Q:VK} {k k':Bool} (I:Inv X pins σ H s) (q:Q (.bl k) H) (e:k=k'):EP X pins σ Q (.bool k') s:=by
  subst e
  exact ⟨.bl k,H,I,rfl,q⟩
theorem op_eq:OpR X (compareOp .Eq) rEq:=by
  intro pins s σ H x y v u Q I rx ry h
  obtain ⟨hs,q⟩:=h
  cases x with
  | non =>
    cases rx
    cases y with
    | non=>cases ry; exact PySem.EqNone.eq_none_none (fin_bl I q (by simp))
    | bl j=>cases ry; exact PySem.EqNone.eq_none_bool (fin_bl I q (by simp))
    | int j=>obtain ⟨t',rfl⟩:=ry; exact PySem.EqNone.eq_none_int (fin_bl I q (by simp))
    | str j=>obtain ⟨t',rfl⟩:=ry; exact PySem.EqNone.eq_none_str (fin_bl I q (by simp))
    | _=>exact absurd (show false=true from hs) Bool.false_ne_true
  | bl i =>
    cases rx
    cases y with
    | non=>cases ry; exact PySem.EqNone.eq_bool_none (fin_bl I q (by simp))
    | bl j=>cases ry; exact eq_bool (fin_bl I q dec_bl)
    | str j=>obtain ⟨t',rfl⟩:=ry; exact PySem.EqMixed.eq_bool_str (fin_bl I q (by simp))
    | _=>exact absurd (show false=true from hs) Bool.false_ne_true
  | int i =>
    obtain ⟨t,rfl⟩:=rx
    cases y with
    | non=>cases ry; exact PySem.EqNone.eq_int_none (fin_bl I q (by simp))
    | int j=>obtain ⟨t',rfl⟩:=ry; exact eq_int (fin_bl I q dec_int)
    | str j=>obtain ⟨t',rfl⟩:=ry; exact PySem.EqMixed.eq_int_str (fin_bl I q (by simp))
    | _=>exact absurd (show false=true from hs) Bool.false_ne_true
  | str i =>
    obtain ⟨t,rfl⟩:=rx
    cases y with
    | non=>cases ry; exact PySem.EqNone.eq_str_none (fin_bl I q (by simp))
    | bl j=>cases ry; exact PySem.EqMixed.eq_str_bool (fin_bl I q (by simp))
    | int j=>obtain ⟨t',rfl⟩:=ry; exact PySem.EqMixed.eq_str_int (fin_bl I q (by simp))
    | str j=>obtain ⟨t',rfl⟩:=ry; exact eq_str (fin_bl I q dec_str)
    | _=>exact absurd (show false=true from hs) Bool.false_ne_true
  | byt i =>
    obtain ⟨t,rfl⟩:=rx
    cases y with
    | byt j=>obtain ⟨t',rfl⟩:=ry; exact PySem.W.eq_bytes (fin_bl I q dec_byt)
    | _=>exact absurd (show false=true from hs) Bool.false_ne_true
  | _=>cases y <;> exact absurd (show false=true from hs) Bool.false_ne_true
theorem op_ne:OpR X (compareOp .NotEq) rNe:=by
  intro pins s σ H x y v u Q I rx ry h
  obtain ⟨hs,q⟩:=h
  cases x with
  | non =>
    cases rx
    cases y with
    | non=>cases ry; exact PySem.EqNone.ne_none_none (fin_bl I q (by simp))
    | bl j=>cases ry; exact PySem.EqNone.ne_none_bool (fin_bl I q (by simp))
    | int j=>obtain ⟨t',rfl⟩:=ry; exact PySem.EqNone.ne_none_int (fin_bl I q (by simp))
    | str j=>obtain ⟨t',rfl⟩:=ry; exact PySem.EqNone.ne_none_str (fin_bl I q (by simp))
    | _=>exact absurd (show false=true from hs) Bool.false_ne_true
  | bl i =>
    cases rx
    cases y with
    | non=>cases ry; exact PySem.EqNone.ne_bool_none (fin_bl I q (by simp))
    | bl j=>cases ry; exact ne_bool (fin_bl I q (congrArg not dec_bl))
    | str j=>obtain ⟨t',rfl⟩:=ry; exact PySem.EqMixed.ne_bool_str (fin_bl I q (by simp))
    | _=>exact absurd (show false=true from hs) Bool.false_ne_true
  | int i =>
    obtain ⟨t,rfl⟩:=rx
    cases y with
    | non=>cases ry; exact PySem.EqNone.ne_int_none (fin_bl I q (by simp))
    | int j=>obtain ⟨t',rfl⟩:=ry; exact ne_int (fin_bl I q (congrArg not dec_int))
    | str j=>obtain ⟨t',rfl⟩:=ry; exact PySem.EqMixed.ne_int_str (fin_bl I q (by simp))
    | _=>exact absurd (show false=true from hs) Bool.false_ne_true
  | str i =>
    obtain ⟨t,rfl⟩:=rx
    cases y with
    | non=>cases ry; exact PySem.EqNone.ne_str_none (fin_bl I q (by simp))
    | bl j=>cases ry; exact PySem.EqMixed.ne_str_bool (fin_bl I q (by simp))
    | int j=>obtain ⟨t',rfl⟩:=ry; exact PySem.EqMixed.ne_str_int (fin_bl I q (by simp))
    | str j=>obtain ⟨t',rfl⟩:=ry; exact ne_str (fin_bl I q (congrArg not dec_str))
    | _=>exact absurd (show false=true from hs) Bool.false_ne_true
  | byt i =>
    obtain ⟨t,rfl⟩:=rx
    cases y with
    | byt j=>obtain ⟨t',rfl⟩:=ry; exact PySem.W.ne_bytes (fin_bl I q (congrArg not dec_byt))
    | _=>exact absurd (show false=true from hs) Bool.false_ne_true
  | _=>cases y <;> exact absurd (show false=true from hs) Bool.false_ne_true
theorem op_lt:OpR X (compareOp .Lt) (rI0 fun i j=>.bl (decide (i < j))):=opB0 fun _ _ _ _ _ _ _ q=>lt_int q
theorem op_le:OpR X (compareOp .LtE) (rI0 fun i j=>.bl (decide (i≤j))):=opB0 fun _ _ _ _ _ _ _ q=>le_int q
theorem op_gt:OpR X (compareOp .Gt) (rI0 fun i j=>.bl (decide (j < i))):=opB0 fun _ _ _ _ _ _ _ q=>gt_int q
theorem op_ge:OpR X (compareOp .GtE) (rI0 fun i j=>.bl (decide (j≤i))):=opB0 fun _ _ _ _ _ _ _ q=>ge_int q
def isObj:HO→Bool
  | .lst _=>true
  | .ins _ _ _=>true
  | _=>false
theorem nomark (b:Expr) {op:CmpOp} (h:op ≠ .In:=by decide) (h2:op ≠ .NotIn:=by decide):behindInMarks op b=false:=by
  have e1:(op == CmpOp.In)=false:=by cases op <;> first | rfl | exact absurd rfl h
  have e2:(op == CmpOp.NotIn)=false:=by cases op <;> first | rfl | exact absurd rfl h2
  cases b <;> simp [behindInMarks,e1,e2]
theorem pe_cmpR {op:CmpOp} {r:R2} (ho:OpR X (compareOp op) r) (ha:PE X a ta) (hb:PE X b tb) (hm:behindInMarks op b=false):PE X (.Compare a [op] [b] pos) (tOp r ta tb):=by
  intro pins s σ H Q I h
  exact wpAny_Compare1 (binT ha hb I h fun v u s2 x y H2 I2 rx ry q=>ho pins s2 σ H2 x y v u Q I2 rx ry q) hm
def tTest (t:TE):TT:=fun σ H Q=>t σ H fun x H'=>∃ k,x=.bl k∧Q k H'
theorem pt_cmpR {op:CmpOp} {r:R2} (ho:OpR X (compareOp op) r) (ha:PE X a ta) (hb:PE X b tb) (hm:behindInMarks op b=false):PT X (.Compare a [op] [b] pos) (tTest (tOp r ta tb)):=by
  intro pins s σ H Q I h
  refine wpAny_isTrue_Compare1 (thn (ha pins s σ H _ I h) fun v s1 ⟨x,H1,I1,r1,q1⟩=>thn (hb pins s1 σ H1 _ I1 q1) fun u s2 ⟨y,H2,I2,r2,q2⟩ =>
    thn (ho pins s2 σ H2 x y v u _ I2 r1 r2 q2) fun c s3 ⟨z,H3,I3,r3,k,e,q3⟩=>?_) hm
  subst e
  cases r3
  exact wpAny_truthy_bool ⟨H3,I3,q3⟩
def tChain (r r':R2) (ta tb tc:TE):TE:=fun σ H Q=>ta σ H fun x H1=>tb σ H1 fun y H2=>r x y H2 fun z H3=>∃ k,z=.bl k ∧
  (if k=true then tc σ H3 fun w' H4=>r' y w' H4 Q else Q (.bl false) H3)
def TruV (K:PySem.W.Frag) (x:V) (H:Hp) (k:Bool):Prop :=
  match x with
  | .non=>k=false
  | .bl b=>k=b
  | .int i=>k=(i != 0)
  | .str y=>y.length≤sizeLine∧k=((y.length:Int) != 0)
  | .byt y=>y.size≤sizeLine∧k=((y.size:Int) != 0)
  | .ref p=>(∃ xs,SqL K H p xs∧k=!xs.isEmpty)∨(∃ xs,SqT K H p xs∧k=!xs.isEmpty)∨∃ kvs,H p=some (.dK kvs)∧k=!kvs.isEmpty
  | _=>False
theorem line63:(sizeLine:Nat) < 2 ^ 63:=by rw [sizeLine_eq]; decide
theorem op_add_str:OpR X (binaryOp .Add) (fun x y H Q=>∃ i j,x=.str i∧y=.str j∧i.length+j.length≤sizeLine∧Q (.str (i++j)) H):=by
  intro pins s σ H x y v u Q I rx ry h
  obtain ⟨i,j,rfl,rfl,hz,q⟩:=h
  obtain ⟨t,rfl⟩:=rx
  obtain ⟨t',rfl⟩:=ry
  exact add_str (fun t' tk=>⟨.str (i++j),H,I.tok _,⟨_,rfl⟩,q⟩) hz
def PlainIxT (b:Expr):Prop:=∀ o i,subscripted b false o i=operate [o,i] (getItem o i)
theorem vals1 {x:V} {us:List Value} (r:Vals [x] us):∃ u,us=[u]∧RelV x u:=by
  cases r with
  | cons r1 r2=>cases r2; exact ⟨_,rfl,r1⟩
theorem vals2 {x y:V} {us:List Value} (r:Vals [x,y] us):∃ u w',us=[u,w']∧RelV x u∧RelV y w':=by
  cases r with
  | cons r1 r2 =>
    cases r2 with
    | cons r3 r4=>cases r4; exact ⟨_,_,rfl,r1,r3⟩
theorem call_max2 (hc:X.calm=true):CallR X (.builtin "max") (fun xs H Q=>∃ i j,xs=[.int i,.int j]∧Q (.int (if j > i then j else i)) H):=by
  intro pins s σ H xs us Q I r h
  obtain ⟨i,j,rfl,q⟩:=h
  obtain ⟨u,w',rfl,⟨t,rfl⟩,⟨t',rfl⟩⟩:=vals2 r
  refine max_two_ints (I.ok.hd hc) fun h' tk k=>⟨_,H,I.kept k,?_,q⟩
  by_cases hj:j > i
  · rw [if_pos hj,if_pos hj]; exact ⟨_,rfl⟩
  · rw [if_neg hj,if_neg hj]; exact ⟨_,rfl⟩
theorem call_min2 (hc:X.calm=true):CallR X (.builtin "min") (fun xs H Q=>∃ i j,xs=[.int i,.int j]∧Q (.int (if j < i then j else i)) H):=by
  intro pins s σ H xs us Q I r h
  obtain ⟨i,j,rfl,q⟩:=h
  obtain ⟨u,w',rfl,⟨t,rfl⟩,⟨t',rfl⟩⟩:=vals2 r
  refine min_two_ints (I.ok.hd hc) fun h' tk k=>⟨_,H,I.kept k,?_,q⟩
  by_cases hj:j < i
  · rw [if_pos hj,if_pos hj]; exact ⟨_,rfl⟩
  · rw [if_neg hj,if_neg hj]; exact ⟨_,rfl⟩
theorem call_int1:CallR X (.type "int") (fun xs H Q=>(∃ i,xs=[.int i]∧Q (.int i) H)∨∃ k,xs=[.bl k]∧Q (.int (if k then 1 else 0)) H):=by
  intro pins s σ H xs us Q I r h
  rcases h with ⟨i,rfl,q⟩ | ⟨k,rfl,q⟩
  · obtain ⟨u,rfl,t,rfl⟩:=vals1 r
    exact call_int_int ⟨.int i,H,I,⟨_,rfl⟩,q⟩
  · obtain ⟨u,rfl,r1⟩:=vals1 r
    cases r1
    exact call_int_bool ⟨.int (if k then 1 else 0),H,I.tok _,⟨_,rfl⟩,q⟩
def LenV (K:PySem.W.Frag) (x:V) (H:Hp) (n:Nat):Prop :=
  match x with
  | .str y=>y.length≤sizeLine∧n=y.length
  | .byt y=>y.size≤sizeLine∧n=y.size
  | .ref p=>(∃ xs,SqL K H p xs∧n=xs.length)∨∃ xs,SqT K H p xs∧n=xs.length
  | _=>False
end
end L2
namespace L2
open PySem PySem.Spec PyProof.Rows
structure ObjM (h:Heap) (x dx C:Addr) (mA:Str→Option Value):Prop where
  obj:h.get? x=some (PySem.W.instObj C dx)
  ns:h.Ns1 dx mA
  ne:dx ≠ x
theorem lookIn_ns {h:Heap} {dx:Addr} {mA:Str→Option Value} (n:h.Ns1 dx mA):∃ od,h.get? dx=some od∧∀ name,PySem.W.lookIn name od=some (mA name):=by
  obtain ⟨o,es,ep,ho,hd,hk,_,hm⟩:=n
  refine ⟨o,ho,fun name=>?_⟩
  have e:=hm name
  unfold nsFind findBy at e
  rw [← Array.find?_toList] at e
  unfold PySem.W.lookIn
  rw [hd]
  dsimp only
  split
  · rename_i y q
    rw [q] at e
    exact congrArg some e
  · rename_i q
    rw [q] at e
    have a:es.toList.any (·.refKey)=false:=by
      rw [List.any_eq_false]
      intro y hy
      obtain ⟨z,t,hkey⟩:=hk y (Array.mem_toList_iff.mp hy)
      simp [DictEntry.refKey,hkey]
    have a':¬ es.toList.any (·.refKey)=true:=by rw [a]; exact Bool.false_ne_true
    rw [if_neg a']
    exact congrArg some e
theorem ObjM.look {h:Heap} {x dx C:Addr} {mA:Str→Option Value} (I:ObjM h x dx C mA):∃ od,PySem.W.InstAt h x (PySem.W.instObj C dx) C (some od)∧∀ name,PySem.W.lookIn name od=some (mA name) :=
  let ⟨od,ho,hl⟩:=lookIn_ns I.ns
  ⟨od,⟨I.obj,rfl,rfl,ho⟩,hl⟩
section
variable {prog:Program} {w:World} {A:Around} {E:Value→Shared→Prop} {s:Shared} {K:PySem.W.Frag} {x dx C f:Addr} {mA:Str→Option Value} {name:Str} {v:Value}
theorem get_map {expr:Bool} {Q:Value→Shared→Prop} (X:K.In s.heap) (I:ObjM s.heap x dx C mA) (hg:PySem.W.plainGet K C name=true) (hh:PySem.W.hasDictIn K C=true)
    (ha:PySem.W.findIn K (.ref C) name=some none) (hv:mA name=some v) (hv':PySem.W.handedIn v=true) (h:Q v { s with toks:=s.toks+1 }) :
    wpAny (model prog w) A (getAttr (.ref x) name expr) Q E s:=by
  obtain ⟨od,J,hl⟩:=I.look
  exact PySem.W.get_value X J (PySem.W.plainGet_of hg).1 (PySem.W.findObj_own hh ha rfl (by rw [hl,hv])) hv' h
theorem get_meth {pl:Sem Bool} {Q:Value × List Value→Shared→Prop} (X:K.In s.heap) (I:ObjM s.heap x dx C mA) (hg:PySem.W.plainGet K C name=true)
    (hf:PySem.W.findIn K (.ref C) name=some (some (.ref f))) (ht:PySem.W.isFn K (.ref f)=true) (hv:mA name=none) (h:Q (.ref f,[.ref x]) s) :
    wpAny (model prog w) A (getMethod (.ref x) name pl) Q E s:=by
  obtain ⟨od,J,hl⟩:=I.look
  exact PySem.W.method_fn X J (PySem.W.plainGet_of hg).1 (PySem.W.plainGet_of hg).2 hf (beq_iff_eq.mp ht) (by show (PySem.W.lookIn name od).map (·.isSome)=some false; rw [hl,hv]; rfl) h
theorem set_map {ns:List Str} {Q:Unit→Shared→Prop} (X:K.In s.heap) (I:ObjM s.heap x dx C mA)
    (hs:PySem.W.findIn K (.ref C) "__setattr__" = some (some (.builtin "object.__setattr__"))) (hp:PySem.W.plainOver K C=true) (ht:PySem.W.takerIn K C name=some none) (hh:PySem.W.hasDictIn K C=true)
    (hw:PySem.Within mA ns) (hsz:ns.length≤sizeLine)
    (h:∀ h',ObjM h' x dx C (fun y=>if y=name then some v else mA y)→Heap.SameBut dx s.heap h'→Q () { s with heap:=h',toks:=s.toks+2 }) :
    wpAny (model prog w) A (setAttr (.ref x) name v) Q E s:=by
  obtain ⟨od,J,hl⟩:=I.look
  refine PySem.W.set_plain X J hs (PySem.W.osa_open (s:={ s with toks:=s.toks+1 }) (r:=none) X J hp ht fun b=>?_)
  obtain ⟨cd,hc,hd'⟩:=PySem.W.any_some hh
  have hx:s.heap.get? x=some ⟨.ref C,some dx,.plain,#[]⟩:=I.obj
  refine wpAny_bind (wpAny_pure (wpAny_bind (wpAny_bind (wpAny_loadPart hx (wpAny_bind (PySem.W.Looks.here (s:={ s with toks:=s.toks+1 }) (PySem.W.looks_clsIn X hc) ?_))))))
  rw [hd']
  refine wpAny_pure (a:=some dx) (wpAny_bind (wpAny_pure (wpAny_bind ?_)))
  refine wpAny_nsSet1 (s:={ s with toks:=s.toks+1 }) I.ns fun h' hn2 hs2=>?_
  obtain ⟨oD,esD,epD,hoD,hdD,hcD⟩:=hn2.count (PySem.Within.cons name v hw)
  refine wpAny_bind (wpAny_lookBehind hoD (by rw [hdD]; exact pastItsLine_dict (Nat.le_trans hcD (by rw [List.length_cons]; omega))) ?_)
  exact wpAny_pure (h _ ⟨(hs2.2 _ (Ne.symm I.ne)).trans I.obj,hn2,I.ne⟩ hs2)
theorem make_map {R:Result→Shared→Prop} {vs:List Value} {kw:List (Str × Value)} (X:K.In s.heap) (hm:PySem.W.makesIn K C=true)
    (hi:PySem.W.findIn K (.ref C) "__init__" = some (some (.ref f))) (hf:PySem.W.typeIn K (.ref f)=some (.type "function"))
    (h:codeAny (model prog w) (A.under (.builtin "type.__call__" ⟨.ref C::vs,kw⟩)) (.call (.ref f) ⟨.ref (s.heap.objs.size+1)::vs,kw⟩) (PySem.W.InitBack (s.heap.objs.size+1) R)
      { s with heap:=(s.heap.push PySem.W.emptyDict).push (PySem.W.instObj C s.heap.objs.size) }) :
    codeAny (model prog w) A (.call (.ref C) ⟨vs,kw⟩) R s:=by
  obtain ⟨hh,g,d,t,os⟩:=s
  exact PySem.W.make_core (PySem.W.makes_of X hm) (PySem.W.looks_findIn X hi) (fun self=>PySem.W.bind_fn X self hf) (.inl rfl) h
end
def putF (f:Str) (v:V):List (Str × V)→List (Str × V)
  | []=>[(f,v)]
  | (g,x)::r=>if g=f then (g,v)::r else (g,x)::putF f v r
theorem lookup_putF (f g:Str) (v:V):∀ fs:List (Str × V),(putF f v fs).lookup g=if g=f then some v else fs.lookup g
  | []=>by
    show List.lookup g [(f,v)]=_
    by_cases h:g=f
    · have hb:(g == f)=true:=beq_iff_eq.mpr h
      simp only [List.lookup,hb,if_pos h]
    · have hb:(g == f)=false:=beq_eq_false_iff_ne.mpr h
      simp only [List.lookup,hb,if_neg h]
  | (k,x)::r=>by
    have ih:=lookup_putF f g v r
    rw [show putF f v ((k,x)::r)=(if k=f then (k,v)::r else (k,x)::putF f v r) from rfl]
    by_cases hk:k=f
    · rw [if_pos hk]
      by_cases h:g=k
      · have hb:(g == k)=true:=beq_iff_eq.mpr h
        simp only [List.lookup,hb,if_pos (h.trans hk)]
      · have hb:(g == k)=false:=beq_eq_false_iff_ne.mpr h
        simp only [List.lookup,hb,if_neg (fun e:g=f=>h (e.trans hk.symm))]
    · rw [if_neg hk]
      by_cases h:g=k
      · have hb:(g == k)=true:=beq_iff_eq.mpr h
        simp only [List.lookup,hb,if_neg (fun e:g=f=>hk (h.symm.trans e))]
      · have hb:(g == k)=false:=beq_eq_false_iff_ne.mpr h
        simp only [List.lookup,hb]
        exact ih
theorem keys_putF (f:Str) (v:V):∀ fs:List (Str × V),f ∈ (putF f v fs).map (·.1)∧∀ g,g ∈ fs.map (·.1)→g ∈ (putF f v fs).map (·.1)
  | []=>⟨by simp [putF],fun g h=>by simp at h⟩
  | (k,x)::r=>by
    obtain ⟨i1,i2⟩:=keys_putF f v r
    rw [show putF f v ((k,x)::r)=(if k=f then (k,v)::r else (k,x)::putF f v r) from rfl]
    by_cases hk:k=f
    · rw [if_pos hk]
      subst hk
      exact ⟨by simp,fun g h=>by simpa using h⟩
    · rw [if_neg hk]
      refine ⟨?_,fun g h=>?_⟩
      · rw [List.map_cons]
        exact List.mem_cons_of_mem _ i1
      · rw [List.map_cons] at h ⊢
        rcases List.mem_cons.mp h with e | e
        · exact List.mem_cons.mpr (.inl e)
        · exact List.mem_cons_of_mem _ (i2 g e)
theorem length_putF (f:Str) (v:V):∀ fs:List (Str × V),(putF f v fs).length≤fs.length+1
  | []=>by simp [putF]
  | (k,x)::r=>by
    have ih:=length_putF f v r
    rw [show putF f v ((k,x)::r)=(if k=f then (k,v)::r else (k,x)::putF f v r) from rfl]
    by_cases hk:k=f
    · rw [if_pos hk,List.length_cons,List.length_cons]; omega
    · rw [if_neg hk,List.length_cons,List.length_cons]; omega
theorem RelO.some_of {v:V} {o:Option Value} (r:RelO (some v) o):∃ u,o=some u∧RelV v u:=by
  cases o with
  | none=>exact (show False from r).elim
  | some u=>exact ⟨u,rfl,r⟩
theorem RelO.none_of {o:Option Value} (r:RelO none o):o=none:=by
  cases o with
  | none=>rfl
  | some u=>exact (show False from r).elim
theorem handed_of {v:V} {u:Value} (r:RelV v u):PySem.W.handedIn u=true:=by
  cases v with
  | non=>cases (show u=Value.none from r); rfl
  | bl b=>cases (show u=Value.bool b from r); rfl
  | int i=>obtain ⟨t,e⟩:=(show ∃ t,u=Value.int i t from r); cases e; rfl
  | str x=>obtain ⟨t,e⟩:=(show ∃ t,u=Value.str x t from r); cases e; rfl
  | byt b=>obtain ⟨t,e⟩:=(show ∃ t,u=Value.bytes b t from r); cases e; rfl
  | flt b=>obtain ⟨t,e⟩:=(show ∃ t,u=Value.float b t from r); cases e; rfl
  | ref a=>cases (show u=Value.ref a from r); rfl
  | ty n=>cases (show u=Value.type n from r); rfl
section
variable {P:Program} {w:World} {H H':Hp} {h h':Heap} {a C dx:Addr} {fs fs':List (Str × V)}
theorem ins_get (hok:HOk P w H h) (e:H a=some (.ins C dx fs)):∃ mA,ObjM h a dx C mA∧(∀ f,RelO (fs.lookup f) (mA f))∧PySem.Within mA (fs.map (·.1))∧fs.length≤1000∧H dx=some (.own a):=by
  obtain ⟨d,z,ne,ob,mA,n,r,q⟩:=(show ObjOk P w H h a (.ins C dx fs) from hok a _ e)
  exact ⟨mA,⟨ob,n,ne⟩,r,q,z,d⟩
end
structure Cls (K:PySem.W.Frag) (C:Addr):Prop where
  pg:PySem.W.plainGet K C Str.empty=true
  hd:PySem.W.hasDictIn K C=true
  po:PySem.W.plainOver K C=true
  sa:PySem.W.findIn K (.ref C) "__setattr__" = some (some (.builtin "object.__setattr__"))
theorem Cls.get {K:PySem.W.Frag} {C:Addr} (c:Cls K C) (f:Str):PySem.W.plainGet K C f=true:=c.pg
def NoAttr (K:PySem.W.Frag) (C:Addr) (f:Str):Prop:=PySem.W.findIn K (.ref C) f=some none
theorem NoAttr.taker {K:PySem.W.Frag} {C:Addr} {f:Str} (n:NoAttr K C f):PySem.W.takerIn K C f=some none:=by
  unfold PySem.W.takerIn
  rw [show PySem.W.findIn K (.ref C) f=some none from n]
  rfl
structure Con (K:PySem.W.Frag) (C:Addr) (f:Str) (v:V) (u:Value):Prop where
  at_:PySem.W.findIn K (.ref C) f=some (some u)
  rel:RelV v u
  get:PySem.W.specialIn K u "__get__" = some none
  cp:PySem.W.copiedNames.contains f=false
structure Meth (K:PySem.W.Frag) (C:Addr) (m:Str) (f:Addr):Prop where
  at_:PySem.W.findIn K (.ref C) m=some (some (.ref f))
  fn:PySem.W.isFn K (.ref f)=true
  kp:PySem.W.keepIn K (.ref f)=true
section
variable {X:Cx} {pins:List (Addr × Obj)} {σ:St} {H:Hp} {s:Shared} {a C dx:Addr} {fs:List (Str × V)} {f:Str} {v:V} {A:Around} {E:Value→Shared→Prop}
theorem getattr_ok {b:Bool} {Q:Value→Shared→Prop} (I:Inv X pins σ H s) (e:H a=some (.ins C dx fs)) (c:Cls X.K C) (n:NoAttr X.K C f) (l:fs.lookup f=some v)
    (h:∀ u s',Inv X pins σ H s'→RelV v u→Q u s'):wpAny (model X.prog X.w) A (getAttr (.ref a) f b) Q E s:=by
  obtain ⟨mA,O,r,_,_,_⟩:=ins_get I.hok e
  obtain ⟨u,hu,ru⟩:=RelO.some_of (v:=v) (o:=mA f) (by rw [← l]; exact r f)
  exact get_map I.kIn O (c.get f) c.hd n hu (handed_of ru) (h u _ (I.tok _) ru)
theorem getmeth_ok {m:Str} {g:Addr} {pl:Sem Bool} {Q:Value × List Value→Shared→Prop} (I:Inv X pins σ H s) (e:H a=some (.ins C dx fs)) (c:Cls X.K C) (k:Meth X.K C m g) (l:fs.lookup m=none)
    (h:Q (.ref g,[.ref a]) s):wpAny (model X.prog X.w) A (getMethod (.ref a) m pl) Q E s:=by
  obtain ⟨mA,O,r,_,_,_⟩:=ins_get I.hok e
  have hn:mA m=none:=RelO.none_of (by rw [← l]; exact r m)
  exact get_meth I.kIn O (c.get m) k.at_ k.fn hn h
theorem setattr_ok {y:V} {u:Value} {Q:Unit→Shared→Prop} (I:Inv X pins σ H s) (e:H a=some (.ins C dx fs)) (c:Cls X.K C) (n:NoAttr X.K C f) (hl:fs.length < 1000) (ry:RelV y u)
    (h:∀ s',Inv X pins σ (upd H a (.ins C dx (putF f y fs))) s'→Q () s'):wpAny (model X.prog X.w) A (setAttr (.ref a) f u) Q E s:=by
  obtain ⟨mA,O,r,wi,_,ho⟩:=ins_get I.hok e
  have hz:(fs.map (·.1)).length≤sizeLine:=by rw [List.length_map,sizeLine_eq]; omega
  refine set_map I.kIn O c.sa c.po n.taker c.hd wi hz fun h' O' sb=>h _ ?_
  have hd:∃ o,h'.get? dx=some o:=let ⟨o,_,_,e',_⟩:=O'.ns; ⟨o,e'⟩
  refine I.write (x:=a) (e:=dx) (by rw [e]; exact True.intro) (.inr ho) (fun b q hb z=>(sb.2 b hb).trans z) hd ?_
  refine ⟨by rw [upd_ne O.ne]; exact ho,?_,O.ne,O'.obj,_,O'.ns,fun g=>?_,fun g hg=>?_⟩
  · have:=length_putF f y fs; omega
  · show RelO ((putF f y fs).lookup g) (if g=f then some u else mA g)
    rw [lookup_putF]
    by_cases q:g=f
    · rw [if_pos q,if_pos q]; exact ry
    · rw [if_neg q,if_neg q]; exact r g
  · by_cases q:g=f
    · rw [q]; exact (keys_putF f y fs).1
    · refine (keys_putF f y fs).2 g (wi g fun z=>hg ?_)
      show (if g=f then some u else mA g)=none
      rw [if_neg q]; exact z
theorem Inv.made (I:Inv X pins σ H s):Inv X pins σ (upd (upd H s.heap.objs.size (.own (s.heap.objs.size+1))) (s.heap.objs.size+1) (.ins C s.heap.objs.size []))
    { s with heap:=(s.heap.push PySem.W.emptyDict).push (PySem.W.instObj C s.heap.objs.size) }:=by
  have e1:(s.heap.push PySem.W.emptyDict).get? s.heap.objs.size=some PySem.W.emptyDict:=Heap.get?_push_size s.heap rfl
  have e2:((s.heap.push PySem.W.emptyDict).push (PySem.W.instObj C s.heap.objs.size)).get? (s.heap.objs.size+1)=some (PySem.W.instObj C s.heap.objs.size):=by
    have:=Heap.get?_push_size (s.heap.push PySem.W.emptyDict) (o:=PySem.W.instObj C s.heap.objs.size) rfl
    rwa [Heap.size_push] at this
  have e3:(s.heap.push PySem.W.emptyDict).Ns s.heap.objs.size (fun _=>none):=⟨PySem.W.emptyDict,#[],_,e1,rfl,(fun e he=>absurd he (by simp)),fun _=>rfl⟩
  have I1:=I.laid (a:=s.heap.objs.size) (o:=.own (s.heap.objs.size+1)) (h':=s.heap.push PySem.W.emptyDict) (t':=s.toks) (fun b u q=>Heap.get?_push_of_some _ q) (Nat.le_refl _) ⟨_,e1⟩
  refine I1.laid (a:=s.heap.objs.size+1) (o:=.ins C s.heap.objs.size []) (t':=s.toks) (fun b u q=>Heap.get?_push_of_some _ q) (Nat.le_of_eq (Heap.size_push _ _)) ?_
  have ne:s.heap.objs.size ≠ s.heap.objs.size+1:=Nat.ne_of_lt (Nat.lt_succ_self _)
  refine ⟨by rw [upd_ne ne,upd_same],Nat.zero_le _,ne,e2,fun _=>none,(Heap.Ns1.of_empty e3).at fun o q=>Heap.get?_push_of_some _ q,fun _=>True.intro,fun y hy=>absurd rfl hy⟩
theorem attr_of {prog:Program} {w:World} {env:Env} {e:Expr} {f:Str} {pos:Pos} {s:Shared} {Q:Value→Shared→Prop} (hb:attributeBase e f env (eval e env)=eval e env)
    (h:wpAny (model prog w) A (eval e env) (fun o s₁=>wpAny (model prog w) A (getAttr o f true) Q E s₁) E s):wpAny (model prog w) A (eval (.Attribute e f pos) env) Q E s :=
  Attribute_any_ h (by rw [arm_eval_Attribute,hb])
end
def tFld (K:PySem.W.Frag) (ta:TE) (f:Str):TE:=fun σ H Q=>ta σ H fun x H1=>∃ a C dx fs v,x=.ref a∧H1 a=some (.ins C dx fs)∧Cls K C∧NoAttr K C f∧fs.lookup f=some v∧Q v H1
def tCon (K:PySem.W.Frag) (ta:TE) (f:Str):TE:=fun σ H Q=>ta σ H fun x H1=>∃ a C dx fs v u,x=.ref a∧H1 a=some (.ins C dx fs)∧Cls K C∧Con K C f v u∧fs.lookup f=none∧Q v H1
def sFld (K:PySem.W.Frag) (ta tv:TE) (f:Str):TS:=fun D σ H=>tv σ H fun y H1=>ta σ H1 fun x H2=>∃ a C dx fs,x=.ref a∧H2 a=some (.ins C dx fs)∧Cls K C∧NoAttr K C f∧fs.length < 1000 ∧
  D.nx σ (upd H2 a (.ins C dx (putF f y fs)))
def InOp (X:Cx) (op:Operator) (rd:V→V→Hp→VK→Prop):Prop :=
  ∀ (pins:List (Addr × Obj)) (s:Shared) (σ:St) (H:Hp) (x y:V) (u v:Value) (Q:VK),Inv X pins σ H s→RelV x u→RelV y v→rd x y H Q→wpAny (model X.prog X.w) X.A (inplaceOp op u v) (EP X pins σ Q) X.xe s
def sFldAug (K:PySem.W.Frag) (ta tv:TE) (rd:V→V→Hp→VK→Prop) (f:Str):TS:=fun D σ H=>ta σ H fun x H1=>∃ a C dx fs v,x=.ref a∧H1 a=some (.ins C dx fs)∧Cls K C∧NoAttr K C f∧fs.lookup f=some v ∧
  tv σ H1 fun y H2=>rd v y H2 fun z H3=>∃ dx' fs',H3 a=some (.ins C dx' fs')∧fs'.length < 1000∧D.nx σ (upd H3 a (.ins C dx' (putF f z fs')))
section
variable {X:Cx} {o e value:Expr} {f:Str} {pos pos' tpos:Pos} {ta tv:TE}
theorem pe_fld (he:PE X e ta) (hb:attributeBase e f X.env (eval e X.env)=eval e X.env):PE X (.Attribute e f pos) (tFld X.K ta f):=by
  intro pins s σ H Q I h
  refine attr_of hb (thn (he pins s σ H _ I h) fun u s1 ⟨x,H1,I1,rx,a,C,dx,fs,v,ex,ea,c,n,l,q⟩=>?_)
  subst ex
  obtain rfl:u=Value.ref a:=rx
  exact getattr_ok I1 ea c n l fun u' s2 I2 ru=>⟨v,H1,I2,ru,q⟩
theorem ps_fld (ha:PE X o ta) (hv:PE X value tv) (hs:swapsWith value (some (.Attribute o f pos')) pos.line X.env=pure false):PS X (.Assign [.Attribute o f pos'] value pos) (sFld X.K ta tv f):=by
  intro pins s σ H D I h
  refine plainObj_wpAny_Assign_Attribute (thn (hv pins s σ H _ I h) fun u s1 ⟨y,H1,I1,ry,q⟩=>thn (ha pins s1 σ H1 _ I1 q) fun ov s2 ⟨x,H2,I2,rx,a,C,dx,fs,ex,ea,c,n,l,q2⟩=>?_) hs
  subst ex
  obtain rfl:ov=Value.ref a:=rx
  exact setattr_ok I2 ea c n l ry fun s3 I3=>⟨σ,_,I3,q2⟩
def rAdd:V→V→Hp→VK→Prop:=fun x y H Q=>∃ i j,x=.int i∧y=.int j∧Q (.int (i+j)) H
def rSub:V→V→Hp→VK→Prop:=fun x y H Q=>∃ i j,x=.int i∧y=.int j∧Q (.int (i - j)) H
end
section
variable {X:Cx} {pins:List (Addr × Obj)} {σ:St} {H:Hp} {s:Shared} {A:Around} {E:Value→Shared→Prop} {Q:Value→Shared→Prop} {c:Value} {b:Bool}
inductive TyOf (K:PySem.W.Frag) (H:Hp):V→Value→Prop where
  | non:TyOf K H .non (.type "NoneType")
  | bl (x:Bool):TyOf K H (.bl x) (.type "bool")
  | int (i:Int):TyOf K H (.int i) (.type "int")
  | str (x:Str):TyOf K H (.str x) (.type "str")
  | flt (x:UInt64):TyOf K H (.flt x) (.type "float")
  | lst {a:Addr} {xs:List V} (e:H a=some (.lst xs)):TyOf K H (.ref a) (.type "list")
  | frz {a:Addr} {o:Obj} {xs:List V} (e:H a=some (.frz o (.lst xs))):TyOf K H (.ref a) (.type "list")
  | tup {a:Addr} {xs:List V} (e:H a=some (.tup xs)):TyOf K H (.ref a) (.type "tuple")
  | dK {a:Addr} {kvs:List (Key × V)} (e:H a=some (.dK kvs)):TyOf K H (.ref a) (.type "dict")
  | dT {a:Addr} {kvs:List (List Key × V)} (e:H a=some (.dT kvs)):TyOf K H (.ref a) (.type "dict")
  | ins {a C dx:Addr} {fs:List (Str × V)} (e:H a=some (.ins C dx fs)) (cl:Cls K C) (ha:PySem.W.findIn K (.ref C) "__class__" = some (some (.builtin "object.__class__")))
      (hn:PySem.W.specialIn K (.builtin "object.__class__") "__get__" = some (some (.builtin "getset_descriptor.__get__"))) (htk:PySem.W.takesIn K (.builtin "object.__class__")=some true)
      (hm:PySem.W.mroIn K C (.type "object")=some true):TyOf K H (.ref a) (.ref C)
theorem isinst_ok {x:V} {u t:Value} (I:Inv X pins σ H s) (rx:RelV x u) (ty:TyOf X.K H x t) (e:PySem.W.kitOne X.K t c=some b) (h:∀ tk,Q (.bool b) { s with toks:=tk }) :
    wpAny (model X.prog X.w) A (call (.builtin "isinstance") [u,c]) Q E s:=by
  cases ty with
  | non=>cases (show u=Value.none from rx); exact PySem.W.kia_one PySem.W.kitx_none I.kIn True.intro e (fun z=>nomatch z) h
  | bl y=>cases (show u=Value.bool y from rx); exact PySem.W.kia_one PySem.W.kitx_bool I.kIn True.intro e (fun z=>nomatch z) h
  | int i=>obtain ⟨t,q⟩:=(show ∃ t,u=Value.int i t from rx); cases q; exact PySem.W.kia_one PySem.W.kitx_int I.kIn True.intro e (fun z=>nomatch z) h
  | str y=>obtain ⟨t,q⟩:=(show ∃ t,u=Value.str y t from rx); cases q; exact PySem.W.kia_one PySem.W.kitx_str I.kIn True.intro e (fun z=>nomatch z) h
  | flt y=>obtain ⟨t,q⟩:=(show ∃ t,u=Value.float y t from rx); cases q; exact PySem.W.kia_one PySem.W.kitx_float I.kIn True.intro e (fun z=>nomatch z) h
  | @lst a xs ea =>
    cases (show u=Value.ref a from rx)
    obtain ⟨_,_,n,_,h1⟩:=(show ObjOk X.prog X.w H s.heap a (.lst xs) from I.hok a _ ea)
    exact PySem.W.kia_one PySem.W.kitx_list I.kIn ⟨_,h1,rfl⟩ e (fun z=>nomatch z) h
  | @frz a ob xs ea =>
    cases (show u=Value.ref a from rx)
    obtain ⟨_,_,_,n,_,h1⟩:=(show ObjOk X.prog X.w H s.heap a (.frz ob (.lst xs)) from I.hok a _ ea)
    exact PySem.W.kia_one PySem.W.kitx_list I.kIn ⟨_,h1,rfl⟩ e (fun z=>nomatch z) h
  | @tup a xs ea =>
    cases (show u=Value.ref a from rx)
    obtain ⟨_,_,_,p,_⟩:=(show ObjOk X.prog X.w H s.heap a (.tup xs) from I.hok a _ ea)
    obtain ⟨o,h1,h2,_⟩:=p
    exact PySem.W.kia_one PySem.W.kitx_tuple I.kIn ⟨o,h1,h2⟩ e (fun z=>nomatch z) h
  | @dK a kvs ea =>
    cases (show u=Value.ref a from rx)
    obtain ⟨_,_,vs,_,p⟩:=(show ObjOk X.prog X.w H s.heap a (.dK kvs) from I.hok a _ ea)
    obtain ⟨o,es,ep,h1,h2,_⟩:=p
    exact PySem.W.kia_one PySem.W.kitx_dict I.kIn ⟨o,h1,h2.1⟩ e (fun z=>nomatch z) h
  | @dT a kvs ea =>
    cases (show u=Value.ref a from rx)
    obtain ⟨_,_,xs,_,o,es,ep,h1,h2,_⟩:=(show ObjOk X.prog X.w H s.heap a (.dT kvs) from I.hok a _ ea)
    exact PySem.W.kia_one PySem.W.kitx_dict I.kIn ⟨o,h1,h2.1⟩ e (fun z=>nomatch z) h
  | @ins a C dx fs ea cl ha hn htk hm =>
    cases (show u=Value.ref a from rx)
    obtain ⟨mA,O,_⟩:=ins_get I.hok ea
    obtain ⟨od,J,_⟩:=O.look
    exact PySem.W.kia_one (PySem.W.kitx_own (cl.get _) cl.hd ha hn htk hm) I.kIn J e (fun z=>nomatch z) h
end
end L2
namespace L2
open PySem PySem.Spec PyProof.Rows
structure Room (k:Nat) (A:Around):Prop where
  hd:A.handled=none
  dp:A.depth+3*k+5 < recursionLimit
  un:A.units+16*k+200 < cLine
theorem Room.mono {j k:Nat} {A:Around} (r:Room k A) (h:j≤k):Room j A:=⟨r.hd,by have:=r.dp; omega,by have:=r.un; omega⟩
theorem Room.deeper {k:Nat} {A:Around} (r:Room (k+1) A) (env:Env):Room k (A.deeper env) :=
  ⟨r.hd,by have:=r.dp; show A.depth+1+3*k+5 < _; omega,by have:=r.un; show A.units+3+16*k+200 < _; omega⟩
theorem make_depth {A:Around} {C:Addr} {us:List Value} {kw:List (Str × Value)}:(A.under (.builtin "type.__call__" ⟨.ref C::us,kw⟩)).depth=A.depth+1:=by
  first | rfl | simp [Around.under,Code.weight,Code.isCreation,Code.isGuard,Code.isCaller,Code.frames,Code.isFrame,guardIds]
theorem make_units {A:Around} {C:Addr} {us:List Value} {kw:List (Str × Value)}:(A.under (.builtin "type.__call__" ⟨.ref C::us,kw⟩)).units=A.units+1:=by
  first | rfl | simp [Around.under,Code.cUnits,Code.frames,Code.isFrame]
theorem Room.make {k:Nat} {A:Around} (r:Room (k+1) A) (C:Addr) (us:List Value) (kw:List (Str × Value)):Room k (A.under (.builtin "type.__call__" ⟨.ref C::us,kw⟩)) :=
  ⟨r.hd,by have:=r.dp; rw [make_depth]; omega,by have:=r.un; rw [make_units]; omega⟩
theorem Room.depth {k:Nat} {A:Around} (r:Room k A):A.depth < recursionLimit:=by have:=r.dp; omega
theorem Room.units {k:Nat} {A:Around} (r:Room k A):A.units+64 < cLine:=by have:=r.un; omega
def tNil:TA:=fun _ H Q=>Q [] H
def tCons (ta:TE) (tr:TA):TA:=fun σ H Q=>ta σ H fun x H1=>tr σ H1 fun xs H2=>Q (x::xs) H2
section
variable {X:Cx} {e:Expr} {es:List Expr} {te:TE} {t:TA} {pos:Pos}
theorem pa_nil:PA X [] tNil:=fun _ _ _ _ H Q I h=>Calls.spliced_nil ⟨[],H,I,.nil,h⟩
theorem pa_cons (ha:PE X e te) (hr:PA X es t) (hs:starEach (e::es) X.env=(false,eval e X.env)::starEach es X.env:=by rfl):PA X (e::es) (tCons te t):=by
  intro pos pins s σ H Q I h
  rw [hs]
  show wpAny _ _ (spliced ((false,eval e X.env)::backTo pos (starEach es X.env))) _ _ s
  refine Calls.spliced_cons (thn (ha pins s σ H _ I h) fun u s1 ⟨x,H1,I1,r1,q1⟩=>?_)
  exact thn (hr pos pins s1 σ H1 _ I1 q1) fun us s2 ⟨xs,H2,I2,r2,q2⟩=>⟨x::xs,H2,I2,.cons r1 r2,q2⟩
def tTup (t:TA):TE:=fun σ H Q=>t σ H fun xs H1=>xs.length≤sizeLine∧∀ p,H1 p=none→Q (.ref p) (upd H1 p (.tup xs))
def tLst (t:TA):TE:=fun σ H Q=>t σ H fun xs H1=>xs.length≤sizeLine∧∀ p,H1 p=none→Q (.ref p) (upd H1 p (.lst xs))
theorem pe_tup {x1} (h:PA X es t):PE X (.Tuple es x1 pos) (tTup t):=by
  intro pins s σ H Q I hq
  refine wpAny_Tuple_spliced (thn (h pos pins s σ H _ I hq) fun us s1 ⟨xs,H1,I1,r,z,q⟩=>⟨by rw [← r.length]; exact z,?_⟩)
  have hf:H1 s1.heap.objs.size=none:=I1.hok.fresh (Nat.le_refl _)
  refine ⟨.ref s1.heap.objs.size,upd H1 s1.heap.objs.size (.tup xs),I1.laid (t':=s1.toks) (fun b u e=>Heap.get?_push_of_some _ e) (Nat.le_refl _) ?_,rfl,q _ hf⟩
  exact ⟨z,us,r,⟨_,Heap.get?_push_size _ rfl,rfl,_,rfl⟩,_,Heap.get?_push_size _ rfl,rfl⟩
theorem pe_lst (h:PA X es t):PE X (.List es pos) (tLst t):=by
  intro pins s σ H Q I hq
  refine wpAny_List_spliced (thn (h pos pins s σ H _ I hq) fun us s1 ⟨xs,H1,I1,r,z,q⟩=>⟨by rw [← r.length]; exact z,?_⟩)
  have hf:H1 s1.heap.objs.size=none:=I1.hok.fresh (Nat.le_refl _)
  refine ⟨.ref s1.heap.objs.size,upd H1 s1.heap.objs.size (.lst xs),I1.laid (t':=s1.toks) (fun b u e=>Heap.get?_push_of_some _ e) (Nat.le_refl _) ?_,rfl,q _ hf⟩
  exact ⟨z,us,0,r,Heap.get?_push_size _ rfl⟩
end
abbrev Sp:=List V→Hp→VK→XK→Prop
abbrev CXT:=List Env→Hp→Shared→XK→Value→Shared→Prop
structure Env0 (P:Program) (w:World) (K:PySem.W.Frag) (mg:Str→Option Value) (base:Heap) (A:Around) (outer:List Env) (s:Shared) (H:Hp):Prop where
  frames:A.frames=some outer
  mod:Mod K mg base
  bs:∀ b o,base.get? b=some o→s.heap.get? b=some o∧H b=none
  bsz:base.objs.size≤s.heap.objs.size
  funs:s.heap.FunFrames base outer
  frf:∀ b ∈ frs outer,H b=none
  hok:HOk P w H s.heap
  bare:AllBare s.gens
def CE (outer:List Env) (P:Program) (w:World) (H:Hp) (s:Shared) (Q:VK) (u:Value) (s':Shared):Prop :=
  ∃ v H',s'.os=s.os∧AllBare s'.gens∧Un (frs outer) [] H H' s.heap s'.heap∧HOk P w H' s'.heap∧RelV v u∧Q v H'
def CR (CX:CXT) (outer:List Env) (P:Program) (w:World) (H:Hp) (s:Shared) (Q:VK) (E:XK) (r:Result) (s':Shared):Prop :=
  match r with
  | .ok (.ret u)=>CE outer P w H s Q u s'
  | .ok _=>False
  | .error e=>CX outer H s E e s'
structure FnOk (P:Program) (w:World) (K:PySem.W.Frag) (mg:Str→Option Value) (base:Heap) (CX:CXT) (k:Nat) (f:Addr) (fd:FuncData) (ps:List Str) (sp:Sp):Prop where
  len:∀ vs H Q E,sp vs H Q E→vs.length=ps.length
  run:∀ (A:Around) (outer:List Env) (s:Shared) (H:Hp) (args:Args) (us:List Value) (vs:List V) (Q:VK) (E:XK),Room k A→Env0 P w K mg base A outer s H→BindsTo s fd args (ps.zip us)→Vals vs us→sp vs H Q E →
    codeAny (model P w) A (.call (.ref f) args) (CR CX outer P w H s Q E) s
theorem Env0.make {P:Program} {w:World} {K:PySem.W.Frag} {mg:Str→Option Value} {base:Heap} {A:Around} {outer:List Env} {s:Shared} {H:Hp} (e:Env0 P w K mg base A outer s H) (C:Addr) (us:List Value) (kw:List (Str × Value)) :
    Env0 P w K mg base (A.under (.builtin "type.__call__" ⟨.ref C::us,kw⟩)) outer s H:=⟨by first | exact e.frames | (simpa [Around.under,Code.envs,Code.isFrame,pushEnvs] using e.frames),e.mod,e.bs,e.bsz,e.funs,e.frf,e.hok,e.bare⟩
section
variable {X:Cx} {pins:List (Addr × Obj)} {σ:St} {H:Hp} {s s':Shared}
theorem Inv.env0 (I:Inv X pins σ H s):Env0 X.prog X.w X.K X.mg X.base X.A X.stack s H :=
  ⟨I.ok.frames,I.ok.mod,I.bs,Nat.le_trans I.ok.bsz I.sz,I.stack,I.stkFree,I.hok,I.bare⟩
theorem Inv.after {Q:VK} {u:Value} (I:Inv X pins σ H s) (h:CE X.stack X.prog X.w H s Q u s'):EP X pins σ Q u s':=by
  obtain ⟨v,H',os,bare,un,hok,r,q⟩:=h
  obtain ⟨hh,g,d,t,os'⟩:=s'
  obtain rfl:os'=s.os:=os
  exact ⟨v,H',I.call (h':=hh) (g':=g) (d':=d) (t':=t) (ch:=[]) un hok bare (fun b z=>absurd z (by simp)),r,q⟩
end
def tCall (sp:Sp) (dvs:List V) (E:XK) (t:TA):TE:=fun σ H Q=>t σ H fun vs H1=>sp (vs++dvs) H1 Q E
def tMeth (C:Addr) (m:Str) (sp:Sp) (dvs:List V) (E:XK) (ta:TE) (t:TA):TE:=fun σ H Q=>ta σ H fun x H1=>∃ a dx fs,x=.ref a∧H1 a=some (.ins C dx fs)∧fs.lookup m=none ∧
  t σ H1 fun vs H2=>sp (x::(vs++dvs)) H2 Q E
def tMake (C:Addr) (sp:Sp) (dvs:List V) (E:XK) (t:TA):TE:=fun σ H Q=>t σ H fun vs H1=>∀ x dx,H1 x=none→H1 dx=none→dx ≠ x →
  sp (.ref x::(vs++dvs)) (upd (upd H1 dx (.own x)) x (.ins C dx [])) (fun v H2=>v=.non∧Q (.ref x) H2) E
def Binds (K:PySem.W.Frag) (fd:FuncData) (ps:List Str) (ds:List Value):Prop :=
  ∀ (s:Shared) (us:List Value),K.In s.heap→(us++ds).length=ps.length→BindsTo s fd ⟨us,[]⟩ (ps.zip (us++ds))
theorem Binds.all {K:PySem.W.Frag} {fd:FuncData} {ps:List Str} (h:∀ us:List Value,us.length=ps.length→bindArgs fd ⟨us,[]⟩=pure (ps.zip us)):Binds K fd ps []:=fun s us _ hl=>by
  rw [List.append_nil] at hl ⊢
  exact .of_eq (h us hl)
def Passes (CX:CXT) (X:Cx) (E:XK):Prop:=∀ (pins:List (Addr × Obj)) (σ:St) (H:Hp) (s:Shared) (e:Value) (s':Shared),Inv X pins σ H s→CX X.stack H s E e s'→X.xe e s'
section
variable {X:Cx} {CX:CXT} {k:Nat} {f C:Addr} {fd:FuncData} {ps:List Str} {sp:Sp} {dvs:List V} {ds:List Value} {E:XK} {x m:Str} {p pos apos:Pos} {e o:Expr} {es:List Expr} {ta:TE} {t:TA}
theorem run_fn {pins:List (Addr × Obj)} {σ:St} {H:Hp} {s:Shared} {Q:VK} {us:List Value} {vs:List V} (F:FnOk X.prog X.w X.K X.mg X.base CX k f fd ps sp) (hr:Room k X.A) (hb:Binds X.K fd ps ds) (hd:Vals dvs ds) (hx:Passes CX X E)
    (I:Inv X pins σ H s) (r:Vals vs us) (h:sp (vs++dvs) H Q E):wpAny (model X.prog X.w) X.A (call (.ref f) us) (EP X pins σ Q) X.xe s:=by
  have r2:Vals (vs++dvs) (us++ds):=r.append hd
  have hl:(us++ds).length=ps.length:=by rw [← r2.length]; exact F.len _ _ _ _ h
  refine wpAny_call (codeAny_mono (F.run X.A X.stack s H ⟨us,[]⟩ (us++ds) (vs++dvs) Q E hr I.env0 (hb s us I.kIn hl) r2 h) fun r s' hq=>?_)
  cases r with
  | error e=>exact hx pins σ H s e s' I hq
  | ok fl =>
    cases fl with
    | ret u=>exact I.after hq
    | next=>exact False.elim hq
    | brk=>exact False.elim hq
    | cont=>exact False.elim hq
theorem pe_call (F:FnOk X.prog X.w X.K X.mg X.base CX k f fd ps sp) (hr:Room k X.A) (hg:Gl X x) (hm:X.mg x=some (.ref f)) (hk:PySem.W.keepIn X.K (.ref f)=true) (hb:Binds X.K fd ps ds) (hd:Vals dvs ds) (hx:Passes CX X E)
    (ha:PA X (e::es) t) (hdb:(x == ("__debug__" : Str))=false:=by decide) (he:starEach (e::es) X.env=(false,eval e X.env)::starEach es X.env:=by rfl) (hpl:(backTo pos (starEach es X.env)).any (·.1)=false:=by rfl) :
    PE X (.Call (.Name x p) (e::es) [] pos) (tCall sp dvs E t):=by
  intro pins s σ H Q I h
  refine wpAny_Call_Name_kw (ld_glob I hg hm ?_ hdb)
  refine PySem.W.callWith_K (h₀:=X.base) I.ok.mod.kin hk (thn (ha pos pins s σ H _ I h) fun us s1 ⟨vs,H1,I1,r,q⟩=>⟨I1.kIn,?_⟩) he hpl
  exact run_fn F hr hb hd hx I1 r q
theorem pe_meth {pl:Sem Bool} (he:PE X o ta) (c:Cls X.K C) (hm:Meth X.K C m f) (F:FnOk X.prog X.w X.K X.mg X.base CX k f fd ps sp) (hr:Room k X.A) (hb:Binds X.K fd ps ds) (hd:Vals dvs ds) (hx:Passes CX X E) (ha:PA X (e::es) t)
    (hst:starEach (e::es) X.env=(false,eval e X.env)::starEach es X.env:=by rfl) (hpl:(backTo pos (starEach es X.env)).any (·.1)=false:=by rfl)
    (ht:eval (.Call (.Attribute o m apos) (e::es) [] pos) X.env=(do
      let ov ← eval o X.env
      standAt apos.atName
      let (f,first) ← holding [ov] (getMethod ov m pl)
      callWith pos f first (backTo pos (starEach (e::es) X.env)) (backToKw pos (keywordEach [] X.env))):=by rfl) :
    PE X (.Call (.Attribute o m apos) (e::es) [] pos) (tMeth C m sp dvs E ta t):=by
  intro pins s σ H Q I h
  refine PySem.W.methodCall_KW (pl:=pl) (thn (he pins s σ H _ I h) fun u s1 ⟨x,H1,I1,rx,a,dx,fs,ex,ea,l,q⟩=>?_) ht
  subst ex
  obtain rfl:u=Value.ref a:=rx
  refine getmeth_ok I1 ea c hm l ?_
  refine PySem.W.callWith_K (first:=[.ref a]) (h₀:=X.base) I.ok.mod.kin hm.kp (thn (ha pos pins s1 σ H1 _ I1 q) fun us s2 ⟨vs,H2,I2,r,q2⟩=>⟨I2.kIn,?_⟩) hst hpl
  exact run_fn (us:=.ref a::us) (vs:=.ref a::vs) F hr hb hd hx I2 (.cons rfl r) q2
structure Mk (K:PySem.W.Frag) (C f:Addr):Prop where
  makes:PySem.W.makesIn K C=true
  init:PySem.W.findIn K (.ref C) "__init__" = some (some (.ref f))
  fn:PySem.W.isFn K (.ref f)=true
  kp:PySem.W.keepIn K (.ref C)=true
theorem run_make {pins:List (Addr × Obj)} {σ:St} {H:Hp} {s:Shared} {Q:VK} {us:List Value} {vs:List V} (M:Mk X.K C f) (F:FnOk X.prog X.w X.K X.mg X.base CX k f fd ps sp) (hr:Room (k+1) X.A) (hb:Binds X.K fd ps ds) (hd:Vals dvs ds)
    (hx:Passes CX X E) (I:Inv X pins σ H s) (r:Vals vs us)
    (h:∀ x dx,H x=none→H dx=none→dx ≠ x→sp (.ref x::(vs++dvs)) (upd (upd H dx (.own x)) x (.ins C dx [])) (fun v H2=>v=.non∧Q (.ref x) H2) E) :
    wpAny (model X.prog X.w) X.A (call (.ref C) us) (EP X pins σ Q) X.xe s:=by
  have hq:=h (s.heap.objs.size+1) s.heap.objs.size (I.hok.fresh (Nat.le_succ _)) (I.hok.fresh (Nat.le_refl _)) (Nat.ne_of_lt (Nat.lt_succ_self _))
  have I2:=Inv.made (C:=C) I
  have r2:Vals (V.ref (s.heap.objs.size+1)::(vs++dvs)) (Value.ref (s.heap.objs.size+1)::(us++ds)):=.cons rfl (r.append hd)
  have hl:(Value.ref (s.heap.objs.size+1)::us++ds).length=ps.length:=by
    have e:=r2.length
    rw [F.len _ _ _ _ hq] at e
    exact e.symm
  refine wpAny_call (make_map (f:=f) I.kIn M.makes M.init (beq_iff_eq.mp M.fn) (codeAny_mono (F.run _ X.stack _ _ ⟨Value.ref (s.heap.objs.size+1)::us,[]⟩ (Value.ref (s.heap.objs.size+1)::(us++ds)) _ _ E (hr.make C us [])
    (I2.env0.make C us []) (hb _ (Value.ref (s.heap.objs.size+1)::us) I2.kIn hl) r2 hq) fun r s' hq'=>?_))
  cases r with
  | error e=>exact hx pins σ _ _ e s' I2 hq'
  | ok fl =>
    cases fl with
    | ret u =>
      obtain ⟨v,H',I3,rv,ev,q3⟩:=I2.after hq'
      subst ev
      exact ⟨rv,⟨V.ref (s.heap.objs.size+1),H',I3,rfl,q3⟩⟩
    | next=>exact False.elim hq'
    | brk=>exact False.elim hq'
    | cont=>exact False.elim hq'
theorem pe_make (M:Mk X.K C f) (F:FnOk X.prog X.w X.K X.mg X.base CX k f fd ps sp) (hr:Room (k+1) X.A) (hg:Gl X x) (hm:X.mg x=some (.ref C)) (hb:Binds X.K fd ps ds) (hd:Vals dvs ds) (hx:Passes CX X E)
    (ha:PA X (e::es) t) (hdb:(x == ("__debug__" : Str))=false:=by decide) (he:starEach (e::es) X.env=(false,eval e X.env)::starEach es X.env:=by rfl) (hpl:(backTo pos (starEach es X.env)).any (·.1)=false:=by rfl) :
    PE X (.Call (.Name x p) (e::es) [] pos) (tMake C sp dvs E t):=by
  intro pins s σ H Q I h
  refine wpAny_Call_Name_kw (ld_glob I hg hm ?_ hdb)
  refine PySem.W.callWith_K (h₀:=X.base) I.ok.mod.kin M.kp (thn (ha pos pins s σ H _ I h) fun us s1 ⟨vs,H1,I1,r,q⟩=>⟨I1.kIn,?_⟩) he hpl
  exact run_make M F hr hb hd hx I1 r q
end
def PK (X:Cx) (kws:List Keyword) (t:TA):Prop :=
  ∀ (pos:Pos) (pins:List (Addr × Obj)) (s:Shared) (σ:St) (H:Hp) (Q:List V→Hp→Prop),Inv X pins σ H s→t σ H Q→wpAny (model X.prog X.w) X.A (evalAll ((backToKw pos (keywordEach kws X.env)).map (·.2))) (AP X pins σ Q) X.xe s
section
variable {X:Cx} {CX:CXT} {k:Nat} {f C:Addr} {fd:FuncData} {ps ks:List Str} {sp:Sp} {E:XK} {x m:Str} {p pos apos kpos:Pos} {e o:Expr} {es:List Expr} {kws:List Keyword} {te ta:TE} {t tk:TA} {nm:Option Str}
structure KBinds (K:PySem.W.Frag) (fd:FuncData) (ps ks:List Str) (g:List Value→List Value→List Value) (gV:List V→List V→List V):Prop where
  to:∀ (s:Shared) (us ws:List Value),K.In s.heap→(g us ws).length=ps.length→BindsTo s fd ⟨us,ks.zip ws⟩ (ps.zip (g us ws))
  rel:∀ {vs:List V} {us:List Value} {zs:List V} {ws:List Value},Vals vs us→Vals zs ws→Vals (gV vs zs) (g us ws)
def tCallK (sp:Sp) (gV:List V→List V→List V) (E:XK) (t tk:TA):TE:=fun σ H Q=>t σ H fun vs H1=>tk σ H1 fun zs H2=>sp (gV vs zs) H2 Q E
variable {g:List Value→List Value→List Value} {gV:List V→List V→List V}
end
structure FnScope (N P:List Str) (sc:Scope):Prop where
  kind:sc.kind=.function
  co:sc.isCoroutine=false
  gen:sc.isGenerator=false
  nd:N.Nodup
  pre:N.take P.length=P
  par:∀ x ∈ P,sc.names.lookup x=some .local∨sc.names.lookup x=some .cell
  nofree:∀ y ∈ sc.names,y.2 ≠ .free
theorem bindL_out {kindOf:Str→Option NameKind} {x:Str}:∀ {binds:List (Str × Value)} {m:Str→Option Value},(∀ v,(x,v) ∉ binds)→bindL kindOf binds m x=m x
  | [],_,_=>rfl
  | (n,v)::r,m,h=>by
    unfold bindL
    rw [bindL_out fun w hw=>h w (List.mem_cons_of_mem _ hw)]
    split
    · have:x ≠ n:=by rintro rfl; exact h v List.mem_cons_self
      simp [this]
    · rfl
theorem bindC_out {kindOf:Str→Option NameKind} {x:Str}:∀ {binds:List (Str × Value)} {m:Str→Option Value},(∀ v,(x,v) ∉ binds)→bindC kindOf binds m x=m x
  | [],_,_=>rfl
  | (n,v)::r,m,h=>by
    unfold bindC
    rw [bindC_out fun w hw=>h w (List.mem_cons_of_mem _ hw)]
    split
    · rfl
    · have:x ≠ n:=by rintro rfl; exact h v List.mem_cons_self
      simp [this]
theorem bindL_get {kindOf:Str→Option NameKind} {x:Str} {v:Value}:∀ {P:List Str} {vs:List Value} {i:Nat} {m:Str→Option Value},P.Nodup→P[i]?=some x→vs[i]?=some v→kindOf x=some .local →
    bindL kindOf (P.zip vs) m x=some v
  | [],_,_,_,_,h,_,_=>by simp at h
  | _::_,[],_,_,_,_,h,_=>by simp at h
  | p::P,w::vs,0,m,nd,h1,h2,hk=>by
    simp at h1 h2; subst h1; subst h2
    show bindL kindOf ((p,w)::P.zip vs) m p=_
    unfold bindL
    rw [bindL_out fun v hv=>(List.nodup_cons.mp nd).1 (List.of_mem_zip hv).1,if_pos hk]
    simp
  | p::P,w::vs,i+1,m,nd,h1,h2,hk=>by
    show bindL kindOf ((p,w)::P.zip vs) m x=_
    unfold bindL
    exact bindL_get (i:=i) (List.nodup_cons.mp nd).2 (by simpa using h1) (by simpa using h2) hk
theorem bindC_get {kindOf:Str→Option NameKind} {x:Str} {v:Value}:∀ {P:List Str} {vs:List Value} {i:Nat} {m:Str→Option Value},P.Nodup→P[i]?=some x→vs[i]?=some v→kindOf x ≠ some .local →
    bindC kindOf (P.zip vs) m x=some v
  | [],_,_,_,_,h,_,_=>by simp at h
  | _::_,[],_,_,_,_,h,_=>by simp at h
  | p::P,w::vs,0,m,nd,h1,h2,hk=>by
    simp at h1 h2; subst h1; subst h2
    show bindC kindOf ((p,w)::P.zip vs) m p=_
    unfold bindC
    rw [bindC_out fun v hv=>(List.nodup_cons.mp nd).1 (List.of_mem_zip hv).1,if_neg hk]
    simp
  | p::P,w::vs,i+1,m,nd,h1,h2,hk=>by
    show bindC kindOf ((p,w)::P.zip vs) m x=_
    unfold bindC
    exact bindC_get (i:=i) (List.nodup_cons.mp nd).2 (by simpa using h1) (by simpa using h2) hk
def start (N:List Str) (vs:List V):St:=vs.map some++List.replicate (N.length - vs.length) none
def cxOf (CX:CXT) (P:Program) (w:World) (K:PySem.W.Frag) (mg:Str→Option Value) (base:Heap) (N:List Str) (qual:Str) (scope:Scope) (f:Addr) (cd:Value) (A:Around) (outer:List Env) (s:Shared) (H:Hp) (E:XK):Cx where
  prog:=P
  w:=w
  K:=K
  mg:=mg
  base:=base
  A:=A.deeper (envOfC qual scope s.heap.objs.size f cd)
  N:=N
  s₀:=s
  H₀:=H
  env:=envOfC qual scope s.heap.objs.size f cd
  outer:=outer
  stack:=envOfC qual scope s.heap.objs.size f cd::outer
  ex:=[]
  calm:=true
  fn:=fun _=>true
  pn:=[]
  xe:=fun e s'=>wpAny (model P w) (A.deeper (envOfC qual scope s.heap.objs.size f cd)) (leaving (envOfC qual scope s.heap.objs.size f cd) e) (fun _ s''=>CX outer H s E e s'') (fun e' s''=>CX outer H s E e' s'') s'
theorem cell_has {sc:Scope} {n:Nat} {x:Str} (h:sc.names.lookup x=some .cell):∃ c,(cellsFrom n sc.names []).lookup x=some c:=by
  have q:=PySem.W.cellsFrom_some sc.names n [] (.inl h)
  exact Option.isSome_iff_exists.mp q
theorem inv_start {CX:CXT} {P:Program} {w:World} {K:PySem.W.Frag} {mg:Str→Option Value} {base:Heap} {N ps:List Str} {qual:Str} {scope:Scope} {f:Addr} {cd:Value} {A:Around} {outer:List Env} {s s1:Shared} {H:Hp} {E:XK} {us:List Value} {vs:List V}
    (S:FnScope N ps scope) (hd:A.handled=none) (e0:Env0 P w K mg base A outer s H) (hl:vs.length=ps.length) (r:Vals vs us)
    (x:InCallC s s.heap.objs.size (bindL (envOfC qual scope s.heap.objs.size f cd).kindOf (ps.zip us) fun _=>none) (cellsFrom (s.heap.objs.size+1) scope.names []) (bindC (envOfC qual scope s.heap.objs.size f cd).kindOf (ps.zip us) fun _=>none) s1) :
    Inv (cxOf CX P w K mg base N qual scope f cd A outer s H E) [] (start N vs) H s1:=by
  have hpl:ps.length≤N.length:=by have:=congrArg List.length S.pre; rw [List.length_take] at this; omega
  obtain ⟨h1,tk,rfl,hk⟩:=x.done
  have noA:∀ b:Addr,b ∉ (cxOf CX P w K mg base N qual scope f cd A outer s H E).ex:=fun b z=>absurd (show b ∈ ([]:List Addr) from z) (by simp)
  refine ⟨⟨e0.mod,S.kind,rfl,rfl,Nat.le_refl _,fun y z c h1 h2=>?_,fun y hy=>?_,fun y c _ h=>?_,fun _=>hd,Around.frames_deeper e0.frames,.inr ⟨rfl,rfl⟩,fun b z=>absurd z (noA b),e0.bs,e0.bsz,fun b _ _=>noA b,fun b z=>absurd z (noA b),e0.funs,e0.frf⟩,
    rfl,e0.bare,Un.kept hk,⟨_,x.toInCall.ns,fun i y v h1 h2 h3=>?_⟩,fun y c h=>⟨_,x.cell y c h⟩,e0.hok.fresh (Nat.le_refl _),fun y c h=>?_,fun p hp=>absurd (show p ∈ ([]:List (Addr × Obj)) from hp) (by simp),e0.hok.kept hk,?_⟩
  · exact name_of_addr x.apart (PySem.mem_of_lookup h1) (PySem.mem_of_lookup h2)
  · have hy:scope.names.lookup y=some .cell∨scope.names.lookup y=some .free:=hy
    rcases hy with hy | hy
    · exact cell_has hy
    · exact absurd rfl (S.nofree _ (PySem.mem_of_lookup hy))
  · exact Nat.le_of_lt (x.above y c (PySem.mem_of_lookup h))
  · have hi:i < vs.length:=by
      unfold start at h2
      by_cases hi:i < vs.length
      · exact hi
      · rw [List.getElem?_append_right (by simpa using hi)] at h2
        rw [List.getElem?_replicate] at h2
        split at h2 <;> cases h2
    have ha:vs[i]?=some v:=by
      unfold start at h2
      rw [List.getElem?_append_left (by simpa using hi),List.getElem?_map] at h2
      cases e:vs[i]? with
      | none=>rw [e] at h2; cases h2
      | some a=>rw [e] at h2; cases h2; rfl
    obtain ⟨u,hu,rv⟩:=r.get ha
    have hp:ps[i]?=some y:=by
      rw [← S.pre,List.getElem?_take_of_lt (by omega)]; exact h1
    have ndP:ps.Nodup:=by rw [← S.pre]; exact S.nd.sublist (List.take_sublist _ _)
    refine ⟨u,rv,?_⟩
    rcases S.par y (List.mem_of_getElem? hp) with k | k
    · exact .inl ⟨k,bindL_get ndP hp hu k⟩
    · obtain ⟨c,e⟩:=cell_has (n:=s.heap.objs.size+1) k
      refine .inr ⟨.inl k,c,e,?_⟩
      have q:=x.cell y c e
      rw [bindC_get ndP hp hu (by show scope.names.lookup y ≠ _; rw [k]; decide)] at q
      exact q
  · exact e0.hok.fresh (Nat.le_of_lt (x.above y c (PySem.mem_of_lookup h)))
  · unfold start
    show _=N.length
    rw [List.length_append,List.length_map,List.length_replicate]
    omega
theorem fn_of {CX:CXT} {P:Program} {w:World} {K:PySem.W.Frag} {mg:Str→Option Value} {base:Heap} {k:Nat} {f:Addr} {name qual:Str} {params:Arguments} {body:List Stmt} {scope:Scope} {dV kV doc pm cdv ct oc:Value} {an od:Option Addr}
    {osl:Array (Option Value)} {N ps:List Str} {sp:Sp} (lk:K.lookup f=some ⟨oc,od,.func (PySem.W.fnOf name qual params body scope dV kV doc pm an cdv ct),osl⟩) (hcd:PySem.W.codeIn K cdv qual=true) (S:FnScope N ps scope)
    (len:∀ vs H Q E,sp vs H Q E→vs.length=ps.length)
    (hbody:∀ (A:Around) (outer:List Env) (s:Shared) (H:Hp) (vs:List V) (Q:VK) (E:XK),Room k (A.deeper (envOfC qual scope s.heap.objs.size f cdv))→sp vs H Q E →
      ∃ t,PSs (cxOf CX P w K mg base N qual scope f cdv A outer s H E) body t∧t { nx:=fun _ H'=>Q .non H',rt:=Q } (start N vs) H) :
    FnOk P w K mg base CX (k+1) f (PySem.W.fnOf name qual params body scope dV kV doc pm an cdv ct) ps sp:=by
  refine ⟨len,fun A outer s H args us vs Q E hr e0 hb r hsp=>?_⟩
  have hl:=len _ _ _ _ hsp
  have KX:K.In s.heap:=e0.mod.kin.keeps fun b o e=>(e0.bs b o e).1
  have lim:s.heap.NoLimit:=e0.mod.nolimit.keeps fun b o e=>(e0.bs b o e).1
  have hkind:∀ y ∈ ps.zip us,scope.names.lookup y.1=some .local∨(scope.names.lookup y.1=some .cell∧((cellsFrom (s.heap.objs.size+1) scope.names []).lookup y.1).isSome=true):=fun ⟨n,v⟩ hy=>by
    rcases S.par n (List.of_mem_zip hy).1 with q | q
    · exact .inl q
    · exact .inr ⟨q,PySem.W.cellsFrom_some _ _ _ (.inl q)⟩
  refine codeAny_call_function hr.depth (KX _ _ lk) rfl S.co S.gen rfl (PySem.W.codeRec_of KX hcd) (hb _ _ _ _ ?_)
  refine wpAny_newFunctionEnv_cells S.kind hkind fun env he s1 x=>?_
  subst he
  refine ⟨lim.keeps x.toInCall.keep,codeAny_func ?_⟩
  obtain ⟨t,ht,hq⟩:=hbody A outer s H vs Q E (hr.deeper _) hsp
  have I:Inv (cxOf CX P w K mg base N qual scope f cdv A outer s H E) [] (start N vs) H s1:=inv_start S hr.hd e0 hl r x
  refine wpAny_mono (ht [] s1 (start N vs) H _ I hq) (fun fl s' hs=>?_) fun e s' hs=>hs
  have fin:∀ {σ':St} {H':Hp} {v:V} {u:Value},Inv (cxOf CX P w K mg base N qual scope f cdv A outer s H E) [] σ' H' s'→RelV v u→Q v H'→CE outer P w H s Q u s' :=
    fun {σ' H' v u} J rv q=>⟨v,H',J.os,J.bare,J.base,J.hok,rv,q⟩
  cases fl with
  | ret u =>
    obtain ⟨v,σ',H',J,rv,q⟩:=hs
    exact fin J rv q
  | next =>
    obtain ⟨σ',H',J,q⟩:=hs
    exact fin (v:=V.non) (u:=Value.none) J rfl q
  | brk =>
    obtain ⟨_,_,_,q⟩:=hs
    exact False.elim q
  | cont =>
    obtain ⟨_,_,_,q⟩:=hs
    exact False.elim q
end L2
namespace L2
open PySem PySem.Spec PyProof.Rows
section
variable {X:Cx} {x:Str} {p pos:Pos} {e:Expr} {es:List Expr} {t:TA} {id T:String} {r:List V→Hp→VK→Prop}
def tCB (r:List V→Hp→VK→Prop) (t:TA):TE:=fun σ H Q=>t σ H fun vs H1=>r vs H1 Q
theorem pe_callB (hc:CallR X (.builtin id) r) (hg:Gl X x) (hm:X.mg x=none) (hv:bootBuiltins x=some (.builtin id)) (ha:PA X (e::es) t) (hn:x ≠ "__name__" := by decide) (hdb:(x == ("__debug__" : Str))=false:=by decide)
    (he:starEach (e::es) X.env=(false,eval e X.env)::starEach es X.env:=by rfl) (hpl:(backTo pos (starEach es X.env)).any (·.1)=false:=by rfl):PE X (.Call (.Name x p) (e::es) [] pos) (tCB r t):=by
  intro pins s σ H Q I h
  refine wpAny_Call_Name_kw (ld_blt I hg hm hv ?_ hn hdb)
  exact PyProof.Rows.callWith_builtin1 (thn (ha pos pins s σ H _ I h) fun us s1 ⟨vs,H1,I1,r1,q1⟩=>hc pins s1 σ H1 vs us Q I1 r1 q1) he hpl
theorem pe_callTy (hc:CallR X (.type T) r) (hg:Gl X x) (hm:X.mg x=none) (hv:bootBuiltins x=some (.type T)) (ha:PA X (e::es) t) (hn:x ≠ "__name__" := by decide) (hdb:(x == ("__debug__" : Str))=false:=by decide)
    (he:starEach (e::es) X.env=(false,eval e X.env)::starEach es X.env:=by rfl) (hpl:(backTo pos (starEach es X.env)).any (·.1)=false:=by rfl):PE X (.Call (.Name x p) (e::es) [] pos) (tCB r t):=by
  intro pins s σ H Q I h
  refine wpAny_Call_Name_kw (ld_blt I hg hm hv ?_ hn hdb)
  exact PyProof.Rows.callWith_type1 (thn (ha pos pins s σ H _ I h) fun us s1 ⟨vs,H1,I1,r1,q1⟩=>hc pins s1 σ H1 vs us Q I1 r1 q1) he hpl
end
end L2
namespace HT
open PySem PyProof.Rows
def lexLt:List Int→List Int→Bool
  | [],[]=>false
  | [],_::_=>true
  | _::_,[]=>false
  | x::xs,y::ys=>if x=y then lexLt xs ys else decide (x < y)
section
open PySem.SeqAt
open PySem.AutoSeq1 (wpAny_loadPart')
open PySem.MeetsSeq PySem.MeetsSeq2 PySem.MeetsSeq3
end
section
variable {prog:Program} {w:World} {A:Around} {E:Value→Shared→Prop} {s:Shared}
theorem cat_tup {t b:Addr} {vs ws:List Value} {Q:Value→Shared→Prop} (ht:IsTup s.heap t vs.toArray) (hb:IsTup s.heap b ws.toArray) (hv:vs ≠ [])
    (h1:ws=[]→Q (.ref t) s) (h2:ws ≠ []→Q (.ref s.heap.objs.size) { s with heap:=s.heap.push { cls:=.type "tuple", data:=.seq (vs++ws).toArray } })
    (hsz:vs.length+ws.length≤sizeLine):wpAny (model prog w) A (binaryOp .Add (.ref t) (.ref b)) Q E s:=by
  obtain ⟨⟨cls,dd,data,sl⟩,ho,hc,n,hd⟩:=id ht
  obtain ⟨⟨cls2,dd2,data2,sl2⟩,ho2,hc2,n2,hd2⟩:=id hb
  simp only at hc hd hc2 hd2
  subst hc hd hc2 hd2
  have e:vs.toArray++ws.toArray=(vs++ws).toArray:=by simp
  by_cases hw:ws=[]
  · exact concat_meets ⟨_,ho,rfl⟩ ⟨_,ho2,rfl⟩ noFill_tuple_add seq_tuple_add PySem.F.slot_tuple_add PySem.F.entry_tuple_add (PySem.F.args_tuple_add_2 _ _)
      (tuple_addW1 t b vs.toArray ws.toArray n n2 dd dd2 sl sl2 (by simpa using hv) (by simp [hw])) ⟨ho,ho2,h1 hw⟩
  · refine concat_meets ⟨_,ho,rfl⟩ ⟨_,ho2,rfl⟩ noFill_tuple_add seq_tuple_add PySem.F.slot_tuple_add PySem.F.entry_tuple_add (PySem.F.args_tuple_add_2 _ _)
      (tuple_addW2 t b vs.toArray ws.toArray n n2 dd dd2 sl sl2 (by simpa using hv) (by simpa using hw) (by rw [List.size_toArray,List.size_toArray]; exact hsz)) ⟨ho,ho2,?_⟩
    rw [e]
    exact h2 hw
def sIx (n d:Nat):Option Int→Nat
  | none=>d
  | some v=>if v < 0 then (v+(n:Int)).toNat else min v.toNat n
theorem sIx_none (n d:Nat):sIx n d none=d:=rfl
theorem sIx_nat (n d k:Nat):sIx n d (some (k:Int))=min k n:=by
  show (if (k:Int) < 0 then ((k:Int)+(n:Int)).toNat else min (k:Int).toNat n)=min k n
  rw [if_neg (by omega),Int.toNat_natCast]
theorem sIx_le (n d:Nat) (hd:d≤n) (o:Option Int):sIx n d o≤n:=by
  cases o with
  | none=>exact hd
  | some v =>
    show (if v < 0 then (v+(n:Int)).toNat else min v.toNat n)≤n
    by_cases hv:v < 0
    · rw [if_pos hv]; omega
    · rw [if_neg hv]; exact Nat.min_le_right _ _
theorem clip_eq (v:Int) (n d:Nat):(if v < 0 then max (v+(n:Int)) 0 else min v (n:Int))=((sIx n d (some v):Nat):Int):=by
  show (if v < 0 then max (v+(n:Int)) 0 else min v (n:Int))=(((if v < 0 then (v+(n:Int)).toNat else min v.toNat n):Nat):Int)
  by_cases hv:v < 0
  · simp only [if_pos hv]; omega
  · simp only [if_neg hv]; omega
theorem adjust_gen (lo hi:Option Int) (n:Nat):Builtin.Slice.sliceAdjust lo hi 1 (n:Int)=(((sIx n 0 lo:Nat):Int),((sIx n n hi:Nat):Int)):=by
  have h1:¬ ((1:Int) < 0):=by omega
  unfold Builtin.Slice.sliceAdjust
  simp only [h1,if_false]
  refine Prod.ext ?_ ?_
  · cases lo with
    | none=>rfl
    | some v=>exact clip_eq v n 0
  · cases hi with
    | none=>rfl
    | some v=>exact clip_eq v n n
theorem places_gen (i j:Nat):Builtin.Slice.slicePlaces (i:Int) (j:Int) 1=j - i:=by
  unfold Builtin.Slice.slicePlaces
  have h1:(1:Int) > 0:=by omega
  simp only [h1,if_true,Int.ediv_one]
  split <;> omega
theorem slicePart_ {v:Value} {o:Option Int} {Q:Option Int→Shared→Prop} (p:IsPart v o) (h:Q o s):wpAny (model prog w) A (Builtin.Slice.slicePartIndex v) Q E s:=by
  cases p with
  | none=>exact slicePart_none h
  | int i t=>exact slicePart_int h
theorem sliceApplied_gen {sl:Addr} {vl vu:Value} {lo hi:Option Int} {n:Nat} {Q:Int × Int × Nat→Shared→Prop} (hs:s.heap.IsSliceOf sl vl vu .none) (pl:IsPart vl lo) (pu:IsPart vu hi)
    (h:Q (((sIx n 0 lo:Nat):Int),1,sIx n n hi - sIx n 0 lo) s):wpAny (model prog w) A (Builtin.Slice.sliceApplied (.ref sl) (pure (n:Int))) Q E s:=by
  obtain ⟨os,hos,hcs,hds⟩:=id hs
  unfold Builtin.Slice.sliceApplied Builtin.Slice.sliceFields
  refine wpAny_bind (wpAny_bind (wpAny_field hos hds (x:=vl) rfl (wpAny_bind (wpAny_field hos hds (x:=vu) rfl (wpAny_bind (wpAny_field hos hds (x:=.none) rfl (wpAny_pure ?_)))))))
  refine wpAny_bind (slicePart_none ?_)
  show wpAny _ _ (if ((1:Int) == 0)=true then _ else _) _ _ s
  rw [if_neg (by decide)]
  refine wpAny_bind (slicePart_ pl (wpAny_bind (slicePart_ pu (wpAny_bind (wpAny_pure ?_)))))
  show wpAny _ _ (match Builtin.Slice.sliceAdjust lo hi 1 (n:Int) with | (lo,hi)=>pure (lo,(1:Int),Builtin.Slice.slicePlaces lo hi 1)) _ _ s
  rw [adjust_gen lo hi n]
  show wpAny _ _ (pure (((sIx n 0 lo:Nat):Int),(1:Int),Builtin.Slice.slicePlaces ((sIx n 0 lo:Nat):Int) ((sIx n n hi:Nat):Int) 1)) _ _ s
  rw [places_gen]
  exact wpAny_pure h
theorem pick_gen (xs:Array Value) (i k:Nat):((List.range k).filterMap fun (m:Nat)=>xs[((i:Int)+(m:Int)*1).toNat]?).toArray=((xs.toList.drop i).take k).toArray:=by
  have e:(fun (m:Nat)=>xs[((i:Int)+(m:Int)*1).toNat]?)=fun m=>xs[i+m]?:=by
    funext m
    have:((i:Int)+(m:Int)*1).toNat=i+m:=by omega
    rw [this]
  rw [e]
  have:=pick_run xs i k
  rw [List.filterMap_map] at this
  have e2:((fun x=>xs[x]?) ∘ fun x=>i+x)=fun m=>xs[i+m]?:=rfl
  rw [e2] at this
  rw [this]
theorem getItem_tuple_cut {t sl:Addr} {items:Array Value} {vl vu:Value} {lo hi:Option Int} {Q:Value→Shared→Prop} (ht:IsTup s.heap t items) (hs:s.heap.IsSliceOf sl vl vu .none) (pl:IsPart vl lo) (pu:IsPart vu hi)
    (hw:¬ (sIx items.size 0 lo=0∧sIx items.size items.size hi=items.size))
    (h:Q (.ref s.heap.objs.size) { s with heap:=s.heap.push { cls:=.type "tuple", data:=.seq ((items.toList.drop (sIx items.size 0 lo)).take (sIx items.size items.size hi - sIx items.size 0 lo)).toArray } })
    (hsz:items.size≤sizeLine):wpAny (model prog w) A (getItem (.ref t) (.ref sl)) Q E s:=by
  have htake:sizeOk (.seq ((items.toList.drop (sIx items.size 0 lo)).take (sIx items.size items.size hi - sIx items.size 0 lo)).toArray):=by
    show ((items.toList.drop (sIx items.size 0 lo)).take (sIx items.size items.size hi - sIx items.size 0 lo)).toArray.size≤sizeLine
    rw [List.size_toArray,List.length_take,List.length_drop,Array.length_toList]
    omega
  have hj:sIx items.size items.size hi≤items.size:=sIx_le _ _ (Nat.le_refl _) hi
  obtain ⟨os,hos,hcs,hds⟩:=id hs
  have hTs:s.TypeIs (.ref sl) "slice" := ⟨os,hos,hcs⟩
  unfold getItem
  try with_reducible refine wpAny_holding ?_
  first | refine wpAny_bind (wpAny_pure ?_) | skip
  refine wpAny_bind (wpAny_sequenceKey ht.typeIs (by decide) ?_)
  refine wpAny_bind (wpAny_callSpecial?_slot (name:=Str.ofString "__getitem__") ht.typeIs PyProof.Rows.slot_tuple_getitem
    (wpAny_call_entry PyProof.Rows.slot_tuple_getitem ht.typeIs entry_tuple_getitem ?_ (args_tuple_getitem _ _)))
  show wpAny _ _ (Builtin.Tuple.tupleItemsOf (.ref t) >>= _) _ _ s
  refine wpAny_bind (tupleItemsOf_ ht ?_)
  refine wpAny_bind (wpAny_typeOf hTs ?_)
  rw [if_pos (by decide)]
  refine wpAny_bind (sliceApplied_gen hs pl pu ?_)
  have hno:¬ ((((sIx items.size 0 lo:Nat):Int) == 0 && (1:Int) == 1 && (sIx items.size items.size hi - sIx items.size 0 lo) == items.size)=true):=by
    intro q
    rw [Bool.and_eq_true,Bool.and_eq_true] at q
    have q1:((sIx items.size 0 lo:Nat):Int)=0:=eq_of_beq q.1.1
    have q2:sIx items.size items.size hi - sIx items.size 0 lo=items.size:=eq_of_beq q.2
    exact hw ⟨by omega,by omega⟩
  show wpAny _ _ (if (((sIx items.size 0 lo:Nat):Int) == 0 && (1:Int) == 1 && (sIx items.size items.size hi - sIx items.size 0 lo) == items.size)=true then _ else _) _ _ s
  rw [if_neg hno,pick_gen]
  first
    | exact wpAny_bind (m:=Builtin.Tuple.tupleExact _) (wpAny_newObj_type (wpAny_pure ⟨_,rfl,wpAny_pure h⟩) htake)
    | exact wpAny_bind (m:=Builtin.Tuple.tupleExact _) (wpAny_newObj_type (wpAny_bind (wpAny_pure (wpAny_pure ⟨_,rfl,wpAny_pure h⟩))) htake)
    | exact wpAny_bind (wpAny_bind (m:=Builtin.Tuple.tupleExact _) (wpAny_newObj_type (wpAny_pure (wpAny_pure ⟨_,rfl,wpAny_pure h⟩)) htake))
    | exact wpAny_bind (wpAny_bind (m:=Builtin.Tuple.tupleExact _) (wpAny_newObj_type (wpAny_pure ⟨_,rfl,wpAny_pure h⟩) htake))
end
end HT
namespace L2
open PySem PySem.Spec PyProof.Rows
abbrev TO:=St→Hp→(Option Int→Hp→Prop)→Prop
def PO (X:Cx) (e:Option Expr) (t:TO):Prop :=
  ∀ (pins:List (Addr × Obj)) (s:Shared) (σ:St) (H:Hp) (Q:Option Int→Hp→Prop),Inv X pins σ H s→t σ H Q →
    wpAny (model X.prog X.w) X.A (evalPart e X.env) (fun u s'=>∃ o H',Inv X pins σ H' s'∧IsPart u o∧Q o H') X.xe s
def tNoPart:TO:=fun _ H Q=>Q none H
def tPart (t:TE):TO:=fun σ H Q=>t σ H fun x H1=>∃ i,x=.int i∧Q (some i) H1
section
variable {X:Cx} {e:Expr} {te:TE} {lo hi:Option Expr} {tl th:TO} {pos p2:Pos}
theorem po_none:PO X none tNoPart:=by
  intro pins s σ H Q I h
  rw [evalPart_none]
  exact wpAny_pure ⟨none,H,I,.none,h⟩
theorem po_some (h:PE X e te):PO X (some e) (tPart te):=by
  intro pins s σ H Q I hw
  rw [evalPart_some]
  refine thn (h pins s σ H _ I hw) fun u s1 ⟨x,H1,I1,r1,q1⟩=>?_
  obtain ⟨i,rfl,q⟩:=q1
  obtain ⟨t,rfl⟩:=r1
  exact ⟨some i,H1,I1,.int i t,q⟩
def SlR (X:Cx) (r:V→Option Int→Option Int→Hp→VK→Prop):Prop :=
  ∀ (pins:List (Addr × Obj)) (s:Shared) (σ:St) (H:Hp) (x:V) (v vl vu:Value) (lo hi:Option Int) (sl:Addr) (Q:VK),Inv X pins σ H s→RelV x v→s.heap.IsSliceOf sl vl vu .none→IsPart vl lo→IsPart vu hi→r x lo hi H Q →
    ∃ T id,typeLookup (.type T) "__getitem__" = pure (some (.builtin id))∧s.TypeIs v T∧wpAny (model X.prog X.w) X.A (getItem v (.ref sl)) (EP X pins σ Q) X.xe s
def tSl (r:V→Option Int→Option Int→Hp→VK→Prop) (te:TE) (tl th:TO):TE:=fun σ H Q=>te σ H fun x H1=>tl σ H1 fun l H2=>th σ H2 fun u H3=>r x l u H3 Q
theorem pe_slice {r:V→Option Int→Option Int→Hp→VK→Prop} (hr:SlR X r) (he:PE X e te) (hl:PO X lo tl) (hu:PO X hi th):PE X (.Subscript e (.Slice lo hi none p2) pos) (tSl r te tl th):=by
  intro pins s σ H Q I h
  refine Subscript_ (thn (he pins s σ H _ I h) fun v s1 ⟨x,H1,I1,r1,q1⟩=>?_)
  refine wpAny_Slice (thn (hl pins s1 σ H1 _ I1 q1) fun vl s2 ⟨l,H2,I2,pl,q2⟩=>thn (hu pins s2 σ H2 _ I2 q2) fun vu s3 ⟨u,H3,I3,pu,q3⟩=>?_)
  rw [evalPart_none]
  refine wpAny_pure ?_
  have I4:Inv X pins σ H3 { s3 with heap:=s3.heap.push { cls:=.type "slice", data:=.fields #[vl,vu,.none] } }:=I3.kept (t':=s3.toks) fun b ob q=>Heap.get?_push_of_some _ q
  obtain ⟨T,id,hT,ht,hg⟩:=hr pins { s3 with heap:=s3.heap.push { cls:=.type "slice", data:=.fields #[vl,vu,.none] } } σ H3 x v vl vu l u s3.heap.objs.size Q I4 r1 (Heap.IsSliceOf.new ..) pl pu q3
  show wpAny (model X.prog X.w) X.A (subscriptTail e (.Slice lo hi none p2) v (.ref s3.heap.objs.size)) (EP X pins σ Q) X.xe { s3 with heap:=s3.heap.push { cls:=.type "slice", data:=.fields #[vl,vu,.none] } }
  exact tail_any (ops:=[.ref s3.heap.objs.size,v]) ht hT hg (by with_unfolding_all rfl)
def cutV (xs:List V) (lo hi:Option Int):List V:=(xs.drop (HT.sIx xs.length 0 lo)).take (HT.sIx xs.length xs.length hi - HT.sIx xs.length 0 lo)
theorem cutV_length (xs:List V) (lo hi:Option Int):(cutV xs lo hi).length≤xs.length:=by
  unfold cutV
  rw [List.length_take,List.length_drop]
  omega
def rSlT (K:PySem.W.Frag):V→Option Int→Option Int→Hp→VK→Prop:=fun x lo hi H Q=>∃ a xs,x=.ref a∧SqT K H a xs ∧
  ¬ (HT.sIx xs.length 0 lo=0∧HT.sIx xs.length xs.length hi=xs.length)∧∀ p,H p=none→Q (.ref p) (upd H p (.tup (cutV xs lo hi)))
theorem sl_tup:SlR X (rSlT X.K):=by
  intro pins s σ H x v vl vu lo hi sl Q I rx hs pl pu h
  obtain ⟨a,xs,rfl,hx,hw,q⟩:=h
  cases rx
  obtain ⟨its,r,ht,hz⟩:=I.tuple hx
  have hlen:its.toArray.size=xs.length:=by rw [List.size_toArray]; exact r.length.symm
  refine ⟨"tuple", _,PyProof.Rows.slot_tuple_getitem.lookup,ht.typeIs,?_⟩
  refine HT.getItem_tuple_cut ht hs pl pu (by rw [hlen]; exact hw) ?_ (by rw [hlen]; exact hz)
  rw [hlen]
  refine ⟨.ref s.heap.objs.size,_,I.laid (t':=s.toks) (o:=.tup (cutV xs lo hi)) (fun b ob q=>Heap.get?_push_of_some _ q) (Nat.le_refl _) ?_,rfl,q _ (I.hok.fresh (Nat.le_refl _))⟩
  exact ⟨Nat.le_trans (cutV_length xs lo hi) hz,_,(r.drop (HT.sIx xs.length 0 lo)).take (HT.sIx xs.length xs.length hi - HT.sIx xs.length 0 lo),IsTup.new _ _,_,Heap.get?_push_size _ rfl,rfl⟩
def rLtT (K:PySem.W.Frag):R2:=fun x y H Q=>∃ a b ns ms,x=.ref a∧y=.ref b∧SqT K H a (ns.map V.int)∧SqT K H b (ms.map V.int)∧Q (.bl (HT.lexLt ns ms)) H
def rCatT (K:PySem.W.Frag):R2:=fun x y H Q=>∃ a b xs ys,x=.ref a∧y=.ref b∧SqT K H a xs∧SqT K H b ys∧xs ≠ []∧xs.length+ys.length≤sizeLine ∧
  (ys=[]→Q (.ref a) H)∧(ys ≠ []→∀ p,H p=none→Q (.ref p) (upd H p (.tup (xs++ys))))
theorem Vals.nil_iff {xs:List V} {us:List Value} (r:Vals xs us):us=[]↔xs=[]:=by
  cases r with
  | nil=>simp
  | cons _ _=>simp
theorem op_catT:OpR X (binaryOp .Add) (rCatT X.K):=by
  intro pins s σ H x y v u Q I rx ry h
  obtain ⟨a,b,xs,ys,rfl,rfl,ha,hb,hx,hz,q1,q2⟩:=h
  cases rx
  cases ry
  obtain ⟨its,r1,p1,_⟩:=I.tuple ha
  obtain ⟨its2,r2,p2,_⟩:=I.tuple hb
  refine HT.cat_tup p1 p2 (fun z=>hx (r1.nil_iff.mp z)) (fun z=>⟨.ref a,H,I,rfl,q1 (r2.nil_iff.mp z)⟩) (fun z=>?_) (by rw [← r1.length,← r2.length]; exact hz)
  refine ⟨.ref s.heap.objs.size,_,I.laid (t':=s.toks) (o:=.tup (xs++ys)) (fun b ob q=>Heap.get?_push_of_some _ q) (Nat.le_refl _) ?_,rfl,q2 (fun w=>z (r2.nil_iff.mpr w)) _ (I.hok.fresh (Nat.le_refl _))⟩
  exact ⟨by rw [List.length_append]; exact hz,_,r1.append r2,IsTup.new _ _,_,Heap.get?_push_size _ rfl,rfl⟩
end
end L2
namespace L2
open PySem PySem.Spec PyProof.Rows
def ixN (n:Nat) (i:Int):Option Nat:=if 0≤i then (if i < n then some i.toNat else none) else if -(n:Int)≤i then some (i+n).toNat else none
def atI {α:Type} (xs:List α) (i:Int):Option α:=(ixN xs.length i).bind fun j=>xs[j]?
theorem ixN_seq {n:Nat} {i:Int} {j:Nat} (h:ixN n i=some j):seqIndex? i n=some j∧j < n∧-(n:Int)≤i∧i < n:=by
  unfold ixN at h
  by_cases h0:0≤i
  · rw [if_pos h0] at h
    by_cases h1:i < n
    · rw [if_pos h1] at h
      have e:i.toNat=j:=Option.some.inj h
      exact ⟨by rw [seqIndex_of h0 h1,e],by omega,by omega,h1⟩
    · rw [if_neg h1] at h; cases h
  · rw [if_neg h0] at h
    by_cases h1:-(n:Int)≤i
    · rw [if_pos h1] at h
      have e:(i+n).toNat=j:=Option.some.inj h
      exact ⟨by rw [seqIndex_neg (by omega) h1,e],by omega,h1,by omega⟩
    · rw [if_neg h1] at h; cases h
theorem atI_get {α:Type} {xs:List α} {i:Int} {v:α} (h:atI xs i=some v):∃ j,seqIndex? i xs.length=some j∧xs[j]?=some v∧j < xs.length∧-(xs.length:Int)≤i∧i < xs.length:=by
  unfold atI at h
  cases e:ixN xs.length i with
  | none=>rw [e] at h; cases h
  | some j =>
    rw [e] at h
    obtain ⟨h1,h2,h3,h4⟩:=ixN_seq e
    exact ⟨j,h1,h,h2,h3,h4⟩
theorem atI_nat {α:Type} {xs:List α} {j:Nat} {v:α} (h:xs[j]?=some v):atI xs (j:Int)=some v:=by
  have hj:j < xs.length:=(List.getElem?_eq_some_iff.mp h).1
  have e:ixN xs.length (j:Int)=some j:=by
    unfold ixN
    rw [if_pos (by omega),if_pos (by omega)]; simp
  unfold atI; rw [e]; exact h
def PlainIx (b:Expr):Prop:=∀ o i,subscripted b false o i=operate [o,i] (getItem o i)
def IxR (X:Cx) (r:R2):Prop :=
  ∀ (value slice:Expr) (pins:List (Addr × Obj)) (s:Shared) (σ:St) (H:Hp) (x y:V) (v u:Value) (Q:VK),Inv X pins σ H s→RelV x v→RelV y u→r x y H Q →
    subscripted slice false v u=operate [v,u] (getItem v u)→wpAny (model X.prog X.w) X.A (subscriptTail value slice v u) (EP X pins σ Q) X.xe s
def MtR (X:Cx) (id:String) (r:V→List V→Hp→VK→Prop):Prop :=
  ∀ (pins:List (Addr × Obj)) (s:Shared) (σ:St) (H:Hp) (x:V) (xs:List V) (v:Value) (us:List Value) (Q:VK),Inv X pins σ H s→RelV x v→Vals xs us→r x xs H Q →
    wpAny (model X.prog X.w) X.A (call (.builtin id) (v::us)) (EP X pins σ Q) X.xe s
section
variable {X:Cx} {a b:Expr} {ta tb:TE} {pos:Pos}
theorem pe_ix {r:R2} (hr:IxR X r) (ha:PE X a ta) (hb:PE X b tb) (hs:PlainIx b):PE X (.Subscript a b pos) (tOp r ta tb):=by
  intro pins s σ H Q I h
  exact Subscript_ (binT ha hb I h fun v u s2 x y H2 I2 rx ry q=>hr a b pins s2 σ H2 x y v u Q I2 rx ry q (hs _ _))
def rIxL (K:PySem.W.Frag):R2:=fun x y H Q=>∃ p xs i v,x=.ref p∧y=.int i∧SqL K H p xs∧atI xs i=some v∧Q v H
def rIxT (K:PySem.W.Frag):R2:=fun x y H Q=>∃ p xs i v,x=.ref p∧y=.int i∧SqT K H p xs∧atI xs i=some v∧Q v H
def rIxS:R2:=fun x y H Q=>∃ z i c,x=.str z∧y=.int i∧z.length≤sizeLine∧atI z.cps.toList i=some c∧Q (.str ⟨#[c]⟩) H
theorem ix_list:IxR X (rIxL X.K):=by
  intro value slice pins s σ H x y v u Q I rx ry h hs
  obtain ⟨p,xs,i,z,rfl,rfl,hq,he,q⟩:=h
  cases rx
  obtain ⟨t,rfl⟩:=ry
  obtain ⟨its,r,pl,hz⟩:=I.list hq
  obtain ⟨j,h1,h2,h3,h4,h5⟩:=atI_get he
  obtain ⟨w,ew,rw'⟩:=r.get h2
  have hl:=r.length
  have hn:=line63
  have fin:EP X pins σ Q w s:=⟨z,H,I,rw',q⟩
  by_cases h0:0≤i
  · have hj:i.toNat=j:=by
      rw [seqIndex_of h0 h5] at h1
      exact Option.some.inj h1
    exact item_listR pl.isList h0 (by omega) (by rw [hj]; simpa using ew) fin hs
  · have hj:(i+(its.toArray.size:Int)).toNat=j:=by
      rw [seqIndex_neg (by omega) h4] at h1
      rw [List.size_toArray,← hl]
      exact Option.some.inj h1
    exact subscriptTail_builtinR (x:=w) pl.isList.typeIs slot_list_getitem.lookup
      (wpAny_getItem_list_neg (Q:=fun r s'=>r=w∧EP X pins σ Q r s') pl.isList (by omega) (by rw [List.size_toArray] <;> omega) (by omega) (by rw [hj]; simpa using ew) ⟨rfl,fin⟩) hs
theorem ix_tup:IxR X (rIxT X.K):=by
  intro value slice pins s σ H x y v u Q I rx ry h hs
  obtain ⟨p,xs,i,z,rfl,rfl,hq,he,q⟩:=h
  cases rx
  obtain ⟨t,rfl⟩:=ry
  obtain ⟨its,r,pl,hz⟩:=I.tuple hq
  obtain ⟨j,h1,h2,h3,h4,h5⟩:=atI_get he
  obtain ⟨w,ew,rw'⟩:=r.get h2
  have hl:=r.length
  have hn:=line63
  have fin:EP X pins σ Q w s:=⟨z,H,I,rw',q⟩
  exact subscriptTail_builtinR (x:=w) pl.typeIs slot_tuple_getitem.lookup
    (getItem_tuple (j:=j) (Q:=fun r s'=>r=w∧EP X pins σ Q r s') pl (by omega) (by omega) (by rw [List.size_toArray,← hl]; exact h1) (by simpa using ew) ⟨rfl,fin⟩) hs
theorem ix_str:IxR X rIxS:=by
  intro value slice pins s σ H x y v u Q I rx ry h hs
  obtain ⟨z,i,c,rfl,rfl,hz,he,q⟩:=h
  obtain ⟨t,rfl⟩:=rx
  obtain ⟨t',rfl⟩:=ry
  obtain ⟨j,h1,h2,h3,h4,h5⟩:=atI_get he
  have hl:z.cps.toList.length=z.length:=by simp [Str.length]
  rw [hl] at h1 h4 h5
  have hn:=line63
  exact tail_any (typeIs_str s z t) slot_str_getitem.lookup (getItem_str (c:=c) (by
    have e1:decide (i < -(2 ^ 63:Int))=false:=decide_eq_false (by omega)
    have e2:decide (i ≥ 2 ^ 63)=false:=decide_eq_false (by omega)
    rw [e1,e2,Bool.or_false]) (by rw [h1]; simpa using h2) ⟨.str ⟨#[c]⟩,H,I.tok _,⟨_,rfl⟩,q⟩) hs
def rIx (K:PySem.W.Frag):R2:=fun x y H Q=>rIxL K x y H Q∨rIxT K x y H Q∨rIxS x y H Q
theorem mapSeq_set (its:List Value) (n j:Nat) (u:Value):Obj.mapSeq (·.setIfInBounds j u) { cls:=.type "list", data:=.seq its.toArray n }={ cls:=.type "list", data:=.seq (its.set j u).toArray n }:=by
  simp [Obj.mapSeq]
theorem Inv.lst {pins:List (Addr × Obj)} {σ:St} {H:Hp} {s:Shared} {p:Addr} {xs:List V} (I:Inv X pins σ H s) (h:H p=some (.lst xs)) :
    ∃ (its:List Value) (n:Nat),Vals xs its∧s.heap.get? p=some { cls:=.type "list", data:=.seq its.toArray n }∧xs.length≤sizeLine:=by
  obtain ⟨z,its,n,r,e⟩:=I.hok p _ h
  exact ⟨its,n,r,e,z⟩
theorem Inv.lstUpd {pins:List (Addr × Obj)} {σ:St} {H:Hp} {s:Shared} {p:Addr} {xs ys:List V} {its its':List Value} {n n':Nat} {f:Obj→Obj} (I:Inv X pins σ H s) (h:H p=some (.lst xs))
    (ho:s.heap.get? p=some { cls:=.type "list", data:=.seq its.toArray n }) (hf:f { cls:=.type "list", data:=.seq its.toArray n }={ cls:=.type "list", data:=.seq its'.toArray n' }) (r:Vals ys its') (hz:ys.length≤sizeLine) (t:Nat) :
    Inv X pins σ (upd H p (.lst ys)) { s with heap:=s.heap.update p f,toks:=t }:=by
  have e:(s.heap.update p f).get? p=some { cls:=.type "list", data:=.seq its'.toArray n' }:=by
    rw [Heap.get?_update_self f ho (by rw [hf] <;> rfl),hf]
  refine I.write (x:=p) (e:=p) (by rw [h]; trivial) (.inl rfl) (fun b u hb q=>(Heap.get?_update_other _ _ (Ne.symm hb)).trans q) ⟨_,e⟩ ?_
  exact ⟨hz,its',n',r,e⟩
def rSetL:V→V→V→Hp→(Hp→Prop)→Prop:=fun o i v H Q=>∃ p xs k j,o=.ref p∧i=.int k∧H p=some (.lst xs)∧ixN xs.length k=some j∧Q (upd H p (.lst (xs.set j v)))
theorem set_list:PSet X rSetL:=by
  intro pins s σ H o i v ov iv u Q I ro ri rv h
  obtain ⟨p,xs,k,j,rfl,rfl,hp,hj,q⟩:=h
  cases ro
  obtain ⟨t,rfl⟩:=ri
  obtain ⟨its,n,r,ho,hz⟩:=I.lst hp
  obtain ⟨h1,h2,h3,h4⟩:=ixN_seq hj
  have hl:=r.length
  have hn:=line63
  have I':Inv X pins σ (upd H p (.lst (xs.set j v))) { s with heap:=s.heap.update p (Obj.mapSeq (·.setIfInBounds j u)) } :=
    I.lstUpd hp ho (mapSeq_set its n j u) (r.set rv j) (by rw [List.length_set]; exact hz) s.toks
  by_cases h0:0≤k
  · have hk:k.toNat=j:=by
      rw [seqIndex_of h0 h4] at h1
      exact Option.some.inj h1
    exact PySem.W.ki_setAt ho h0 (by omega) (by rw [List.size_toArray,← hl]; exact h4) (by rw [hk]; exact ⟨_,I',q⟩)
  · have hk:(k+(its.toArray.size:Int)).toNat=j:=by
      rw [seqIndex_neg (by omega) h3] at h1
      rw [List.size_toArray,← hl]
      exact Option.some.inj h1
    exact PySem.W.ki_setBack ho (by omega) (by rw [List.size_toArray,← hl]; exact h3) (by omega) (by rw [hk]; exact ⟨_,I',q⟩)
theorem slice_bounds (lo hi:Option Int) (n:Nat):(sliceBounds lo hi none n).1=((HT.sIx n 0 lo:Nat):Int)∧(sliceBounds lo hi none n).2.1=((HT.sIx n n hi:Nat):Int)∧(sliceBounds lo hi none n).2.2=1:=by
  refine ⟨?_,?_,rfl⟩
  · cases lo with
    | none=>simp [sliceBounds,HT.sIx]
    | some i =>
      simp only [sliceBounds,HT.sIx,Option.getD_none,show (1:Int) > 0 by decide,if_true]
      by_cases h:i < 0
      · simp only [h,if_true] <;> omega
      · simp only [h,if_false] <;> omega
  · cases hi with
    | none=>simp [sliceBounds,HT.sIx]
    | some i =>
      simp only [sliceBounds,HT.sIx,Option.getD_none,show (1:Int) > 0 by decide,if_true]
      by_cases h:i < 0
      · simp only [h,if_true] <;> omega
      · simp only [h,if_false] <;> omega
theorem slicePick_cut (its:List Value) (lo hi:Option Int):slicePick its.toArray lo hi none=((its.drop (HT.sIx its.length 0 lo)).take (HT.sIx its.length its.length hi - HT.sIx its.length 0 lo)).toArray:=by
  obtain ⟨h1,h2,h3⟩:=slice_bounds lo hi its.toArray.size
  unfold slicePick
  rw [h1,h2,h3]
  simp only [sliceRange_one,pick_run,List.size_toArray] <;> rfl
def rSlL (K:PySem.W.Frag):V→Option Int→Option Int→Hp→VK→Prop:=fun x lo hi H Q=>∃ a xs,x=.ref a∧SqL K H a xs∧∀ p,H p=none→Q (.ref p) (upd H p (.lst (cutV xs lo hi)))
theorem sl_list:SlR X (rSlL X.K):=by
  intro pins s σ H x v vl vu lo hi sl Q I rx hs pl pu h
  obtain ⟨a,xs,rfl,hx,q⟩:=h
  cases rx
  obtain ⟨its,r,ht,hz⟩:=I.list hx
  have hlen:=r.length
  refine ⟨"list", _,slot_list_getitem.lookup,ht.isList.typeIs,?_⟩
  refine wpAny_getItem_list_slice ht.isList hs pl pu .none (by simp) ?_ (by rw [List.size_toArray] <;> omega)
  rw [slicePick_cut,← hlen]
  refine ⟨.ref s.heap.objs.size,_,I.laid (t':=s.toks) (o:=.lst (cutV xs lo hi)) (fun b ob q=>Heap.get?_push_of_some _ q) (Nat.le_refl _) ?_,rfl,q _ (I.hok.fresh (Nat.le_refl _))⟩
  exact ⟨Nat.le_trans (cutV_length xs lo hi) hz,_,0,(r.drop (HT.sIx xs.length 0 lo)).take (HT.sIx xs.length xs.length hi - HT.sIx xs.length 0 lo),Heap.get?_push_size _ rfl⟩
def flatV:V→Bool
  | .non=>true
  | .bl _=>true
  | .int _=>true
  | .str _=>true
  | _=>false
def eqV:V→V→Bool
  | .non,.non=>true
  | .bl a,.bl b=>a == b
  | .bl a,.int b=>(if a then 1 else 0) == b
  | .int a,.bl b=>a == (if b then 1 else 0)
  | .int a,.int b=>a == b
  | .str a,.str b=>a == b
  | _,_=>false
theorem eqAt_V {A:Around} {s:Shared} {y x:V} {u v:Value} (ry:RelV y u) (rx:RelV x v) (fy:flatV y=true) (fx:flatV x=true):SeqAt.EqAt A s u v (eqV y x):=by
  cases y with
  | non =>
    cases ry
    cases x with
    | non=>cases rx; exact SeqAt.EqAt.same _
    | bl b=>cases rx; exact SeqAt.EqAt.none_bool b
    | int b=>obtain ⟨t,rfl⟩:=rx; exact SeqAt.EqAt.none_int b t
    | str b=>obtain ⟨t,rfl⟩:=rx; exact SeqAt.EqAt.none_str b t
    | _=>exact absurd (show false=true from fx) Bool.false_ne_true
  | bl a =>
    cases ry
    cases x with
    | non=>cases rx; exact SeqAt.EqAt.bool_none a
    | bl b=>cases rx; exact SeqAt.EqAt.bool_bool a b
    | int b=>obtain ⟨t,rfl⟩:=rx; exact SeqAt.EqAt.bool_int a b t
    | str b=>obtain ⟨t,rfl⟩:=rx; exact SeqAt.EqAt.bool_str a b t
    | _=>exact absurd (show false=true from fx) Bool.false_ne_true
  | int a =>
    obtain ⟨t',rfl⟩:=ry
    cases x with
    | non=>cases rx; exact SeqAt.EqAt.int_none a t'
    | bl b=>cases rx; exact SeqAt.EqAt.int_bool a t' b
    | int b=>obtain ⟨t,rfl⟩:=rx; exact SeqAt.EqAt.int_int a t' b t
    | str b=>obtain ⟨t,rfl⟩:=rx; exact SeqAt.EqAt.int_str a t' b t
    | _=>exact absurd (show false=true from fx) Bool.false_ne_true
  | str a =>
    obtain ⟨t',rfl⟩:=ry
    cases x with
    | non=>cases rx; exact SeqAt.EqAt.str_none a t'
    | bl b=>cases rx; exact SeqAt.EqAt.str_bool a t' b
    | int b=>obtain ⟨t,rfl⟩:=rx; exact SeqAt.EqAt.str_int a t' b t
    | str b=>obtain ⟨t,rfl⟩:=rx; exact SeqAt.EqAt.str_str a t' b t
    | _=>exact absurd (show false=true from fx) Bool.false_ne_true
  | _=>exact absurd (show false=true from fy) Bool.false_ne_true
def eqU (x:V) (u:Value):Bool:=match u with
  | .none=>eqV .non x
  | .bool b=>eqV (.bl b) x
  | .int i _=>eqV (.int i) x
  | .str z _=>eqV (.str z) x
  | _=>false
theorem eqU_of {x y:V} {u:Value} (r:RelV y u) (f:flatV y=true):eqU x u=eqV y x:=by
  cases y with
  | non=>cases r; rfl
  | bl b=>cases r; rfl
  | int i=>obtain ⟨t,rfl⟩:=r; rfl
  | str z=>obtain ⟨t,rfl⟩:=r; rfl
  | _=>exact absurd (show false=true from f) Bool.false_ne_true
theorem any_eqU {x:V}:∀ {xs:List V} {us:List Value},Vals xs us→xs.all flatV=true→us.any (eqU x)=xs.any fun y=>eqV y x
  | _,_,.nil,_=>rfl
  | y::xs,u::us,.cons r t,f=>by
    rw [List.all_cons,Bool.and_eq_true] at f
    rw [List.any_cons,List.any_cons,eqU_of r f.1,any_eqU t f.2]
theorem mem_eqAt {A:Around} {s:Shared} {x:V} {v:Value} (rx:RelV x v) (fx:flatV x=true):∀ {xs:List V} {us:List Value},Vals xs us→xs.all flatV=true→∀ u ∈ us,SeqAt.EqAt A s u v (eqU x u)
  | _,_,.nil,_=>fun u hu=>by cases hu
  | y::xs,u::us,.cons r t,f=>fun u' hu=>by
    rw [List.all_cons,Bool.and_eq_true] at f
    rcases List.mem_cons.mp hu with rfl | hu
    · rw [eqU_of r f.1]; exact eqAt_V r rx f.1 fx
    · exact mem_eqAt rx fx t f.2 u' hu
def inV (x:V) (xs:List V):Bool:=xs.any fun y=>eqV y x
def rIn (K:PySem.W.Frag) (neg:Bool):R2:=fun x y H Q=>∃ p xs,y=.ref p∧(SqL K H p xs∨SqT K H p xs)∧flatV x=true∧xs.all flatV=true∧Q (.bl (if neg then !inV x xs else inV x xs)) H
theorem op_in_seq:OpR X (compareOp .In) (rIn X.K false):=by
  intro pins s σ H x y v u Q I rx ry h
  obtain ⟨p,xs,rfl,hq,fx,fs,q⟩:=h
  cases ry
  rcases hq with hq | hq
  · obtain ⟨its,r,pl,hz⟩:=I.list hq
    refine SeqAt.in_listAt (eqU x) pl.isList (fun w hw=>mem_eqAt rx fx r fs w (by simpa using hw)) ⟨.bl _,H,I,rfl,?_⟩
    rw [show its.toArray.any (eqU x)=its.any (eqU x) by simp,any_eqU r fs]
    exact q
  · obtain ⟨its,r,pl,hz⟩:=I.tuple hq
    refine SeqAt.in_tupleAt (eqU x) pl (fun w hw=>mem_eqAt rx fx r fs w (by simpa using hw)) ⟨.bl _,H,I,rfl,?_⟩
    rw [show its.toArray.any (eqU x)=its.any (eqU x) by simp,any_eqU r fs]
    exact q
theorem op_notIn_seq:OpR X (compareOp .NotIn) (rIn X.K true):=by
  intro pins s σ H x y v u Q I rx ry h
  obtain ⟨p,xs,rfl,hq,fx,fs,q⟩:=h
  cases ry
  rcases hq with hq | hq
  · obtain ⟨its,r,pl,hz⟩:=I.list hq
    refine SeqAt.notIn_listAt (eqU x) pl.isList (fun w hw=>mem_eqAt rx fx r fs w (by simpa using hw)) ⟨.bl _,H,I,rfl,?_⟩
    rw [show its.toArray.any (eqU x)=its.any (eqU x) by simp,any_eqU r fs]
    exact q
  · obtain ⟨its,r,pl,hz⟩:=I.tuple hq
    refine SeqAt.notIn_tupleAt (eqU x) pl (fun w hw=>mem_eqAt rx fx r fs w (by simpa using hw)) ⟨.bl _,H,I,rfl,?_⟩
    rw [show its.toArray.any (eqU x)=its.any (eqU x) by simp,any_eqU r fs]
    exact q
theorem call_len_seq:CallR X (.builtin "len") (fun xs H Q=>∃ p ys,xs=[.ref p]∧(SqL X.K H p ys∨SqT X.K H p ys)∧Q (.int ys.length) H):=by
  intro pins s σ H xs us Q I r h
  obtain ⟨p,ys,rfl,hq,q⟩:=h
  obtain ⟨u,rfl,rx⟩:=vals1 r
  cases rx
  have hn:=line63
  rcases hq with hq | hq
  · obtain ⟨its,r',pl,hz⟩:=I.list hq
    have hlen:=r'.length
    exact Calls.call_len_list pl.isList (by simp only [List.size_toArray] <;> omega) ⟨.int ys.length,H,I.tok _,⟨s.toks+1,by rw [List.size_toArray,hlen]⟩,q⟩
  · obtain ⟨its,r',pl,hz⟩:=I.tuple hq
    have hlen:=r'.length
    exact len_tuple pl (by simp only [List.size_toArray] <;> omega) ⟨.int ys.length,H,I.tok _,⟨s.toks+1,by rw [List.size_toArray,hlen]⟩,q⟩
theorem call_tuple_of:CallR X (.type "tuple") (fun xs H Q=>∃ p ys,xs=[.ref p]∧((SqL X.K H p ys∧∀ l,H l=none→Q (.ref l) (upd H l (.tup ys)))∨(SqT X.K H p ys∧Q (.ref p) H))):=by
  intro pins s σ H xs us Q I r h
  obtain ⟨p,ys,rfl,h⟩:=h
  obtain ⟨u,rfl,rx⟩:=vals1 r
  cases rx
  rcases h with ⟨hq,q⟩ | ⟨hq,q⟩
  · obtain ⟨its,r',pl,hz⟩:=I.list hq
    have hlen:=r'.length
    refine call_tuple_list pl.isList (fun h' kp=>?_) (by simp only [List.size_toArray] <;> omega)
    have I1:Inv X pins σ H { s with heap:=h' }:=I.kept (t':=s.toks) kp
    have I2:Inv X pins σ (upd H h'.objs.size (.tup ys)) { s with heap:=h'.push { cls:=.type "tuple", data:=.seq its.toArray } } :=
      I1.laid (t':=s.toks) (fun b o e=>Heap.get?_push_of_some _ e) (Nat.le_refl _) (show ObjOk X.prog X.w _ _ _ (.tup ys) from ⟨hz,its,r',IsTup.new _ _,_,Heap.get?_push_size _ rfl,rfl⟩)
    exact ⟨.ref h'.objs.size,_,I2,rfl,q _ (I1.hok.fresh (Nat.le_refl _))⟩
  · obtain ⟨its,r',pl,hz⟩:=I.tuple hq
    exact call_tuple_same pl ⟨.ref p,H,I,rfl,q⟩
def tyV (K:PySem.W.Frag) (T:String) (x:V) (H:Hp):Prop:=match x with
  | .str _=>T = "str"
  | .int _=>T = "int"
  | .ref p=>(T = "list" ∧ ∃ xs,SqL K H p xs)∨(T = "tuple" ∧ ∃ o,K.lookup p=some o∧o.cls=.type "tuple" ∧ o.dict=none) ∨
      (T = "dict" ∧ ((∃ kvs,H p=some (.dK kvs))∨∃ kvs,H p=some (.dT kvs)))∨(T = "set" ∧ ∃ S n,H p=some (.set S n))
  | _=>False
theorem tyV_is {pins:List (Addr × Obj)} {σ:St} {H:Hp} {s:Shared} {T:String} {x:V} {v:Value} (I:Inv X pins σ H s) (r:RelV x v) (ty:tyV X.K T x H) :
    s.TypeIs v T∧∀ a,v=.ref a→∃ ob,s.heap.get? a=some ob∧ob.dict=none:=by
  cases x with
  | str z =>
    obtain ⟨t,rfl⟩:=r
    cases (show T = "str" from ty)
    exact ⟨typeIs_str s z t,fun _ e=>nomatch e⟩
  | int i =>
    obtain ⟨t,rfl⟩:=r
    cases (show T = "int" from ty)
    exact ⟨typeIs_int s i t,fun _ e=>nomatch e⟩
  | ref p =>
    cases r
    rcases ty with ⟨rfl,xs,hq⟩ | ⟨rfl,o,hk,hc,hd⟩ | ⟨rfl,hk⟩ | ⟨rfl,S,n,hk⟩
    · obtain ⟨its,_,pl,_⟩:=I.list hq
      refine ⟨pl.isList.typeIs,fun a e=>?_⟩
      cases e
      obtain ⟨o,n,e,c,hd,_⟩:=pl
      exact ⟨o,e,hd⟩
    · refine ⟨⟨o,I.kIn p o hk,hc⟩,fun a e=>?_⟩
      cases e
      exact ⟨o,I.kIn _ o hk,hd⟩
    · have z:∃ o,s.heap.get? p=some o∧o.ExactDict:=by
        rcases hk with ⟨kvs,hk⟩ | ⟨kvs,hk⟩
        · obtain ⟨_,_,_,_,o,_,_,e,ex,_⟩:=I.hok p _ hk
          exact ⟨o,e,ex⟩
        · obtain ⟨_,_,_,_,o,_,_,e,ex,_⟩:=I.hok p _ hk
          exact ⟨o,e,ex⟩
      obtain ⟨o,e,ex⟩:=z
      refine ⟨⟨o,e,ex.1⟩,fun a e2=>?_⟩
      cases e2
      exact ⟨o,e,ex.2.1⟩
    · obtain ⟨o,_,_,_,e,ex,_⟩:=I.hok p _ hk
      refine ⟨⟨o,e,ex.1⟩,fun a e2=>?_⟩
      cases e2
      exact ⟨o,e,ex.2.1⟩
  | _=>exact False.elim ty
def tBM0 (K:PySem.W.Frag) (T:String) (r:V→List V→Hp→VK→Prop) (to:TE):TE:=fun σ H Q=>to σ H fun x H1=>tyV K T x H1∧r x [] H1 Q
def tBM (K:PySem.W.Frag) (T:String) (r:V→List V→Hp→VK→Prop) (to:TE) (t:TA):TE:=fun σ H Q=>to σ H fun x H1=>tyV K T x H1∧t σ H1 fun xs H2=>r x xs H2 Q
variable {o e:Expr} {es:List Expr} {to:TE} {t:TA} {name:Str} {apos cpos:Pos} {T id:String} {r:V→List V→Hp→VK→Prop}
theorem pe_bm (pa:PlainAttrs T) (slot:Slot T name id) (hty:typeOf (.builtin id)=pure (.type "method_descriptor")) (hm:MtR X id r) (ho:PE X o to) (ha:PA X (e::es) t)
    (hbase:attributeBase o name X.env (eval o X.env)=eval o X.env:=by rfl)
    (hfew:((backTo cpos (starEach (e::es) X.env)).all (fun x=>!x.1) && (backToKw cpos (keywordEach [] X.env)).all (fun x=>x.1.isSome)
      && decide ((e::es).length+([]:List Keyword).length+(if ([]:List Keyword).isEmpty then 0 else 1) < 30))=true:=by rfl)
    (hline:(apos.endLine == cpos.line)=true:=by rfl) (hs:starEach (e::es) X.env=(false,eval e X.env)::starEach es X.env:=by rfl) (hplain:(backTo cpos (starEach es X.env)).any (·.1)=false:=by rfl) :
    PE X (.Call (.Attribute o name apos) (e::es) [] cpos) (tBM X.K T r to t):=by
  intro pins s σ H Q I h
  refine wpAny_Call_method_late hbase hfew hline rfl (thn (ho pins s σ H _ I h) fun v s1 ⟨x,H1,I1,r1,ty,q1⟩=>?_)
  obtain ⟨h1,h2⟩:=tyV_is I1 r1 ty
  refine ⟨T,id,pa,slot,hty,h1,h2,?_⟩
  have hA:=ha cpos pins s1 σ H1 _ I1 q1
  rw [hs] at hA ⊢
  refine Calls.callWith_builtin (by show (false || (backTo cpos (starEach es X.env)).any (·.1))=false; rw [hplain] <;> rfl) (Calls.evalArgs_plain ?_)
  exact thn hA fun us s2 ⟨vs,H2,I2,r2,q2⟩=>hm pins s2 σ H2 x vs v us Q I2 r1 r2 q2
/- xs.append(e),list.index on a module's tuple .. are MtR facts of 06m -/
end
end L2
namespace L2
open PySem PySem.Spec PyProof.Rows
def MtM (X:Cx) (id:String) (r:V→List V→Hp→VK→Prop):Prop :=
  ∀ (pins:List (Addr × Obj)) (s:Shared) (σ:St) (H:Hp) (x:V) (xs:List V) (v:Value) (us:List Value) (Q:VK),Inv X pins σ H s→RelV x v→Vals xs us→r x xs H Q →
    wpAny (model X.prog X.w) X.A (call (.builtin id) (v::us)) (EP X pins σ Q) X.xe s
theorem Vals.one:∀ {x:V} {us:List Value},Vals [x] us→∃ u,us=[u]∧RelV x u
  | _,_,.cons r .nil=>⟨_,rfl,r⟩
theorem Vals.rep {xs:List V} {us:List Value} (h:Vals xs us):∀ k:Nat,Vals (List.replicate k xs).flatten (List.replicate k us).flatten
  | 0=>.nil
  | k+1=>by
    rw [List.replicate_succ,List.replicate_succ,List.flatten_cons,List.flatten_cons]
    exact Vals.append h (Vals.rep h k)
theorem foldl_rep (its:List Value):∀ (k:Nat) (acc:List Value),
    List.foldl (fun x1 x2=>x1++x2) acc.toArray (List.replicate k its.toArray)=(acc++(List.replicate k its).flatten).toArray
  | 0,acc=>by simp
  | k+1,acc=>by
    have e:acc.toArray++its.toArray=(acc++its).toArray:=by simp
    have e2:(acc++its)++(List.replicate k its).flatten=acc++(List.replicate (k+1) its).flatten:=by
      rw [List.replicate_succ,List.flatten_cons,List.append_assoc]
    rw [← e2,← foldl_rep its k (acc++its),← e,List.replicate_succ,List.foldl_cons]
section
variable {X:Cx} {pins:List (Addr × Obj)} {σ:St} {H:Hp} {s:Shared} {l b:Addr} {xs ys zs:List V}
theorem Inv.lset {its its':List Value} {n:Nat} {f:Array Value→Array Value} {t':Nat} (I:Inv X pins σ H s) (hH:H l=some (.lst xs))
    (e:s.heap.get? l=some { cls:=.type "list", data:=.seq its.toArray n }) (hf:f its.toArray=its'.toArray) (hv:Vals ys its') (hz:ys.length≤sizeLine) :
    Inv X pins σ (upd H l (.lst ys)) { s with heap:=s.heap.update l (Obj.mapSeq f),toks:=t' }:=by
  have q:=PySem.IsL.update e f
  rw [hf] at q
  refine I.write (x:=l) (e:=l) (by rw [hH]; exact trivial) (.inl rfl) (fun b' u hb hu=>(Heap.get?_update_other s.heap (Obj.mapSeq f) (Ne.symm hb)).trans hu) ⟨_,q⟩ ?_
  exact ⟨hz,its',_,hv,q⟩
theorem Inv.lnew {its:List Value} {t':Nat} (I:Inv X pins σ H s) (hv:Vals ys its) (hz:ys.length≤sizeLine) :
    Inv X pins σ (upd H s.heap.objs.size (.lst ys)) { s with heap:=s.heap.push { cls:=.type "list", data:=.seq its.toArray },toks:=t' } :=
  I.laid (fun _ _ q=>Heap.get?_push_of_some _ q) (Nat.le_refl _) ⟨hz,its,0,hv,Heap.get?_push_size _ rfl⟩
theorem Inv.fresh (I:Inv X pins σ H s):H s.heap.objs.size=none:=I.hok.fresh (Nat.le_refl _)
theorem Inv.lstM (I:Inv X pins σ H s) (hH:H l=some (.lst xs)):xs.length≤sizeLine∧∃ (its:List Value) (n:Nat),Vals xs its∧xs.length=its.length∧s.heap.get? l=some { cls:=.type "list", data:=.seq its.toArray n }:=by
  obtain ⟨z,its,n,r,e⟩:=I.hok l _ hH
  exact ⟨z,its,n,r,r.length,e⟩
theorem notLongL {n:Nat} (h:n≤sizeLine):Builtin.List.listTooLong n=false:=by
  unfold Builtin.List.listTooLong
  exact decide_eq_false (by omega)
end
section
variable {X:Cx}
def rAppend:V→List V→Hp→VK→Prop:=fun x vs H Q=>∃ l xs y,x=.ref l∧vs=[y]∧H l=some (.lst xs)∧xs.length < sizeLine∧Q .non (upd H l (.lst (xs++[y])))
theorem mt_append:MtM X "list.append" rAppend:=by
  intro pins s σ H x vs v us Q I rx rv h
  obtain ⟨l,xs,y,rfl,rfl,hH,hz,q⟩:=h
  cases rx
  obtain ⟨u,rfl,ru⟩:=rv.one
  obtain ⟨z,its,n,r,hl,e⟩:=I.lstM hH
  refine call_meets F.slot_list_append ⟨_,e,rfl⟩ F.entry_list_append (F.args_list_append_2 _ _) (PySem.list_append l its.toArray n u (by rw [List.size_toArray]; omega)) ⟨e,?_⟩
  refine ⟨.non,_,I.lset (its':=its++[u]) hH e (by simp) (r.append (.cons ru .nil)) ?_,rfl,q⟩
  rw [List.length_append,List.length_singleton]
  omega
def rExtend:V→List V→Hp→VK→Prop:=fun x vs H Q=>∃ l b xs zs,x=.ref l∧vs=[.ref b]∧H l=some (.lst xs)∧H b=some (.lst zs)∧xs.length+zs.length≤sizeLine∧Q .non (upd H l (.lst (xs++zs)))
theorem mt_extend:MtM X "list.extend" rExtend:=by
  intro pins s σ H x vs v us Q I rx rv h
  obtain ⟨l,b,xs,zs,rfl,rfl,hH,hB,hz,q⟩:=h
  cases rx
  obtain ⟨u,rfl,ru⟩:=rv.one
  cases ru
  obtain ⟨z,its,n,r,hl,e⟩:=I.lstM hH
  obtain ⟨z2,its2,n2,r2,hl2,e2⟩:=I.lstM hB
  have hsz:its.toArray.size+its2.toArray.size≤sizeLine:=by rw [List.size_toArray,List.size_toArray]; omega
  have hlong:¬ (!its.toArray.isEmpty && Builtin.List.listTooLong (its.toArray.size+its2.toArray.size))=true:=by
    rw [notLongL hsz,Bool.and_false]
    exact Bool.false_ne_true
  refine call_meets F.slot_list_extend ⟨_,e,rfl⟩ F.entry_list_extend (F.args_list_extend_2 _ _)
    (AutoSeq1.list_extend_list_list_0 l its.toArray n b its2.toArray n2 hlong (by rw [List.size_toArray]; omega) (by omega)) ⟨e,e2,?_⟩
  refine ⟨.non,_,I.lset (its':=its++its2) hH e (by simp) (r.append r2) ?_,rfl,q⟩
  rw [List.length_append]
  omega
def rPop:V→List V→Hp→VK→Prop:=fun x vs H Q=>∃ l xs y,x=.ref l∧vs=[]∧H l=some (.lst xs)∧xs[xs.length - 1]?=some y∧Q y (upd H l (.lst xs.dropLast))
def rPopAt:V→List V→Hp→VK→Prop:=fun x vs H Q=>∃ l xs i k y,x=.ref l∧vs=[.int i]∧H l=some (.lst xs)∧-(2 ^ 63)≤i∧i < 2 ^ 63∧seqIndex? i xs.length=some k∧xs[k]?=some y∧Q y (upd H l (.lst (xs.eraseIdx k)))
def rReverse:V→List V→Hp→VK→Prop:=fun x vs H Q=>∃ l xs,x=.ref l∧vs=[]∧H l=some (.lst xs)∧Q .non (upd H l (.lst xs.reverse))
def rClear:V→List V→Hp→VK→Prop:=fun x vs H Q=>∃ l xs,x=.ref l∧vs=[]∧H l=some (.lst xs)∧Q .non (upd H l (.lst []))
def rCat:R2:=fun x y H Q=>∃ l b xs zs,x=.ref l∧y=.ref b∧H l=some (.lst xs)∧H b=some (.lst zs)∧xs.length+zs.length≤sizeLine∧∀ p,H p=none→Q (.ref p) (upd H p (.lst (xs++zs)))
theorem op_cat:OpR X (binaryOp .Add) rCat:=by
  intro pins s σ H x y v u Q I rx ry h
  obtain ⟨l,b,xs,zs,rfl,rfl,hH,hB,hz,q⟩:=h
  cases rx
  cases ry
  obtain ⟨z,its,n,r,hl,e⟩:=I.lstM hH
  obtain ⟨z2,its2,n2,r2,hl2,e2⟩:=I.lstM hB
  refine PySem.P.add_list e e2 ?_ (by rw [List.size_toArray,List.size_toArray]; omega)
  have ea:its.toArray++its2.toArray=(its++its2).toArray:=by simp
  rw [ea]
  exact ⟨.ref _,_,I.lnew (t':=s.toks) (r.append r2) (by rw [List.length_append]; omega),rfl,q _ I.fresh⟩
def rRep:R2:=fun x y H Q=>∃ l k xs,x=.ref l∧y=.int k∧H l=some (.lst xs)∧-(2 ^ 63)≤k∧k < 2 ^ 63∧xs.length*k.toNat≤sizeLine ∧
  ∀ p,H p=none→Q (.ref p) (upd H p (.lst (List.replicate k.toNat xs).flatten))
theorem len_rep {α:Type} (xs:List α) (k:Nat):(List.replicate k xs).flatten.length=k*xs.length:=by
  induction k with
  | zero=>simp
  | succ k ih=>rw [List.replicate_succ,List.flatten_cons,List.length_append,ih,Nat.succ_mul,Nat.add_comm]
theorem op_rep:OpR X (binaryOp .Mult) rRep:=by
  intro pins s σ H x y v u Q I rx ry h
  obtain ⟨l,k,xs,rfl,rfl,hH,h1,h2,hz,q⟩:=h
  cases rx
  obtain ⟨t,rfl⟩:=ry
  obtain ⟨z,its,n,r,hl,e⟩:=I.lstM hH
  have hlen:its.toArray.size*k.toNat≤sizeLine:=by rw [List.size_toArray,← hl]; exact hz
  have hcap:¬ its.toArray.size*k.toNat > (2 ^ 63 - 1) / 8:=by
    have:(sizeLine:Nat)≤(2 ^ 63 - 1) / 8:=by decide
    omega
  have hfit:¬ (!Builtin.List.listFitsIndex k)=true:=by
    rw [fitsIndex_both h1 h2]
    exact Bool.false_ne_true
  have hlong:¬ Builtin.List.listTooLong (its.toArray.size*k.toNat)=true:=by
    rw [notLongL hlen]
    exact Bool.false_ne_true
  have hnew:List.foldl (fun x1 x2=>x1++x2) #[] (List.replicate (if its.toArray.isEmpty=true then 0 else k.toNat) its.toArray)=(List.replicate k.toNat its).flatten.toArray:=by
    have f0:∀ m:Nat,List.foldl (fun x1 x2=>x1++x2) #[] (List.replicate m its.toArray)=(List.replicate m its).flatten.toArray:=fun m=>by
      have:=foldl_rep its m []
      rw [List.nil_append] at this
      exact this
    rw [f0]
    cases its with
    | nil=>simp
    | cons a r'=>rw [if_neg (by simp)]
  refine wpAny_binaryOp_repeat_ref (T := "list") (U := "int") (by decide) ⟨_,e,rfl⟩ (fun s'=>typeIs_int s' k t) noFill_list_mul F.fills_int_mul F.slot_int_rmul repeat_list F.slot_int_index.lookup
    (call_meets F.slot_int_rmul (typeIs_int s k t) F.entry_int_rmul (F.args_int_rmul_2 _ _) (int___rmul___int_list k t l its.toArray n)
      ⟨e,rfl,⟨_,e,rfl⟩,call_meets F.slot_list_mul ⟨_,e,rfl⟩ F.entry_list_mul (F.args_list_mul_2 _ _) (AutoListH.list___mul___list_int_3 l its.toArray n k t hfit hcap hlong) ⟨e,?_⟩⟩)
  rw [hnew]
  exact ⟨.ref _,_,I.lnew (t':=s.toks) (r.rep k.toNat) (by rw [len_rep,Nat.mul_comm]; exact hz),rfl,q _ I.fresh⟩
end
section
variable {prog:Program} {w:World} {A:Around} {E:Value→Shared→Prop} {s:Shared}
end
section
variable {X:Cx}
end
end L2
namespace Att
open PySem PySem.W PySem.Calls PyProof.Rows
theorem ints_of_wellAll {P:Params} {h:Heap}:∀ (ns:List Int) (vs:List Value),WellAll P h vs (ns.map WData.int)→IntsAre vs ns:=by
  intro ns
  induction ns with
  | nil =>
    intro vs w
    rw [List.map_nil] at w
    cases w
    exact .nil
  | cons n ns ih =>
    intro vs w
    rw [List.map_cons] at w
    cases w with
    | cons a b =>
      cases a
      exact .cons _ _ (ih _ b)
theorem script_of {l:OpenLaw} {n:Nat} (hn:l.most=some n) {P:Params} {h:Heap} {args:List WData} {vals:List Value}
    (hpre:l.row.toRowW.claim.pre args=true) (hwl:WellAll P h vals args) :
    ∃ a vs ns,vals=[Value.ref a]∧args=[WData.list (ns.map WData.int)]∧h.get? a=some { cls:=.type "list", data:=.seq vs.toArray }∧IntsAre vs ns∧ns.length≤n:=by
  have hsh:WShape.hasAll [] args [.list .int]=true:=(pre_splitW hpre).1
  have hc:l.pre.holds [] { args:=args }=true:=(pre_splitW hpre).2
  obtain ⟨d,r,rfl,h1,h2⟩:=hasAllW_cons hsh
  obtain rfl:=hasAllW_nil h2
  obtain ⟨xs,rfl,h3⟩:=hasW_list h1
  obtain ⟨ns,rfl⟩:=items_int h3
  have hlen:ns.length≤n:=by
    unfold OpenLaw.pre at hc
    have h4:(WTm.not (.lt (.lit (.int (n:Int))) (.len (.arg 0)))).holds [] { args:=[.list (ns.map .int)] }=true:=by
      have h4:=(holds_andW hc).1
      rw [hn] at h4
      exact h4
    have h5:=condW_of h4 (w_not (w_lt w_lit (w_len_list (w_arg rfl))))
    rw [List.length_map] at h5
    refine Nat.le_of_not_lt fun q=>?_
    have q':(n:Int) < ((ns.length:Nat):Int):=by omega
    first
      | (rw [decide_eq_true q'] at h5; exact absurd h5 (by decide))
      | (simp at h5; omega)
  cases hwl with
  | cons w1 w2 =>
    cases w2
    cases w1 with
    | list ho hall=>exact ⟨_,_,ns,rfl,rfl,ho,ints_of_wellAll ns _ hall,hlen⟩
theorem post_true (l:OpenLaw) (args:List WData):l.row.toRowW.claim.post args (.bool true) args=true :=
  postW_of (r:=l.row.toRowW) (X:=(true == true))
    (show WShape.has [] (.bool true) .bool=true by first | rfl | decide | simp [WShape.has,WShape.arms,WShape.armsAll])
    (show (WTm.eq .res (.lit (.bool true))).value [] { args:=args,res:=some (.bool true),after:=args }=some (.bool (true == true)) from w_eq_bool (w_res rfl) w_lit) rfl
theorem attach_call {l:OpenLaw} {n:Nat} {q:Program} {loose:List Str} {XP:(Str→Option Value)→Heap→Prop} {YP:World→Heap→Prop} {d:DefRec}
    (hn:l.most=some n) (hdf:d.params.defaults=[])
    (call:∀ (w:World) (s₀ s₁:Shared) (mg mb:Str→Option Value) (fa:Addr) (o:Obj) (pm cd doc:Value) (a:Addr) (vs:List Value) (ns:List Int),
      Ground q loose [] XP w s₀ mg mb s₁.heap→YP w s₁.heap →
      s₁.heap.get? fa=some o→o.data=.func (docDef d.name d.params d.body d.scope pm cd doc)→s₁.heap.CodeRec cd d.name→mg d.name=some (.ref fa) →
      s₁.heap.get? a=some { cls:=.type "list", data:=.seq vs.toArray }→IntsAre vs ns→ns.length≤n→s₁.gens=#[] →
      codeAny (model l.prog w) callerA (.call (.ref fa) ⟨[.ref a],[]⟩) (fun r s'=>r=.ok (.ret (.bool true))∧OldK s₁.heap s'.heap∧s'.os=s₁.os∧AllBare s'.gens) s₁) :
    WalkO q loose XP YP l.row.toRowW d [] (fun f vs=>PySem.call f vs):=by
  intro w s₀ s₁ mg mb G Y fa o pm cd doc dV kV ho hd hcd hD hmg hg args vals as hpre hlay hrd hwl hlo
  obtain rfl:dV=.none:=Dflts.none hD hdf
  obtain rfl:kV=.none:=Dflts.noKw hD
  obtain ⟨a,vs,ns,rfl,rfl,hobj,hints,hlen⟩:=script_of hn hpre hwl
  refine enter_call (codeAny_mono (call w s₀ s₁ mg mb fa o pm cd doc a vs ns G Y ho (fd_plain hd) hcd hmg hobj hints hlen hg) fun r s' hq=>?_)
  obtain ⟨rfl,h2,h3,h4⟩:=hq
  exact ⟨.inl ⟨.bool true,.bool true,[],rfl,fun _=>rfl,.bool true,post_true l _,fun _=>⟨List.Pairwise.nil,fun _ hm=>(nomatch hm)⟩⟩,h2,h3,h4⟩
section
variable {prog:Program} {w:World} {A:Around} {E:Value→Shared→Prop} {s:Shared} {K:Frag}
def noObjs (h:Heap):Heap:={ h with objs:=#[] }
def ledger (h:Heap) (L d:Addr):List (Addr × Obj):=(List.range h.objs.size).filterMap fun a=>if a=L∨a=d then none else (h.get? a).map fun o=>(a,o)
end
end Att
namespace L2
open PySem PySem.Spec PyProof.Rows
theorem vals_ints:∀ {vs:List Value} {ns:List Int},IntsAre vs ns→Vals (ns.map V.int) vs
  | _,_,.nil=>.nil
  | _,_,.cons n t h=>.cons ⟨t,rfl⟩ (vals_ints h)
def Only (H:Hp):Prop:=∀ b,H b=none∨∃ o xs,H b=some (.frz o (.lst xs))
theorem law_call {P:Program} {w:World} {K:PySem.W.Frag} {mg mb:Str→Option Value} {CX:CXT} {k:Nat} {fa a:Addr} {fd:FuncData} {x:Str} {sp:Sp} {s₁:Shared} {vs:List Value} {ns:List Int}
    (KX:K.In s₁.heap) (hns:s₁.heap.Ns mainGlobals mg) (hb:s₁.heap.Ns builtinsNs mb) (hbb:∀ x:Str,x ≠ "__name__" → mb x=bootBuiltins x) (hlim:s₁.heap.NoLimit) (hg:s₁.gens=#[])
    (ha:s₁.heap.get? a=some { cls:=.type "list", data:=.seq vs.toArray }) (hi:IntsAre vs ns) (hl:ns.length≤sizeLine) (hr:Room k callerA)
    (F:∀ base:Heap,K.In base→base.Ns mainGlobals mg→FnOk P w K mg base CX k fa fd [x] sp) (hbind:∀ (s:Shared) (u:Value),BindsTo s fd ⟨[u],[]⟩ [(x,u)])
    (hsp:∀ H:Hp,Only H→SqL K H a (ns.map V.int)→sp [.ref a] H (fun v _=>v=.bl true) fun _ _ _=>False)
    (hCX:∀ H e s',CX [] H s₁ (fun _ _ _=>False) e s'→False) :
    codeAny (model P w) callerA (.call (.ref fa) ⟨[.ref a],[]⟩) (fun r s'=>r=.ok (.ret (.bool true))∧OldK s₁.heap s'.heap∧s'.os=s₁.os∧AllBare s'.gens) s₁:=by
  have rv:=vals_ints hi
  have lenV:=hi.length
  have core:∀ H:Hp,Only H→SqL K H a (ns.map V.int)→HOk P w H s₁.heap→(∀ b,H b ≠ none→b=a)→(H a ≠ none→K.lookup a=none) →
      codeAny (model P w) callerA (.call (.ref fa) ⟨[.ref a],[]⟩) (fun r s'=>r=.ok (.ret (.bool true))∧OldK s₁.heap s'.heap∧s'.os=s₁.os∧AllBare s'.gens) s₁:=by
    intro H hO hS hok hA hK
    have base_of:∀ {b:Addr} {o:Obj},s₁.heap.get? b=some o→H b=none→(hidT s₁.heap H).get? b=some o:=fun e n=>hidT_get e n
    have noA:∀ {b:Addr} {o:Obj} {es:Array DictEntry} {ep:Nat},s₁.heap.get? b=some o→o.data=.dict es ep→H b=none:=fun {b o es ep} e d=>by
      cases q:H b with
      | none=>rfl
      | some u =>
        have e':b=a:=hA b (by rw [q]; simp)
        subst e'
        rw [ha] at e; cases e
        have d':Data.seq vs.toArray _=Data.dict es ep:=d
        cases d'
    have nsK:∀ {b:Addr} {m:Str→Option Value},s₁.heap.Ns b m→(hidT s₁.heap H).Ns b m:=fun {b m} ⟨o,es,ep,e,d,r⟩=>⟨o,es,ep,base_of e (noA e d),d,r⟩
    have hKb:K.In (hidT s₁.heap H):=fun b o e=>base_of (KX b o e) (by
      cases q:H b with
      | none=>rfl
      | some u =>
        have e':b=a:=hA b (by rw [q]; simp)
        subst e'
        rw [hK (by rw [q]; simp)] at e; cases e)
    have hM:Mod K mg (hidT s₁.heap H):=⟨hKb,nsK hns,⟨mb,nsK hb,hbb⟩,let ⟨mc,h1,h2⟩:=hlim; ⟨mc,nsK h1,h2⟩⟩
    have e0:Env0 P w K mg (hidT s₁.heap H) callerA [] s₁ H:=⟨rfl,hM,fun b o e=>of_hidT e,Nat.le_of_eq (hidT_size _ _),trivial,fun b hb=>absurd (show b ∈ ([]:List Addr) from hb) (by simp),hok,.of_eq hg⟩
    refine codeAny_mono ((F _ hKb (nsK hns)).run callerA [] s₁ H ⟨[.ref a],[]⟩ [.ref a] [.ref a] _ _ hr e0 (hbind s₁ (.ref a)) (.cons rfl .nil) (hsp H hO hS)) fun r s' h=>?_
    cases r with
    | error e=>exact (hCX H e s' h).elim
    | ok fl =>
      cases fl with
      | next=>exact False.elim h
      | brk=>exact False.elim h
      | cont=>exact False.elim h
      | ret u =>
        obtain ⟨v,H',os,bare,un,hok',r',q⟩:=h
        have q':v=.bl true:=q
        subst q'
        obtain rfl:u=Value.bool true:=r'
        refine ⟨rfl,OldK.of_keep fun b o e=>?_,os,bare⟩
        cases q:H b with
        | none=>exact un.keep b o e q (by intro z; exact absurd (show b ∈ ([]:List Addr) from z) (by simp)) (by simp)
        | some u =>
          rcases hO b with z | ⟨ob,xs,z⟩
          · rw [q] at z; cases z
          · have z2:=un.frzs b ob _ z
            obtain ⟨e1,_⟩:=hok b _ z
            obtain ⟨e2,_⟩:=hok' b _ z2
            rw [e] at e1; cases e1
            exact e2
  cases hk:K.lookup a with
  | some o =>
    have e:=KX a o hk
    rw [ha] at e
    cases e
    refine core (fun _=>none) (fun _=>.inl rfl) (.inr ⟨_,vs.toArray,_,hk,rfl,rfl,rfl,by rw [List.size_toArray,lenV]; exact hl,by simpa using rv⟩) (fun b u z=>by have z':(none:Option HO)=some u:=z; cases z') (fun b z=>absurd rfl z) fun z=>absurd rfl z
  | none =>
    refine core (fun b=>if b=a then some (.frz { cls:=.type "list", data:=.seq vs.toArray } (.lst (ns.map V.int))) else none) (fun b=>?_) (.inl (.inr ⟨{ cls:=.type "list", data:=.seq vs.toArray },if_pos rfl⟩)) (fun b u z=>?_) (fun b z=>?_) fun _=>hk
    · by_cases hb:b=a
      · exact .inr ⟨_,_,if_pos hb⟩
      · exact .inl (if_neg hb)
    · by_cases hb:b=a
      · have z':=(if_pos hb).symm.trans z
        cases z'
        subst hb
        exact ⟨ha,by rw [List.length_map]; exact hl,vs,_,rv,ha⟩
      · have z':=(if_neg hb).symm.trans z
        cases z'
    · by_cases hb:b=a
      · exact hb
      · exact absurd (if_neg hb) z
end L2
namespace L2
open PySem PySem.Spec PyProof.Rows
abbrev KOf {K:PySem.W.Frag} {h:Heap} (_:K.In h):PySem.W.Frag:=K
theorem walk_of {l:PySem.W.OpenLaw} {n k:Nat} {q:Program} {loose:List Str} {XP:(Str→Option Value)→Heap→Prop} {YP:World→Heap→Prop} {d:DefRec} {K:Params→PySem.W.Frag} {CX:World→CXT} {sp:World→Sp} {x:Str}
    (hn:l.most=some n) (hn2:n≤sizeLine) (hdf:d.params.defaults=[]) (hr:Room k callerA)
    (hY:∀ (w:World) (h:Heap),YP w h→(K w.params).In h)
    (F:∀ (w:World) (mg:Str→Option Value) (fa:Addr) (h:Heap),(K w.params).In h→h.Ns mainGlobals mg→mg d.name=some (.ref fa) →
      ∃ fd:FuncData,(∀ (s:Shared) (u:Value),BindsTo s fd ⟨[u],[]⟩ [(x,u)]) ∧
        ∀ base:Heap,(K w.params).In base→base.Ns mainGlobals mg→FnOk l.prog w (K w.params) mg base (CX w) k fa fd [x] (sp w))
    (hsp:∀ (w:World) (H:Hp) (a:Addr) (ns:List Int),ns.length≤n→Only H→SqL (K w.params) H a (ns.map V.int)→sp w [.ref a] H (fun v _=>v=.bl true) fun _ _ _=>False)
    (hCX:∀ (w:World) (H:Hp) (s:Shared) (e:Value) (s':Shared),CX w [] H s (fun _ _ _=>False) e s'→False) :
    PySem.W.WalkO q loose XP YP l.row.toRowW d [] (fun f vs=>PySem.call f vs):=by
  refine Att.attach_call hn hdf fun w s₀ s₁ mg mb fa o pm cd doc a vs ns G Y ho hd hcd hmg hobj hints hlen hg=>?_
  have KX:=hY w _ Y
  obtain ⟨fd,hb,hF⟩:=F w mg fa _ KX G.T.g hmg
  exact law_call KX G.T.g G.T.b G.T.builtins G.T.nolimit hg hobj hints (Nat.le_trans hlen hn2) hr hF hb (fun H hO hS=>hsp w H a ns hlen hO hS) fun H e s'=>hCX w H s₁ e s'
end L2
/- THE LAST THEOREM (shape; LID,My.* are yours):
   My.Adr: a structure of the addresses that your layer names (classes,functions); My.Txt K t: a structure (Prop) of the equations over K;
   My.txt_mk:{K} {implicit addresses ..} (e1:nsIn K mainGlobals "law" = some (some (.ref f))) (e2:K.lookup f=some ⟨oc,od,.func (fnOf "law" "law" params body scope dV kV doc pm an cdv ct),sl⟩) (e3:codeIn K cdv "law" = true) ..:∃ t,My.Txt K t
set_option maxRecDepth 100000 in
set_option maxHeartbeats 0 in
theorem PySem.Challenge.cw_LID_holds : PySem.Challenge.rw_LID.Holds := by
  w_on; o_law; k_head; (case hw=>w_witness2)
  k_fill
  refine L2.walk_of (l:=PySem.Challenge.rw_LID) (n:=63) (k:=40) (x := "script") (CX:=fun w=>..) (sp:=fun _=>My.sp_law) rfl (by decide) rfl ⟨rfl,by decide,by decide⟩ (fun w h Y=>PySem.W.kIn_of Y) ?F ?S ?C
  case F =>
    intro w mg fa h KX G hmg
    have T:∃ t,My.Txt (L2.KOf KX) t:=by
      dsimp only [L2.KOf]                          -- K must stand as «<heap const> w.params» for k_is
      refine' My.txt_mk ?e1 ?e2 ?e3 ..
      (case e1=>PySem.W.k_is)                    -- in the order: a name -> its address -> its object -> its parts
      (case e2=>PySem.W.k_is)
      ..
    obtain ⟨t,T⟩:=T
    have e0:=hmg.symm.trans (PySem.W.mg_of KX G T.law)
    cases e0                                       -- fa is the law's own address
    exact ⟨_,fun s u=>.of_eq rfl,fun base kb nb=>My.law_fn T kb nb⟩     -- if «.of_eq rfl» comes too early: refine' ⟨_,?b,fun base kb nb=>My.law_fn T kb nb⟩; exact fun s u=>.of_eq rfl
  case S=>exact fun w H a ns hl hO hS=>..
  case C=>exact ..
(the tactic k_is has no namespace: write k_is) -/
namespace L2
open PySem PySem.Spec PyProof.Rows
def inClass (s:Stmt) (j:Nat):Stmt:=match s with
  | .ClassDef _ _ _ body _ _ _ _ _ _ _=>body.getD j (.Pass ⟨0,0,0,0⟩)
  | _=>.Pass ⟨0,0,0,0⟩
def defArgs (s:Stmt):Arguments:=match s with
  | .FunctionDef _ a _ _ _ _ _ _ _ _=>a
  | _=>{ posonlyargs:=[],args:=[],vararg:=none,kwonlyargs:=[],kw_defaults:=[],kwarg:=none,defaults:=[] }
def defBody (s:Stmt):List Stmt:=match s with
  | .FunctionDef _ _ b _ _ _ _ _ _ _=>b
  | _=>[]
def defScope (s:Stmt):Scope:=match s with
  | .FunctionDef _ _ _ _ _ _ sc _ _ _=>sc
  | _=>{ kind:=.function,names:=[],isGenerator:=false,isCoroutine:=false }
abbrev CX0:CXT:=fun _ _ _ _ _ _=>False
abbrev E0:XK:=fun _ _ _=>False
theorem pass0 {X:Cx}:Passes CX0 X E0:=fun _ _ _ _ _ _ _ h=>h.elim
structure Fun (K:PySem.W.Frag) (x qual:Str) (st:Stmt) (f:Addr) (fd:FuncData):Prop where
  ex:∃ (oc:Value) (od:Option Addr) (kV doc pm:Value) (an:Option Addr) (cdv ct:Value) (osl:Array (Option Value)),
    fd=PySem.W.fnOf x qual (defArgs st) (defBody st) (defScope st) .none kV doc pm an cdv ct∧K.lookup f=some ⟨oc,od,.func fd,osl⟩∧PySem.W.codeIn K cdv qual=true
  kp:PySem.W.keepIn K (.ref f)=true
section
variable {P:Program} {w:World} {K:PySem.W.Frag} {mg:Str→Option Value} {base:Heap}
theorem Fun.ok {x qual:Str} {st:Stmt} {f:Addr} {fd:FuncData} {N ps:List Str} {k:Nat} {sp:Sp} (F:Fun K x qual st f fd) (S:FnScope N ps (defScope st)) (len:∀ vs H Q E,sp vs H Q E→vs.length=ps.length)
    (hbody:∀ (cdv:Value) (A:Around) (outer:List Env) (s:Shared) (H:Hp) (vs:List V) (Q:VK) (E:XK),Room k (A.deeper (envOfC qual (defScope st) s.heap.objs.size f cdv))→sp vs H Q E →
      ∃ t,PSs (cxOf CX0 P w K mg base N qual (defScope st) f cdv A outer s H E).nox (defBody st) t∧t { nx:=fun _ H'=>Q .non H',rt:=Q } (start N vs) H):FnOk P w K mg base CX0 (k+1) f fd ps sp:=by
  obtain ⟨oc,od,kV,doc,pm,an,cdv,ct,osl,rfl,lk,hcd⟩:=F.ex
  refine fn_of lk hcd S len fun A outer s H vs Q E hr hsp=>?_
  obtain ⟨t,h,q⟩:=hbody cdv A outer s H vs Q E hr hsp
  exact ⟨t,h.nox,q⟩
theorem Fun.binds {x qual:Str} {st:Stmt} {f:Addr} {fd:FuncData} {ps:List Str} (F:Fun K x qual st f fd)
    (h:∀ (kV doc pm:Value) (an:Option Addr) (cdv ct:Value) (us:List Value),us.length=ps.length→bindArgs (PySem.W.fnOf x qual (defArgs st) (defBody st) (defScope st) .none kV doc pm an cdv ct) ⟨us,[]⟩=pure (ps.zip us)):Binds K fd ps []:=by
  obtain ⟨oc,od,kV,doc,pm,an,cdv,ct,osl,rfl,lk,hcd⟩:=F.ex
  exact .all (h kV doc pm an cdv ct)
theorem fun_mk {x qual:Str} {st:Stmt} {f:Addr} {oc:Value} {od an:Option Addr} {osl:Array (Option Value)} {kV doc pm cdv ct:Value} (l:K.lookup f=some ⟨oc,od,.func (PySem.W.fnOf x qual (defArgs st) (defBody st) (defScope st) .none kV doc pm an cdv ct),osl⟩)
    (c:PySem.W.codeIn K cdv qual=true) (k:PySem.W.keepIn K (.ref f)=true):Fun K x qual st f (PySem.W.fnOf x qual (defArgs st) (defBody st) (defScope st) .none kV doc pm an cdv ct):=⟨⟨oc,od,kV,doc,pm,an,cdv,ct,osl,rfl,l,c⟩,k⟩
end
theorem hu_of {A:Around} {k:Nat} (hr:Room k A):A.units+1 < cLine:=Nat.lt_of_le_of_lt (Nat.add_le_add_left (by decide:1≤64) _) hr.units
theorem small1000 {n:Nat} (h:n≤1000):n < sizeLine:=Nat.lt_of_le_of_lt h (by decide)
section
variable {X:Cx}
theorem pv (i:Nat) {x:Str} {pos:Pos} (hN:X.N[i]?=some x:=by rfl) (hv:Vis X.env.scope x:=by first | exact Or.inl rfl | exact Or.inr (Or.inl rfl) | exact Or.inr (Or.inr rfl)) (hd:(x == ("__debug__" : Str))=false:=by decide)
    (hcd:(x == ("__classdict__" : Str))=false:=by decide):PE X (.Name x pos) (tVar i):=pe_var hN hv hd hcd
end
theorem iteF {A B:Prop} (h:B):if false=true then A else B:=by
  rw [if_neg Bool.false_ne_true]
  exact h
theorem iteT {A B:Prop} (h:A):if true=true then A else B:=by
  rw [if_pos rfl]
  exact h
theorem ite2 {c A B:Prop} [Decidable c] (h1:c→A) (h2:¬ c→B):if c then A else B:=by
  by_cases h:c
  · rw [if_pos h]
    exact h1 h
  · rw [if_neg h]
    exact h2 h
theorem iteNS {c A B:Prop} [Decidable c] (hc:c) (h:B):if (!decide c)=true then A else B:=by
  rw [decide_eq_true hc]
  exact iteF h
def Same (H H':Hp):Prop:=∀ b o,H b=some o→H' b=some o
theorem Same.refl (H:Hp):Same H H:=fun _ _ h=>h
theorem Same.trans {H H1 H2:Hp} (a:Same H H1) (b:Same H1 H2):Same H H2:=fun c o h=>b c o (a c o h)
theorem Same.seq {K:PySem.W.Frag} {H H':Hp} {a:Addr} {xs:List V} (e:Same H H') (h:SqL K H a xs):SqL K H' a xs:=by
  rcases h with (h | ⟨o,h⟩) | h
  · exact .inl (.inl (e _ _ h))
  · exact .inl (.inr ⟨o,e _ _ h⟩)
  · exact .inr h
end L2
set_option maxHeartbeats 4000000
namespace L2
open PySem PySem.Spec PyProof.Rows
section
variable {X:Cx}
theorem call_isinst:CallR X (.builtin "isinstance") (fun xs H Q=>∃ x t n b,xs=[x,.ty n]∧TyOf X.K H x t∧PySem.W.kitOne X.K t (.type n)=some b∧Q (.bl b) H):=by
  intro pins s σ H xs us Q I r h
  obtain ⟨x,t,n,b,rfl,ty,e,q⟩:=h
  obtain ⟨u,w',rfl,r1,r2⟩:=vals2 r
  cases r2
  exact isinst_ok I r1 ty e (fun tk=>⟨.bl b,H,I.tok tk,rfl,q⟩)
theorem kit_self (K:PySem.W.Frag) (n:String):PySem.W.kitOne K (.type n) (.type n)=some true:=by
  unfold PySem.W.kitOne
  rw [if_pos (by simp)]
def CDivL (_ j:Int):Prop:=0 < j∧j < 2 ^ 63
theorem op_fdivL:OpR X (binaryOp .FloorDiv) (rI CDivL fun i j=>.int (i / j)):=opI fun i j _ _ _ _ _ hc q=>by
  have e:Int.fdiv i j=i / j:=Int.fdiv_eq_ediv_of_nonneg i (Int.le_of_lt hc.1)
  rw [← e] at q
  refine floordiv_int (by have:=hc.1; omega) q (.inl (PyProof.noPylong_of_log2 ?_))
  have h1:=hc.1
  have h2:=hc.2
  have h3:j.natAbs < 2 ^ 63:=by omega
  have h4:=(Nat.log2_lt (n:=j.natAbs) (k:=63) (by omega)).mpr h3
  omega
end
theorem boot_int':bootBuiltins "int" = some (.type "int"):=by decide +kernel
theorem boot_list':bootBuiltins "list" = some (.type "list"):=by decide +kernel
theorem boot_tuple':bootBuiltins "tuple" = some (.type "tuple"):=by decide +kernel
structure Cal (P:Program) (w:World) (K:PySem.W.Frag) (mg:Str→Option Value) (base:Heap) (n:Nat) (x:Str) (ps:List Str) (sp:Sp):Prop where
  ex:∃ (f:Addr) (fd:FuncData),FnOk P w K mg base CX0 n f fd ps sp∧Binds K fd ps []∧PySem.W.keepIn K (.ref f)=true∧mg x=some (.ref f)
theorem pe_cal {X:Cx} {n k:Nat} {x:Str} {ps:List Str} {sp:Sp} {e:Expr} {es:List Expr} {t:TA} {p pos:Pos} (C:Cal X.prog X.w X.K X.mg X.base n x ps sp) (hr:Room k X.A) (hk:n≤k) (hg:Gl X x)
    (ha:PA X (e::es) t) (hdb:(x == ("__debug__" : Str))=false:=by decide) (he:starEach (e::es) X.env=(false,eval e X.env)::starEach es X.env:=by rfl) (hpl:(backTo pos (starEach es X.env)).any (·.1)=false:=by rfl) :
    PE X (.Call (.Name x p) (e::es) [] pos) (tCall sp [] E0 t):=by
  obtain ⟨f,fd,F,b,kp,m⟩:=C.ex
  exact pe_call F (hr.mono hk) hg m kp b .nil pass0 ha hdb he hpl
theorem Cal.of {P:Program} {w:World} {K:PySem.W.Frag} {mg:Str→Option Value} {base:Heap} {n:Nat} {x qual:Str} {ps:List Str} {sp:Sp} {st:Stmt} {f:Addr} {fd:FuncData} (F:Fun K x qual st f fd) (O:FnOk P w K mg base CX0 n f fd ps sp) (m:mg x=some (.ref f))
    (h:∀ (kV doc pm:Value) (an:Option Addr) (cdv ct:Value) (us:List Value),us.length=ps.length→bindArgs (PySem.W.fnOf x qual (defArgs st) (defBody st) (defScope st) .none kV doc pm an cdv ct) ⟨us,[]⟩=pure (ps.zip us)):Cal P w K mg base n x ps sp :=
  ⟨f,fd,O,F.binds h,F.kp,m⟩
theorem iteN {c A B:Prop} [Decidable c] (hc:¬ c) (h:A):if (!decide c)=true then A else B:=by
  rw [decide_eq_false hc]
  exact iteT h
theorem iteD {c A B:Prop} [Decidable c] (hc:c) (h:A):if decide c=true then A else B:=by
  rw [decide_eq_true hc]
  exact iteT h
theorem iteDF {c A B:Prop} [Decidable c] (hc:¬ c) (h:B):if decide c=true then A else B:=by
  rw [decide_eq_false hc]
  exact iteF h
def SameBut (f:Addr) (H H':Hp):Prop:=∀ b o,b ≠ f→H b=some o→H' b=some o
theorem SameBut.trans {f:Addr} {H H1 H2:Hp} (a:SameBut f H H1) (b:SameBut f H1 H2):SameBut f H H2:=fun c o h e=>b c o h (a c o h e)
theorem SameBut.refl (f:Addr) (H:Hp):SameBut f H H:=fun _ _ _ h=>h
theorem SameBut.of {f:Addr} {H H':Hp} (h:Same H H'):SameBut f H H':=fun b o _ e=>h b o e
theorem SameBut.upd {f:Addr} {H:Hp} (o:HO):SameBut f H (upd H f o):=fun b u h e=>by rw [upd_ne h]; exact e
theorem Same.new {H:Hp} {p:Addr} (h:H p=none) (o:HO):Same H (upd H p o):=fun b u q=>by rw [upd_ne (ne_of_none q h)]; exact q
theorem Same.but {f:Addr} {H0 H H':Hp} (a:Same H0 H) (n:H0 f=none) (b:SameBut f H H'):Same H0 H':=fun c o e=>b c o (ne_of_none e n) (a c o e)
def FeedAt (H:Hp) (f:Addr):Prop:=∃ own st:Int,H f=some (.lst [.int own,.int st])∧0≤own∧0≤st∧st≤2147483646
theorem FeedAt.ne {H:Hp} {f b:Addr} (F:FeedAt H f) (h:H b=none):b ≠ f:=by
  obtain ⟨o,s,e,_⟩:=F
  intro z
  subst z
  rw [h] at e
  cases e
theorem FeedAt.same {H H':Hp} {f:Addr} (F:FeedAt H f) (s:Same H H'):FeedAt H' f:=by
  obtain ⟨o,t,e,h⟩:=F
  exact ⟨o,t,s _ _ e,h⟩
def spTake:Sp:=fun vs H Q _=>∃ (f:Addr) (m:Int),vs=[.ref f,.int m]∧FeedAt H f∧0 < m∧m < 2 ^ 63∧∀ (d:Int) (H':Hp),0≤d→d < m→FeedAt H' f→SameBut f H H'→Q (.int d) H'
def spFeed (K:PySem.W.Frag):Sp:=fun vs H Q _=>∃ (a:Addr) (ns:List Int) (k:Int),vs=[.ref a,.int k]∧SqL K H a (ns.map V.int)∧ns.length≤63∧0≤k∧k < 1000000∧∀ (p:Addr) (H':Hp),H p=none→Same H H'→FeedAt H' p→Q (.ref p) H'
def spLaw (K:PySem.W.Frag):Sp:=fun vs H Q _=>∃ (a:Addr) (ns:List Int),vs=[.ref a]∧SqL K H a (ns.map V.int)∧ns.length≤63∧∀ H',Q (.bl true) H'
theorem small {n:Nat} (h:n≤1000):n≤sizeLine:=Nat.le_of_lt (small1000 h)
theorem at_int {ns:List Int} {k:Int} (h0:0≤k) (h:k < (ns.length:Int)):∃ v:Int,atI (ns.map V.int) k=some (.int v):=by
  have hk:k.toNat < ns.length:=by omega
  have q:atI (ns.map V.int) ((k.toNat:Nat):Int)=some (.int ns[k.toNat]):=atI_nat (by rw [List.getElem?_map,List.getElem?_eq_getElem hk] <;> rfl)
  have ek:((k.toNat:Nat):Int)=k:=by omega
  rw [ek] at q
  exact ⟨_,q⟩
end L2
namespace L2
open PySem PySem.Spec PyProof.Rows
@[reducible] def cxComp (X:Cx) (N:List Str) (scope:Scope) (cl:List (Str × Addr)) (s:Shared) (H:Hp) (fp:List Addr):Cx where
  prog:=X.prog
  w:=X.w
  K:=X.K
  mg:=X.mg
  base:=X.base
  A:=X.A
  N:=N
  s₀:=s
  H₀:=H
  env:=compEnvC scope cl s.heap.objs.size X.env
  outer:=X.stack
  stack:=X.stack
  ex:=fp
  fn:=fun _=>false
  calm:=X.calm
  pn:=[]
  xe:=fun _ _=>False
structure CompScope (X:Cx) (x:Str) (N:List Str) (ix:List Nat) (scope:Scope) (cl:List (Str × Addr)):Prop where
  clos:closureFor scope X.env=pure cl
  nocell:∀ y ∈ scope.names,y.2 ≠ .cell
  kind:scope.kind=.function
  names:∀ y ∈ scope.names,y.2=.local→scope.names.lookup y.1=some .local
  own:scope.names.lookup x=some .local
  nd:(x::N).Nodup
  sub:∀ p ∈ cl,X.env.cells.lookup p.1=some p.2
  has:((relabel scope X.env).names.all fun p=>!(p.2 == .cell || p.2 == .free) || (cl.lookup p.1).isSome)=true
  outs:∀ (j:Nat) (y:Str),N[j]?=some y→(relabel scope X.env).names.lookup y=some .cell∧∃ k c,ix[j]?=some k∧X.N[k]?=some y∧cl.lookup y=some c∧X.env.scope.names.lookup y=some .cell
def outs (ix:List Nat) (σ:St):St:=ix.map fun k=>(σ[k]?).join
section
variable {X:Cx} {pins:List (Addr × Obj)} {σ:St} {x:Str} {N:List Str} {ix:List Nat} {scope:Scope} {cl:List (Str × Addr)} {fp:List Addr} {H3:Hp} {s3:Shared}
theorem CompScope.cells (S:CompScope X x N ix scope cl) {y:Str} {c:Addr} (h:cl.lookup y=some c):X.env.cells.lookup y=some c:=S.sub _ (PySem.mem_of_lookup h)
theorem comp_cx (S:CompScope X x N ix scope cl) (I3:Inv X pins σ H3 s3) (hf:∀ b ∈ fp,FpOk X pins H3 b) (hlt:∀ b ∈ fp,b < s3.heap.objs.size):(cxComp X (x::N) scope cl s3 H3 fp).Ok where
  mod:=I3.ok.mod
  kind:=S.kind
  glob:=I3.ok.glob
  blt:=I3.ok.blt
  above:=Nat.le_refl _
  inj:=fun y z c h1 h2=>I3.ok.inj y z c (S.cells h1) (S.cells h2)
  has:=fun y hy=>by
    have q:=List.all_eq_true.mp S.has
    have hy:(relabel scope X.env).names.lookup y=some .cell∨(relabel scope X.env).names.lookup y=some .free:=hy
    have z:∀ k:NameKind,(k == .cell || k == .free)=true→(relabel scope X.env).names.lookup y=some k→∃ c,cl.lookup y=some c:=fun k hk e=>by
      have r:=q _ (PySem.mem_of_lookup e)
      rw [hk] at r
      exact Option.isSome_iff_exists.mp (by simpa using r)
    rcases hy with e | e
    · exact z _ (by rfl) e
    · exact z _ (by rfl) e
  cab:=fun _ _ h _=>nomatch h
  hd:=I3.ok.hd
  frames:=I3.ok.frames
  stk:=.inl rfl
  exf:=fun b hb=>⟨Nat.ne_of_lt (hlt b hb),fun y c e=>(hf b hb).2.2.2.2.1 y c (S.cells e)⟩
  bs:=fun b o e=>I3.bs b o e
  bsz:=Nat.le_trans I3.ok.bsz I3.sz
  noex:=fun b o e hb=>by
    rcases (hf b hb).2.2.2.1 with z | z
    · exact I3.ok.noex b o e z
    · exact absurd (Nat.lt_of_lt_of_le (Heap.lt_size e) (Nat.le_trans I3.ok.bsz z)) (Nat.lt_irrefl _)
  exfs:=fun b hb z=>by
    rcases List.mem_cons.mp (I3.stkSub b z) with e | e
    · exact (hf b hb).2.1 e
    · exact (hf b hb).2.2.1 e
  funs:=I3.stack
  frf:=I3.stkFree
theorem comp_start (S:CompScope X x N ix scope cl) (I3:Inv X pins σ H3 s3) (hf:∀ b ∈ fp,FpOk X pins H3 b) (hlt:∀ b ∈ fp,b < s3.heap.objs.size) (hix:ix.length=N.length) {h1:Heap} {t':Nat} {m:Str→Option Value}
    (hn:h1.Ns s3.heap.objs.size m) (hk:∀ b o,s3.heap.get? b=some o→h1.get? b=some o):Inv (cxComp X (x::N) scope cl s3 H3 fp) [] (none::outs ix σ) H3 { s3 with heap:=h1,toks:=t' } where
  ok:=comp_cx S I3 hf hlt
  os:=rfl
  bare:=I3.bare
  base:=Un.kept hk
  loc:=by
    refine ⟨m,hn,fun i y v h1' h2 h3=>?_⟩
    cases i with
    | zero =>
      have h2':(some (none:Option V))=some (some v):=h2
      cases h2'
    | succ j =>
      have h1'':N[j]?=some y:=h1'
      have h2':(outs ix σ)[j]?=some (some v):=h2
      obtain ⟨hr,k,c,e1,e2,e3,e4⟩:=S.outs j y h1''
      unfold outs at h2'
      rw [List.getElem?_map,e1] at h2'
      have h2'':(σ[k]?).join=some v:=Option.some.inj h2'
      have e5:σ[k]?=some (some v):=by
        cases q:σ[k]? with
        | none=>rw [q] at h2''; cases h2''
        | some o=>rw [q] at h2''; exact congrArg some h2''
      obtain ⟨m0,_,hl⟩:=I3.loc
      obtain ⟨u,r,l⟩:=hl k y v e2 e5 (.inr (.inl e4))
      refine ⟨u,r,.inr ⟨.inl hr,c,e3,?_⟩⟩
      rcases l with ⟨kk,_⟩ | ⟨_,c',ec,z⟩
      · have kk':X.env.scope.names.lookup y=some .local:=kk
        rw [e4] at kk'; cases kk'
      · rw [S.cells e3] at ec
        cases ec
        obtain ⟨o,ho,hd⟩:=z
        exact ⟨o,hk _ _ ho,hd⟩
  cell:=fun y c e=>by
    obtain ⟨v,o,ho,hd⟩:=I3.cell y c (S.cells e)
    exact ⟨v,o,hk _ _ ho,hd⟩
  free:=I3.hok.fresh (Nat.le_refl _)
  freeC:=fun y c e=>I3.freeC y c (S.cells e)
  pin:=fun p hp=>absurd (show p ∈ ([]:List (Addr × Obj)) from hp) (by simp)
  hok:=I3.hok.kept hk
  len:=by
    show (none::outs ix σ).length=(x::N).length
    rw [List.length_cons,List.length_cons]
    unfold outs
    rw [List.length_map,hix]
theorem comp_back (I3:Inv X pins σ H3 s3) (hf:∀ b ∈ fp,FpOk X pins H3 b) {σ':St} {H':Hp} {s':Shared} {h'':Heap} {N':List Str} (J:Inv (cxComp X N' scope cl s3 H3 fp) [] σ' H' s') (hb:Heap.SameBut s3.heap.objs.size s'.heap h'') :
    Inv X pins σ H' { s' with heap:=h'' }:=by
  have ne:∀ b o,s3.heap.get? b=some o→b ≠ s3.heap.objs.size:=fun b o e=>Nat.ne_of_lt (Heap.lt_size e)
  have B:Un (frs X.stack) fp H3 H' s3.heap s'.heap:=J.base
  refine I3.call' (s':={ s' with heap:=h'' }) (ch:=fp) J.os ⟨fun b o e n h1 h2=>(hb.2 b (ne b o e)).trans (B.keep b o e n h1 h2),fun b o e n h1 h2=>?_,B.free,fun b o e h2=>?_,B.tups,B.frzs,B.tbls⟩ (fun b ob e=>?_) J.bare (fun b z=>?_)
  · obtain ⟨sl,q⟩:=B.slot b o e n h1 h2
    exact ⟨sl,(hb.2 b (ne b o e)).trans q⟩
  · obtain ⟨o',q⟩:=B.there b o e h2
    exact ⟨o',(hb.2 b (ne b o e)).trans q⟩
  · have fr:H' s3.heap.objs.size=none:=J.free
    refine (J.hok b ob e).stay (fun c w' hc q=>(hb.2 c ?_).trans q) (fun _ q=>q) fun _ _ q=>q
    rintro rfl
    rcases hc with rfl | hc
    · rw [fr] at e; cases e
    · rw [fr] at hc; cases hc
  · obtain ⟨_,h2,_,h4,h5,h6⟩:=hf b z
    exact ⟨h4,h2,h5,h6⟩
end
abbrev TBl:=St→Hp→(Hp→Prop)→VK→Prop
def PB (X:Cx) (ifs:List Expr) (elt:Expr) (tb:TBl):Prop :=
  ∀ (pins:List (Addr × Obj)) (s:Shared) (σ:St) (H:Hp) (skip:Hp→Prop) (keep:VK),Inv X pins σ H s→tb σ H skip keep →
    wpAny (model X.prog X.w) X.A (forIn ifs true fun c r=>if r=true then do let ok ← isTrue c X.env (eval c X.env); pure (ForInStep.yield ok) else pure (ForInStep.yield r))
      (fun ok s3=>if ok=true then wpAny (model X.prog X.w) X.A (eval elt X.env) (EP X pins σ keep) X.xe s3 else ∃ H',Inv X pins σ H' s3∧skip H') X.xe s
def tB0 (te:TE):TBl:=fun σ H _ keep=>te σ H keep
def tB1 (tc:TT) (te:TE):TBl:=fun σ H skip keep=>tc σ H fun b H1=>if b=true then te σ H1 keep else skip H1
theorem pb_all {X:Cx} {elt:Expr} {te:TE} (he:PE X elt te):PB X [] elt (tB0 te):=by
  intro pins s σ H skip keep I h
  refine wpAny_tests_nil ?_
  rw [if_pos rfl]
  exact he pins s σ H keep I h
def CompEx (J:It) (D:Addr) (ix:List Nat) (tb:TBl) (σ:St) (H:Hp) (Q:VK):Prop:=∃ W:Nat→Nat→Hp→Prop,(∃ m,W 0 m (upd H D (.lst [])))∧∀ i m H2,W i m H2 →
  (J.stop i H2∧Q (.ref D) H2)∨(J.go i H2∧∀ y H3,J.yld i H2 y H3→tb (some y::outs ix σ) H3 (fun H4=>∃ m',m' < m∧W (i+1) m' H4)
    fun z H4=>∃ ys,H4 D=some (.lst ys)∧ys.length < sizeLine∧∃ m',m' < m∧W (i+1) m' (upd H4 D (.lst (ys++[z]))))
def tCompR (wi:TI) (ix:List Nat) (tb:TBl):TE:=fun σ H Q=>wi σ H fun J H1=>∀ D,H1 D=none→CompEx J D ix tb σ H1 Q
section
variable {prog:Program} {w:World} {A:Around} {E:Value→Shared→Prop} {R:Result→Shared→Prop} {s:Shared}
theorem compLoop_go {elt target iter:Expr} {ifs:List Expr} {scope:Scope} {pos:Pos} {it acc:Value} {env:Env} (I:Nat→Shared→Prop)
    (turn:∀ n s,I n s→wpAny (model prog w) A (pyNext it) (fun r s1=>match r with
      | none=>R (.ok .next) s1
      | some v=>wpAny (model prog w) A (letOwnedTupleGo target it v) (fun _ s1'=>wpAny (model prog w) A (assign target env v) (fun _ s2 =>
          wpAny (model prog w) A (forIn ifs true fun c r=>if r=true then do let ok ← isTrue c env (eval c env); pure (ForInStep.yield ok) else pure (ForInStep.yield r)) (fun ok s3 =>
            if ok=true then wpAny (model prog w) A (eval elt env) (fun x s4 =>
              wpAny (model prog w) A (call (.builtin "list.append") [acc,x]) (fun _ s5=>∃ m,m < n∧I m s5) (fun _ _=>False) s4) (fun _ _=>False) s3
            else ∃ m,m < n∧I m s3) (fun _ _=>False) s2) (fun _ _=>False) s1') (fun _ _=>False) s1) (fun _ _=>False) s)
    (n:Nat) (h:I n s) :
    codeAny (model prog w) A (.compLoop (.ListComp elt [⟨target,iter,ifs,0⟩] scope pos) 0 it acc env) R s:=by
  have up:∀ {α:Type} {t:Sem α} {Q Q':α→Shared→Prop} {E':Value→Shared→Prop} {s:Shared},wpAny (model prog w) A t Q (fun _ _=>False) s→(∀ a s,Q a s→Q' a s)→wpAny (model prog w) A t Q' E' s :=
    fun h q=>wpAny_mono h q fun _ _ f=>f.elim
  refine codeAny_loop rfl I (fun n s hI=>?_) n h
  show wpAny _ A ((compTurn (.ListComp elt [⟨target,iter,ifs,0⟩] scope pos) 0 it acc env).onRaise (fun x=>do noteFrame x env; theTreesLotGoes x)) _ _ s
  refine wpAny_noted ?_
  rw [compTurn_list]
  refine wpAny_bind (wpAny_standAt (wpAny_bind (up (turn n s hI) fun r s1 h1=>?_)))
  cases r with
  | none=>exact wpAny_pure h1
  | some v =>
    refine wpAny_bind (up h1 fun _ s1' h1'=>?_)
    refine wpAny_bind (up h1' fun _ s2 h2=>wpAny_bind (up h2 fun ok s3 h3=>?_))
    cases ok with
    | false=>exact wpAny_pure ⟨rfl,h3⟩
    | true =>
      exact wpAny_bind (wpAny_bind (up h3 fun x s4 h4=>wpAny_bind (up h4 fun _ s5 h5=>wpAny_pure (wpAny_pure ⟨rfl,h5⟩))))
end
structure Apart (X:Cx) (pins:List (Addr × Obj)) (H:Hp) (C:Addr):Prop where
  fr:H C=none
  lo:C ≠ X.env.locals
  sz:X.s₀.heap.objs.size≤C
  ce:∀ y c,X.env.cells.lookup y=some c→c ≠ C
  pi:∀ p ∈ X.pn++pins,p.1 ≠ C
theorem Apart.turn {X:Cx} {pins:List (Addr × Obj)} {σ:St} {H:Hp} {C:Addr} {s:Shared} {h':Heap} (a:Apart X pins H C) (I:Inv X pins σ H s) (hs:Heap.SameBut C s.heap h'):Inv X pins σ H { s with heap:=h' } :=
  I.turned (t':=s.toks) (fun b o ne e=>(hs.2 b ne).trans e) a.fr a.lo (.inr a.sz) a.ce a.pi
section
variable {X:Cx} {x:Str} {N:List Str} {ix:List Nat} {scope:Scope} {cl:List (Str × Addr)} {elt iter:Expr} {ifs:List Expr} {px pos:Pos} {wi:TI} {tb:TBl}
theorem comp_run (hc:X.calm=true) (S:CompScope X x N ix scope cl) (hix:ix.length=N.length) (hb:∀ s3 H3 fp,PB (cxComp X (x::N) scope cl s3 H3 fp) ifs elt tb)
    {pins:List (Addr × Obj)} {s2:Shared} {σ:St} {H2:Hp} {Q:VK} {it:Addr} {fp:List Addr} {tn:Nat→Heap→Prop} {J:It} {RR:Value→Addr→Result→Shared→Prop} {E:Value→Shared→Prop}
    (I2:Inv X pins σ H2 s2) (T:Turn X.prog X.w X.K (.Name x px) J fp it tn) (st2:tn 0 s2.heap) (f2:∀ b ∈ fp,FpOk X pins H2 b)
    (h:∀ D,H2 D=none→∃ W:Nat→Nat→Hp→Prop,(∃ m,W 0 m (upd H2 D (.lst [])))∧∀ i m H3,W i m H3 →
      (J.stop i H3∧Q (.ref D) H3)∨(J.go i H3∧∀ y H4,J.yld i H3 y H4→tb (some y::outs ix σ) H4 (fun H5=>∃ m',m' < m∧W (i+1) m' H5)
        fun z H5=>∃ ys,H5 D=some (.lst ys)∧ys.length < sizeLine∧∃ m',m' < m∧W (i+1) m' (upd H5 D (.lst (ys++[z])))))
    (hRR:∀ (D C:Addr) (H':Hp) (s':Shared) (m:Str→Option Value),s'.heap.Ns C m→Apart X pins H' C→Inv X pins σ H' s'→Q (.ref D) H'→RR (.ref D) C (.ok .next) s') :
    wpAny (model X.prog X.w) X.A (newList []) (fun acc s3=>wpAny (model X.prog X.w) X.A (newFunctionEnv scope X.env.globals cl [] X.env.qual none .none (some X.env)) (fun cenv s4 =>
      codeAny (model X.prog X.w) X.A (.compStart (.ListComp elt [⟨.Name x px,iter,ifs,0⟩] scope pos) 0 (.ref it) acc { cenv with scope:=relabel scope X.env }) (RR acc cenv.locals) s4) E s3) E s2:=by
  refine wpAny_newObj_type (wpAny_newFunctionEnv S.nocell (by intro y hy; simp at hy) (fun h1 hns1 hsb1=>?_) S.kind)
  dsimp only at hns1 hsb1 ⊢
  have I3:Inv X pins σ (upd H2 s2.heap.objs.size (.lst [])) { s2 with heap:=s2.heap.push { cls:=.type "list", dict:=none,data:=.seq ([]:List Value).toArray } }:=I2.lnew (its:=[]) (ys:=[]) (t':=s2.toks) .nil (Nat.zero_le _)
  have hD:H2 s2.heap.objs.size=none:=I2.fresh
  obtain ⟨W,⟨m0,w0⟩,turn⟩:=h s2.heap.objs.size hD
  have hltF:∀ b ∈ fp,b < s2.heap.objs.size:=fun b hb=>by
    obtain ⟨o,e,_⟩:=T.obj 0 _ st2 b hb
    exact Heap.lt_size e
  generalize hs3:({ s2 with heap:=s2.heap.push { cls:=.type "list", dict:=none,data:=.seq ([]:List Value).toArray } }:Shared)=s3 at I3
  have eh:s2.heap.push { cls:=.type "list", dict:=none,data:=.seq ([]:List Value).toArray }=s3.heap:=by rw [← hs3]
  have et:s2.toks=s3.toks:=by rw [← hs3]
  rw [eh] at hns1 hsb1 ⊢
  have sz3:s3.heap.objs.size=s2.heap.objs.size+1:=by rw [← eh,Heap.size_push]
  have hlt3:∀ b ∈ fp,b < s3.heap.objs.size:=fun b hb=>Nat.lt_of_lt_of_le (hltF b hb) (by rw [sz3]; exact Nat.le_succ _)
  have f3:∀ b ∈ fp,FpOk X pins (upd H2 s2.heap.objs.size (.lst [])) b:=fun b hb=>by
    obtain ⟨q1,q2⟩:=f2 b hb
    exact ⟨by rw [upd_ne (Nat.ne_of_lt (hltF b hb))]; exact q1,q2⟩
  have up:∀ b o,s3.heap.get? b=some o→h1.get? b=some o:=fun b o e=>hsb1.extBut b o (Nat.ne_of_lt (Heap.lt_size e)) (Heap.get?_push_of_some _ e)
  have old:∀ b o,s2.heap.get? b=some o→h1.get? b=some o:=fun b o e=>up b o (by rw [← eh]; exact Heap.get?_push_of_some _ e)
  have es:({ s2 with heap:=h1,toks:=s2.toks+([]:List (Str × Value)).length }:Shared)={ s3 with heap:=h1,toks:=s2.toks+([]:List (Str × Value)).length }:=by rw [← hs3]
  rw [es]
  have I4:Inv (cxComp X (x::N) scope cl s3 (upd H2 s2.heap.objs.size (.lst [])) fp) [] (none::outs ix σ) (upd H2 s2.heap.objs.size (.lst [])) { s3 with heap:=h1,toks:=s2.toks+([]:List (Str × Value)).length } :=
    comp_start S I3 f3 hlt3 hix hns1 up
  have st4:tn 0 h1:=T.keep 0 _ _ st2 fun b _ o e=>old b o e
  have loop:codeAny (model X.prog X.w) X.A (.compLoop (.ListComp elt [⟨.Name x px,iter,ifs,0⟩] scope pos) 0 (.ref it) (.ref s2.heap.objs.size) (compEnvC scope cl s3.heap.objs.size X.env)) (RR (.ref s2.heap.objs.size) s3.heap.objs.size)
      { s3 with heap:=h1,toks:=s2.toks+([]:List (Str × Value)).length }:=by
    refine compLoop_go (fun n s'=>∃ i v0 H',Inv (cxComp X (x::N) scope cl s3 (upd H2 s2.heap.objs.size (.lst [])) fp) [] (v0::outs ix σ) H' s'∧tn i s'.heap∧(∀ b ∈ fp,H' b=none)∧W i n H') ?_ m0 ⟨0,none,_,I4,st4,fun b hb=>(f3 b hb).1,w0⟩
    rintro n s5 ⟨i,v0,H5,I5,st5,fr5,w5⟩
    have stat:∀ {H':Hp},(∀ b ∈ fp,H' b=none)→∀ b ∈ fp,FpOk (cxComp X (x::N) scope cl s3 (upd H2 s2.heap.objs.size (.lst [])) fp) [] H' b:=fun hn b hb =>
      ⟨hn b hb,((comp_cx S I3 f3 hlt3).exf b hb).1,(comp_cx S I3 f3 hlt3).exfs b hb,.inl hb,((comp_cx S I3 f3 hlt3).exf b hb).2,fun p hp=>absurd (show p ∈ ([]:List (Addr × Obj)) from hp) (by simp)⟩
    rcases turn i n H5 w5 with ⟨stop,qn⟩ | ⟨go,step⟩
    · refine thn (T.done (cxComp X (x::N) scope cl s3 (upd H2 s2.heap.objs.size (.lst [])) fp) rfl rfl rfl hc i [] s5 _ H5 _ I5 (stat fr5) st5 stop) fun r s6 ⟨hr,I6⟩=>?_
      subst hr
      obtain ⟨m6,hn6,_⟩:=I6.loc
      exact hRR _ _ H5 s6 m6 hn6 ⟨I6.free,Ne.symm (Nat.ne_of_lt I3.lt),I3.sz,fun y c e z=>by
        obtain ⟨v,q⟩:=I3.cell y c e
        exact absurd q.lt (by rw [z]; exact Nat.lt_irrefl _),fun p hp z=>absurd (Heap.lt_size (I3.pin p hp).1) (by rw [z]; exact Nat.lt_irrefl _)⟩ (comp_back I3 f3 I6 (Heap.SameBut.refl _ _)) qn
    · refine thn (T.item (cxComp X (x::N) scope cl s3 (upd H2 s2.heap.objs.size (.lst [])) fp) rfl rfl rfl hc i [] s5 _ H5 _ I5 (stat fr5) st5 go) fun r s6 ⟨u,hr,h6⟩=>?_
      subst hr
      refine thn h6 fun _ s7 ⟨y,H7,I7,r7,y7,st7,fr7⟩=>?_
      have I7':=I7.pinned (stat fr7) (T.obj _ _ st7)
      refine wpAny_assign_Name (store_ok (i:=0) I7' S.nd rfl (.inl (lookup_relabel_local S.own)) r7 (fun s8 I8=>?_) (.inr (lookup_relabel_local S.own)))
      have I8':Inv (cxComp X (x::N) scope cl s3 (upd H2 s2.heap.objs.size (.lst [])) fp) ([]++pinsAt fp s7.heap) (some y::outs ix σ) H7 s8:=I8
      have again:∀ {v9:Option V} {H9:Hp} {s9:Shared},Inv (cxComp X (x::N) scope cl s3 (upd H2 s2.heap.objs.size (.lst [])) fp) ([]++pinsAt fp s7.heap) (v9::outs ix σ) H9 s9→(∃ m',m' < n∧W (i+1) m' H9) →
          ∃ m,m < n∧∃ i v0 H',Inv (cxComp X (x::N) scope cl s3 (upd H2 s2.heap.objs.size (.lst [])) fp) [] (v0::outs ix σ) H' s9∧tn i s9.heap∧(∀ b ∈ fp,H' b=none)∧W i m H':=fun {v9 H9 s9} I9 ⟨m',hm,w9⟩=>by
        refine ⟨m',hm,i+1,v9,H9,I9.unpinned,T.keep _ _ _ st7 fun b hb o e=>(I9.pin (b,o) (List.mem_append_right _ (List.mem_append_right _ (mem_pinsAt hb e)))).1,fun b hb=>?_,w9⟩
        obtain ⟨o,e,d⟩:=T.obj _ _ st7 b hb
        exact (I9.pin (b,o) (List.mem_append_right _ (List.mem_append_right _ (mem_pinsAt hb e)))).2.1
      refine thn (hb s3 (upd H2 s2.heap.objs.size (.lst [])) fp _ s8 _ H7 _ _ I8' (step y H7 y7)) fun ok s9 q9=>?_
      cases ok with
      | false =>
        rw [if_neg (by decide)] at q9 ⊢
        obtain ⟨H9,I9,q9⟩:=q9
        exact again I9 q9
      | true =>
        rw [if_pos rfl] at q9 ⊢
        refine thn q9 fun u s10 ⟨z,H10,I10,r10,ys,hy,hz,q10⟩=>?_
        refine thn (mt_append _ s10 _ H10 (.ref s2.heap.objs.size) [z] (.ref s2.heap.objs.size) [u] (fun _ H'=>∃ m',m' < n∧W (i+1) m' H') I10 rfl (.cons r10 .nil) ⟨_,ys,z,rfl,rfl,hy,hz,q10⟩) fun _ s11 ⟨_,H11,I11,_,q11⟩=>?_
        exact again I11 q11
  exact codeAny_compStart_list loop (T.self _ 0 _ _ _ st4 loop)
theorem pe_comp (hc:X.calm=true) (S:CompScope X x N ix scope cl) (hix:ix.length=N.length) (hi:PI X (.Name x px) iter wi) (hb:∀ s3 H3 fp,PB (cxComp X (x::N) scope cl s3 H3 fp) ifs elt tb)
    (hs:∀ x,foldedSetIterable iter X.env x=pure x:=by intro _; rfl):PE X (.ListComp elt [⟨.Name x px,iter,ifs,0⟩] scope pos) (tCompR wi ix tb):=by
  intro pins s σ H Q I h
  rw [eval_ListComp]
  refine wpAny_comprehension_free (use:=none) rfl hs S.clos S.kind S.names (thn (hi pins s σ H _ I h) fun xv s1 h1=>thn h1 fun itv s2 h2=>?_)
  obtain ⟨it,fp,tn,J,H2,rfl,I2,T,st2,f2,R⟩:=h2
  refine comp_run hc S hix hb (RR:=fun acc C=>compPost (model X.prog X.w) X.A X.xe none (EP X pins σ Q) acc C) I2 T st2 f2 R ?_
  intro D C H' s' m hn ap I' q
  exact ⟨m,hn,fun h'' hb''=>⟨.ref D,H',ap.turn I' hb'',rfl,q⟩⟩
theorem ps_comp {i:Nat} {y:Str} {py spos:Pos} (hN:X.N.Nodup) (hi0:X.N[i]?=some y) (hx:Loc X.env.scope y) (hc:X.calm=true) (S:CompScope X x N ix scope cl) (hix:ix.length=N.length) (hi:PI X (.Name x px) iter wi) (hb:∀ s3 H3 fp,PB (cxComp X (x::N) scope cl s3 H3 fp) ifs elt tb)
    (hsw:swapsWith (.ListComp elt [⟨.Name x px,iter,ifs,0⟩] scope pos) (some (.Name y py)) spos.line X.env=pure true:=by with_unfolding_all rfl)
    (hs:∀ x,foldedSetIterable iter X.env x=pure x:=by intro _; rfl) (hf:X.fn y=true∨X.env.scope.names.lookup y=some .local:=by first | exact .inl rfl | exact .inr rfl | assumption) :
    PS X (.Assign [.Name y py] (.ListComp elt [⟨.Name x px,iter,ifs,0⟩] scope pos) spos) (fun D σ H=>tCompR wi ix tb σ H fun v H'=>D.nx (σ.set i (some v)) H'):=by
  intro pins s σ H Dn I h
  rw [exec_Assign_Name_used _ _ _ _ hsw]
  refine wpAny_bind (wpAny_standAt (wpAny_bind ?_))
  show wpAny _ X.A (do let _ ← comprehension (.ListComp elt [⟨.Name x px,iter,ifs,0⟩] scope pos) scope X.env _ (newList []) false (eval iter X.env) (some (assign (.Name y py) X.env))) _ _ s
  refine wpAny_bind (wpAny_mono (wpAny_comprehension_free (use:=some (assign (.Name y py) X.env)) (Q:=fun _ s'=>SP X pins Dn .next s') rfl hs S.clos S.kind S.names
    (thn (hi pins s σ H _ I h) fun xv s1 h1=>thn h1 fun itv s2 h2=>?_)) (fun _ s' hq=>wpAny_pure (wpAny_pure hq)) fun _ _ e=>e)
  obtain ⟨it,fp,tn,J,H2,rfl,I2,T,st2,f2,R⟩:=h2
  refine comp_run hc S hix hb (RR:=fun acc C=>compPost (model X.prog X.w) X.A X.xe (some (assign (.Name y py) X.env)) (fun _ s'=>SP X pins Dn .next s') acc C) (Q:=fun v H'=>Dn.nx (σ.set i (some v)) H') I2 T st2 f2 R ?_
  intro D C H' s' m hn ap I' q
  show wpAny _ X.A (assign (.Name y py) X.env (.ref D)) _ _ _
  refine wpAny_assign_Name (store_ok2 I' hN hi0 hx (v:=.ref D) rfl (fun s'' I'' hsb=>?_) hf)
  obtain ⟨a,hsb,ha⟩:=hsb
  have ne:C ≠ a:=by
    rcases ha with z | z
    · rw [z]; exact ap.lo
    · exact Ne.symm (ap.ce y a z)
  exact ⟨m,hn.sameBut hsb ne,fun h'' hb''=>⟨_,H',ap.turn I'' hb'',q⟩⟩
end
end L2
namespace L2
open PySem PySem.Spec PyProof.Rows
section
variable {X:Cx} {pins:List (Addr × Obj)} {σ:St} {H:Hp} {s:Shared} {h':Heap}
theorem Inv.turnedNew {t':Nat} {ch:List Addr} {T:Addr} {o:HO} (I:Inv X pins σ H s) (k:∀ b u,b ∉ ch→s.heap.get? b=some u→h'.get? b=some u) (hf:∀ b ∈ ch,FpOk X pins H b) (hT:s.heap.objs.size≤T)
    (new:ObjOk X.prog X.w (upd H T o) h' T o):Inv X pins σ (upd H T o) { s with heap:=h',toks:=t' }:=by
  have nit:∀ b u,H b=some u→b ∉ ch:=fun b u e z=>by rw [(hf b z).1] at e; cases e
  have hn:H T=none:=I.hok.fresh hT
  have lt:∀ b u,s.heap.get? b=some u→b ≠ T:=fun b u e=>Nat.ne_of_lt (Nat.lt_of_lt_of_le (Heap.lt_size e) hT)
  refine I.step (g':=s.gens) (d':=s.drawn) (ch:=ch) (fun b hb=>?_) (fun b u _ _ hc e _=>k b u hc e) (fun b u _ _ hc e _=>⟨u.slots,k b u hc e⟩) (fun b u _ e n=>by rw [upd_ne (lt b u e)]; exact n) (fun b u hc e=>⟨u,k b u hc e⟩)
    (fun b xs e=>by rw [upd_ne (ne_of_none e hn)]; exact e) (fun b ob u e=>by rw [upd_ne (ne_of_none e hn)]; exact e) (fun b ps e=>⟨#[],by rw [upd_ne (ne_of_none e hn),e]; simp⟩) (fun m hm=>?_) (fun b u e=>?_) I.bare
  · obtain ⟨_,h2,_,h4,h5,h6⟩:=hf b hb
    exact ⟨h4,h2,h5,h6⟩
  · obtain ⟨ob,es,ep,ho,r⟩:=hm
    exact ⟨ob,es,ep,k _ ob (fun z=>(hf _ z).2.1 rfl) ho,r⟩
  · by_cases hb:b=T
    · subst hb
      rw [upd_same] at e
      cases e
      exact new
    · rw [upd_ne hb] at e
      refine (I.hok b u e).stay (fun c v hc q=>k c v ?_ q) (fun c q=>by rw [upd_ne (ne_of_none q hn)]; exact q) fun c xs q=>by rw [upd_ne (ne_of_none q hn)]; exact q
      rcases hc with z | z
      · rw [z]; exact nit b u e
      · exact nit c _ z
theorem Inv.turnedL {t':Nat} {ch:List Addr} (I:Inv X pins σ H s) (k:∀ b u,b ∉ ch→s.heap.get? b=some u→h'.get? b=some u) (hf:∀ b ∈ ch,FpOk X pins H b):Inv X pins σ H { s with heap:=h',toks:=t' }:=by
  have nit:∀ b u,H b=some u→b ∉ ch:=fun b u e z=>by rw [(hf b z).1] at e; cases e
  refine I.step (g':=s.gens) (d':=s.drawn) (ch:=ch) (fun b hb=>?_) (fun b u _ _ hc e _=>k b u hc e) (fun b u _ _ hc e _=>⟨u.slots,k b u hc e⟩) (fun _ _ _ _ n=>n) (fun b u hc e=>⟨u,k b u hc e⟩)
    (fun _ _ e=>e) (fun _ _ _ e=>e) (fun b ps e=>⟨#[],by rw [e]; simp⟩) (fun m hm=>?_) (fun b u e=>?_) I.bare
  · obtain ⟨_,h2,_,h4,h5,h6⟩:=hf b hb
    exact ⟨h4,h2,h5,h6⟩
  · obtain ⟨ob,es,ep,ho,r⟩:=hm
    exact ⟨ob,es,ep,k _ ob (fun z=>(hf _ z).2.1 rfl) ho,r⟩
  · refine (I.hok b u e).stay (fun c v hc q=>k c v ?_ q) (fun _ q=>q) fun _ _ q=>q
    rcases hc with z | z
    · rw [z]; exact nit b u e
    · exact nit c _ z
end
def Ite (K:PySem.W.Frag) (a:Addr):It :=
  ⟨fun i H=>∃ xs x,SqL K H a xs∧xs[i]?=some x,fun i H y H'=>∃ t,y=.ref t∧H t=none∧∀ xs x,SqL K H a xs→xs[i]?=some x→H'=upd H t (.tup [.int i,x]),fun i H=>∃ xs,SqL K H a xs∧xs.length≤i⟩
section
variable {X:Cx} {elts:List Expr} {k:Nat} {tpos:Pos}
def iEnum (K:PySem.W.Frag) (tl:TE):TI:=fun σ H R=>tl σ H fun x H1=>∃ a,x=.ref a∧(∃ xs,SqL K H1 a xs)∧R (Ite K a) H1
end
end L2
namespace L2
open PySem PySem.Spec PyProof.Rows
mutual
inductive Rep (K:PySem.W.Frag) (H:Hp):V→PyData→Prop
  | non:Rep K H .non .none
  | bl (b:Bool):Rep K H (.bl b) (.bool b)
  | int (i:Int):Rep K H (.int i) (.int i)
  | str (x:Str):Rep K H (.str x) (.str x)
  | tup {a:Addr} {xs:List V} {ds:List PyData}:SqT K H a xs→RepAll K H xs ds→Rep K H (.ref a) (.tuple ds)
  | lst {a:Addr} {xs:List V} {ds:List PyData}:SqL K H a xs→RepAll K H xs ds→Rep K H (.ref a) (.list ds)
inductive RepAll (K:PySem.W.Frag) (H:Hp):List V→List PyData→Prop
  | nil:RepAll K H [] []
  | cons {x:V} {d:PyData} {xs:List V} {ds:List PyData}:Rep K H x d→RepAll K H xs ds→RepAll K H (x::xs) (d::ds)
end
section
variable {X:Cx} {pins:List (Addr × Obj)} {σ:St} {H:Hp} {s:Shared}
mutual
theorem Rep.reads (I:Inv X pins σ H s):∀ {x:V} {d:PyData} {v:Value},Rep X.K H x d→RelV x v→∃ as,Reads s.heap v d as
  | _,_,v,.non,r=>by cases (show v=Value.none from r); exact ⟨_,Reads.none⟩
  | _,_,v,.bl b,r=>by cases (show v=Value.bool b from r); exact ⟨_,Reads.bool b⟩
  | _,_,v,.int i,r=>by obtain ⟨t,e⟩:=(show ∃ t,v=Value.int i t from r); cases e; exact ⟨_,Reads.int i t⟩
  | _,_,v,.str x,r=>by obtain ⟨t,e⟩:=(show ∃ t,v=Value.str x t from r); cases e; exact ⟨_,Reads.str x t⟩
  | _,_,v,.tup (a:=a) h q,r=>by
    cases (show v=Value.ref a from r)
    obtain ⟨its,rv,⟨o,ho,hc,n,hd⟩,_⟩:=I.tuple h
    obtain ⟨as,z⟩:=RepAll.reads I q rv
    exact ⟨_,reads_tuple_at ho hc hd (by simpa using z)⟩
  | _,_,v,.lst (a:=a) h q,r=>by
    cases (show v=Value.ref a from r)
    obtain ⟨its,rv,⟨o,n,ho,hc,_,hd⟩,_⟩:=I.list h
    obtain ⟨as,z⟩:=RepAll.reads I q rv
    exact ⟨_,reads_list_at ho hc hd (by simpa using z)⟩
theorem RepAll.reads (I:Inv X pins σ H s):∀ {xs:List V} {ds:List PyData} {vs:List Value},RepAll X.K H xs ds→Vals xs vs→∃ as,ReadsAll s.heap vs ds as
  | _,_,_,.nil,.nil=>⟨_,ReadsAll.nil⟩
  | _,_,_,.cons h q,.cons r rs=>by
    obtain ⟨as,z⟩:=Rep.reads I h r
    obtain ⟨bs,y⟩:=RepAll.reads I q rs
    exact ⟨_,ReadsAll.cons z y⟩
end
end
theorem rep_ints {K:PySem.W.Frag} {H:Hp}:∀ ns:List Int,RepAll K H (ns.map V.int) (ns.map PyData.int)
  | []=>.nil
  | n::r=>.cons (.int n) (rep_ints r)
section
variable {X:Cx}
def rEqD (K:PySem.W.Frag):R2:=fun x y H Q=>∃ d e,Rep K H x d∧Rep K H y e∧SeqAt.shaped d=true∧SeqAt.shaped e=true∧Q (.bl (PyData.eqv d e)) H
def rNeD (K:PySem.W.Frag):R2:=fun x y H Q=>∃ d e,Rep K H x d∧Rep K H y e∧SeqAt.shaped d=true∧SeqAt.shaped e=true∧Q (.bl (!PyData.eqv d e)) H
theorem op_neD (hu:X.A.units+64 < cLine):OpR X (compareOp .NotEq) (rNeD X.K):=by
  intro pins s σ H x y v u Q I rx ry h
  obtain ⟨d,e,hd,he,sd,se,q⟩:=h
  obtain ⟨as,r1⟩:=Rep.reads I hd rx
  obtain ⟨bs,r2⟩:=Rep.reads I he ry
  exact ne_dataH r1 r2 sd se hu ⟨.bl _,H,I,rfl,q⟩
def rCatT0 (K:PySem.W.Frag):R2:=fun x y H Q=>∃ a b ys,x=.ref a∧y=.ref b∧SqT K H a []∧SqT K H b ys∧Q (.ref b) H
end
end L2
namespace L2
open PySem PySem.Spec PyProof.Rows
section
variable {prog:Program} {w:World} {A:Around} {E:Value→Shared→Prop} {s:Shared} {R:Result→Shared→Prop}
end
section
variable {X:Cx}
def tListRev (K:PySem.W.Frag) (te:TE):TE:=fun σ H Q=>te σ H fun x H1=>∃ l ys,x=.ref l∧SqL K H1 l ys∧∀ p,H1 p=none→Q (.ref p) (upd H1 p (.lst ys.reverse))
end
end L2
namespace L2
open PySem PySem.Spec PyProof.Rows
def Nx (n i:Nat) (Pv:Nat→Hp→Prop) (H:Hp):Prop:=∃ m',m' < n - i∧(m'=n - (i+1)∧i+1≤n∧Pv (i+1) H)
theorem Nx.of {n i:Nat} {Pv:Nat→Hp→Prop} {H:Hp} (h:i < n) (p:Pv (i+1) H):Nx n i Pv H:=⟨n - (i+1),by omega,rfl,h,p⟩
theorem comp_tup {K:PySem.W.Frag} {a D:Addr} {xs:List V} {ix:List Nat} {tb:TBl} {σ:St} {H:Hp} {Q:VK} (Pv:Nat→Hp→Prop) (h0:Pv 0 (upd H D (.lst []))) (hl:∀ i H,i≤xs.length→Pv i H→SqT K H a xs)
    (hs:∀ i x H,xs[i]?=some x→Pv i H→tb (some x::outs ix σ) H (Nx xs.length i Pv) fun z H'=>∃ ys,H' D=some (.lst ys)∧ys.length < sizeLine∧Nx xs.length i Pv (upd H' D (.lst (ys++[z])))) (hd:∀ H,Pv xs.length H→Q (.ref D) H) :
    CompEx (Itt K a) D ix tb σ H Q:=by
  refine ⟨fun i m H=>m=xs.length - i∧i≤xs.length∧Pv i H,⟨xs.length,by simp,Nat.zero_le _,h0⟩,?_⟩
  rintro i m H ⟨rfl,hi,p⟩
  have q:=hl i H hi p
  by_cases hlt:i < xs.length
  · refine .inr ⟨⟨xs,xs[i],q,by simp [hlt]⟩,fun x H' y=>?_⟩
    obtain ⟨e,y⟩:=y
    subst e
    exact hs i x _ (y xs q) p
  · have e:i=xs.length:=by omega
    subst e
    exact .inl ⟨⟨xs,q,Nat.le_refl _⟩,hd H p⟩
theorem comp_range {lo:Int} {n:Nat} {D:Addr} {ix:List Nat} {tb:TBl} {σ:St} {H:Hp} {Q:VK} (Pv:Nat→Hp→Prop) (h0:Pv 0 (upd H D (.lst [])))
    (hs:∀ i H,i < n→Pv i H→tb (some (.int (lo+i))::outs ix σ) H (Nx n i Pv) fun z H'=>∃ ys,H' D=some (.lst ys)∧ys.length < sizeLine∧Nx n i Pv (upd H' D (.lst (ys++[z])))) (hd:∀ H,Pv n H→Q (.ref D) H) :
    CompEx (Itr lo n) D ix tb σ H Q:=by
  refine ⟨fun i m H=>m=n - i∧i≤n∧Pv i H,⟨n,by simp,Nat.zero_le _,h0⟩,?_⟩
  rintro i m H ⟨rfl,hi,p⟩
  by_cases hlt:i < n
  · refine .inr ⟨hlt,fun x H' y=>?_⟩
    obtain ⟨e,y⟩:=y
    subst e y
    exact hs i _ hlt p
  · have e:i=n:=by omega
    subst e
    exact .inl ⟨Nat.le_refl _,hd H p⟩
end L2
namespace L2
open PySem PySem.Spec PyProof.Rows
section
variable {X:Cx}
def rIsi (K:PySem.W.Frag):List V→Hp→VK→Prop:=fun xs H Q=>∃ x t n b,xs=[x,.ty n]∧TyOf K H x t∧PySem.W.kitOne K t (.type n)=some b∧Q (.bl b) H
def rLen (K:PySem.W.Frag):List V→Hp→VK→Prop:=fun xs H Q=>∃ p ys,xs=[.ref p]∧(SqL K H p ys∨SqT K H p ys)∧Q (.int ys.length) H
end
end L2
namespace L2
open PySem PySem.Spec PyProof.Rows
def Its (z:Str):It:=⟨fun i _=>i < z.cps.size,fun i H x H'=>H'=H∧∃ c,z.cps[i]?=some c∧x=.str ⟨#[c]⟩,fun i _=>z.cps.size≤i⟩
section
variable {X:Cx} {y:Str} {py:Pos}
def iStr (tl:TE):TI:=fun σ H R=>tl σ H fun x H1=>∃ z,x=.str z∧R (Its z) H1
end
section
variable {X:Cx}
def rSlS:V→Option Int→Option Int→Hp→VK→Prop:=fun x lo hi H Q=>∃ z,x=.str z∧z.length≤sizeLine∧Q (.str (Txt.slice z lo hi)) H
theorem sl_str:SlR X rSlS:=by
  intro pins s σ H x v vl vu lo hi sl Q I rx hs pl pu h
  obtain ⟨z,rfl,hz,q⟩:=h
  obtain ⟨t,rfl⟩:=rx
  refine ⟨"str", _,F.slot_str_getitem.lookup,typeIs_str _ _ _,?_⟩
  have fin:∀ t' k,EP X pins σ Q (.str (Txt.slice z lo hi) t') { s with toks:=k }:=fun t' k=>⟨.str _,H,I.tok k,⟨_,rfl⟩,q⟩
  obtain ⟨o,ho,hc,hd⟩:=hs
  cases pl with
  | none =>
    cases pu with
    | none=>exact wpAny_getItem_str_slice (l:=none) (u:=none) (st:=none) ⟨o,ho,hc,hd⟩ rfl (post_val_or_str ⟨Nat.le_trans (Txt.slice_le z _ _) hz,fin⟩)
    | int j u=>exact wpAny_getItem_str_slice (l:=none) (u:=some (j,u)) (st:=none) ⟨o,ho,hc,hd⟩ rfl (post_val_or_str ⟨Nat.le_trans (Txt.slice_le z _ _) hz,fin⟩)
  | int i u' =>
    cases pu with
    | none=>exact wpAny_getItem_str_slice (l:=some (i,u')) (u:=none) (st:=none) ⟨o,ho,hc,hd⟩ rfl (post_val_or_str ⟨Nat.le_trans (Txt.slice_le z _ _) hz,fin⟩)
    | int j u=>exact wpAny_getItem_str_slice (l:=some (i,u')) (u:=some (j,u)) (st:=none) ⟨o,ho,hc,hd⟩ rfl (post_val_or_str ⟨Nat.le_trans (Txt.slice_le z _ _) hz,fin⟩)
def rStarts:V→List V→Hp→VK→Prop:=fun x vs H Q=>∃ z u,x=.str z∧vs=[.str u]∧Q (.bl (Txt.startswith z u)) H
theorem strsAre_of:∀ {zs:List Str} {us:List Value},Vals (zs.map V.str) us→StrsAre us zs
  | [],_,.nil=>.nil
  | _::_,_,.cons ⟨t,e⟩ r=>by subst e; exact .cons _ t (strsAre_of r)
def rJoin (K:PySem.W.Frag):V→List V→Hp→VK→Prop:=fun x vs H Q=>∃ z a ys,x=.str z∧vs=[.ref a]∧SqL K H a (ys.map V.str)∧z.length≤16∧(ys.map (·.length)).sum+ys.length≤1048576∧Q (.str (Txt.join z ys)) H
theorem mt_join:MtR X "str.join" (rJoin X.K):=by
  intro pins s σ H x vs v us Q I rx rv h
  obtain ⟨z,a,ys,rfl,rfl,hq,hz,hw,q⟩:=h
  obtain ⟨t,rfl⟩:=rx
  obtain ⟨w',rfl,ra⟩:=rv.one
  cases ra
  obtain ⟨its,r',p,_⟩:=I.list hq
  exact join_listW p.isList (by simpa using strsAre_of r') hz hw fun t' k=>⟨.str _,H,I.tok k,⟨_,rfl⟩,q⟩
def rMulS:R2:=fun x y H Q=>∃ z n,x=.str z∧y=.int n∧MulOk z n∧Q (.str (Txt.mul z n)) H
def rAll (K:PySem.W.Frag):List V→Hp→VK→Prop:=fun xs H Q=>∃ (a:Addr) (bs:List Bool),xs=[.ref a]∧SqL K H a (bs.map V.bl)∧Q (.bl (bs.all id)) H
end
end L2
namespace L2
open PySem PySem.Spec PyProof.Rows
inductive Consts:List Expr→List Str→Prop
  | nil:Consts [] []
  | cons {x:Str} {j:Nat} {pos:Pos} {es:List Expr} {zs:List Str}:Consts es zs→Consts (.Constant (.str x) j pos::es) (x::zs)
theorem pa_consts {X:Cx}:∀ {es:List Expr} {zs:List Str},Consts es zs→PA X es (fun _ H Q=>Q (zs.map V.str) H)
  | _,_,.nil=>pa_nil
  | _,_,.cons h=>fun pos pins s σ H Q I q=>pa_cons pe_str (pa_consts h) (by rfl) pos pins s σ H Q I q
theorem CompScope.one {X:Cx} {x y:Str} {scope:Scope} {k:Nat} {c:Addr} (c1:closureFor scope X.env=pure [(y,c)]) (c2:∀ y ∈ scope.names,y.2 ≠ .cell) (c3:scope.kind=.function) (c4:∀ y ∈ scope.names,y.2=.local→scope.names.lookup y.1=some .local)
    (c5:scope.names.lookup x=some .local) (nd:[x,y].Nodup) (hc:X.env.cells.lookup y=some c) (c6:((relabel scope X.env).names.all fun p=>!(p.2 == .cell || p.2 == .free) || (([(y,c)]:List (Str × Addr)).lookup p.1).isSome)=true)
    (hr:(relabel scope X.env).names.lookup y=some .cell) (hk:X.N[k]?=some y) (hs:X.env.scope.names.lookup y=some .cell):CompScope X x [y] [k] scope [(y,c)] where
  clos:=c1
  nocell:=c2
  kind:=c3
  names:=c4
  own:=c5
  nd:=nd
  sub:=fun p hp=>by
    rw [List.mem_singleton.mp hp]
    exact hc
  has:=c6
  outs:=fun j z h=>by
    cases j with
    | zero =>
      have e:y=z:=Option.some.inj h
      subst e
      exact ⟨hr,k,c,rfl,hk,by simp [List.lookup],hs⟩
    | succ j=>simp at h
theorem CompScope.two {X:Cx} {x y z:Str} {scope:Scope} {k l:Nat} {c d:Addr} {cl:List (Str × Addr)} (c1:closureFor scope X.env=pure cl) (c2:∀ y ∈ scope.names,y.2 ≠ .cell) (c3:scope.kind=.function) (c4:∀ y ∈ scope.names,y.2=.local→scope.names.lookup y.1=some .local)
    (c5:scope.names.lookup x=some .local) (nd:[x,y,z].Nodup) (hcl:cl=[(z,d),(y,c)]∨cl=[(y,c),(z,d)]) (hc:X.env.cells.lookup y=some c) (hd:X.env.cells.lookup z=some d) (c6:((relabel scope X.env).names.all fun p=>!(p.2 == .cell || p.2 == .free) || (cl.lookup p.1).isSome)=true)
    (hr:(relabel scope X.env).names.lookup y=some .cell) (hk:X.N[k]?=some y) (hs:X.env.scope.names.lookup y=some .cell)
    (hr2:(relabel scope X.env).names.lookup z=some .cell) (hk2:X.N[l]?=some z) (hs2:X.env.scope.names.lookup z=some .cell):CompScope X x [y,z] [k,l] scope cl where
  clos:=c1
  nocell:=c2
  kind:=c3
  names:=c4
  own:=c5
  nd:=nd
  sub:=fun p hp=>by
    rcases hcl with rfl | rfl
    all_goals
      rcases List.mem_cons.mp hp with e | e
      · rw [e]; assumption
      · rw [List.mem_singleton.mp e]; assumption
  has:=c6
  outs:=fun j w h=>by
    have nyz:y ≠ z:=fun e=>by simp [e] at nd
    match j,h with
    | 0,h =>
      have e:y=w:=Option.some.inj h
      subst e
      refine ⟨hr,k,c,rfl,hk,?_,hs⟩
      rcases hcl with rfl | rfl
      · have:(y == z)=false:=by simpa using nyz
        simp [List.lookup,this]
      · simp [List.lookup]
    | 1,h =>
      have e:z=w:=Option.some.inj h
      subst e
      refine ⟨hr2,l,d,rfl,hk2,?_,hs2⟩
      rcases hcl with rfl | rfl
      · simp [List.lookup]
      · have:(z == y)=false:=by simpa using Ne.symm nyz
        simp [List.lookup,this]
    | j+2,h=>simp at h
end L2
namespace Mine
open PySem L2
def NmOk (x:Str):Prop:=x.length≤20∧(∀ c ∈ x.cps.toList,97≤c∧c≤122)∧x ≠ "aa"
theorem mem_slice {x:Str} {l u:Option Int} {c:Nat} (h:c ∈ (Txt.slice x l u).cps.toList):c ∈ x.cps.toList:=by
  have e:Txt.slice x l u=StrLaws.sliceText x l u:=rfl
  rw [e] at h
  unfold StrLaws.sliceText at h
  split at h
  · exact h
  · obtain ⟨i,_,hi⟩:=List.mem_filterMap.mp (show c ∈ (List.filterMap _ _) by simpa using h)
    have:=Array.mem_of_getElem? hi
    simpa using this
theorem mem_append {x y:Str} {c:Nat} (h:c ∈ (x++y).cps.toList):c ∈ x.cps.toList∨c ∈ y.cps.toList:=by
  have e:(x++y).cps.toList=x.cps.toList++y.cps.toList:=by simp [Str.cps_append]
  rw [e] at h
  exact List.mem_append.mp h
theorem mem_join0 {zs:List Str} {c:Nat} (h:c ∈ (Txt.join "" zs).cps.toList):∃ z ∈ zs,c ∈ z.cps.toList:=by
  have e:Txt.join "" zs=Str.join "" zs:=by
    cases zs with
    | nil=>rfl
    | cons a r=>exact StrLaws.glued_cons "" r a
  rw [e] at h
  rcases (PyProof.Rows.mem_join "" c zs).mp h with h | ⟨_,h⟩
  · exact h
  · have e0:(("" : Str)).cps.toList=[]:=by decide +kernel
    rw [e0] at h
    cases h
inductive Tr where
  | is (x:Str) | yes | no | not (a:Tr) | bin (w:Str) (a b:Tr)
def Tr.size:Tr→Nat
  | .is _=>1 | .yes=>1 | .no=>1 | .not a=>a.size+1 | .bin _ a b=>a.size+b.size+1
def Tr.depth:Tr→Nat
  | .is _=>1 | .yes=>1 | .no=>1 | .not a=>a.depth+1 | .bin _ a b=>max a.depth b.depth+1
def Tr.names:Tr→List Str
  | .is x=>[x] | .yes=>[] | .no=>[] | .not a=>a.names | .bin _ a b=>a.names++b.names
def joinW:List Str:=["and", "or", "odd", "same"]
def Tr.ok (ns:List Str):Tr→Prop
  | .is x=>x ∈ ns | .yes=>True | .no=>True | .not a=>a.ok ns | .bin w a b=>w ∈ joinW∧a.ok ns∧b.ok ns
inductive TreeAt (H:Hp):V→Tr→Prop
  | is {a:Addr} {x:Str}:H a=some (.tup [.str "is", .str x])→TreeAt H (.ref a) (.is x)
  | yes {a:Addr}:H a=some (.tup [.str "yes"])→TreeAt H (.ref a) .yes
  | no {a:Addr}:H a=some (.tup [.str "no"])→TreeAt H (.ref a) .no
  | not {a:Addr} {v:V} {t:Tr}:H a=some (.tup [.str "not", v])→TreeAt H v t→TreeAt H (.ref a) (.not t)
  | bin {a:Addr} {w:Str} {v u:V} {t r:Tr}:H a=some (.tup [.str w,v,u])→TreeAt H v t→TreeAt H u r→TreeAt H (.ref a) (.bin w t r)
abbrev KeepT (H H':Hp):Prop:=∀ a xs,H a=some (.tup xs)→H' a=some (.tup xs)
theorem TreeAt.mono {H H':Hp} (k:KeepT H H') {v:V} {t:Tr} (h:TreeAt H v t):TreeAt H' v t:=by
  induction h with
  | is e=>exact .is (k _ _ e)
  | yes e=>exact .yes (k _ _ e)
  | no e=>exact .no (k _ _ e)
  | not e _ ih=>exact .not (k _ _ e) ih
  | bin e _ _ i1 i2=>exact .bin (k _ _ e) i1 i2
theorem keepT_same {H H':Hp} (s:Same H H'):KeepT H H':=fun a _ h=>s a _ h
def NamesAt (H:Hp) (a:Addr) (ns:List Str):Prop:=H a=some (.lst (ns.map V.str))∨H a=some (.tup (ns.map V.str))
def spNames:Sp:=fun vs H Q _=>∃ (f:Addr) (m:Int),vs=[.ref f,.int m]∧FeedAt H f∧0≤m∧m≤6∧∀ (l:Addr) (ns:List Str) (H':Hp),H l=none→l ≠ f→H' l=some (.lst (ns.map V.str))→ns.length=m.toNat→(∀ x ∈ ns,NmOk x)→FeedAt H' f→SameBut f H H'→Q (.ref l) H'
def spTree (n:Nat):Sp:=fun vs H Q _=>∃ (f a:Addr) (room deep:Int) (ns:List Str),vs=[.ref f,.ref a,.int room,.int deep]∧FeedAt H f∧NamesAt H a ns∧ns.length≤6∧1≤room∧room≤100∧1≤deep∧deep+1≤(n:Int)+1 ∧
  ∀ (v:V) (t:Tr) (H':Hp),FeedAt H' f→SameBut f H H'→TreeAt H' v t→t.ok ns→(t.size:Int)≤room→(t.depth:Int)≤deep→Q v H'
theorem at_in {α:Type} {l:List α} {i:Int} (h0:0≤i) (h:i < (l.length:Int)):∃ v,atI l i=some v∧v ∈ l:=by
  have hk:i.toNat < l.length:=by omega
  have q:atI l ((i.toNat:Nat):Int)=some l[i.toNat]:=atI_nat (List.getElem?_eq_getElem hk)
  have ek:((i.toNat:Nat):Int)=i:=by omega
  rw [ek] at q
  exact ⟨_,q,List.getElem_mem hk⟩
end Mine
namespace L2
open PySem PySem.Spec PyProof.Rows
section
variable {X:Cx}
def rngV (lo:Int) (n:Nat):List Int:=(List.range n).map fun i:Nat=>lo+(i:Int)
def tListRng (ta:TA):TE:=fun σ H Q=>ta σ H fun vs H1=>∃ i j:Int,vs=[.int i,.int j]∧(-(2 ^ 62)≤i∧i < 2 ^ 62∧-(2 ^ 62)≤j∧j < 2 ^ 62)∧j - i≤1000∧∀ p,H1 p=none→Q (.ref p) (upd H1 p (.lst ((rngV i (j - i).toNat).map V.int)))
def rSum (K:PySem.W.Frag):List V→Hp→VK→Prop:=fun xs H Q=>∃ (a:Addr) (ns:List Int),xs=[.ref a]∧SqL K H a (ns.map V.int)∧(∀ n ∈ ns,0≤n)∧ns.sum < 2 ^ 63∧Q (.int ns.sum) H
theorem ints_get:∀ {bs:List Int} {us:List Value} {i:Nat} {v:Value},Vals (bs.map V.int) us→us[i]?=some v→∃ b t,bs[i]?=some b∧v=.int b t
  | [],_,_,_,.nil,h=>by simp at h
  | b::_,_,0,_,.cons r _,h=>by
    simp at h
    subst h
    obtain ⟨t,e⟩:=r
    exact ⟨b,t,rfl,e⟩
  | _::_,_,i+1,_,.cons _ t,h=>by
    obtain ⟨b,t,h1,h2⟩:=ints_get (i:=i) t (by simpa using h)
    exact ⟨b,t,by simpa using h1,h2⟩
end
end L2
namespace L2
open PySem PySem.Spec PyProof.Rows
def RevT (h:Heap) (it t:Addr) (i:Int):Prop:=h.get? it=some { cls:=.type "reversed", data:=.fields #[.ref t,rawInt i] }
section
variable {prog:Program} {w:World} {A:Around} {E:Value→Shared→Prop} {s:Shared} {R:Result→Shared→Prop} {it t:Addr}
end
section
variable {X:Cx}
def tListRevT (K:PySem.W.Frag) (te:TE):TE:=fun σ H Q=>te σ H fun x H1=>∃ l ys,x=.ref l∧SqT K H1 l ys∧∀ p,H1 p=none→Q (.ref p) (upd H1 p (.lst ys.reverse))
end
end L2
namespace Mine
open PySem L2
def Tr.wf:Tr→Prop
  | .is x=>NmOk x | .yes=>True | .no=>True | .not a=>a.wf | .bin w a b=>w ∈ joinW∧a.wf∧b.wf
def Tr.parts:Tr→List Tr
  | .is _=>[] | .yes=>[] | .no=>[] | .not a=>[a] | .bin _ a b=>[a,b]
theorem Tr.depth_pos:∀ t:Tr,1≤t.depth
  | .is _=>Nat.le_refl _ | .yes=>Nat.le_refl _ | .no=>Nat.le_refl _ | .not a=>Nat.le_add_left .. | .bin _ a b=>Nat.le_add_left ..
def sizes (ts:List Tr):Nat:=(ts.map Tr.size).sum
def namesL (ts:List Tr):List Str:=(ts.map Tr.names).flatten
theorem Tr.size_parts (t:Tr):t.size=sizes t.parts+1:=by
  cases t <;> simp [Tr.size,Tr.parts,sizes]
theorem Tr.names_parts (t:Tr) (h:∀ x,t ≠ .is x):t.names=namesL t.parts:=by
  cases t with
  | is x=>exact absurd rfl (h x)
  | _=>simp [Tr.names,Tr.parts,namesL]
theorem Tr.parts_mem {t u:Tr} (h:u ∈ t.parts) (w:t.wf):u.wf∧u.depth+1≤t.depth∧u.size+1≤t.size:=by
  cases t with
  | is x=>simp [Tr.parts] at h
  | yes=>simp [Tr.parts] at h
  | no=>simp [Tr.parts] at h
  | not a =>
    rw [List.mem_singleton.mp h]
    exact ⟨w,Nat.le_refl _,Nat.le_refl _⟩
  | bin o a b =>
    obtain ⟨_,w1,w2⟩:=w
    rcases List.mem_cons.mp h with e | e
    · rw [e]
      refine ⟨w1,?_,?_⟩
      · show a.depth+1≤max a.depth b.depth+1
        omega
      · show a.size+1≤a.size+b.size+1
        omega
    · rw [List.mem_singleton.mp e]
      refine ⟨w2,?_,?_⟩
      · show b.depth+1≤max a.depth b.depth+1
        omega
      · show b.size+1≤a.size+b.size+1
        omega
inductive TreesAt (H:Hp):List V→List Tr→Prop
  | nil:TreesAt H [] []
  | cons {v:V} {t:Tr} {vs:List V} {ts:List Tr}:TreeAt H v t→TreesAt H vs ts→TreesAt H (v::vs) (t::ts)
theorem TreesAt.mono {H H':Hp} (k:KeepT H H') {vs:List V} {ts:List Tr} (h:TreesAt H vs ts):TreesAt H' vs ts:=by
  induction h with
  | nil=>exact .nil
  | cons a _ ih=>exact .cons (a.mono k) ih
theorem TreesAt.length {H:Hp} {vs:List V} {ts:List Tr} (h:TreesAt H vs ts):vs.length=ts.length:=by
  induction h with
  | nil=>rfl
  | cons _ _ ih=>rw [List.length_cons,List.length_cons,ih]
theorem TreesAt.get {H:Hp} {vs:List V} {ts:List Tr} (h:TreesAt H vs ts):∀ {i:Nat} {v:V},vs[i]?=some v→∃ t,ts[i]?=some t∧TreeAt H v t:=by
  induction h with
  | nil=>intro i v e; simp at e
  | cons a _ ih =>
    intro i v e
    cases i with
    | zero=>cases (Option.some.inj e); exact ⟨_,rfl,a⟩
    | succ i=>exact ih (i:=i) (by simpa using e)
theorem join_ne_is {w:Str} (h:w ∈ joinW):w ≠ "is" := (by decide +kernel:∀ w ∈ joinW,w ≠ ("is" : Str)) w h
theorem TreeAt.view {H:Hp} {v:V} {t:Tr} (h:TreeAt H v t) (w:t.wf):(∃ (a:Addr) (x:Str),v=.ref a∧t=.is x∧NmOk x∧H a=some (.tup [.str "is", .str x])) ∨
    ∃ (a:Addr) (o:Str) (xs:List V),v=.ref a∧o ≠ "is" ∧ xs.length≤2∧H a=some (.tup (.str o::xs))∧TreesAt H xs t.parts∧(∀ x,t ≠ .is x):=by
  cases h with
  | is e=>exact .inl ⟨_,_,rfl,rfl,w,e⟩
  | yes e=>exact .inr ⟨_,_,[],rfl,by decide +kernel,by simp,e,.nil,fun x z=>by cases z⟩
  | no e=>exact .inr ⟨_,_,[],rfl,by decide +kernel,by simp,e,.nil,fun x z=>by cases z⟩
  | not e g=>exact .inr ⟨_,_,[_],rfl,by decide +kernel,by simp,e,.cons g .nil,fun x z=>by cases z⟩
  | bin e g g2=>exact .inr ⟨_,_,[_,_],rfl,join_ne_is w.1,by simp,e,.cons g (.cons g2 .nil),fun x z=>by cases z⟩
theorem cut1 (o:V):∀ xs:List V,xs.length≤2→cutV (o::xs) (some 1) none=xs∧¬ (HT.sIx (o::xs).length 0 (some 1)=0∧HT.sIx (o::xs).length (o::xs).length none=(o::xs).length)
  | [],_=>⟨rfl,fun h=>absurd h.1 (show ¬ HT.sIx 1 0 (some 1)=0 by decide)⟩
  | [_],_=>⟨rfl,fun h=>absurd h.1 (show ¬ HT.sIx 2 0 (some 1)=0 by decide)⟩
  | [_,_],_=>⟨rfl,fun h=>absurd h.1 (show ¬ HT.sIx 3 0 (some 1)=0 by decide)⟩
  | _::_::_::_,h=>absurd h (by simp)
def Tr.data:Tr→PyData
  | .is x=>.tuple [.str "is", .str x] | .yes=>.tuple [.str "yes"] | .no=>.tuple [.str "no"] | .not a=>.tuple [.str "not", a.data] | .bin w a b=>.tuple [.str w,a.data,b.data]
theorem Tr.names_len:∀ t:Tr,t.names.length≤t.size
  | .is _=>Nat.le_refl _
  | .yes=>Nat.zero_le _
  | .no=>Nat.zero_le _
  | .not a=>Nat.le_succ_of_le (Tr.names_len a)
  | .bin _ a b=>by
    have:=Tr.names_len a
    have:=Tr.names_len b
    show (a.names++b.names).length≤a.size+b.size+1
    rw [List.length_append]
    omega
end Mine
namespace L2
open PySem PySem.Spec PyProof.Rows
section
variable {prog:Program} {w:World} {A:Around} {E:Value→Shared→Prop} {s:Shared}
def idxF (xs:Array Value) (x:Value):Nat→Option PySem.Fin × Unit→Sem (ForInStep (Option PySem.Fin × Unit)):=fun i _=>match xs[i]? with
  | some y=>do
    let b ← eqBool y x
    if b=true then do
        let r ← retInt (i:Int)
        pure (ForInStep.done (some r,()))
      else pure (ForInStep.yield (none,()))
  | _=>pure (ForInStep.yield (none,()))
end
section
variable {X:Cx}
def posOf (z:Str):List Str→Option Nat
  | []=>none
  | a::r=>if a=z then some 0 else (posOf z r).map (·+1)
theorem flat_strs (ns:List Str):(ns.map V.str).all flatV=true:=by
  induction ns with
  | nil=>rfl
  | cons a r ih=>rw [List.map_cons,List.all_cons,ih]; rfl
def rIndexT (K:PySem.W.Frag):V→List V→Hp→VK→Prop:=fun x vs H Q=>∃ (a:Addr) (ns:List Str) (z:Str) (j:Nat),x=.ref a∧vs=[.str z]∧SqT K H a (ns.map V.str)∧posOf z ns=some j∧Q (.int (j:Int)) H
def rIndexL (K:PySem.W.Frag):V→List V→Hp→VK→Prop:=fun x vs H Q=>∃ (a:Addr) (ns:List Str) (z:Str) (j:Nat),x=.ref a∧vs=[.str z]∧SqL K H a (ns.map V.str)∧posOf z ns=some j∧Q (.int (j:Int)) H
end
end L2
namespace L2
open PySem PySem.Spec PyProof.Rows
section
variable {κ:Type} [DecidableEq κ]
def valV (kvs:List (κ × V)) (k:κ):Option V:=(kvs.find? fun kv=>decide (kv.1=k)).map (·.2)
def putK (kvs:List (κ × V)) (k:κ) (v:V):List (κ × V) :=
  if (kvs.any fun kv=>decide (kv.1=k))=true then kvs.map (fun kv=>if kv.1=k then (kv.1,v) else kv) else kvs++[(k,v)]
def dropK (kvs:List (κ × V)) (k:κ):List (κ × V):=kvs.filter fun kv=>decide (kv.1 ≠ k)
theorem valV_pos {p:κ × V} {r:List (κ × V)} {k:κ} (e:p.1=k):valV (p::r) k=some p.2:=by simp [valV,List.find?_cons,e]
theorem valV_neg {p:κ × V} {r:List (κ × V)} {k:κ} (e:¬ p.1=k):valV (p::r) k=valV r k:=by simp [valV,List.find?_cons,e]
theorem valV_any (k:κ):∀ kvs:List (κ × V),(kvs.any fun kv=>decide (kv.1=k))=(valV kvs k).isSome
  | []=>rfl
  | p::r=>by
    rw [List.any_cons]
    by_cases e:p.1=k
    · simp only [valV_pos e,decide_eq_true e,Bool.true_or,Option.isSome_some]
    · rw [valV_neg e,decide_eq_false e,Bool.false_or]; exact valV_any k r
theorem valV_map (k j:κ) (y:V):∀ kvs:List (κ × V),valV (kvs.map fun kv=>if kv.1=k then (kv.1,y) else kv) j=(valV kvs j).map fun x=>if j=k then y else x
  | []=>rfl
  | p::r=>by
    have ih:=valV_map k j y r
    rw [List.map_cons]
    by_cases h:p.1=k
    · rw [if_pos h]
      by_cases e:p.1=j
      · rw [valV_pos (p:=(p.1,y)) e,valV_pos e,Option.map_some,if_pos (e.symm.trans h)]
      · rw [valV_neg (p:=(p.1,y)) e,valV_neg e,ih]
    · rw [if_neg h]
      by_cases e:p.1=j
      · rw [valV_pos (p:=p) e,valV_pos e,Option.map_some,if_neg (fun z=>h (e.trans z))]
      · rw [valV_neg (p:=p) e,valV_neg e,ih]
theorem valV_snoc (k j:κ) (y:V):∀ kvs:List (κ × V),valV kvs k=none→valV (kvs++[(k,y)]) j=if j=k then some y else valV kvs j
  | [],_=>by
    by_cases e:k=j
    · rw [if_pos e.symm]; exact valV_pos (p:=(k,y)) e
    · rw [if_neg (fun z=>e z.symm)]; exact valV_neg (p:=(k,y)) e
  | p::r,hn=>by
    rw [List.cons_append]
    have hk:¬ p.1=k:=fun z=>by rw [valV_pos z] at hn; cases hn
    rw [valV_neg hk] at hn
    have ih:=valV_snoc k j y r hn
    by_cases e:p.1=j
    · rw [valV_pos e,valV_pos e,if_neg (fun z=>hk (e.trans z))]
    · rw [valV_neg e,valV_neg e,ih]
theorem valV_put (kvs:List (κ × V)) (k j:κ) (y:V):valV (putK kvs k y) j=if j=k then some y else valV kvs j:=by
  unfold putK
  by_cases a:(kvs.any fun kv=>decide (kv.1=k))=true
  · rw [if_pos a,valV_map]
    rw [valV_any] at a
    by_cases e:j=k
    · obtain ⟨x,hx⟩:=Option.isSome_iff_exists.mp a
      rw [if_pos e,e,hx,Option.map_some,if_pos rfl]
    · rw [if_neg e]
      cases valV kvs j with
      | none=>rfl
      | some x=>rw [Option.map_some,if_neg e]
  · rw [if_neg a]
    refine valV_snoc k j y kvs ?_
    rw [valV_any] at a
    cases q:valV kvs k with
    | none=>rfl
    | some x=>rw [q] at a; exact (a rfl).elim
theorem length_putK (kvs:List (κ × V)) (k:κ) (v:V):(putK kvs k v).length≤kvs.length+1:=by
  unfold putK
  split
  · rw [List.length_map]; omega
  · rw [List.length_append,List.length_cons,List.length_nil]; omega
theorem RelO.isSome_eq {o:Option V} {u:Option Value} (r:RelO o u):o.isSome=u.isSome:=by
  cases o with
  | none=>cases u with
    | none=>rfl
    | some _=>exact (show False from r).elim
  | some _=>cases u with
    | none=>exact (show False from r).elim
    | some _=>rfl
theorem RelO.getD {o:Option V} {u:Option Value} {d:V} {d':Value} (r:RelO o u) (rd:RelV d d'):RelV (o.getD d) (u.getD d'):=by
  cases o with
  | none=>cases u with
    | none=>exact rd
    | some _=>exact (show False from r).elim
  | some _=>cases u with
    | none=>exact (show False from r).elim
    | some _=>exact r
theorem KV.val {kvs:List (κ × V)} {vs:List (κ × Value)} (r:KV kvs vs) (k:κ):RelO (valV kvs k) (valueAt vs k):=by
  unfold KV at r
  induction r with
  | nil=>exact True.intro
  | @cons p q ps qs h t ih =>
    obtain ⟨h1,h2⟩:=h
    by_cases e:p.1=k
    · have e':q.1=k:=h1.symm.trans e
      have b:valueAt (q::qs) k=some q.2:=by simp [valueAt,List.find?_cons,e']
      rw [valV_pos e,b]; exact h2
    · have e':¬ q.1=k:=fun z=>e (h1.trans z)
      have b:valueAt (q::qs) k=valueAt qs k:=by simp [valueAt,List.find?_cons,e']
      rw [valV_neg e,b]; exact ih
theorem KV.any {kvs:List (κ × V)} {vs:List (κ × Value)} (r:KV kvs vs) (k:κ):(kvs.any fun kv=>decide (kv.1=k))=vs.any fun kv=>decide (kv.1=k):=by
  unfold KV at r
  induction r with
  | nil=>rfl
  | cons h t ih=>rw [List.any_cons,List.any_cons,ih,h.1]
theorem KV.repl {kvs:List (κ × V)} {vs:List (κ × Value)} (r:KV kvs vs) (k:κ) {y:V} {u:Value} (ry:RelV y u) :
    KV (kvs.map fun kv=>if kv.1=k then (kv.1,y) else kv) (vs.map fun kv=>if kv.1=k then (kv.1,u) else kv):=by
  unfold KV at r ⊢
  induction r with
  | nil=>exact .nil
  | @cons p q ps qs h t ih =>
    rw [List.map_cons,List.map_cons]
    refine .cons ?_ ih
    obtain ⟨h1,h2⟩:=h
    by_cases e:p.1=k
    · rw [if_pos e,if_pos (h1.symm.trans e)]; exact ⟨h1,ry⟩
    · rw [if_neg e,if_neg (fun z=>e (h1.trans z))]; exact ⟨h1,h2⟩
theorem KV.put {kvs:List (κ × V)} {vs:List (κ × Value)} (r:KV kvs vs) (k:κ) {y:V} {u:Value} (ry:RelV y u):KV (putK kvs k y) (stored vs k u):=by
  unfold putK stored
  rw [r.any k]
  by_cases e:(vs.any fun kv=>decide (kv.1=k))=true
  · rw [if_pos e,if_pos e]; exact r.repl k ry
  · rw [if_neg e,if_neg e]; exact Paired.snoc r ⟨rfl,ry⟩
theorem KV.length {kvs:List (κ × V)} {vs:List (κ × Value)} (r:KV kvs vs):kvs.length=vs.length:=Paired.length r
end
theorem kV_is {P:Program} {w:World} {k:Key} {u:Value} (r:RelV (kV k) u):(mixKind P w).is k u=true:=by
  cases k with
  | inl i=>obtain ⟨t,e⟩:=(show ∃ t,u=Value.int i t from r); subst e; exact mixKind_int P w i t
  | inr x=>obtain ⟨t,e⟩:=(show ∃ t,u=Value.str x t from r); subst e; exact mixKind_str P w x t
theorem items_are {P:Program} {w:World}:∀ {ks:List Key} {us:List Value},Vals (ks.map kV) us→ItemsAre (mixKind P w) ks us
  | [],_,r=>by rw [List.map_nil] at r; cases r; exact .nil
  | k::ks,_,r=>by
    rw [List.map_cons] at r
    cases r with
    | cons h t=>exact .cons (kV_is h) (items_are t)
abbrev KT (H:Hp):List (List Key × V)→List (List Key × Addr × Value)→Prop:=Paired fun p q=>p.1=q.1∧H q.2.1=some (.tup (p.1.map kV))∧RelV p.2 q.2.2
theorem KT.val {H:Hp} {kvs:List (List Key × V)} {xs:List (List Key × Addr × Value)} (r:KT H kvs xs) (k:List Key):RelO (valV kvs k) ((atKey xs k).map (·.2)):=by
  induction r with
  | nil=>exact True.intro
  | @cons p q ps qs h t ih =>
    obtain ⟨h1,_,h2⟩:=h
    by_cases e:p.1=k
    · have e':q.1=k:=h1.symm.trans e
      have b:atKey (q::qs) k=some q.2:=by simp [atKey,List.find?_cons,e']
      rw [valV_pos e,b]; exact h2
    · have e':¬ q.1=k:=fun z=>e (h1.trans z)
      have b:atKey (q::qs) k=atKey qs k:=by simp [atKey,List.find?_cons,e']
      rw [valV_neg e,b]; exact ih
theorem KT.repl {H:Hp} {kvs:List (List Key × V)} {xs:List (List Key × Addr × Value)} (r:KT H kvs xs) (k:List Key) {y:V} {u:Value} (ry:RelV y u) :
    KT H (kvs.map fun kv=>if kv.1=k then (kv.1,y) else kv) (xs.map (putAt k u)):=by
  induction r with
  | nil=>exact .nil
  | @cons p q ps qs h t ih =>
    rw [List.map_cons,List.map_cons]
    refine .cons ?_ ih
    obtain ⟨h1,h2,h3⟩:=h
    unfold putAt
    by_cases e:p.1=k
    · rw [if_pos e,if_pos (h1.symm.trans e)]; exact ⟨h1,h2,ry⟩
    · rw [if_neg e,if_neg (fun z=>e (h1.trans z))]; exact ⟨h1,h2,h3⟩
theorem KT.put {H:Hp} {kvs:List (List Key × V)} {xs:List (List Key × Addr × Value)} (r:KT H kvs xs) (k:List Key) {b:Addr} {y:V} {u:Value} (hb:H b=some (.tup (k.map kV))) (ry:RelV y u) :
    KT H (putK kvs k y) (storedH xs k b u):=by
  have e:(kvs.any fun kv=>decide (kv.1=k))=(atKey xs k).isSome:=by
    rw [valV_any,(r.val k).isSome_eq,Option.isSome_map]
  unfold putK storedH
  rw [e]
  by_cases q:(atKey xs k).isSome=true
  · rw [if_pos q,if_pos q]; exact r.repl k ry
  · rw [if_neg q,if_neg q]; exact Paired.snoc r ⟨rfl,hb,ry⟩
theorem KT.keeps {H H':Hp} {kvs:List (List Key × V)} {xs:List (List Key × Addr × Value)} (r:KT H kvs xs) (ht:∀ b ys,H b=some (.tup ys)→H' b=some (.tup ys)):KT H' kvs xs :=
  Paired.mapP r fun _ _ z=>⟨z.1,ht _ _ z.2.1,z.2.2⟩
section
variable {P:Program} {w:World} {H:Hp} {h:Heap} {a:Addr}
theorem rd_of {u:HO} (ok:HOk P w H h) (e:Rd H a u):ObjOk P w H h a u:=e.ok ok
theorem dk_rd {kvs:List (Key × V)} (ok:HOk P w H h) (e:Rd H a (.dK kvs)):kvs.length≤sizeLine∧(a == sysModules)=false∧∃ vs,KV kvs vs∧h.DictOf (mixKind P w) a vs :=
  show ObjOk P w H h a (.dK kvs) from rd_of ok e
theorem dk_of {kvs:List (Key × V)} (ok:HOk P w H h) (e:H a=some (.dK kvs)):kvs.length≤sizeLine∧(a == sysModules)=false∧∃ vs,KV kvs vs∧h.DictOf (mixKind P w) a vs:=dk_rd ok (.inl e)
theorem key_of {ks:List Key} (ok:HOk P w H h) (e:H a=some (.tup (ks.map kV))):(tupleKind (mixKind P w)).is h ks a:=by
  obtain ⟨_,its,r,⟨o,h1,h2,n,h3⟩,_⟩:=(show ObjOk P w H h a (.tup (ks.map kV)) from ok a _ e)
  exact ⟨o,its.toArray,n,h1,h2,h3,by simpa using items_are r⟩
theorem dt_rd {kvs:List (List Key × V)} (ok:HOk P w H h) (e:Rd H a (.dT kvs)):kvs.length≤sizeLine∧(a == sysModules)=false ∧
    ∃ xs,KT H kvs xs∧h.DictOfH (tupleKind (mixKind P w)) a xs:=by
  obtain ⟨z,y,xs,r,o,es,ep,h1,h2,h3,h4,h5⟩:=(show ObjOk P w H h a (.dT kvs) from rd_of ok e)
  refine ⟨z,y,xs,r,o,es,ep,h1,h2,h3,h4,fun x hx=>?_,h5⟩
  have all:∀ {l:List (List Key × V)} {m:List (List Key × Addr × Value)},KT H l m→∀ x ∈ m,(tupleKind (mixKind P w)).is h x.1 x.2.1:=by
    intro l m q
    induction q with
    | nil=>intro x hx; exact nomatch hx
    | @cons p q ps qs hq t ih =>
      intro x hx
      rcases List.mem_cons.mp hx with e | hx
      · subst e
        exact key_of ok (by rw [← hq.1]; exact hq.2.1)
      · exact ih x hx
  exact all r x hx
theorem dt_of {kvs:List (List Key × V)} (ok:HOk P w H h) (e:H a=some (.dT kvs)):kvs.length≤sizeLine∧(a == sysModules)=false ∧
    ∃ xs,KT H kvs xs∧h.DictOfH (tupleKind (mixKind P w)) a xs:=dt_rd ok (.inl e)
end
def DGet (H:Hp) (a:Addr) (y:V) (r:Option V):Prop :=
  (∃ kvs k,Rd H a (.dK kvs)∧y=kV k∧r=valV kvs k)∨∃ kvs k b,Rd H a (.dT kvs)∧y=.ref b∧H b=some (.tup (k.map kV))∧r=valV kvs k
def DPut (H:Hp) (a:Addr) (y v:V) (H':Hp):Prop :=
  (∃ kvs k,H a=some (.dK kvs)∧y=kV k∧kvs.length < sizeLine∧H'=upd H a (.dK (putK kvs k v))) ∨
  ∃ kvs k b,H a=some (.dT kvs)∧y=.ref b∧H b=some (.tup (k.map kV))∧kvs.length < sizeLine∧H'=upd H a (.dT (putK kvs k v))
theorem DGet.k {H:Hp} {a:Addr} {kvs:List (Key × V)} {k:Key} (e:H a=some (.dK kvs)):DGet H a (kV k) (valV kvs k):=.inl ⟨kvs,k,.inl e,rfl,rfl⟩
theorem DPut.k {H:Hp} {a:Addr} {kvs:List (Key × V)} {k:Key} {v:V} (e:H a=some (.dK kvs)) (hl:kvs.length < sizeLine):DPut H a (kV k) v (upd H a (.dK (putK kvs k v))):=.inl ⟨kvs,k,e,rfl,hl,rfl⟩
section
variable {X:Cx} {pins:List (Addr × Obj)} {σ:St} {H:Hp} {s:Shared} {a:Addr} {y v:V} {u r:Value} {o:Option V} {A:Around} {E:Value→Shared→Prop}
theorem Inv.big (I:Inv X pins σ H s):sysModules < s.heap.objs.size:=by
  have h:mainGlobals < s.heap.objs.size:=(I.mod.glob.keeps I.bk).lt
  exact Nat.lt_trans (by decide) h
theorem d_write {h':Heap} {t':Nat} {ob:HO} (I:Inv X pins σ H s) (mu:Mut (H a)) (hs:Heap.SameBut a s.heap h') (he:∃ q,h'.get? a=some q) (new:ObjOk X.prog X.w (upd H a ob) h' a ob) :
    Inv X pins σ (upd H a ob) { s with heap:=h',toks:=t' } :=
  I.write (x:=a) (e:=a) mu (.inl rfl) (fun b q hb z=>(hs.2 b hb).trans z) he new
theorem dk_new {P:Program} {w:World} {H':Hp} {h':Heap} {kvs:List (Key × V)} {vs:List (Key × Value)} (z:kvs.length≤sizeLine) (hd:(a == sysModules)=false) (rel:KV kvs vs) (dd:h'.DictOf (mixKind P w) a vs) :
    ObjOk P w H' h' a (.dK kvs):=⟨z,hd,vs,rel,dd⟩
theorem d_setItem {H':Hp} {Q:Unit→Shared→Prop} (hu:A.units+1 < cLine) (I:Inv X pins σ H s) (g:DPut H a y v H') (ry:RelV y u) (rv:RelV v r) (h:∀ s',Inv X pins σ H' s'→Q () s') :
    wpAny (model X.prog X.w) A (setItem (.ref a) u r) Q E s:=by
  rcases g with ⟨kvs,k,e,ey,l,eH⟩ | ⟨kvs,k,b,e,ey,eb,l,eH⟩
  · subst ey eH
    obtain ⟨z,hd,vs,rel,dd⟩:=dk_of I.hok e
    have hz:vs.length≤sizeLine:=by rw [← rel.length]; exact z
    have hl:(putK kvs k v).length≤sizeLine:=by have:=length_putK kvs k v; omega
    refine wpAny_setItem_pairs (hsz:=hz) (kV_is ry) dd fun h' dd' hs=>h _ ?_
    have he:∃ q,h'.get? a=some q:=let ⟨q,_,_,hq,_⟩:=dd'; ⟨q,hq⟩
    exact d_write I (by rw [e]; exact True.intro) hs he (dk_new hl hd (rel.put k rv) dd')
  · subst ey eH
    cases (show u=Value.ref b from ry)
    obtain ⟨z,hd,xs,rel,dd⟩:=dt_of I.hok e
    have hz:xs.length≤sizeLine:=by rw [← Paired.length rel]; exact z
    have hl:(putK kvs k v).length≤sizeLine:=by have:=length_putK kvs k v; omega
    refine wpAny_setItem_heap (hsz:=hz) (tupleKind_room_in1 hu) (key_of I.hok eb) dd fun h' dd' hs=>h _ ?_
    obtain ⟨q,es,ep,hq,h2,h3,h4,_,h5⟩:=dd'
    refine d_write I (by rw [e]; exact True.intro) hs ⟨q,hq⟩ ⟨hl,hd,_,(rel.put k eb rv).keeps fun c ys ec=>?_,q,es,ep,hq,h2,h3,h4,h5⟩
    rw [upd_ne (ne_of ec e (fun z=>nomatch z))]
    exact ec
end
section
variable {X:Cx} {pins:List (Addr × Obj)} {σ:St} {H:Hp} {s:Shared} {a:Addr} {kvs:List (Key × V)} {k:Key} {u:Value} {A:Around} {E:Value→Shared→Prop}
end
def NoSl (i:Expr):Prop:=∀ ov iv,subscripted i false ov iv=operate [ov,iv] (getItem ov iv)
def tDGet (td ty:TE):TE:=fun σ H Q=>td σ H fun x H1=>ty σ H1 fun y H2=>∃ a v,x=.ref a∧DGet H2 a y (some v)∧Q v H2
def tDIn (ty td:TE):TE:=fun σ H Q=>ty σ H fun y H1=>td σ H1 fun x H2=>∃ a o,x=.ref a∧DGet H2 a y o∧Q (.bl o.isSome) H2
def tDNotIn (ty td:TE):TE:=fun σ H Q=>ty σ H fun y H1=>td σ H1 fun x H2=>∃ a o,x=.ref a∧DGet H2 a y o∧Q (.bl (!o.isSome)) H2
def sDPut (td ty tv:TE):TS:=fun D σ H=>tv σ H fun v H1=>td σ H1 fun x H2=>ty σ H2 fun y H3=>∃ a H4,x=.ref a∧DPut H3 a y v H4∧D.nx σ H4
def sDAug (td ty tv:TE) (rd:V→V→Hp→VK→Prop):TS:=fun D σ H=>td σ H fun x H1=>ty σ H1 fun y H2=>∃ a v,x=.ref a∧DGet H2 a y (some v) ∧
  tv σ H2 fun y2 H3=>rd v y2 H3 fun z H4=>∃ H5,DPut H4 a y z H5∧D.nx σ H5
def sDDel (td ty:TE):TS:=fun D σ H=>td σ H fun x H1=>ty σ H1 fun y H2=>∃ a kvs k,x=.ref a∧H2 a=some (.dK kvs)∧y=kV k∧(valV kvs k).isSome=true∧D.nx σ (upd H2 a (.dK (dropK kvs k)))
section
variable {X:Cx} {o i e value:Expr} {pos pos' tpos:Pos} {td ty tv:TE}
theorem ps_dput (hu:X.A.units+1 < cLine) (ho:PE X o td) (hi:PE X i ty) (hv:PE X value tv) (hs:swapsWith value (some (.Subscript o i pos')) pos.line X.env=pure false) :
    PS X (.Assign [.Subscript o i pos'] value pos) (sDPut td ty tv):=by
  intro pins s σ H D I h
  refine wpAny_Assign_Subscript (thn (hv pins s σ H _ I h) fun r s1 ⟨v,H1,I1,rv,q1⟩=>thn (ho pins s1 σ H1 _ I1 q1) fun u s2 ⟨x,H2,I2,rx,q2⟩=>thn (hi pins s2 σ H2 _ I2 q2) fun iv s3 ⟨y,H3,I3,ry,a,H4,ex,g,q3⟩=>?_) hs
  subst ex
  obtain rfl:u=Value.ref a:=rx
  exact d_setItem hu I3 g ry rv fun s4 I4=>⟨σ,H4,I4,q3⟩
end
theorem dk_empty {P:Program} {w:World} {H:Hp} (h:Heap) (hb:sysModules < h.objs.size):ObjOk P w H (h.push { cls:=.type "dict", data:=.dict #[] }) h.objs.size (.dK []) :=
  ⟨Nat.zero_le _,beq_eq_false_iff_ne.mpr (Ne.symm (Nat.ne_of_lt hb)),[],.nil,Heap.DictOf.new h⟩
def tDNewK:TE:=fun _ H Q=>∀ p,H p=none→Q (.ref p) (upd H p (.dK []))
def tDNewT:TE:=fun _ H Q=>∀ p,H p=none→Q (.ref p) (upd H p (.dT []))
section
variable {X:Cx} {pos:Pos}
theorem pe_dnewK:PE X (.Dict [] [] pos) tDNewK:=fun pins s σ H Q I h =>
  wpAny_Dict_empty ⟨.ref s.heap.objs.size,_,I.laid (a:=s.heap.objs.size) (o:=.dK []) (t':=s.toks) (fun _ _ q=>Heap.get?_push_of_some _ q) (Nat.le_refl _) (dk_empty s.heap I.big),rfl,h _ (I.hok.fresh (Nat.le_refl _))⟩
end
def tPairs:List (TE × TE)→St→Hp→(List (V × V)→Hp→Prop)→Prop
  | [],_,H,Q=>Q [] H
  | (tk,tv)::r,σ,H,Q=>tk σ H fun x H1=>tv σ H1 fun y H2=>tPairs r σ H2 fun ps H3=>Q ((x,y)::ps) H3
abbrev VV:List (V × V)→List (Value × Value)→Prop:=Paired fun p q=>RelV p.1 q.1∧RelV p.2 q.2
def PPs (X:Cx) (pos:Pos) (keys:List (Option Expr)) (values:List Expr) (trs:List (TE × TE)):Prop :=
  ∀ (pins:List (Addr × Obj)) (s:Shared) (σ:St) (H:Hp) (Q:List (V × V)→Hp→Prop),Inv X pins σ H s→tPairs trs σ H Q →
    wpAny (model X.prog X.w) X.A (evalPairs (pairTrees keys values X.env pos)) (fun vs s'=>∃ ps H',Inv X pins σ H' s'∧VV ps vs∧Q ps H') X.xe s
def mergeK (kvs more:List (Key × V)):List (Key × V):=more.foldl (fun acc kv=>putK acc kv.1 kv.2) kvs
def tDisp (trs:List (TE × TE)):TE:=fun σ H Q=>∀ p,H p=none→tPairs trs σ (upd H p (.dK [])) fun ps H2=>H2 p=some (.dK [])∧∃ kvs:List (Key × V),ps=kvs.map (fun kv=>(kV kv.1,kv.2))∧kvs.length≤15∧Q (.ref p) (upd H2 p (.dK (mergeK [] kvs)))
structure M1 (X:Cx) (o:Expr) (m:Str) (apos:Pos) (e:Expr) (cpos:Pos):Prop where
  base:attributeBase o m X.env (eval o X.env)=eval o X.env
  few:((backTo cpos (starEach [e] X.env)).all (fun x=>!x.1) && (backToKw cpos (keywordEach [] X.env)).all (fun x=>x.1.isSome)
    && decide (([e]:List Expr).length+([]:List Keyword).length+(if ([]:List Keyword).isEmpty then 0 else 1) < 30))=true
  line:(apos.endLine == cpos.line)=true
  trees:backTo cpos (starEach [e] X.env)=[(false,eval e X.env)]
structure M2 (X:Cx) (o:Expr) (m:Str) (apos:Pos) (e f:Expr) (cpos:Pos):Prop where
  base:attributeBase o m X.env (eval o X.env)=eval o X.env
  few:((backTo cpos (starEach [e,f] X.env)).all (fun x=>!x.1) && (backToKw cpos (keywordEach [] X.env)).all (fun x=>x.1.isSome)
    && decide (([e,f]:List Expr).length+([]:List Keyword).length+(if ([]:List Keyword).isEmpty then 0 else 1) < 30))=true
  line:(apos.endLine == cpos.line)=true
  trees:backTo cpos (starEach [e,f] X.env)=[(false,eval e X.env),(false,eval f X.env)]
def IsD (H:Hp) (a:Addr):Prop:=(∃ kvs,Rd H a (.dK kvs))∨∃ kvs,Rd H a (.dT kvs)
theorem isD_at {X:Cx} {pins:List (Addr × Obj)} {σ:St} {H:Hp} {s:Shared} {a:Addr} (I:Inv X pins σ H s) (d:IsD H a) :
    s.TypeIs (.ref a) "dict" ∧ (∀ b,Value.ref a=.ref b→∃ ob,s.heap.get? b=some ob∧ob.dict=none)∧(a == sysModules)=false:=by
  rcases d with ⟨kvs,e⟩ | ⟨kvs,e⟩
  · obtain ⟨_,hd,vs,_,dd⟩:=dk_rd I.hok e
    refine ⟨dd.typeIs,fun b q=>?_,hd⟩
    cases q
    obtain ⟨ob,_,_,h1,h2,_⟩:=dd
    exact ⟨ob,h1,h2.2.1⟩
  · obtain ⟨_,hd,xs,_,dd⟩:=dt_rd I.hok e
    refine ⟨dd.typeIs,fun b q=>?_,hd⟩
    cases q
    obtain ⟨ob,_,_,h1,h2,_⟩:=dd
    exact ⟨ob,h1,h2.2.1⟩
section
variable {X:Cx} {pins:List (Addr × Obj)} {σ:St} {H:Hp} {s:Shared} {a:Addr} {y d:V} {u r:Value} {o:Option V} {A:Around} {E:Value→Shared→Prop}
theorem d_get2 {Q:Value→Shared→Prop} (hu:A.units+1 < cLine) (I:Inv X pins σ H s) (g:DGet H a y o) (ry:RelV y u) (rd:RelV d r) (h:∀ w' s',Inv X pins σ H s'→RelV (o.getD d) w'→Q w' s') :
    wpAny (model X.prog X.w) A (call (.builtin "dict.get") [.ref a,u,r]) Q E s:=by
  rcases g with ⟨kvs,k,e,ey,l⟩ | ⟨kvs,k,b,e,ey,eb,l⟩
  · subst ey
    obtain ⟨z,hd,vs,rel,dd⟩:=dk_rd I.hok e
    refine call_meetsIn PySem.F.slot_dict_get dd.typeIs PySem.F.entry_dict_get (PySem.F.args_dict_get_3 _ _ _) (meets_dict_get_default (mixKind X.prog X.w) a (kV_is ry) hd r) ⟨_,dd.mapOf,h _ _ (I.tok _) ?_⟩
    rw [l]
    exact (rel.val k).getD rd
  · subst ey
    cases (show u=Value.ref b from ry)
    obtain ⟨z,hd,xs,rel,dd⟩:=dt_rd I.hok e
    refine call_meetsIn PySem.F.slot_dict_get dd.typeIs PySem.F.entry_dict_get (PySem.F.args_dict_get_3 _ _ _) (meetsH_dict_get_default (tupleKind (mixKind X.prog X.w)) a b hd r) ⟨tupleKind_room_in1 hu,k,xs,key_of I.hok eb,dd,h _ _ (I.tok _) ?_⟩
    rw [l]
    exact (rel.val k).getD rd
end
def tDGet1 (td ty:TE):TE:=fun σ H Q=>td σ H fun x H1=>∃ a,x=.ref a∧IsD H1 a∧ty σ H1 fun y H2=>∃ o,DGet H2 a y o∧Q (o.getD .non) H2
def tDGet2 (td ty tx:TE):TE:=fun σ H Q=>td σ H fun x H1=>∃ a,x=.ref a∧IsD H1 a∧ty σ H1 fun y H2=>tx σ H2 fun z H3=>∃ o,DGet H3 a y o∧Q (o.getD z) H3
def tDPop1 (td ty:TE):TE:=fun σ H Q=>td σ H fun x H1=>∃ a,x=.ref a∧IsD H1 a∧ty σ H1 fun y H2=>∃ kvs k v,H2 a=some (.dK kvs)∧y=kV k∧valV kvs k=some v∧Q v (upd H2 a (.dK (dropK kvs k)))
def tDPop2 (td ty tx:TE):TE:=fun σ H Q=>td σ H fun x H1=>∃ a,x=.ref a∧IsD H1 a∧ty σ H1 fun y H2=>tx σ H2 fun z H3=>∃ kvs k,H3 a=some (.dK kvs)∧y=kV k ∧
  (∀ v,valV kvs k=some v→Q v (upd H3 a (.dK (dropK kvs k))))∧(valV kvs k=none→Q z H3)
section
variable {X:Cx} {o e f:Expr} {apos cpos:Pos} {td ty tx:TE}
theorem pe_dget2 (hu:X.A.units+1 < cLine) (ho:PE X o td) (he:PE X e ty) (hf:PE X f tx) (m:M2 X o "get" apos e f cpos):PE X (.Call (.Attribute o "get" apos) [e,f] [] cpos) (tDGet2 td ty tx):=by
  intro pins s σ H Q I h
  refine wpAny_Call_method m.base m.few m.line PySem.F.plainAttrs_dict PySem.F.slot_dict_get PySem.F.type_dict_get (thn (ho pins s σ H _ I h) fun u s1 ⟨x,H1,I1,rx,a,ex,d,q1⟩=>?_)
  subst ex
  obtain rfl:u=Value.ref a:=rx
  obtain ⟨t1,t2,_⟩:=isD_at I1 d
  refine ⟨t1,t2,?_⟩
  rw [m.trees]
  refine Calls.callWith_builtin rfl (Calls.evalArgs_plain (Calls.spliced_cons (thn (he pins s1 σ H1 _ I1 q1) fun iv s2 ⟨y,H2,I2,ry,q2⟩ =>
    Calls.spliced_cons (thn (hf pins s2 σ H2 _ I2 q2) fun fv s3 ⟨z,H3,I3,rz,ov,g,q3⟩=>Calls.spliced_nil ?_))))
  exact d_get2 hu I3 g ry rz fun w' s4 I4 rw'=>⟨_,H3,I4,rw',q3⟩
end
section
variable {X:Cx} {pins:List (Addr × Obj)} {σ:St} {H:Hp} {s:Shared} {a:Addr} {kvs:List (Key × V)} {A:Around} {E:Value→Shared→Prop}
end
section
variable {X:Cx} {pins:List (Addr × Obj)} {σ:St} {H:Hp} {s:Shared} {a:Addr} {y:V} {u:Value} {A:Around} {E:Value→Shared→Prop}
end
end L2
namespace L2
open PySem PySem.Spec PyProof.Rows
section
variable {X:Cx}
def tIndex (K:PySem.W.Frag) (to:TE) (t:TA):TE:=fun σ H Q=>to σ H fun x H1=>∃ (a:Addr) (ns:List Str),x=.ref a∧(H1 a=some (.lst (ns.map V.str))∨H1 a=some (.tup (ns.map V.str)))∧t σ H1 fun vs H2=>(H2 a=H1 a)∧∃ (z:Str) (j:Nat),vs=[.str z]∧posOf z ns=some j∧Q (.int (j:Int)) H2
variable {o e:Expr} {es:List Expr} {to:TE} {t:TA} {apos cpos:Pos}
end
end L2
namespace L2
open PySem PySem.Spec PyProof.Rows
end L2
namespace L2
open PySem PySem.Spec PyProof.Rows
section
variable {X:Cx}
theorem count_eqU {x:V}:∀ {xs:List V} {us:List Value},Vals xs us→xs.all flatV=true→us.countP (eqU x)=xs.countP fun y=>eqV y x
  | _,_,.nil,_=>rfl
  | y::xs,u::us,.cons r t,f=>by
    rw [List.all_cons,Bool.and_eq_true] at f
    rw [List.countP_cons,List.countP_cons,eqU_of r f.1,count_eqU t f.2]
def rCountL (K:PySem.W.Frag):V→List V→Hp→VK→Prop:=fun x vs H Q=>∃ (a:Addr) (xs:List V) (z:V),x=.ref a∧vs=[z]∧SqL K H a xs∧xs.all flatV=true∧flatV z=true∧Q (.int ((xs.countP fun y=>eqV y z:Nat):Int)) H
theorem mt_count:MtR X "list.count" (rCountL X.K):=by
  intro pins s σ H x vs v us Q I rx rv h
  obtain ⟨a,xs,z,rfl,rfl,hq,fs,fz,q⟩:=h
  cases rx
  obtain ⟨u,rfl,ru⟩:=rv.one
  obtain ⟨its,r,⟨⟨cls,dd,data,sl⟩,n,ho,hc,hdd,hd⟩,hz⟩:=I.list hq
  simp only at hc hd
  subst hc hd
  refine call_meets F.slot_list_count ⟨_,ho,rfl⟩ F.entry_list_count (F.args_list_count_2 _ _) (SeqAt.list_countAt a its.toArray n dd sl u (eqU z)) ⟨ho,fun y hy=>?_,?_⟩
  · exact mem_eqAt ru fz r fs y (by simpa using hy)
  · rw [show its.toArray.toList=its from rfl,count_eqU r fs]
    exact ⟨.int ((xs.countP fun y=>eqV y z:Nat):Int),H,I.tok _,⟨_,rfl⟩,q⟩
end
section
variable {prog:Program} {w:World} {A:Around} {E:Value→Shared→Prop} {s:Shared}
end
section
variable {X:Cx} {e k:Expr} {te tk:TE} {pos p2:Pos}
def tRev (K:PySem.W.Frag) (te tk:TE):TE:=fun σ H Q=>te σ H fun x H1=>tk σ H1 fun y H2=>y=.int (-1)∧∃ a xs,x=.ref a ∧
  ((SqL K H2 a xs∧∀ p,H2 p=none→Q (.ref p) (upd H2 p (.lst xs.reverse)))∨(SqT K H2 a xs∧∀ p,H2 p=none→Q (.ref p) (upd H2 p (.tup xs.reverse))))
end
def bestI (g:Nat→Int):Nat→Int
  | 0=>g 0
  | k+1=>if bestI g k < g (k+1) then g (k+1) else bestI g k
def maxD (ns:List Int) (d:Int):Int:=match ns with | []=>d | _::_=>bestI (fun i=>ns[i]?.getD 0) (ns.length - 1)
section
variable {prog:Program} {w:World} {A:Around} {R:Result→Shared→Prop} {I S:Addr} {fp wr:List Addr} {n:Nat} {P:Nat→Value→Prop} {St:Nat→Heap→Prop} {g:Nat→Int} {kw:List (Str × Value)}
theorem mx_name:(toString "max" ++ toString ".loop" : String) = "max.loop" := by decide
theorem mx_turns (W:Walks prog w A.in1 I fp wr n P St) (gv:∀ i v,P i v→∃ t,v=Value.int (g i) t) (nS:S ∉ fp):∀ (k j:Nat) (s:Shared) (t:Tok) (c:Nat),j+1+k=n→St (j+1) s.heap →
    s.heap.get? S=some { cls:=.type "list", dict:=none,data:=.seq #[.int (bestI g j) t,.int (bestI g j) t] c,slots:=#[] } →
    (∀ t' h' tk,(∀ b o,b ∉ wr→b ≠ S→s.heap.get? b=some o→h'.get? b=some o)→R (.ok (.ret (.int (bestI g (n - 1)) t'))) { s with heap:=h',toks:=tk }) →
    codeAny (model prog w) A (.builtin "max.loop" ⟨[.ref I,.none,.ref S],kw⟩) R s:=by
  have nw:S ∉ wr:=fun z=>nS (W.sub _ z)
  intro k
  induction k with
  | zero =>
    intro j s t c ek st eS q
    refine codeAny_builtin F.entry_max_loop ?_; rw [Around.under_plainId F.plain_max_loop _]
    show wpAny _ A.in1 (seqItems? (.ref S) >>= _) _ _ s; refine wpAny_bind (wpAny_seqItems eS rfl ?_)
    show wpAny _ A.in1 (tryCatch (pyNext (.ref I)) _ >>= _) _ _ s; refine wpAny_bind (wpAny_tryCatch (W.done s _ _ (by rw [← ek]; exact st) fun h' tk kp=>?_))
    show wpAny _ A.in1 (updateSeq S (fun _=>#[]) >>= _) _ _ _; refine wpAny_bind ?_
    refine wpAny_updateSeq (kp S _ nw eS) rfl (wpAny_bind (wpAny_letGo (wpAny_pure ?_)))
    have e:n - 1=j:=by omega
    rw [e] at q
    exact q t _ tk fun b o h1 h2 eb=>(Heap.get?_update_other _ _ (Ne.symm h2)).trans (kp b o h1 eb)
  | succ k ih =>
    intro j s t c ek st eS q
    refine codeAny_builtin F.entry_max_loop ?_; rw [Around.under_plainId F.plain_max_loop _]
    show wpAny _ A.in1 (seqItems? (.ref S) >>= _) _ _ s; refine wpAny_bind (wpAny_seqItems eS rfl ?_)
    show wpAny _ A.in1 (tryCatch (pyNext (.ref I)) _ >>= _) _ _ s; refine wpAny_bind (wpAny_tryCatch (W.item (j+1) s _ _ (by omega) st fun v h' tk pv st' kp=>?_))
    obtain ⟨tv,rfl⟩:=gv _ _ pv
    have eS':=kp S _ nw eS
    show wpAny _ A.in1 (tryCatch (holding [Value.int (g (j+1)) tv,Value.int (g (j+1)) tv] (richCompare .Gt (Value.int (g (j+1)) tv) (Value.int (bestI g j) t) >>= _)) _ >>= _) _ _ _
    refine wpAny_bind (wpAny_tryCatch (wpAny_holding (wpAny_bind (CmpOf.ints_gt (prog:=prog) (w:=w) (A:=A.in1) (P:=fun i v=>∃ t,v=Value.int (if i=0 then bestI g j else g (j+1)) t) (fun i=>if i=0 then bestI g j else g (j+1)) (fun i v h=>h) 1 0 _ _ _ _ _ ⟨tv,rfl⟩ ⟨t,rfl⟩ ?_))))
    refine wpAny_bind (wpAny_holding (wpAny_truthy_bool ?_)); refine wpAny_bind (wpAny_letGo (wpAny_pure ?_))
    by_cases c1:bestI g j < g (j+1)
    · have e1:bestI g (j+1)=g (j+1):=by unfold bestI; rw [if_pos c1]
      refine wpAny_ite_split (fun _=>?_) (fun hab=>absurd (decide_eq_true c1) hab)
      refine wpAny_bind ?_
      refine wpAny_updateSeq eS' rfl (wpAny_bind (wpAny_letGo ?_)); rw [mx_name]
      refine wpAny_pure ⟨plainId_quiet F.plain_max_loop _,ih (j+1) _ tv _ (by omega) (W.frame _ _ _ st' fun b hb o eb=>?_) (by rw [e1]; exact Heap.get?_update_self _ eS' rfl) fun t' h2 tk2 kp2=>?_⟩
      · exact (Heap.get?_update_other _ _ (fun z:S=b=>nS (by rw [z]; exact hb))).trans eb
      · exact q t' h2 tk2 fun b o h1 h3 eb=>kp2 b o h1 h3 ((Heap.get?_update_other _ _ (Ne.symm h3)).trans (kp b o h1 eb))
    · have e1:bestI g (j+1)=bestI g j:=by unfold bestI; rw [if_neg c1]; cases j <;> rfl
      refine wpAny_ite_split (fun hab=>absurd (of_decide_eq_true hab) c1) (fun _=>?_)
      refine wpAny_bind (wpAny_letGo ?_); rw [mx_name]
      refine wpAny_pure ⟨plainId_quiet F.plain_max_loop _,ih (j+1) _ t c (by omega) st' (by rw [e1]; exact eS') fun t' h2 tk2 kp2=>?_⟩
      exact q t' h2 tk2 fun b o h1 h3 eb=>kp2 b o h1 h3 (kp b o h1 eb)
theorem mx_first (W:Walks prog w A.in1 I fp wr n P St) (gv:∀ i v,P i v→∃ t,v=Value.int (g i) t) (nS:S ∉ fp) (hn:0 < n) {s:Shared} {c:Nat} (st:St 0 s.heap) (eS:s.heap.get? S=some { cls:=.type "list", dict:=none,data:=.seq #[] c,slots:=#[] })
    (q:∀ t' h' tk,(∀ b o,b ∉ wr→b ≠ S→s.heap.get? b=some o→h'.get? b=some o)→R (.ok (.ret (.int (bestI g (n - 1)) t'))) { s with heap:=h',toks:=tk }) :
    codeAny (model prog w) A (.builtin "max.loop" ⟨[.ref I,.none,.ref S],kw⟩) R s:=by
  have nw:S ∉ wr:=fun z=>nS (W.sub _ z)
  refine codeAny_builtin F.entry_max_loop ?_; rw [Around.under_plainId F.plain_max_loop _]
  show wpAny _ A.in1 (seqItems? (.ref S) >>= _) _ _ s; refine wpAny_bind (wpAny_seqItems eS rfl ?_)
  show wpAny _ A.in1 (tryCatch (pyNext (.ref I)) _ >>= _) _ _ s; refine wpAny_bind (wpAny_tryCatch (W.item 0 s _ _ hn st fun v h' tk pv st' kp=>?_))
  obtain ⟨tv,rfl⟩:=gv _ _ pv
  have eS':=kp S _ nw eS
  show wpAny _ A.in1 (updateSeq S (fun _=>#[Value.int (g 0) tv,Value.int (g 0) tv]) >>= _) _ _ _; refine wpAny_bind ?_
  refine wpAny_updateSeq eS' rfl ?_; rw [mx_name]
  refine wpAny_pure ⟨plainId_quiet F.plain_max_loop _,mx_turns W gv nS (n - 1) 0 _ tv _ (by omega) (W.frame _ _ _ st' fun b hb o eb=>?_) (Heap.get?_update_self _ eS' rfl) fun t' h2 tk2 kp2=>?_⟩
  · exact (Heap.get?_update_other _ _ (fun z:S=b=>nS (by rw [z]; exact hb))).trans eb
  · exact q t' h2 tk2 fun b o h1 h3 eb=>kp2 b o h1 h3 ((Heap.get?_update_other _ _ (Ne.symm h3)).trans (kp b o h1 eb))
end
section
variable {X:Cx} {e k:Expr} {te tk:TE} {pos p1 kp:Pos}
def tMaxD (K:PySem.W.Frag) (te tk:TE):TE:=fun σ H Q=>te σ H fun x H1=>tk σ H1 fun y H2=>∃ a ns d,x=.ref a∧y=.int d∧SqT K H2 a (ns.map V.int)∧Q (.int (maxD ns d)) H2
def rMax1 (K:PySem.W.Frag):List V→Hp→VK→Prop:=fun xs H Q=>∃ a ns,xs=[.ref a]∧SqL K H a (ns.map V.int)∧ns ≠ []∧Q (.int (maxD ns 0)) H
theorem call_max1 (hc:X.calm=true):CallR X (.builtin "max") (rMax1 X.K):=by
  intro pins s2 σ H2 xs us Q I2 r h
  obtain ⟨a,ns,rfl,hq,hn,q⟩:=h
  obtain ⟨u,rfl,ru⟩:=vals1 r
  cases ru
  obtain ⟨its,r',p,hz⟩:=I2.list hq
  have hl:=r'.length
  rw [List.length_map] at hl
  have hlt:a < s2.heap.objs.size:=by obtain ⟨o,n,e,_⟩:=p; exact Heap.lt_size e
  refine call_function_tree F.kind_max F.plain_max F.entry_max (F.args_max1 _) ?_
  show wpAny _ X.A.in1 (Builtin.Builtins.bindParams "max" ["key", "default"] 0 ⟨[],[]⟩ >>= fun _=>_) _ _ s2
  refine wpAny_bind (wpAny_of_eq (a:=[none,none]) rfl ?_)
  refine wpAny_bind (wpAny_pure ?_)
  refine wpAny_bind (wpAny_pyIter_list p.isList ?_)
  refine wpAny_bind (wpAny_newObj_type ?_); rw [mx_name]
  have hne:a ≠ s2.heap.objs.size:=Nat.ne_of_lt hlt
  have W:=Walks.list (prog:=X.prog) (w:=X.w) (A:=X.A.in1) (I2.ok.hd hc) s2.heap.objs.size a hne its.toArray
  have I3:Inv X pins σ H2 { s2 with heap:=s2.heap.push { cls:=.type "list_iterator", data:=.fields #[.ref a,.int 0 0] } }:=I2.kept (t':=s2.toks) fun b o eb=>Heap.get?_push_of_some _ eb
  have I4:Inv X pins σ H2 { s2 with heap:=(s2.heap.push { cls:=.type "list_iterator", data:=.fields #[.ref a,.int 0 0] }).push { cls:=.type "list", data:=.seq #[] } }:=I3.kept (t':=s2.toks) fun b o eb=>Heap.get?_push_of_some _ eb
  have hz1:∀ o:Obj,(s2.heap.push o).objs.size=s2.heap.objs.size+1:=fun o=>by simp [Heap.push]
  have nS:(s2.heap.push { cls:=.type "list_iterator", data:=.fields #[.ref a,.int 0 0] }).objs.size ∉ [s2.heap.objs.size,a]:=by
    intro hm
    rcases List.mem_cons.mp hm with z | z
    · rw [hz1] at z
      exact absurd z (Nat.succ_ne_self _)
    · have z:=List.mem_singleton.mp z
      rw [hz1] at z
      exact absurd z (Nat.ne_of_gt (Nat.lt_succ_of_lt hlt))
  have gv:∀ i v,its.toArray[i]?=some v→∃ t,v=Value.int (ns[i]?.getD 0) t:=fun i v hv=>by
    obtain ⟨b,t,hb,rfl⟩:=ints_get r' (i:=i) (v:=v) (by first | exact hv | simpa using hv | (rw [List.getElem?_toArray] at hv; exact hv))
    exact ⟨t,by rw [hb]; rfl⟩
  have n0:0 < ns.length:=List.length_pos_iff.mpr hn
  refine wpAny_pure ⟨plainId_quiet F.plain_max_loop _,mx_first (g:=fun i=>ns[i]?.getD 0) W gv nS (by rw [List.size_toArray,← hl]; exact n0) ⟨⟨_,Heap.get?_push_of_some _ (Heap.get?_push_size _ rfl),rfl,rfl⟩,(p.isList.push _).push _⟩ (Heap.get?_push_size _ rfl) fun t' h' tk kp=>?_⟩
  rw [List.size_toArray,← hl]
  have em:bestI (fun i=>ns[i]?.getD 0) (ns.length - 1)=maxD ns 0:=by
    cases ns with
    | nil=>exact absurd rfl hn
    | cons _ _=>rfl
  rw [em]
  refine ⟨.int _,H2,?_,⟨_,rfl⟩,q⟩
  have J:=Inv.turnedL (h':=h') (t':=tk) (ch:=[s2.heap.objs.size,s2.heap.objs.size+1]) I4 (fun b o hb eb=>kp b o (fun z=>hb (by rw [List.mem_singleton.mp z]; exact List.mem_cons_self)) (fun z=>hb (by rw [z,hz1]; exact List.mem_cons_of_mem _ List.mem_cons_self)) eb)
  refine J fun b hb=>?_
  rcases List.mem_cons.mp hb with h | h
  · rw [h]
    exact I2.fpOk (Nat.le_refl _) (I2.hok.fresh (Nat.le_refl _))
  · rw [List.mem_singleton.mp h]
    exact I2.fpOk (Nat.le_succ _) (I2.hok.fresh (Nat.le_succ _))
end
end L2
namespace L2
open PySem PySem.Spec PyProof.Rows
section
variable {prog:Program} {w:World} {A:Around} {E:Value→Shared→Prop} {s:Shared}
theorem tn_item {it t:Addr} {i:Nat} {items:Array Value} {x:Value} {Q:Value→Shared→Prop} (hit:s.heap.IsTupleIter it t i) (ht:s.heap.IsTuple t items) (hx:items[i]?=some x)
    (q:∀ h',h'.IsTupleIter it t (i+1)→Heap.SameBut it s.heap h'→Q x { s with heap:=h' }):wpAny (model prog w) A (Builtin.SmallTypes.nextOf (.ref it)) Q E s:=by
  obtain ⟨o,ho,hc,hd⟩:=id hit; obtain ⟨ol,hol,_,nl,hdl⟩:=ht
  unfold Builtin.SmallTypes.nextOf
  refine wpAny_bind (wpAny_callSpecial?_slot (name:=Str.ofString "__next__") hit.typeIs F.slot_tuple_iterator_next (wpAny_call_entry F.slot_tuple_iterator_next hit.typeIs F.entry_tuple_iterator_next ?_ (F.args_tuple_iterator_next_1 _)))
  show wpAny _ _ (field (.ref it) 0 >>= _) _ _ s; refine wpAny_bind (wpAny_field ho hd (x:=.ref t) rfl ?_)
  show wpAny _ _ (if (Value.ref t == Value.none)=true then _ else _) _ _ s; rw [if_neg (show ¬ ((Value.ref t == Value.none)=true) from Bool.false_ne_true)]
  show wpAny _ _ (field (.ref it) 1 >>= _) _ _ s; refine wpAny_bind (wpAny_field ho hd (x:=.int i 0) rfl ?_)
  show wpAny _ _ (seqItems? (.ref t) >>= _) _ _ s; refine wpAny_bind (wpAny_seqItems hol hdl ?_)
  simp only [Int.toNat_natCast,hx]
  refine wpAny_bind (wpAny_setField ho hd (by simp) (wpAny_pure ⟨x,rfl,wpAny_pure (q _ ?_ (Heap.SameBut.update ..))⟩))
  exact ⟨_,Heap.get?_update_self _ ho (Obj.isFreed_of_fields (Obj.data_mapFields hd _)),(Obj.cls_mapFields ..).trans hc,by rw [Obj.data_mapFields hd]; simp [rawInt]⟩
theorem tn_end {it t:Addr} {i:Nat} {items:Array Value} {Q:Value→Shared→Prop} (hh:A.handled=none) (hit:s.heap.IsTupleIter it t i) (ht:s.heap.IsTuple t items) (hx:items[i]?=none)
    (q:∀ h' e,Heap.ExtBut it s.heap h'→(∃ o,h'.get? e=some o∧o.cls=.type "StopIteration")→E (.ref e) { s with heap:=h' }):wpAny (model prog w) A (Builtin.SmallTypes.nextOf (.ref it)) Q E s:=by
  obtain ⟨o,ho,hc,hd⟩:=id hit; obtain ⟨ol,hol,_,nl,hdl⟩:=ht
  unfold Builtin.SmallTypes.nextOf
  refine wpAny_bind (wpAny_callSpecial?_slot (name:=Str.ofString "__next__") hit.typeIs F.slot_tuple_iterator_next (wpAny_call_entry F.slot_tuple_iterator_next hit.typeIs F.entry_tuple_iterator_next ?_ (F.args_tuple_iterator_next_1 _)))
  show wpAny _ _ (field (.ref it) 0 >>= _) _ _ s; refine wpAny_bind (wpAny_field ho hd (x:=.ref t) rfl ?_)
  show wpAny _ _ (if (Value.ref t == Value.none)=true then _ else _) _ _ s; rw [if_neg (show ¬ ((Value.ref t == Value.none)=true) from Bool.false_ne_true)]
  show wpAny _ _ (field (.ref it) 1 >>= _) _ _ s; refine wpAny_bind (wpAny_field ho hd (x:=.int i 0) rfl ?_)
  show wpAny _ _ (seqItems? (.ref t) >>= _) _ _ s; refine wpAny_bind (wpAny_seqItems hol hdl ?_)
  simp only [Int.toNat_natCast,hx]
  first
    | refine wpAny_bind (wpAny_rule (wpAny_bind (wpAny_setField ho hd (by simp) (wpAny_bind (wpAny_letGo ?_)))))
    | refine wpAny_bind (wpAny_rule (wpAny_bind (wpAny_setField ho hd (by simp) ?_)))
  show wpAny _ _ (newExc (.type "StopIteration") [] >>= _) _ _ _; refine wpAny_bind ?_
  simp only [newExc,newTuple]; refine wpAny_bind (wpAny_newObj_type ?_ (by size_fits))
  refine wpAny_bind (m:=firstArgMember _ _) (wpAny_of_eq (a:=Value.none) (by first | rfl | (simp only [firstArgMember]; rfl)) ?_); refine wpAny_newObj_type ?_ (by size_fits)
  simp only [raiseNew]; refine wpAny_bind (wpAny_handled ?_)
  first | rw [show A.in1.handled=none from hh] | rw [hh]
  refine wpAny_bind (wpAny_pure (wpAny_throw ?_)); exact q _ _ (((Heap.SameBut.update ..).extBut.push _).push _) ⟨_,Heap.get?_push_size _ rfl,rfl⟩
theorem enumT_end {e it t:Addr} {j:Nat} {i:Int} {old:Value} {items:Array Value} {Q:Option Value→Shared→Prop} (hh:A.handled=none) (he:IsEnum s.heap e it i old) (hit:s.heap.IsTupleIter it t j) (ht:s.heap.IsTuple t items) (hx:items[j]?=none)
    (q:∀ h',Heap.ExtBut it s.heap h'→Q none { s with heap:=h' }):wpAny (model prog w) A (pyNext (.ref e)) Q E s:=by
  have hT:s.TypeIs (.ref e) "enumerate" := ⟨_,he,rfl⟩
  unfold pyNext
  refine wpAny_bind (wpAny_attempt (wpAny_callSpecial?_slot (name:=Str.ofString "__next__") hT F.slot_enumerate_next (wpAny_call_entry F.slot_enumerate_next hT F.entry_enumerate_next ?_ (F.args_enumerate_next_1 _))))
  show wpAny _ _ (field (.ref e) 2 >>= _) _ _ _; refine wpAny_bind (wpAny_field he rfl (x:=.ref it) rfl ?_)
  refine wpAny_bind (tn_end hh hit ht hx fun h' x he' hx'=>?_)
  obtain ⟨o,ho,hc⟩:=hx'
  refine wpAny_bind (wpAny_isInstance (T := "StopIteration") (b:=true) ⟨o,ho,hc⟩ isSubtype_stop ?_); exact wpAny_pure (q h' he')
end
theorem draws_tup {prog:Program} {w:World} {A:Around} (hh:A.handled=none) (it l:Addr) (hne:l ≠ it) (items:Array Value):Draws prog w A it [it,l] items.size (fun i v=>items[i]?=some v) (fun i h=>h.IsTupleIter it l i∧h.IsTuple l items) where
  live:=fun _ _ st=>let ⟨o,ho,_⟩:=st.1; ⟨o,ho⟩
  frame:=fun _ _ _ st k=>⟨st.1.at fun o e=>k it (by simp) o e,st.2.at fun o e=>k l (by simp) o e⟩
  item:=fun i s Q E hi st q=>by
    refine tn_item st.1 st.2 (x:=items[i]) (by simp [hi]) fun h' a b=>?_
    exact q _ h' s.toks (by simp [hi]) ⟨a,st.2.extBut b.extBut hne⟩ b
  done:=fun s Q E st q=>tn_end hh st.1 st.2 (by simp) q
open AutoSeq1 (wpAny_loadPart') in
set_option maxHeartbeats 1000000 in
theorem meets_enumT (l:Addr) (items:Array Value) (n:Nat) (dct:Option Addr) (sl:Array (Option Value)) :
    Meets (Builtin.«enumerate.__new__» ⟨[.type "enumerate", .ref l],[]⟩) (fun _ R s=>s.heap.get? l=some { cls:=.type "tuple", dict:=dct,data:=.seq items n,slots:=sl } ∧
      R (.ok (.ret (.ref (s.heap.push { cls:=.type "tuple_iterator", data:=.fields #[.ref l,.int 0 0] }).objs.size)))
        { s with heap:=(s.heap.push { cls:=.type "tuple_iterator", data:=.fields #[.ref l,.int 0 0] }).push { cls:=.type "enumerate", data:=.fields #[.none,.bool false,.ref s.heap.objs.size,rawInt 0,.none,.none] } }) :=
  .of_wp fun prog w A R s h=>by
    obtain ⟨hp,g,d,tk,os⟩:=s; obtain ⟨hl,h⟩:=h
    have hsub:=sub_enumerate; have hL:Heap.IsTuple (Shared.heap ⟨hp,g,d,tk,os⟩) l items:=⟨_,hl,rfl,n,rfl⟩
    wp_walk using wpAny_loadPart' hl
    refine wpAny_stack_any fun st=>wpAny_pure ?_
    split
    · rename_i c _ _ _ _ _
      cases (c == Value.type "enumerate")
      · wp_walk using wpAny_loadPart' hl,wpAny_pyIter_tuple hL
        exact ⟨_,rfl,h⟩
      · wp_walk using wpAny_loadPart' hl,wpAny_pyIter_tuple hL
        exact ⟨_,rfl,h⟩
    · wp_walk using wpAny_loadPart' hl,wpAny_pyIter_tuple hL
      exact ⟨_,rfl,h⟩
section
variable {prog:Program} {w:World} {A:Around} {E:Value→Shared→Prop} {s:Shared}
theorem call_enumT {l:Addr} {items:Array Value} {Q:Value→Shared→Prop} (hL:s.heap.IsTuple l items)
    (q:∀ h',IsEnum h' (s.heap.objs.size+1) s.heap.objs.size 0 .none→h'.IsTupleIter s.heap.objs.size l 0→(∀ b o,s.heap.get? b=some o→h'.get? b=some o)→Q (.ref (s.heap.objs.size+1)) { s with heap:=h' }) :
    wpAny (model prog w) A (call (.type "enumerate") [.ref l]) Q E s:=by
  obtain ⟨⟨c,dct,dt,sl⟩,hl,hc,n,hd⟩:=hL
  replace hc:c=.type "tuple" := hc
  replace hd:dt=.seq items n:=hd
  subst hc hd
  refine callType_new F.called_enumerate (by decide) (F.typeCall_enumerate_1 _) (F.newCall_enumerate_1 _) (fun obj=>F.args_object_init_2 obj _) F.entry_enumerate_new (meets_enumT l items n dct sl) ⟨hl,?_⟩
  have hz:(s.heap.push { cls:=.type "tuple_iterator", data:=.fields #[.ref l,.int 0 0] }).objs.size=s.heap.objs.size+1:=Heap.size_push ..
  show _∧_
  rw [hz]
  have he:IsEnum ((s.heap.push { cls:=.type "tuple_iterator", data:=.fields #[.ref l,.int 0 0] }).push { cls:=.type "enumerate", data:=.fields #[.none,.bool false,.ref s.heap.objs.size,rawInt 0,.none,.none] }) (s.heap.objs.size+1) s.heap.objs.size 0 .none:=by
    have:=Heap.get?_push_size (s.heap.push { cls:=.type "tuple_iterator", data:=.fields #[.ref l,.int 0 0] }) (o:={ cls:=.type "enumerate", data:=.fields #[.none,.bool false,.ref s.heap.objs.size,rawInt 0,.none,.none] }) rfl
    rw [hz] at this; exact this
  exact ⟨⟨_,he,rfl⟩,q _ he ⟨_,Heap.get?_push_of_some _ (Heap.get?_push_size _ rfl),rfl,rfl⟩ fun b o x=>Heap.get?_push_of_some _ (Heap.get?_push_of_some _ x)⟩
end
def IteT (K:PySem.W.Frag) (a:Addr):It :=
  ⟨fun i H=>∃ xs x,SqT K H a xs∧xs[i]?=some x,fun i H y H'=>∃ t,y=.ref t∧H t=none∧∀ xs x,SqT K H a xs→xs[i]?=some x→H'=upd H t (.tup [.int i,x]),fun i H=>∃ xs,SqT K H a xs∧xs.length≤i⟩
theorem turn_enumT {P:Program} {w:World} {K:PySem.W.Frag} {elts:List Expr} {k:Nat} {pos:Pos} (a e it:Addr) (hei:e ≠ it) (hai:a ≠ it) (hae:a ≠ e) :
    Turn P w K (.Tuple elts k pos) (IteT K a) [e,it] e (fun i h=>(∃ old,IsEnum h e it i old)∧h.IsTupleIter it a i) where
  mem:=by simp
  obj:=fun i h st b hb=>by
    obtain ⟨⟨old,he⟩,o,e2,c,d⟩:=st
    rcases List.mem_cons.mp hb with z | z
    · subst z
      exact ⟨_,he,fun v z=>nomatch z⟩
    · have z':=List.mem_singleton.mp z
      subst z'
      exact ⟨o,e2,fun v z=>by rw [d] at z; cases z⟩
  keep:=fun i h h' st k=>by
    obtain ⟨⟨old,he⟩,hit⟩:=st
    exact ⟨⟨old,k e (by simp) _ he⟩,hit.at fun o x=>k it (by simp) o x⟩
  item:=by
    intro X hP hw hK hc i pins s σ H E I hf st hg
    subst hP hw hK
    obtain ⟨xs,x,hq,hx⟩:=hg
    obtain ⟨its,rv,p,hz⟩:=I.tuple hq
    obtain ⟨u,hu,ru⟩:=rv.get hx
    obtain ⟨⟨old,he⟩,hit⟩:=st
    have hi:i < its.toArray.size:=by
      rw [List.size_toArray]
      exact (List.getElem?_eq_some_iff.mp hu).1
    refine wpAny_pyNext_enum_itemD (draws_tup (prog:=X.prog) (w:=X.w) (A:=X.A.in1) (I.ok.hd hc) it a hai its.toArray) he ⟨hit,p⟩ hi hei (by simp [hei,Ne.symm hae]) fun y h1 tk hy ho hst1 hT hsz hk=>?_
    have ey:y=u:=by
      have h1:its.toArray[i]?=some u:=by simpa using hu
      rw [h1] at hy
      exact (Option.some.inj hy).symm
    subst ey
    refine ⟨_,rfl,wpAny_letOwnedTupleGo_enum ho fun h2 he2 hs2=>?_⟩
    have elt:e < s.heap.objs.size:=Heap.lt_size he
    have hT2:h2.get? s.heap.objs.size=some { cls:=.type "tuple", data:=.seq #[.int i tk,y] }:=(hs2.2 _ (Ne.symm (Nat.ne_of_lt elt))).trans hT
    have I2:Inv X pins σ (upd H s.heap.objs.size (.tup [.int i,x])) { s with heap:=h2,toks:=tk+1 }:=by
      refine I.turnedNew (ch:=[e,it]) (fun b ob hb eb=>?_) hf (Nat.le_refl _) ⟨by show 2≤sizeLine; decide,[.int i tk,y],.cons ⟨_,rfl⟩ (.cons ru .nil),⟨_,hT2,rfl,_,rfl⟩,_,hT2,rfl⟩
      have b1:b ≠ e:=fun z=>hb (by simp [z])
      have b2:b ≠ it:=fun z=>hb (by simp [z])
      exact (hs2.2 b b1).trans (hk b ob b1 b2 eb)
    refine ⟨.ref s.heap.objs.size,_,I2,rfl,⟨_,rfl,I.hok.fresh (Nat.le_refl _),fun ys z hy hyi=>?_⟩,⟨⟨y,by simpa using he2⟩,hst1.1.at fun o z=>(hs2.2 it (Ne.symm hei)).trans z⟩,fun b hb=>?_⟩
    · have e1:=I.tuple_inj hy hq
      subst e1
      rw [hx] at hyi
      cases hyi
      rfl
    · have z:=hf b hb
      have hlt:b < s.heap.objs.size:=by
        rcases List.mem_cons.mp hb with y | y
        · rw [y]; exact elt
        · rw [List.mem_singleton.mp y]
          obtain ⟨o,e2,_⟩:=hit
          exact Heap.lt_size e2
      rw [upd_ne (Nat.ne_of_lt hlt)]
      exact z.1
  done:=by
    intro X hP hw hK hc i pins s σ H E I hf st hg
    subst hP hw hK
    obtain ⟨xs,hq,hx⟩:=hg
    obtain ⟨its,rv,p,hz⟩:=I.tuple hq
    obtain ⟨⟨old,he⟩,hit⟩:=st
    have hl:=rv.length
    exact enumT_end (I.ok.hd hc) he hit p (Array.getElem?_eq_none (by simp; omega)) fun h' eb=>⟨rfl,I.turnedL (t':=s.toks) (ch:=[e,it]) (fun b o hb eo=>eb b o (fun z=>hb (by simp [z])) eo) hf⟩
  self:=fun _ _ _ _ _ st h=>by
    obtain ⟨⟨old,he⟩,_⟩:=st
    exact wpAny_pyIter_enum he h
section
variable {X:Cx} {elts:List Expr} {k:Nat} {tpos:Pos}
def iEnumT (K:PySem.W.Frag) (tl:TE):TI:=fun σ H R=>tl σ H fun x H1=>∃ a,x=.ref a∧(∃ xs,SqT K H1 a xs)∧R (IteT K a) H1
theorem pi_enumT {l:Expr} {tl:TE} {p pos:Pos} (hg:Gl X "enumerate") (hm:X.mg "enumerate" = none) (hl:PE X l tl) (hs:starEach [l] X.env=[(false,eval l X.env)]:=by rfl) :
    PI X (.Tuple elts k tpos) (.Call (.Name "enumerate" p) [l] [] pos) (iEnumT X.K tl):=by
  intro pins s σ H R I h
  refine Call_ (ld_blt I hg hm boot_enumerate (PyProof.Rows.callWith_type1 ?_ hs rfl))
  rw [hs]
  show wpAny _ _ (spliced ((false,eval l X.env)::backTo pos (starEach [] X.env))) _ _ s
  refine Calls.spliced_cons (thn (hl pins s σ H _ I h) fun u s1 ⟨x,H1,I1,r1,a,ex,⟨xs,hq⟩,q⟩=>?_)
  subst ex
  cases r1
  obtain ⟨its,rv,p,hz⟩:=I1.tuple hq
  have alt:=p.lt
  refine Calls.spliced_nil ?_
  refine call_enumT p fun h' he hit hk=>?_
  refine wpAny_pyIter_enum he ?_
  have I2:Inv X pins σ H1 { s1 with heap:=h' }:=I1.kept (t':=s1.toks) hk
  refine ⟨s1.heap.objs.size+1,[s1.heap.objs.size+1,s1.heap.objs.size],_,_,H1,rfl,I2,turn_enumT a _ _ (Nat.ne_of_gt (Nat.lt_succ_self _)) (Nat.ne_of_lt alt) (Nat.ne_of_lt (Nat.lt_succ_of_lt alt)),⟨⟨_,he⟩,hit⟩,fun b hb=>?_,q⟩
  rcases List.mem_cons.mp hb with z | z
  · rw [z]
    exact I1.fpOk (Nat.le_succ _) (I1.hok.fresh (Nat.le_succ _))
  · rw [List.mem_singleton.mp z]
    exact I1.fpOk (Nat.le_refl _) (I1.hok.fresh (Nat.le_refl _))
end
theorem for_enumT {K:PySem.W.Frag} {a:Addr} {xs:List V} {g:TG} {tb:TS} {D:Ends} {σ:St} {H:Hp} (Pv:Nat→St→Hp→Prop) (h0:Pv 0 σ H) (hl:∀ i σ H,i≤xs.length→Pv i σ H→SqT K H a xs)
    (hs:∀ i x σ H t,xs[i]?=some x→Pv i σ H→H t=none→g (.ref t) σ (upd H t (.tup [.int i,x])) fun σ2 H2=>tb { D with nx:=Pv (i+1),ct:=Pv (i+1),bk:=D.nx } σ2 H2) (hd:∀ σ H,Pv xs.length σ H→D.nx σ H) :
    ∃ W:Nat→Nat→St→Hp→Prop,(∃ m,W 0 m σ H)∧∀ i m σ H,W i m σ H →
      ((IteT K a).stop i H∧D.nx σ H)∨((IteT K a).go i H∧∃ N:St→Hp→Prop,(∀ σ' H',N σ' H'→∃ m',m' < m∧W (i+1) m' σ' H')∧∀ x H',(IteT K a).yld i H x H'→g x σ H' fun σ2 H2=>tb { D with nx:=N,ct:=N,bk:=D.nx } σ2 H2):=by
  refine ⟨fun i m σ H=>m=xs.length - i∧i≤xs.length∧Pv i σ H,⟨xs.length,by simp,Nat.zero_le _,h0⟩,?_⟩
  rintro i m σ H ⟨rfl,hi,p⟩
  have q:=hl i σ H hi p
  by_cases hlt:i < xs.length
  · refine .inr ⟨⟨xs,xs[i],q,by simp [hlt]⟩,Pv (i+1),fun σ' H' p'=>⟨xs.length - (i+1),by omega,rfl,hlt,p'⟩,fun x H' y=>?_⟩
    obtain ⟨t,rfl,ht,e⟩:=y
    have e':=e xs xs[i] q (by simp [hlt])
    subst e'
    exact hs i xs[i] σ H t (by simp [hlt]) p ht
  · have e:i=xs.length:=by omega
    subst e
    exact .inl ⟨⟨xs,q,Nat.le_refl _⟩,hd σ H p⟩
end L2
namespace L2
open PySem PySem.Spec PyProof.Rows
def ItV (K:PySem.W.Frag) (a:Addr) (xs:List V):It:=⟨fun i H=>SqL K H a xs∧i < xs.length,fun i H y H'=>H'=H∧xs.reverse[i]?=some y,fun i _=>xs.length≤i⟩
section
variable {X:Cx} {tg:Expr}
def iRevL (K:PySem.W.Frag) (tl:TE):TI:=fun σ H R=>tl σ H fun x H1=>∃ a xs,x=.ref a∧SqL K H1 a xs∧R (ItV K a xs) H1
end
end L2
namespace L2
open PySem PySem.Spec PyProof.Rows
theorem mt_countK {X:Cx} (K:PySem.W.Frag) (h:X.K=K:=by rfl):MtR X "list.count" (rCountL K):=by subst h; exact mt_count
section
variable {X:Cx} {o e:Expr} {es:List Expr} {to ta:TE} {t:TA} {T id:String} {name f:Str} {r:V→List V→Hp→VK→Prop} {apos cpos pos:Pos}
theorem pe_bmK (K:PySem.W.Frag) (pa:PlainAttrs T) (slot:Slot T name id) (hty:typeOf (.builtin id)=pure (.type "method_descriptor")) (hm:MtR X id r) (ho:PE X o to) (ha:PA X (e::es) t) (hK:X.K=K:=by rfl)
    (hbase:attributeBase o name X.env (eval o X.env)=eval o X.env:=by rfl)
    (hfew:((backTo cpos (starEach (e::es) X.env)).all (fun x=>!x.1) && (backToKw cpos (keywordEach [] X.env)).all (fun x=>x.1.isSome) && decide ((e::es).length+([]:List Keyword).length+(if ([]:List Keyword).isEmpty then 0 else 1) < 30))=true:=by rfl)
    (hline:(apos.endLine == cpos.line)=true:=by rfl) (hs:starEach (e::es) X.env=(false,eval e X.env)::starEach es X.env:=by rfl) (hplain:(backTo cpos (starEach es X.env)).any (·.1)=false:=by rfl) :
    PE X (.Call (.Attribute o name apos) (e::es) [] cpos) (tBM K T r to t):=by subst hK; exact pe_bm pa slot hty hm ho ha hbase hfew hline hs hplain
theorem pe_fldK (K:PySem.W.Frag) (he:PE X e ta) (hK:X.K=K:=by rfl) (hb:attributeBase e f X.env (eval e X.env)=eval e X.env:=by rfl):PE X (.Attribute e f pos) (tFld K ta f):=by subst hK; exact pe_fld he hb
end
end L2
namespace L2
open PySem PySem.Spec PyProof.Rows
@[reducible] def cxCompO (X:Cx) (x:Str) (N:List Str) (scope:Scope) (cl:List (Str × Addr)) (s:Shared) (H:Hp) (fp:List Addr):Cx where
  prog:=X.prog
  w:=X.w
  K:=X.K
  mg:=X.mg
  base:=X.base
  A:=X.A
  N:=x::N
  s₀:=s
  H₀:=H
  env:=compEnvC scope ((x,s.heap.objs.size+1)::cl) s.heap.objs.size X.env
  outer:=X.stack
  stack:=X.stack
  ex:=fp
  fn:=fun y=>y == x
  calm:=X.calm
  pn:=[]
  xe:=fun _ _=>False
structure CompScopeO (X:Cx) (x:Str) (N:List Str) (ix:List Nat) (scope:Scope) (cl:List (Str × Addr)):Prop where
  clos:closureFor scope X.env=pure cl
  lay:∀ (n:Addr) (h:Heap),cellsFrom n scope.names cl=(x,n)::cl∧pushCells h scope.names=h.push { cls:=.type "cell", data:=.cell none }
  kind:scope.kind=.function
  names:∀ y ∈ scope.names,y.2=.local→scope.names.lookup y.1=some .local
  own:(relabel scope X.env).names.lookup x=some .cell
  nd:(x::N).Nodup
  sub:∀ p ∈ cl,X.env.cells.lookup p.1=some p.2
  has:((relabel scope X.env).names.all fun p=>!(p.2 == .cell || p.2 == .free) || (p.1 == x || (cl.lookup p.1).isSome))=true
  outs:∀ (j:Nat) (y:Str),N[j]?=some y→(relabel scope X.env).names.lookup y=some .cell∧∃ k c,ix[j]?=some k∧X.N[k]?=some y∧cl.lookup y=some c∧X.env.scope.names.lookup y=some .cell
section
variable {X:Cx} {pins:List (Addr × Obj)} {σ:St} {x:Str} {N:List Str} {ix:List Nat} {scope:Scope} {cl:List (Str × Addr)} {fp:List Addr} {H3:Hp} {s3:Shared}
end
section
variable {M:Model} {A:Around} {E:Value→Shared→Prop} {s:Shared}
end
section
variable {X:Cx} {x:Str} {N:List Str} {ix:List Nat} {scope:Scope} {cl:List (Str × Addr)} {elt iter:Expr} {ifs:List Expr} {px pos:Pos} {wi:TI} {tb:TBl}
end
end L2
namespace L2
open PySem PySem.Spec PyProof.Rows
end L2
namespace L2
open PySem PySem.Spec PyProof.Rows
def ItrS (lo c:Int) (n:Nat):It:=⟨fun i _=>i < n,fun i H x H'=>H'=H∧x=.int (lo+i*c),fun i _=>n≤i⟩
section
variable {X:Cx} {tg:Expr}
def iRng3 (ta:TA):TI:=fun σ H R=>ta σ H fun vs H1=>∃ i j c:Int,vs=[.int i,.int j,.int c]∧0 < c∧c < 1000000∧Builtin.Range.small i j c=true∧R (ItrS i c (Builtin.Range.rangeSize i j c).toNat) H1
end
end L2
namespace L2
open PySem PySem.Spec PyProof.Rows
section
variable {X:Cx}
def tListRng1 (ta:TA):TE:=fun σ H Q=>ta σ H fun vs H1=>∃ j:Int,vs=[.int j]∧0≤j∧j≤1000∧∀ p,H1 p=none→Q (.ref p) (upd H1 p (.lst ((rngV 0 j.toNat).map V.int)))
def rSorted (K:PySem.W.Frag):List V→Hp→VK→Prop:=fun xs H Q=>∃ a ns,xs=[.ref a]∧SqL K H a (ns.map V.int)∧ns.length < 64∧∀ p ms,H p=none→List.Perm ms ns→ms.Pairwise (·≤·)→Q (.ref p) (upd H p (.lst (ms.map V.int)))
end
end L2
namespace L2
open PySem PySem.Spec PyProof.Rows PySem.Builtin PySem.Builtin.Str
section
variable {prog:Program} {w:World} {A:Around} {E:Value→Shared→Prop} {s:Shared} {Q:Value→Shared→Prop} {x:PySem.Str} {t:Tok}
end
section
variable {X:Cx}
def rSplit:V→List V→Hp→VK→Prop:=fun x vs H Q=>∃ z u,x=.str z∧vs=[.str u]∧0 < u.length∧z.length≤100000∧(Txt.split z u).length≤100000∧∀ p,H p=none→Q (.ref p) (upd H p (.lst ((Txt.split z u).map V.str)))
end
end L2
namespace L2
open PySem PySem.Spec PyProof.Rows
section
variable {X:Cx} {e:Expr} {te:TE} {p pos pos1:Pos}
def tIsiT (te:TE):TE:=fun σ H Q=>te σ H fun x H1=>∃ a xs,x=.ref a∧(H1 a=some (.lst xs)∨H1 a=some (.tup xs))∧Q (.bl true) H1
end
end L2
namespace HT
open PySem PyProof.Rows
section
variable {prog:Program} {w:World} {A:Around} {E:Value→Shared→Prop} {s:Shared}
end
end HT
namespace L2
open PySem PySem.Spec PyProof.Rows
section
variable {X:Cx}
def rSlTW (K:PySem.W.Frag):V→Option Int→Option Int→Hp→VK→Prop:=fun x lo hi H Q=>∃ a xs,x=.ref a∧SqT K H a xs ∧
  (HT.sIx xs.length 0 lo=0∧HT.sIx xs.length xs.length hi=xs.length)∧Q (.ref a) H
def rSlTA (K:PySem.W.Frag):V→Option Int→Option Int→Hp→VK→Prop:=fun x lo hi H Q=>∃ a xs,x=.ref a∧SqT K H a xs∧H a=some (.tup xs)∧∀ p H',Same H H'→H' p=some (.tup (cutV xs lo hi))→Q (.ref p) H'
end
end L2
namespace L2
open PySem PySem.Spec PyProof.Rows
def SqIt (h:Heap) (i l:Addr) (k:Nat) (xs:Array Value):Prop:=(h.IsListIter i l k∧h.IsList l xs)∨(h.IsTupleIter i l k∧h.IsTuple l xs)
section
variable {prog:Program} {w:World} {A:Around} {E:Value→Shared→Prop} {s:Shared}
end
def itO (b:Bool) (l:Addr):Obj:={ cls:=.type (if b=true then "list_iterator" else "tuple_iterator"),data:=.fields #[.ref l,.int 0 0] }
def SqO (b:Bool) (h:Heap) (l:Addr) (xs:Array Value):Prop:=if b=true then h.IsList l xs else h.IsTuple l xs
abbrev zqH (h:Heap) (b1 b2:Bool) (l1 l2:Addr):Heap:=((((h.push (itO b1 l1)).push (itO b2 l2)).push { cls:=.type "tuple", data:=.seq #[.ref h.objs.size,.ref (h.push (itO b1 l1)).objs.size] }).push { cls:=.type "tuple", data:=.seq #[.none,.none] }).push
  { cls:=.type "zip", data:=.fields #[.none,.bool false,.bool false,.ref ((h.push (itO b1 l1)).push (itO b2 l2)).objs.size,.ref (((h.push (itO b1 l1)).push (itO b2 l2)).push { cls:=.type "tuple", data:=.seq #[.ref h.objs.size,.ref (h.push (itO b1 l1)).objs.size] }).objs.size] }
abbrev zqA (h:Heap) (b1 b2:Bool) (l1 l2:Addr):Addr:=((((h.push (itO b1 l1)).push (itO b2 l2)).push { cls:=.type "tuple", data:=.seq #[.ref h.objs.size,.ref (h.push (itO b1 l1)).objs.size] }).push { cls:=.type "tuple", data:=.seq #[.none,.none] }).objs.size
end L2
namespace L2
open PySem PySem.Spec PyProof.Rows
section
variable {prog:Program} {w:World} {A:Around} {E:Value→Shared→Prop} {s:Shared}
end
def SqB (K:PySem.W.Frag) (b:Bool) (H:Hp) (a:Addr) (xs:List V):Prop:=if b=true then SqL K H a xs else SqT K H a xs
def Itz (K:PySem.W.Frag) (c d:Bool) (a b:Addr):It :=
  ⟨fun i H=>∃ xs ys x y,SqB K c H a xs∧SqB K d H b ys∧xs[i]?=some x∧ys[i]?=some y,fun i H v H'=>∃ t,v=.ref t∧H t=none∧∀ xs ys x y,SqB K c H a xs→SqB K d H b ys→xs[i]?=some x→ys[i]?=some y→H'=upd H t (.tup [x,y]),
    fun i H=>∃ xs ys,SqB K c H a xs∧SqB K d H b ys∧(xs.length≤i∨ys.length≤i)⟩
end L2
namespace L2
open PySem PySem.Spec PyProof.Rows
section
variable {X:Cx} {elts:List Expr} {k:Nat} {tpos:Pos}
def iZip (K:PySem.W.Frag) (tl:TA):TI:=fun σ H R=>tl σ H fun vs H1=>∃ a b c d,vs=[.ref a,.ref b]∧(∃ xs,SqB K c H1 a xs)∧(∃ ys,SqB K d H1 b ys)∧R (Itz K c d a b) H1
end
end L2
namespace L2
open PySem PySem.Spec PyProof.Rows
section
variable {X:Cx} {pins:List (Addr × Obj)} {σ:St} {x y2:Str} {N:List Str} {ix:List Nat} {scope:Scope} {cl:List (Str × Addr)} {fp:List Addr} {H3:Hp} {s3:Shared}
end
section
variable {X:Cx} {x y2:Str} {N:List Str} {ix:List Nat} {scope:Scope} {cl:List (Str × Addr)} {elt iter:Expr} {ifs:List Expr} {px py pt pos:Pos} {kt:Nat} {wi:TI} {tb:TBl}
def CompEx2 (K:PySem.W.Frag) (J:It) (D:Addr) (ix:List Nat) (tb:TBl) (σ:St) (H:Hp) (Q:VK):Prop:=∃ W:Nat→Nat→Hp→Prop,(∃ m,W 0 m (upd H D (.lst [])))∧∀ i m H2,W i m H2 →
  (J.stop i H2∧Q (.ref D) H2)∨(J.go i H2∧∀ y H3,J.yld i H2 y H3→∃ t v1 v2,y=.ref t∧SqT K H3 t [v1,v2]∧tb (some v1::some v2::outs ix σ) H3 (fun H4=>∃ m',m' < m∧W (i+1) m' H4)
    fun z H4=>∃ ys,H4 D=some (.lst ys)∧ys.length < sizeLine∧∃ m',m' < m∧W (i+1) m' (upd H4 D (.lst (ys++[z]))))
def tCompR2 (K:PySem.W.Frag) (wi:TI) (ix:List Nat) (tb:TBl):TE:=fun σ H Q=>wi σ H fun J H1=>∀ D,H1 D=none→CompEx2 K J D ix tb σ H1 Q
end
end L2
namespace L2
open PySem PyProof.Rows HT
section
variable {X:Cx}
def rAny (K:PySem.W.Frag):List V→Hp→VK→Prop:=fun xs H Q=>∃ (a:Addr) (bs:List Bool),xs=[.ref a]∧SqL K H a (bs.map V.bl)∧Q (.bl (bs.any id)) H
end
end L2
namespace L2
open PySem PySem.Spec PyProof.Rows
section
variable {X:Cx}
def startsAt (z u:Str) (i:Int):Bool:=decide (PySem.fromIndex z.length i+u.length≤z.length) && Builtin.Str.subAt z u (PySem.fromIndex z.length i)
def rStartsAt:V→List V→Hp→VK→Prop:=fun x vs H Q=>∃ z u i,x=.str z∧vs=[.str u,.int i]∧Q (.bl (startsAt z u i)) H
abbrev TJ:=St→Hp→Str→VK→Prop
def PJ (X:Cx) (es:List Expr) (t:TJ):Prop :=
  ∀ (pins:List (Addr × Obj)) (s:Shared) (σ:St) (H:Hp) (out:Str) (Q:VK),Inv X pins σ H s→t σ H out Q→wpAny (model X.prog X.w) X.A (joinParts out (evalEach es X.env)) (EP X pins σ Q) X.xe s
end
end L2
namespace L2
open PySem PySem.Spec PyProof.Rows
section
variable {X:Cx}
end
end L2
namespace L2
open PySem PySem.Spec PyProof.Rows
abbrev IsZipB (h:Heap) (z TI TO:Addr) (f0:Value) (b:Bool):Prop :=
  h.get? z=some { cls:=.type "zip", dict:=none,data:=.fields #[f0,.bool b,.bool false,.ref TI,.ref TO],slots:=#[] }
section
variable {prog:Program} {w:World} {A:Around} {E:Value→Shared→Prop} {s:Shared}
end
end L2
namespace L2
open PySem PySem.Spec PyProof.Rows
def ItK (c:Bool) (h:Heap) (i1 a:Addr) (k:Nat):Prop:=∃ o,h.get? i1=some o∧o.cls=.type (if c=true then "list_iterator" else "tuple_iterator")∧o.data=.fields #[.ref a,.int k 0]
def ZSt (c d:Bool) (a b z TI TO i1 i2:Addr) (cs:List Addr) (i:Nat) (h:Heap):Prop :=
  ((i=0∧IsZip h z TI TO .none)∨∃ (t:Addr) (f:Bool),cs[0]?=some t∧IsZipB h z TI TO (rawInt t) f)∧IsPair h TI (.ref i1) (.ref i2)∧(∃ p q,IsPair h TO p q)∧ItK c h i1 a i∧ItK d h i2 b i
def PairsAt (H:Hp) (cs:List Addr) (xs ys:List V):Prop:=∀ (j:Nat) (t:Addr) (x y:V),cs[j]?=some t→xs[j]?=some x→ys[j]?=some y→H t=some (.tup [x,y])
section
variable {X:Cx} {pins:List (Addr × Obj)} {σ:St}
end
end L2
namespace L2
open PySem PySem.Spec PyProof.Rows
section
variable {X:Cx} {pins:List (Addr × Obj)} {σ:St}
def tListZip (K:PySem.W.Frag) (t:TA):TE:=fun σ H Q=>t σ H fun vs H1=>∃ a b c d xs ys,vs=[.ref a,.ref b]∧SqB K c H1 a xs∧SqB K d H1 b ys∧xs.length=ys.length∧xs.length≤sizeLine ∧
  ∀ S cs H2,H1 S=none→H2 S=some (.lst (cs.map V.ref))→cs.length=xs.length→PairsAt H2 cs xs ys→(∀ t ∈ cs,H1 t=none∧t ≠ S)→Same H1 H2→Q (.ref S) H2
def rNeNil (K:PySem.W.Frag):R2:=fun x y H Q=>∃ a b xs,x=.ref a∧y=.ref b∧SqL K H a xs∧SqL K H b []∧Q (.bl (!xs.isEmpty)) H
end
end L2
namespace L2
open PySem PySem.Spec PyProof.Rows
section
variable {X:Cx}
end
end L2
namespace L2
open PySem
section
variable {M:Model} {A:Around} {E:Value→Shared→Prop} {h:Heap} {g:Array GenState} {d:Drawn} {t:Nat} {os:OsState}
variable {nm q:Str} {C N:Addr} {bs bm:List Value} {hdct:Bool} {sn:List Str} {sub:List Value} {ab:Bool} {col:Option Bool} {dd:Option Addr} {k0 k1 k2 k3 k5:Option Value} {Bn newId inN:String} {bmN:List Value}
end
section
variable {prog:Program} {w:World} {A:Around} {R:Result→Shared→Prop} {h:Heap} {g:Array GenState} {d:Drawn} {t:Nat} {os:OsState}
variable {nm q:Str} {C N:Addr} {bs bm:List Value} {hdct:Bool} {sn:List Str} {sub:List Value} {ab:Bool} {col:Option Bool} {dd:Option Addr} {k0 k1 k2 k3 k5:Option Value} {Bn newId inN:String} {bmN:List Value}
end
section
variable {prog:Program} {w:World} {A:Around} {E:Value→Shared→Prop} {h:Heap} {g:Array GenState} {d:Drawn} {t:Nat} {os:OsState}
variable {nm q:Str} {C N:Addr} {bs bm:List Value} {hdct:Bool} {sn:List Str} {sub:List Value} {ab:Bool} {col:Option Bool} {dd:Option Addr} {k0 k1 k2 k3 k5:Option Value} {Bn newId inN:String} {bmN:List Value}
abbrev excObj (C:Addr) (dx:Option Addr) (vs:Array Value):Obj:={ cls:=.ref C,dict:=dx,data:=.fields vs }
abbrev excNew (C a:Addr):Obj:=excObj C none #[.ref a,.none,.none,.none,.bool false,.none]
end
end L2
namespace L2
open PySem PySem.Spec PyProof.Rows
def ObP (e:Addr) (p:Obj→Prop):HO:=.ext fun h=>∃ o,h.get? e=some o∧p o
abbrev vs6 (a:Addr):Array Value:=#[.ref a,.none,.none,.none,.bool false,.none]
def ExcN (C e:Addr):HO:=ObP e fun o=>∃ a,o=excObj C none (vs6 a)
def ExcD (C e dx:Addr):HO:=ObP e fun o=>∃ a,o=excObj C (some dx) (vs6 a)
def ExcT (C e dx:Addr):HO:=ObP e fun o=>∃ vs,o=excObj C (some dx) vs∧vs.size=6
structure MkX (K:PySem.W.Frag) (C f:Addr):Prop where
  obj:∃ (nm q:Str) (N:Addr) (bs bm:List Value) (hdct:Bool) (sn:List Str) (sub:List Value) (ab:Bool) (col:Option Bool) (dd:Option Addr) (k0 k1 k2 k3 k5:Option Value),K.lookup C=some (excClassObj nm q C N bs bm hdct sn sub ab col dd k0 k1 k2 k3 k5 "ValueError.__new__") ∧
    (Value.ref C::bm).contains (.type "ValueError")=true∧(Value.ref C::bm).contains (.type "AttributeError")=false∧(Value.ref C::bm).contains (.type "NameError")=false
  init:PySem.W.findIn K (.ref C) "__init__" = some (some (.ref f))
  fn:∃ o,K.lookup f=some o∧o.cls=.type "function"
  kp:PySem.W.keepIn K (.ref C)=true
section
variable {X:Cx} {CX:CXT} {k:Nat} {f C:Addr} {fd:FuncData} {ps:List Str} {sp:Sp} {dvs:List V} {ds:List Value} {E:XK} {x m:Str} {p pos apos:Pos} {e o:Expr} {es:List Expr} {ta:TE} {t:TA}
def tMakeX (C:Addr) (sp:Sp) (dvs:List V) (E:XK) (t:TA):TE:=fun σ H Q=>t σ H fun vs H1=>vs.length≤sizeLine∧∀ e,H1 e=none →
  sp (.ref e::(vs++dvs)) (upd H1 e (ExcN C e)) (fun v H2=>v=.non∧Q (.ref e) H2) E
end
end L2
namespace L2
open PySem PySem.Spec PyProof.Rows
structure ClsFn (K:PySem.W.Frag) (C f:Addr) (name:Str):Prop where
  ga:PySem.W.specialIn K (.ref C) "__getattribute__" = some (some (.builtin "type.__getattribute__"))
  rd:PySem.W.readsIn K C (.type "type")=true
  fc:(match PySem.W.findCls K (.ref C) (.type "type") name with | some (.val v)=>some v | _=>none)=some (.ref f)
  kp:PySem.W.keepIn K (.ref f)=true
section
variable {X:Cx} {CX:CXT} {k:Nat} {f C:Addr} {fd:FuncData} {ps:List Str} {sp:Sp} {dvs:List V} {ds:List Value} {E:XK} {x m:Str} {p pos apos:Pos} {e o:Expr} {es:List Expr} {ta:TE} {t:TA}
end
section
variable {prog:Program} {w:World} {A:Around} {E:Value→Shared→Prop} {h:Heap} {g:Array GenState} {d:Drawn} {t:Nat} {os:OsState}
variable {nm q:Str} {C N:Addr} {bs bm:List Value} {hdct:Bool} {sn:List Str} {sub:List Value} {ab:Bool} {col:Option Bool} {dd:Option Addr} {k0 k1 k2 k3 k5:Option Value} {B newId nid initId inN:String} {bmN bmB:List Value}
end
end L2
namespace L2
open PySem PySem.Spec PyProof.Rows
section
variable {prog:Program} {w:World} {A:Around} {E:Value→Shared→Prop} {s:Shared} {K:PySem.W.Frag} {name:Str}
end
section
variable {X:Cx} {p pos apos:Pos} {e1 e2:Expr} {t:TA}
end
end L2
namespace L2
open PySem Builtin Builtin.ObjectAttr
section
variable {prog:Program} {w:World} {A:Around} {E:Value→Shared→Prop} {h:Heap} {g:Array GenState} {d:Drawn} {t:Nat} {os:OsState}
variable {nm q:Str} {C N x:Addr} {bs bm:List Value} {sn:List Str} {sub:List Value} {ab:Bool} {col:Option Bool} {dd:Option Addr} {k0 k1 k2 k3 k5:Option Value} {newId:String} {name:Str} {v:Value} {vs:Array Value}
end
end L2
namespace L2
open PySem Builtin Builtin.ObjectAttr
section
variable {prog:Program} {w:World} {A:Around} {E:Value→Shared→Prop} {h:Heap} {g:Array GenState} {d:Drawn} {t:Nat} {os:OsState} {a dx:Addr} {o:Obj} {v:Value}
  {nm q:Str} {C N:Addr} {bs bm:List Value} {sn:List Str} {sub:List Value} {ab:Bool} {col:Option Bool} {dd:Option Addr} {k0 k1 k2 k3 k5:Option Value} {newId:String} {mA:Str→Option Value} {name:Str}
end
end L2
namespace L2
open PySem Builtin Builtin.ObjectAttr
section
variable {prog:Program} {w:World} {A:Around} {E:Value→Shared→Prop} {h:Heap} {g:Array GenState} {d:Drawn} {t:Nat} {os:OsState} {a dx:Addr} {o:Obj} {v:Value}
  {nm q:Str} {C N:Addr} {bs bm:List Value} {sn:List Str} {sub:List Value} {ab:Bool} {col:Option Bool} {dd:Option Addr} {k0 k1 k2 k3 k5:Option Value} {newId:String} {mA:Str→Option Value} {name:Str}
end
end L2
namespace L2
open PySem Builtin Builtin.ObjectAttr
section
variable {prog:Program} {w:World} {A:Around} {E:Value→Shared→Prop} {h:Heap} {g:Array GenState} {d:Drawn} {t:Nat} {os:OsState} {a:Addr} {o:Obj}
  {nm q:Str} {C N:Addr} {bs bm:List Value} {sn:List Str} {sub:List Value} {ab:Bool} {col:Option Bool} {dd:Option Addr} {k0 k1 k2 k3 k5:Option Value} {newId:String}
end
end L2
namespace L2
open PySem PySem.Spec PyProof.Rows
abbrev bmV:List Value:=[.type "ValueError", .type "Exception", .type "BaseException", .type "object"]
structure ClsX (K:PySem.W.Frag) (C CA:Addr):Prop where
  obj:∃ (nm q:Str) (N:Addr) (bs:List Value) (sn:List Str) (sub:List Value) (ab:Bool) (col:Option Bool) (dd:Option Addr) (k0 k1 k2 k3 k5:Option Value),K.lookup C=some (excClassObj nm q C N bs (.ref CA::bmV) true sn sub ab col dd k0 k1 k2 k3 k5 "ValueError.__new__")
  set:PySem.W.findIn K (.ref C) "__setattr__" = some (some (.builtin "object.__setattr__"))
  ga:PySem.W.findIn K (.ref C) "__getattribute__" = some (some (.builtin "BaseException.__getattribute__"))
  gt:PySem.W.findIn K (.ref C) "__getattr__" = some none
  cl:PySem.W.findIn K (.ref C) "__class__" = some (some (.builtin "object.__class__"))
section
variable {C CA:Addr}
end
def XAt (H:Hp) (e C dx:Addr):Prop:=H e=some (ExcD C e dx)∨H e=some (ExcT C e dx)
section
variable {X:Cx} {pins:List (Addr × Obj)} {σ:St} {H:Hp} {s:Shared} {h':Heap} {e dx:Addr} {φ:Heap→Prop} {o1 o2:HO}
end
section
variable {X:Cx} {o e value:Expr} {f:Str} {pos pos' tpos:Pos} {ta tv:TE}
end
end L2
namespace L2
open PySem PySem.Spec PyProof.Rows
section
variable {X:Cx}
def rIsiX (K:PySem.W.Frag):List V→Hp→VK→Prop:=fun xs H Q=>∃ e C CA dx c b,xs=[.ref e,c]∧XAt H e C dx∧ClsX K C CA ∧
  ((∃ D,c=.ref D∧PySem.W.kitOne K (.ref C) (.ref D)=some b)∨(∃ T,c=.ty T∧PySem.W.kitOne K (.ref C) (.type T)=some b)∨∃ (tp:Addr) (Ds:List Addr),c=.ref tp∧H tp=some (.tup (Ds.map V.ref))∧PySem.W.kitAny K (.ref C) (Ds.map Value.ref)=some b)∧Q (.bl b) H
end
end L2
namespace L2
open PySem PySem.Spec PyProof.Rows
section
variable {X:Cx}
def FmV (v:V) (y:Str):Prop:=(∃ i:Int,v=.int i∧i.natAbs.log2 < 1920∧y=toString i)∨v=.str y∨(v=.non∧y = "None")
end
structure FunD (K:PySem.W.Frag) (x qual:Str) (st:Stmt) (f:Addr) (fd:FuncData) (dV:Value):Prop where
  ex:∃ (oc:Value) (od:Option Addr) (kV doc pm:Value) (an:Option Addr) (cdv ct:Value) (osl:Array (Option Value)),
    fd=PySem.W.fnOf x qual (defArgs st) (defBody st) (defScope st) dV kV doc pm an cdv ct∧K.lookup f=some ⟨oc,od,.func fd,osl⟩∧PySem.W.codeIn K cdv qual=true
  kp:PySem.W.keepIn K (.ref f)=true
section
variable {P:Program} {w:World} {K:PySem.W.Frag} {mg:Str→Option Value} {base:Heap} {dV:Value}
end
section
variable {K:PySem.W.Frag} {C D CA:Addr}
end
def Ex (H:Hp) (e C:Addr) (f:Str) (v:V):Prop:=∃ dx,H e=some (ExcD C e dx)∧H dx=some (.xd [(f,v)])
end L2
namespace L2
open PySem PySem.Spec PyProof.Rows
def Fly (h:Heap) (e C dx:Addr):Prop:=∃ vs,h.get? e=some (excObj C (some dx) vs)∧vs.size=6∧(vs[1]?=some .none∨∃ T oT ts,vs[1]?=some (.ref T)∧T ≠ e∧h.get? T=some oT∧oT.data=.fields ts∧ts[3]?=some .none)
structure Lft (fs:List Addr) (e:Addr) (h h':Heap):Prop where
  keep:∀ b o,h.get? b=some o→b ∉ fs→b ≠ e→h'.get? b=some o
  slot:∀ b o,h.get? b=some o→b ≠ e→∃ sl,h'.get? b=some { o with slots:=sl }
section
variable {M:Model} {A:Around} {E:Value→Shared→Prop} {s:Shared}
end
end L2
namespace L2
open PySem PySem.Spec PyProof.Rows
section
variable {P:Program} {w:World} {H:Hp} {h h':Heap} {fs:List Addr} {e C dx:Addr} {φ:Heap→Prop}
end
def CXr (P:Program) (w:World):CXT:=fun outer H s E e s'=>∃ e0 C dx H',e=.ref e0∧s'.os=s.os∧AllBare s'.gens∧Un (frs outer) [] H H' s.heap s'.heap∧HOk P w H' s'.heap∧H' e0=some (ExcT C e0 dx)∧Fly s'.heap e0 C dx∧E (.ref e0) (some dx) H'
section
variable {P:Program} {w:World} {K:PySem.W.Frag} {mg:Str→Option Value} {base:Heap} {N:List Str} {qual:Str} {scope:Scope} {f:Addr} {cd:Value} {A:Around} {outer:List Env} {s s1:Shared} {H H1:Hp} {E:XK} {pins:List (Addr × Obj)} {σ:St} {e C dx:Addr} {φ:Heap→Prop}
end
section
variable {X:Cx} {x:Expr} {te:TE} {pos:Pos}
end
end L2
namespace L2
open PySem PySem.Spec PyProof.Rows
section
variable {P:Program} {w:World} {K:PySem.W.Frag} {mg:Str→Option Value} {base:Heap} {N:List Str} {qual:Str} {scope:Scope} {f:Addr} {cd:Value} {A:Around} {outer:List Env} {s:Shared} {H:Hp} {E:XK}
end
section
variable {P:Program} {w:World} {K:PySem.W.Frag} {mg:Str→Option Value} {base:Heap} {dV:Value}
structure CalR (P:Program) (w:World) (K:PySem.W.Frag) (mg:Str→Option Value) (base:Heap) (n:Nat) (x:Str) (ps:List Str) (sp:Sp):Prop where
  ex:∃ (f:Addr) (fd:FuncData),FnOk P w K mg base (CXr P w) n f fd ps sp∧Binds K fd ps []∧PySem.W.keepIn K (.ref f)=true∧mg x=some (.ref f)
end
end L2
namespace L2
open PySem PySem.Spec PyProof.Rows
section
variable {M:Model} {A:Around} {E:Value→Shared→Prop}
end
section
variable {prog:Program} {w:World} {A:Around} {s:Shared} {env:Env} {R:Result→Shared→Prop}
end
abbrev Cx.marked (X:Cx) (e:Addr):Cx:={ X with A:=X.A.mark (some (.ref e)),calm:=false,xe:=fun _ _=>False }
section
variable {X:Cx} {pins:List (Addr × Obj)} {σ:St} {H:Hp} {s:Shared} {e:Addr}
end
end L2
namespace L2
open PySem PySem.Spec PyProof.Rows
def PSw (X:Cx) (EE:Ends→St→XK) (st:List Stmt) (t:TS):Prop :=
  ∀ (W:Value→Shared→Prop) (pins:List (Addr × Obj)) (s:Shared) (σ:St) (H:Hp) (D:Ends),(∀ H1 s1 ev s2,Inv X pins σ H1 s1→CXr X.prog X.w X.stack H1 s1 (EE D σ) ev s2→W ev s2)→Inv X pins σ H s→t D σ H →
    wpAny (model X.prog X.w) X.A (execs st X.env) (SP X pins D) W s
section
variable {X:Cx} {EE:Ends→St→XK} {n k:Nat} {x:Str} {ps:List Str} {sp:Sp} {e:Expr} {es:List Expr} {ta:TA} {p pos:Pos}
def Ends.un (D:Ends) (i:Nat):Ends:={ nx:=fun σ H=>D.nx (σ.set i none) H,rt:=D.rt,bk:=fun σ H=>D.bk (σ.set i none) H,ct:=fun σ H=>D.ct (σ.set i none) H }
def isBaseX (K:PySem.W.Frag) (CA:Addr):Prop:=∃ (nm q:Str) (N:Addr) (bs:List Value) (sn:List Str) (sub:List Value) (ab:Bool) (col:Option Bool) (dd:Option Addr) (k0 k1 k2 k3 k5:Option Value),K.lookup CA=some (excClassObj nm q CA N bs bmV true sn sub ab col dd k0 k1 k2 k3 k5 "ValueError.__new__")
end
end L2
namespace L2
open PySem PySem.Spec PyProof.Rows
section
variable {X:Cx} {e:Expr} {f:Str} {pos:Pos} {ta:TE}
end
end L2
namespace L2
open PySem PySem.Spec PyProof.Rows
def ItVT (K:PySem.W.Frag) (a:Addr) (xs:List V):It:=⟨fun i H=>SqT K H a xs∧i < xs.length,fun i H y H'=>H'=H∧xs.reverse[i]?=some y,fun i _=>xs.length≤i⟩
def ItVB (K:PySem.W.Frag) (c:Bool) (a:Addr) (xs:List V):It:=if c=true then ItV K a xs else ItVT K a xs
section
variable {X:Cx} {tg:Expr}
def iRevB (K:PySem.W.Frag) (tl:TE):TI:=fun σ H R=>tl σ H fun x H1=>∃ c a xs,x=.ref a∧SqB K c H1 a xs∧R (ItVB K c a xs) H1
end
end L2
namespace L2
open PySem PySem.Spec PyProof.Rows
set_option maxRecDepth 100000
section
variable {X:Cx}
def rRepT (K:PySem.W.Frag):R2:=fun x y H Q=>∃ a v k,x=.ref a∧y=.int k∧SqT K H a [v]∧0≤k∧k≤1000∧(k=1→Q (.ref a) H)∧(k ≠ 1→∀ p,H p=none→Q (.ref p) (upd H p (.tup (List.replicate k.toNat v))))
end
end L2
namespace L2
open PySem PySem.Spec PyProof.Rows
end L2
namespace L2
open PySem PySem.Spec PyProof.Rows
section
variable {M:Model} {A:Around} {E:Value→Shared→Prop}
end
section
variable {X:Cx} {EE:Ends→St→XK} {k:Nat} {m:Str} {ps:List Str} {sp:Sp} {e o:Expr} {es:List Expr} {ta:TE} {t:TA} {f C:Addr} {fd:FuncData} {apos pos:Pos}
end
end L2
namespace L2
open PySem PySem.Spec PyProof.Rows
def ItB (K:PySem.W.Frag) (c:Bool) (a:Addr):It:=if c=true then Itl K a else Itt K a
section
variable {X:Cx} {tg:Expr}
def iAny (K:PySem.W.Frag) (tl:TE):TI:=fun σ H R=>tl σ H fun x H1=>∃ c a,x=.ref a∧(∃ xs,SqB K c H1 a xs)∧R (ItB K c a) H1
end
end L2
namespace L2
open PySem PySem.Spec PyProof.Rows
section
variable {X:Cx} {pos:Pos}
def gLst (K:PySem.W.Frag) (n:Nat) (t:TGs):TG:=fun v σ H Q=>∃ a xs,v=.ref a∧SqL K H a xs∧xs.length=n∧t xs σ H Q
theorem pg_lst {es:List Expr} {k:Nat} {t:TGs} {n:Nat} (hc:X.calm=true) (h:PGs X es t)
    (hn:(assignEach es X.env).length=n:=by rfl) (hst:(assignEach es X.env).findIdx? (·.1)=none:=by rfl):PG X (.Tuple es k pos) (gLst X.K n t):=by
  intro pins s σ H v u Q I r hw
  obtain ⟨a,xs,e1,hq,hl,hw⟩:=hw
  subst e1
  cases r
  obtain ⟨its,rv,ht,hz⟩:=I.list hq
  rw [assign_Tuple]
  refine wpAny_bind (wpAny_standAt ?_)
  unfold unpack
  rw [show (assignEach es X.env).length=its.toArray.size by simp [hn,← hl,rv.length],hst]
  refine wpAny_bind (wpAny_holding (PySem.W.kun_itemsOf (I.ok.hd hc) ht.isList fun h' hx=>?_))
  have I1:Inv X pins σ H { s with heap:=h' }:=I.kept (t':=s.toks) fun b o e=>hx b o (Nat.ne_of_lt (Heap.lt_size e)) e
  exact h pins _ σ H xs _ Q I1 (by simpa using rv) hw
end
end L2
namespace L2
open PySem PySem.Spec PyProof.Rows
section
variable {X:Cx}
def min3 (i j k:Int):Int:=if j < i then (if k < j then k else j) else (if k < i then k else i)
theorem vals3 {x y z:V} {us:List Value} (r:Vals [x,y,z] us):∃ u w' v,us=[u,w',v]∧RelV x u∧RelV y w'∧RelV z v:=by
  cases r with
  | cons r1 r2 =>
    obtain ⟨u,v,rfl,r3,r4⟩:=vals2 r2
    exact ⟨_,_,_,rfl,r1,r3,r4⟩
theorem call_min3 (hc:X.calm=true):CallR X (.builtin "min") (fun xs H Q=>∃ i j k,xs=[.int i,.int j,.int k]∧Q (.int (min3 i j k)) H):=by
  intro pins s σ H xs us Q I r h
  obtain ⟨i,j,k,rfl,q⟩:=h
  obtain ⟨u,w',v,rfl,⟨t,rfl⟩,⟨t',rfl⟩,⟨t'',rfl⟩⟩:=vals3 r
  refine min_three_ints (I.ok.hd hc) fun h' tk kk=>⟨_,H,I.kept kk,?_,q⟩
  unfold min3
  split <;> split <;> exact ⟨_,rfl⟩
end
end L2
namespace Mine
def Pr (n:Int):Prop:=2≤n∧∀ k:Int,2≤k→k≤1000→k*k≤n→n % k ≠ 0
def PrUpTo (n:Int) (j:Int):Prop:=∀ k:Int,2≤k→k < j→k*k≤n∧n % k ≠ 0
theorem sq_le {a b:Int} (h0:0≤a) (h:a≤b):a*a≤b*b:=Int.mul_le_mul h h h0 (Int.le_trans h0 h)
theorem pr_big {n k:Int} (h2:2≤n) (h0:2≤k) (u:PrUpTo n k) (h:n < k*k):Pr n:=by
  refine ⟨h2,fun j j2 _ js=>?_⟩
  by_cases c:j < k
  · exact (u j j2 c).2
  · have:=sq_le (a:=k) (b:=j) (by omega) (by omega)
    omega
theorem pr_all {n:Int} (h2:2≤n) (u:PrUpTo n 1001):Pr n:=⟨h2,fun j j2 j3 _=>(u j j2 (by omega)).2⟩
theorem pr_not {n k:Int} (h0:2≤k) (h1:k≤1000) (hs:k*k≤n) (h:n % k=0):¬ Pr n:=fun p=>p.2 k h0 h1 hs h
theorem upTo_start (n:Int):PrUpTo n 2:=fun k a b=>by omega
theorem upTo_next {n k:Int} (u:PrUpTo n k) (hs:k*k≤n) (h:n % k ≠ 0):PrUpTo n (k+1):=fun j a b=>by
  by_cases c:j < k
  · exact u j a c
  · have e:j=k:=by omega
    subst e; exact ⟨hs,h⟩
def prB (n:Int):Bool:=decide (2≤n) && (List.range 999).all fun i=>decide (n < ((i:Int)+2)*((i:Int)+2)) || decide (n % ((i:Int)+2) ≠ 0)
theorem pr_of_b {n:Int} (h:prB n=true):Pr n:=by
  unfold prB at h
  rw [Bool.and_eq_true] at h
  refine ⟨of_decide_eq_true h.1,fun k k2 k3 ks=>?_⟩
  have q:=List.all_eq_true.mp h.2 (k.toNat - 2) (List.mem_range.mpr (by omega))
  have e:(((k.toNat - 2:Nat):Int)+2)=k:=by omega
  rw [e,Bool.or_eq_true] at q
  rcases q with q | q
  · have:=of_decide_eq_true q; omega
  · exact of_decide_eq_true q
theorem pr_999983:Pr 999983:=pr_of_b (by decide +kernel)
def Cop (x y:Int):Prop:=∀ d:Int,0 < d→d ∣ x→d ∣ y→d=1
structure Eu (a p former ff rest f:Int):Prop where
  r0:0 < rest
  rp:rest < p
  fr:rest < former
  f0:0≤f
  f1:f < p
  g0:0≤ff
  g1:ff < p
  cop:Cop former rest
  d1:p ∣ former - a*ff
  d2:p ∣ rest - a*f
end Mine
namespace Mine
def OddUp (n d:Int):Prop:=∀ k:Int,3≤k→k % 2=1→k < d→n % k ≠ 0
theorem odd_start (n:Int):OddUp n 3:=fun k a _ c=>by omega
theorem odd_next {n d:Int} (u:OddUp n d) (hd:d % 2=1) (h:n % d ≠ 0):OddUp n (d+2):=fun k a b c=>by
  by_cases e:k < d
  · exact u k a b e
  · have:k=d:=by omega
    subst this; exact h
theorem field_yes {n d:Int} (h3:3≤n) (h2:n % 2 ≠ 0) (h0:3≤d) (u:OddUp n d) (hd:n < d*d):Pr n:=by
  refine ⟨by omega,fun k k2 k3 ks z=>?_⟩
  obtain ⟨q,hq⟩:=Int.dvd_of_emod_eq_zero z
  by_cases e:k % 2=1
  · by_cases c:k < d
    · exact u k (by omega) e c z
    · have:=sq_le (a:=d) (b:=k) (by omega) (by omega)
      omega
  · obtain ⟨j,hj⟩:∃ j,k=2*j:=⟨k / 2,by omega⟩
    rw [hj,Int.mul_assoc] at hq
    omega
theorem field_no2 {n:Int} (h2:n % 2=0) (h3:2 < n):¬ Pr n:=fun p=>p.2 2 (by omega) (by omega) (by omega) h2
theorem field_nod {n d:Int} (h9:n≤999999) (h0:3≤d) (hs:d*d≤n) (h:n % d=0):¬ Pr n:=fun p=>by
  have t:d≤1000:=by
    by_cases c2:1001≤d
    · have:=sq_le (a:=1001) (b:=d) (by omega) c2
      omega
    · omega
  exact p.2 d (by omega) t hs h
theorem small_root {n d:Int} (h9:n≤999999) (h0:3≤d) (hs:d*d≤n):d≤999:=by
  by_cases c2:1000≤d
  · have:=sq_le (a:=1000) (b:=d) (by omega) c2
    omega
  · omega
theorem root_le {n d:Int} (h0:3≤d) (hs:d*d≤n):d≤n:=by
  have:=Int.mul_le_mul_of_nonneg_left (show (1:Int)≤d by omega) (show (0:Int)≤d by omega)
  omega
end Mine
namespace Mine
def setts:Nat→List (List Int)
  | 0=>[[]]
  | n+1=>(setts n).flatMap fun s=>[s++[0],s++[1]]
def byTwos (k:Int):Nat→List Int
  | 0=>[]
  | j+1=>(k / 2 ^ j % 2)::byTwos k j
end Mine
namespace Mine
def Pm (p:Int):Prop:=1 < p∧∀ a:Int,¬ p ∣ a→∃ f:Int,p ∣ f*a - 1
def ch:Nat→Nat→Nat
  | _,0=>1
  | 0,_+1=>0
  | n+1,k+1=>ch n k+ch n (k+1)
def sm (f:Nat→Int):Nat→Int
  | 0=>0
  | n+1=>sm f n+f n
def IsPoly:Nat→(Int→Int)→Prop
  | 0,f=>∀ x,f x=0
  | n+1,f=>∃ (a:Int) (g:Int→Int),IsPoly n g∧∀ x,f x=a+x*g x
end Mine
namespace Mine
def pr (g:Nat→Int):Nat→Int
  | 0=>1
  | n+1=>pr g n*g n
def px (x:Int) (i:Nat):Nat→Int
  | 0=>1
  | n+1=>if n=i then px x i n else px x i n*(x - n)
def lag (v u:Nat→Int) (n:Nat) (x:Int):Int:=sm (fun i=>v i*px x i n*u i) n
def Wgt (p:Int) (n:Nat) (u:Nat→Int):Prop:=∀ i,i < n→p ∣ px (i:Int) i n*u i - 1
def fac:Nat→Int
  | 0=>1
  | n+1=>fac n*((n:Int)+1)
end Mine
namespace Mine
def fnd (g:Nat→Bool) (i:Nat):List Int:=((List.range i).filter g).map fun k:Nat=>(k:Int)
def pRt (x:Int):List Int→Int
  | []=>1
  | r::rs=>(x - r)*pRt x rs
def pRm (p x:Int):Int→List Int→Int
  | a,[]=>a
  | a,r::rs=>pRm p x (a*(x - r) % p) rs
end Mine
namespace Mine
end Mine
namespace Mine
open PySem L2
theorem len1 {us:List Value} (h:us.length=1):∃ a,us=[a]:=by
  cases us with
  | nil=>cases h
  | cons a r =>
    cases r with
    | nil=>exact ⟨a,rfl⟩
    | cons _ _=>cases h
theorem lenS {us:List Value} {n:Nat} (h:us.length=n+1):∃ a r,us=a::r∧r.length=n:=by
  cases us with
  | nil=>cases h
  | cons a r=>exact ⟨a,r,rfl,Nat.succ.inj h⟩
theorem len2 {us:List Value} (h:us.length=2):∃ a b,us=[a,b]:=by
  obtain ⟨a,r,rfl,h1⟩:=lenS h
  obtain ⟨b,rfl⟩:=len1 h1
  exact ⟨a,b,rfl⟩
theorem len3 {us:List Value} (h:us.length=3):∃ a b c,us=[a,b,c]:=by
  obtain ⟨a,r,rfl,h1⟩:=lenS h
  obtain ⟨b,c,rfl⟩:=len2 h1
  exact ⟨a,b,c,rfl⟩
theorem len4 {us:List Value} (h:us.length=4):∃ a b c d,us=[a,b,c,d]:=by
  obtain ⟨a,r,rfl,h1⟩:=lenS h
  obtain ⟨b,c,d,rfl⟩:=len3 h1
  exact ⟨a,b,c,d,rfl⟩
theorem len5 {us:List Value} (h:us.length=5):∃ a b c d e,us=[a,b,c,d,e]:=by
  obtain ⟨a,r,rfl,h1⟩:=lenS h
  obtain ⟨b,c,d,e,rfl⟩:=len4 h1
  exact ⟨a,b,c,d,e,rfl⟩
theorem len6 {us:List Value} (h:us.length=6):∃ a b c d e f,us=[a,b,c,d,e,f]:=by
  obtain ⟨a,r,rfl,h1⟩:=lenS h
  obtain ⟨b,c,d,e,f,rfl⟩:=len5 h1
  exact ⟨a,b,c,d,e,f,rfl⟩
theorem len7 {us:List Value} (h:us.length=7):∃ a b c d e f g,us=[a,b,c,d,e,f,g]:=by
  obtain ⟨a,r,rfl,h1⟩:=lenS h
  obtain ⟨b,c,d,e,f,g,rfl⟩:=len6 h1
  exact ⟨a,b,c,d,e,f,g,rfl⟩
def top (i:Nat):Stmt:=PySem.Challenge.pw_asktally_k35_two_hundred_rows.main.body.getD i (.Pass ⟨0,0,0,0⟩)
abbrev s__wall:Stmt:=top 0
abbrev s_is_field:Stmt:=top 2
abbrev s_inverse_of:Stmt:=top 3
abbrev s_value_at:Stmt:=top 5
abbrev s_value_behind:Stmt:=top 6
abbrev s_products:Stmt:=top 7
abbrev s_inverse_factorials:Stmt:=top 8
abbrev s_all_settings:Stmt:=top 10
abbrev s_holds_at:Stmt:=top 11
abbrev s_joined:Stmt:=top 12
abbrev s_count_of:Stmt:=top 13
abbrev s_trees_within:Stmt:=top 14
abbrev s_names_in:Stmt:=top 15
abbrev s_counts_of:Stmt:=top 17
abbrev s_true_row:Stmt:=top 18
abbrev s_value_of:Stmt:=top 22
abbrev s_op_value:Stmt:=top 23
abbrev s_divided:Stmt:=top 24
abbrev s_worth_of:Stmt:=top 35
abbrev s_joined_worth:Stmt:=top 36
abbrev s_degree_of:Stmt:=top 40
abbrev s_look_switches:Stmt:=top 41
abbrev s_look_names:Stmt:=top 42
abbrev s_look_field:Stmt:=top 43
abbrev s_look_size:Stmt:=top 44
abbrev s_l_feed:Stmt:=top 46
abbrev s_l_take:Stmt:=top 47
abbrev s_l_names:Stmt:=top 48
abbrev s_l_is_prime:Stmt:=top 49
abbrev s_l_helper:Stmt:=top 50
abbrev s_l_due:Stmt:=top 51
abbrev s_law:Stmt:=top 52
section
variable {P:Program} {w:World} {K:PySem.W.Frag} {mg:Str→Option Value} {base:Heap}
abbrev s_asking:Stmt:=top 20
abbrev s_machine:Stmt:=top 27
abbrev s_game:Stmt:=top 39
structure Bl (mg:Str→Option Value):Prop where
  len:mg "len" = none
  range:mg "range" = none
  isinstance:mg "isinstance" = none
  int:mg "int" = none
  list:mg "list" = none
  tuple:mg "tuple" = none
  max:mg "max" = none
  min:mg "min" = none
  enumerate:mg "enumerate" = none
theorem feedB (z:Int):0≤z % 2147483646+1∧z % 2147483646+1≤2147483646:=by omega
theorem sc_l_feed:FnScope ["_law_script", "_law_k", "_law_cell", "_law_own"] ["_law_script", "_law_k"] (defScope s_l_feed):=⟨rfl,rfl,rfl,by decide +kernel,rfl,by decide +kernel,by decide +kernel⟩
theorem ok_l_feed {f:Addr} {fd:FuncData} (F:Fun K "_law_feed" "_law_feed" s_l_feed f fd) (hlen:mg "len" = none):FnOk P w K mg base CX0 1 f fd ["_law_script", "_law_k"] (spFeed K):=by
  refine F.ok sc_l_feed (fun vs H Q E h=>?_) (fun cdv A outer s H vs Q E hr h=>?_)
  · obtain ⟨a,ns,k,rfl,_⟩:=h
    rfl
  obtain ⟨a,ns,k,rfl,hS,h63,k0,k1,q⟩:=h
  refine ⟨_,(pss_cons (ps_set (i:=2) sc_l_feed.nd rfl (Or.inl rfl) (pe_op op_add (pe_op op_mul pe_int (pv 1)) pe_int))
      (pss_cons (ps_if (pt_cmpR op_lt (pv 1) (pe_callB call_len_seq rfl hlen PySem.boot_len (pa_cons (pv 0) pa_nil)) (nomark _)) (pss_one (ps_set (i:=2) sc_l_feed.nd rfl (Or.inl rfl) (pe_ix ix_list (pv 0) (pv 1) (fun _ _=>rfl)))) (pss_one (ps_if (pt_cmpR op_gt (pe_callB call_len_seq rfl hlen PySem.boot_len (pa_cons (pv 0) pa_nil)) pe_int (nomark _)) (pss_one (ps_set (i:=2) sc_l_feed.nd rfl (Or.inl rfl) (pe_op op_add (pe_op op_mul (pe_op op_mod (pe_ix ix_list (pv 0) (pe_op op_mod (pv 1) (pe_callB call_len_seq rfl hlen PySem.boot_len (pa_cons (pv 0) pa_nil))) (fun _ _=>rfl)) pe_int) pe_int) (pe_op op_mul pe_int (pv 1))))) pss_nil)))
      (pss_cons (ps_set (i:=3) sc_l_feed.nd rfl (Or.inl rfl) pe_int)
      (pss_cons (ps_if (pt_cmpR op_ge (pv 2) (pe_op op_pow pe_int pe_int) (nomark _)) (pss_one (ps_set (i:=3) sc_l_feed.nd rfl (Or.inl rfl) (pv 2))) pss_nil)
      (pss_one (ps_ret (pe_lst (pa_cons (pv 3) (pa_cons (pe_op op_add (pe_op op_mod (pe_op op_add (pe_op op_mul (pe_op op_mod (pv 2) pe_int) pe_int) (pe_op op_mul pe_int (pv 1))) pe_int) pe_int) pa_nil))))))))),?_⟩
  have hl:(ns.map V.int).length=ns.length:=List.length_map _
  have hp:(10:Int) ^ (18:Int).toNat=1000000000000000000:=by decide
  refine ⟨_,rfl,_,_,rfl,rfl,.inl ⟨by decide,by decide⟩,_,_,rfl,rfl,?_⟩
  refine ⟨_,rfl,_,rfl,a,_,rfl,.inl hS,_,_,rfl,rfl,_,rfl,?_⟩
  refine ite2 (fun c=>?b1) (fun c=>?b2)
  case' b1 =>
    have c':k < (((ns.map V.int).length:Nat):Int):=of_decide_eq_true c
    rw [hl] at c'
    obtain ⟨v,hv⟩:=at_int (ns:=ns) k0 c'
    refine ⟨_,rfl,_,rfl,a,_,_,_,rfl,rfl,hS,hv,?_⟩
  case' b2 =>
    refine ⟨_,rfl,a,_,rfl,.inl hS,_,_,rfl,rfl,_,rfl,?_⟩
    refine ite2 (fun c2=>?b3) (fun c2=>?b4)
    case' b3 =>
      have c':(0:Int) < (((ns.map V.int).length:Nat):Int):=of_decide_eq_true c2
      have m0:=Int.emod_nonneg k (b:=(((ns.map V.int).length:Nat):Int)) (by omega)
      have m1:=Int.emod_lt_of_pos k c'
      obtain ⟨v,hv⟩:=at_int (ns:=ns) m0 (by rw [hl] at m1 ⊢; exact m1)
      have n0:=Int.emod_nonneg v (b:=2147483629) (by decide)
      have n1:=Int.emod_lt_of_pos v (b:=2147483629) (by decide)
      refine ⟨_,rfl,_,rfl,_,rfl,a,_,rfl,.inl hS,_,_,rfl,rfl,c',a,_,_,_,rfl,rfl,hS,hv,_,_,rfl,rfl,(by show (0:Int) < _; decide),_,_,rfl,rfl,.inr ⟨by decide,by decide⟩,_,rfl,_,_,rfl,rfl,.inl ⟨by decide,by decide⟩,_,_,rfl,rfl,?_⟩
  all_goals
    refine ⟨_,rfl,_,_,rfl,rfl,⟨by decide,by decide,by decide⟩,_,_,rfl,rfl,_,rfl,?_⟩
    refine ite2 (fun c3=>?_) (fun c3=>?_)
    · have c4:=of_decide_eq_true c3
      rw [hp] at c4
      refine ⟨_,rfl,_,rfl,_,rfl,_,_,rfl,rfl,(by show (0:Int) < _; decide),_,_,rfl,rfl,.inr ⟨by decide,by decide⟩,_,rfl,_,_,rfl,rfl,.inl ⟨by decide,by decide⟩,_,_,rfl,rfl,_,_,rfl,rfl,(by show (0:Int) < _; decide),_,_,rfl,rfl,(by show 2≤sizeLine; decide),fun p hp=>?_⟩
      refine q p _ hp (Same.new hp _) ⟨_,_,upd_same,Int.le_trans (by decide) c4,(feedB _).1,(feedB _).2⟩
    · refine ⟨_,rfl,_,rfl,_,_,rfl,rfl,(by show (0:Int) < _; decide),_,_,rfl,rfl,.inr ⟨by decide,by decide⟩,_,rfl,_,_,rfl,rfl,.inl ⟨by decide,by decide⟩,_,_,rfl,rfl,_,_,rfl,rfl,(by show (0:Int) < _; decide),_,_,rfl,rfl,(by show 2≤sizeLine; decide),fun p hp=>?_⟩
      refine q p _ hp (Same.new hp _) ⟨_,_,upd_same,Int.le_refl 0,(feedB _).1,(feedB _).2⟩
theorem sc_l_take:FnScope ["_law_feed_here", "_law_many", "_law_digit", "_law_one"] ["_law_feed_here", "_law_many"] (defScope s_l_take):=⟨rfl,rfl,rfl,by decide +kernel,rfl,by decide +kernel,by decide +kernel⟩
theorem ok_l_take {f:Addr} {fd:FuncData} (F:Fun K "_law_take" "_law_take" s_l_take f fd):FnOk P w K mg base CX0 1 f fd ["_law_feed_here", "_law_many"] spTake:=by
  refine F.ok sc_l_take (fun vs H Q E h=>?_) (fun cdv A outer s H vs Q E hr h=>?_)
  · obtain ⟨f,m,rfl,_⟩:=h
    rfl
  obtain ⟨f,m,rfl,⟨own,st,hf,o0,s0,s1⟩,m0,m1,q⟩:=h
  refine ⟨_,(pss_cons (ps_if (pt_cmpR op_gt (pe_ix ix_list (pv 0) pe_int (fun _ _=>rfl)) pe_int (nomark _)) (pss_cons (ps_set (i:=2) sc_l_take.nd rfl (Or.inl rfl) (pe_op op_mod (pe_ix ix_list (pv 0) pe_int (fun _ _=>rfl)) (pv 1)))
        (pss_cons (ps_asg (pe_op op_fdivL (pe_ix ix_list (pv 0) pe_int (fun _ _=>rfl)) (pv 1)) (pg_sub (pv 0) pe_int set_list))
        (pss_one (ps_ret (pv 2))))) pss_nil)
      (pss_cons (ps_set (i:=3) sc_l_take.nd rfl (Or.inl rfl) (pe_op op_mod (pe_op op_mul (pe_ix ix_list (pv 0) pe_int (fun _ _=>rfl)) pe_int) pe_int))
      (pss_cons (ps_asg (pe_op op_add (pe_op op_mod (pe_op op_add (pe_op op_mul (pv 3) pe_int) pe_int) pe_int) pe_int) (pg_sub (pv 0) pe_int set_list))
      (pss_one (ps_ret (pe_op op_mod (pe_op op_fdiv (pe_op op_add (pe_op op_mul (pv 3) pe_int) (pe_ix ix_list (pv 0) pe_int (fun _ _=>rfl))) pe_int) (pv 1))))))),?_⟩
  refine ⟨_,rfl,f,_,0,_,rfl,rfl,SqL.of hf,rfl,_,_,rfl,rfl,_,rfl,?_⟩
  refine ite2 (fun c=>?_) (fun c=>?_)
  · refine ⟨_,rfl,f,_,0,_,rfl,rfl,SqL.of hf,rfl,_,rfl,_,_,rfl,rfl,m0,?_⟩
    refine ⟨_,rfl,f,_,0,_,rfl,rfl,SqL.of hf,rfl,_,rfl,_,_,rfl,rfl,⟨m0,m1⟩,_,rfl,f,_,0,0,rfl,rfl,hf,rfl,?_⟩
    refine ⟨_,rfl,?_⟩
    exact q _ _ (Int.emod_nonneg _ (by omega)) (Int.emod_lt_of_pos _ m0) ⟨_,_,upd_same,Int.ediv_nonneg o0 (by omega),s0,s1⟩ (SameBut.upd _)
  · have a0:=Int.emod_nonneg (st*69621) (b:=2147483647) (by decide)
    have a1:=Int.emod_lt_of_pos (st*69621) (b:=2147483647) (by decide)
    refine ⟨_,rfl,f,_,1,_,rfl,rfl,SqL.of hf,rfl,_,_,rfl,rfl,.inr ⟨by decide,by decide⟩,_,_,rfl,rfl,(by show (0:Int) < _; decide),?_⟩
    refine ⟨_,rfl,_,_,rfl,rfl,.inr ⟨by decide,by decide⟩,_,_,rfl,rfl,_,_,rfl,rfl,(by show (0:Int) < _; decide),_,_,rfl,rfl,_,rfl,f,_,1,1,rfl,rfl,hf,rfl,?_⟩
    have b0:=Int.emod_nonneg (st*69621 % 2147483647*48271+30103) (b:=2147483646) (by decide)
    have b1:=Int.emod_lt_of_pos (st*69621 % 2147483647*48271+30103) (b:=2147483646) (by decide)
    refine ⟨_,rfl,_,_,rfl,rfl,.inr ⟨by decide,by decide⟩,_,rfl,f,_,1,_,rfl,rfl,SqL.of upd_same,rfl,_,_,rfl,rfl,_,_,rfl,rfl,⟨by decide,by decide⟩,_,rfl,_,_,rfl,rfl,m0,?_⟩
    exact q _ _ (Int.emod_nonneg _ (by omega)) (Int.emod_lt_of_pos _ m0) ⟨_,_,upd_same,o0,by omega,by omega⟩ (SameBut.upd _)
def ifBody:Stmt→List Stmt
  | .If _ b _ _=>b
  | _=>[]
def ifTest:Stmt→Expr
  | .If c _ _ _=>c
  | _=>.Constant .none 0 ⟨0,0,0,0⟩
def valOf:Stmt→Expr
  | .Assign _ v _=>v
  | .Return (some v) _=>v
  | _=>.Constant .none 0 ⟨0,0,0,0⟩
def eltsOf:Expr→List Expr
  | .List es _=>es
  | .BinOp _ _ (.List es _) _=>es
  | .Subscript (.List es _) _ _=>es
  | _=>[]
abbrev stm (s:Stmt) (i:Nat):Stmt:=(defBody s).getD i (.Pass ⟨0,0,0,0⟩)
abbrev stmI (s:Stmt) (i j:Nat):Stmt:=(ifBody (stm s i)).getD j (.Pass ⟨0,0,0,0⟩)
def wordsA:List Str:=["is", "set", "say", "if", "go", "end", "num", "box", "op", "field", "holds", "claims"]
def wordsB:List Str:=["nota", "nob", "yesx", "andy", "ors", "oddly"]
def wordsC:List Str:=["samey", "rounds", "dues", "coins", "truex", "asks"]
@[irreducible] def namesA:List Expr:=eltsOf (valOf (stmI s_l_names 6 0))
@[irreducible] def namesB:List Expr:=eltsOf (valOf (stmI s_l_names 6 1))
@[irreducible] def namesC:List Expr:=eltsOf (valOf (stmI s_l_names 6 2))
theorem namesA_w:Consts namesA wordsA:=by
  unfold namesA
  exact .cons (.cons (.cons (.cons (.cons (.cons (.cons (.cons (.cons (.cons (.cons (.cons .nil)))))))))))
theorem namesB_w:Consts namesB wordsB:=by
  unfold namesB
  exact .cons (.cons (.cons (.cons (.cons (.cons .nil)))))
theorem namesC_w:Consts namesC wordsC:=by
  unfold namesC
  exact .cons (.cons (.cons (.cons (.cons (.cons .nil)))))
theorem names_body:∃ p1 p2 p3 p4 p5 p6 p7 p8 p9 q1 q2 q3 q4 q5,defBody s_l_names=[stm s_l_names 0,stm s_l_names 1,stm s_l_names 2,stm s_l_names 3,stm s_l_names 4,stm s_l_names 5,
    .If (ifTest (stm s_l_names 6)) [.Assign [.Name "_law_words" p1] (.List namesA p2) p3,.Assign [.Name "_law_words" p4] (.BinOp (.Name "_law_words" p5) .Add (.List namesB p6) p7) p8,.Assign [.Name "_law_words" p9] (.BinOp (.Name "_law_words" q1) .Add (.List namesC q2) q3) q4,stmI s_l_names 6 3] [] q5,stm s_l_names 7] :=
  ⟨_,_,_,_,_,_,_,_,_,_,_,_,_,_,by with_unfolding_all rfl⟩
def LTR:Str := "bcdfghjklmnpqrstvwxz"
theorem ltr_na:∀ c ∈ LTR.cps.toList,c ≠ 97:=by decide +kernel
theorem ltr_ok:∀ c ∈ LTR.cps.toList,97≤c∧c≤122:=by decide +kernel
theorem words_ok:∀ x ∈ (wordsA++wordsB)++wordsC,x.length≤20∧(∀ c ∈ x.cps.toList,97≤c∧c≤122)∧x ≠ "aa" := by decide +kernel
def spNamesN:Sp:=fun vs H Q _=>∃ (f:Addr) (m:Int),vs=[.ref f,.int m]∧FeedAt H f∧0≤m∧m≤6∧∀ (l:Addr) (ns:List Str) (H':Hp),H l=none→l ≠ f→H' l=some (.lst (ns.map V.str))→ns.length=m.toNat→(∀ x ∈ ns,NmOk x)→ns.Nodup→FeedAt H' f→SameBut f H H'→Q (.ref l) H'
theorem words_out:∀ x ∈ (wordsA++wordsB)++wordsC,∃ c ∈ x.cps.toList,c ∉ LTR.cps.toList:=by decide +kernel
theorem ltr_inj:∀ a b:Fin 20,LTR.cps.toList[a.val]?=LTR.cps.toList[b.val]?→a=b:=by decide +kernel
theorem nd_names {ns:List Str} {t:Nat} {u:Int} (u0:0≤u) (u20:u < 20) (hl:ns.length≤6) (h:∀ (k:Nat) x,ns[k]?=some x→x.cps.toList[t]?=LTR.cps.toList[((u+7*(k:Int)) % 20).toNat]?):ns.Nodup:=by
  refine List.pairwise_iff_getElem.mpr fun i j hi hj ij e=>?_
  have h1:=h i _ (List.getElem?_eq_getElem hi)
  have h2:=h j _ (List.getElem?_eq_getElem hj)
  rw [e] at h1
  have h3:=h1.symm.trans h2
  have h4:=ltr_inj ⟨((u+7*(i:Int)) % 20).toNat,by omega⟩ ⟨((u+7*(j:Int)) % 20).toNat,by omega⟩ h3
  have h5:=congrArg Fin.val h4
  simp only at h5
  omega
theorem nd_set {ns:List Str} {x:Str} {j:Nat} (h:ns.Nodup) (hx:x ∉ ns):(ns.set j x).Nodup:=by
  refine List.pairwise_iff_getElem.mpr fun a b ha hb ab=>?_
  rw [List.length_set] at ha hb
  rw [List.getElem_set,List.getElem_set]
  split
  · split
    · omega
    · intro e
      exact hx (e ▸ List.getElem_mem hb)
  · split
    · intro e
      exact hx (e ▸ List.getElem_mem ha)
    · exact List.pairwise_iff_getElem.mp h a b ha hb ab
theorem at_get {α:Type} {l:List α} {i:Int} {v:α} (h0:0≤i) (h:atI l i=some v):l[i.toNat]?=some v:=by
  have ek:((i.toNat:Nat):Int)=i:=by omega
  by_cases c:i.toNat < l.length
  · have q:atI l ((i.toNat:Nat):Int)=some l[i.toNat]:=atI_nat (List.getElem?_eq_getElem c)
    rw [ek,h] at q
    rw [List.getElem?_eq_getElem c]
    exact q.symm
  · exfalso
    unfold atI ixN at h
    rw [if_pos h0,if_neg (by omega)] at h
    cases h
theorem sum_ones {zs:List Str} (h:∀ z ∈ zs,z.length=1∧∀ c ∈ z.cps.toList,c ∈ LTR.cps.toList):(zs.map (·.length)).sum=zs.length:=by
  induction zs with
  | nil=>rfl
  | cons a r ih =>
    rw [List.map_cons,List.sum_cons,ih fun z hz=>h z (List.mem_cons_of_mem _ hz),(h a List.mem_cons_self).1,List.length_cons]
    omega
theorem sc_l_names:FnScope ["_law_feed_here", "_law_many", "_law_letters", "_law_common", "_law_at", "_law_first", "_law_found", "_law_k", "_law_tail", "_law_sign", "_law_words"] ["_law_feed_here", "_law_many"] (defScope s_l_names):=⟨rfl,rfl,rfl,by decide +kernel,rfl,by decide +kernel,by decide +kernel⟩
theorem feed_upd {H:Hp} {f p:Addr} {o:HO} (F:FeedAt H f) (h:p ≠ f):FeedAt (upd H p o) f:=by
  obtain ⟨x,t,e,r⟩:=F
  exact ⟨x,t,by rw [upd_ne (Ne.symm h)]; exact e,r⟩
theorem ok_l_names {f:Addr} {fd:FuncData} (F:Fun K "_law_names" "_law_names" s_l_names f fd) (hrange:mg "range" = none) (C_l_take:Cal P w K mg base 1 "_law_take" ["_law_feed_here", "_law_many"] spTake):FnOk P w K mg base CX0 2 f fd ["_law_feed_here", "_law_many"] spNamesN:=by
  refine F.ok sc_l_names (fun vs H Q E h=>?_) (fun cdv A outer s H vs Q E hr h=>?_)
  · obtain ⟨f,m,rfl,_⟩:=h
    rfl
  obtain ⟨f,m,rfl,hF,m0,m6,q⟩:=h
  obtain ⟨p1,p2,p3,p4,p5,p6,p7,p8,p9,q1,q2,q3,q4,q5,ebody⟩:=names_body
  rw [ebody]
  refine ⟨_,(pss_cons (ps_set (i:=2) sc_l_names.nd rfl (Or.inr rfl) pe_str)
      (pss_cons (ps_set (i:=3) sc_l_names.nd rfl (Or.inl rfl) (pe_bm PySem.F.plainAttrs_str PySem.F.slot_str_join PySem.F.type_str_join mt_join pe_str (pa_cons (pe_comp (N:=["_law_letters", "_law_feed_here"]) (ix:=[2,0]) rfl
          (CompScope.two (by with_unfolding_all rfl) (by decide) rfl (by decide) rfl (by decide +kernel) (by first | exact Or.inl rfl | exact Or.inr rfl) (by with_unfolding_all rfl) (by with_unfolding_all rfl) (by with_unfolding_all rfl) (by with_unfolding_all rfl) rfl rfl (by with_unfolding_all rfl) rfl rfl) rfl
          (pi_range1 rfl hrange (pa_cons pe_int pa_nil))
          (fun _ _ _=>pb_all (pe_ix ix_str (pv 1) (pe_cal C_l_take hr (by decide) rfl (pa_cons (pv 2) (pa_cons pe_int pa_nil))) (fun _ _=>rfl)))) pa_nil)))
      (pss_cons (ps_set (i:=4) sc_l_names.nd rfl (Or.inl rfl) (pe_cal C_l_take hr (by decide) rfl (pa_cons (pv 0) (pa_cons pe_int pa_nil))))
      (pss_cons (ps_set (i:=5) sc_l_names.nd rfl (Or.inl rfl) (pe_cal C_l_take hr (by decide) rfl (pa_cons (pv 0) (pa_cons pe_int pa_nil))))
      (pss_cons (ps_set (i:=6) sc_l_names.nd rfl (Or.inl rfl) (pe_lst pa_nil))
      (pss_cons (ps_for PassesOwn.never rfl (pi_range1 rfl hrange (pa_cons (pv 1) pa_nil)) (pg_name (i:=7) sc_l_names.nd rfl (Or.inl rfl)) (pss_cons (ps_set (i:=8) sc_l_names.nd rfl (Or.inl rfl) (pe_op op_mod (pe_cal C_l_take hr (by decide) rfl (pa_cons (pv 0) (pa_cons (pe_op op_sub pe_int (pv 4)) pa_nil))) pe_int))
        (pss_cons (ps_set (i:=9) sc_l_names.nd rfl (Or.inl rfl) (pe_ix ix_str (pv 2) (pe_op op_mod (pe_op op_add (pv 5) (pe_op op_mul pe_int (pv 7))) pe_int) (fun _ _=>rfl)))
        (pss_one (ps_expr (pe_bm PySem.F.plainAttrs_list PySem.F.slot_list_append PySem.F.type_list_append mt_append (pv 6) (pa_cons (pe_op op_add_str (pe_op op_add_str (pe_slice sl_str (pv 3) po_none (po_some (pv 4))) (pv 9)) (pe_slice sl_str (pv 3) (po_some (pv 4)) (po_some (pe_op op_add (pv 4) (pv 8))))) pa_nil)))))))
      (pss_cons (ps_if (PW.pt (pw_and (pt_cmpR op_gt (pv 1) pe_int (nomark _)) (pw_and1 (pt_cmpR op_eq (pe_cal C_l_take hr (by decide) rfl (pa_cons (pv 0) (pa_cons pe_int pa_nil))) pe_int (nomark _))))) (pss_cons (ps_set (i:=10) sc_l_names.nd rfl (Or.inl rfl) (pe_lst (pa_consts namesA_w)))
        (pss_cons (ps_set (i:=10) sc_l_names.nd rfl (Or.inl rfl) (pe_op op_cat (pv 10) (pe_lst (pa_consts namesB_w))))
        (pss_cons (ps_set (i:=10) sc_l_names.nd rfl (Or.inl rfl) (pe_op op_cat (pv 10) (pe_lst (pa_consts namesC_w))))
        (pss_one (ps_asg (pe_ix ix_list (pv 10) (pe_cal C_l_take hr (by decide) rfl (pa_cons (pv 0) (pa_cons pe_int pa_nil))) (fun _ _=>rfl)) (pg_sub (pv 6) (pe_cal C_l_take hr (by decide) rfl (pa_cons (pv 0) (pa_cons (pv 1) pa_nil))) set_list)))))) pss_nil)
      (pss_one (ps_ret (pv 6)))))))))),?_⟩
  refine ⟨rfl,5,rfl,by decide,by decide,fun D hD=>?_⟩
  have Df:=hF.ne hD
  have L20:LTR.cps.toList.length=20:=by decide +kernel
  refine comp_range (fun i H'=>∃ zs:List Str,H' D=some (.lst (zs.map V.str))∧zs.length=i∧(∀ z ∈ zs,z.length=1∧∀ c ∈ z.cps.toList,c ∈ LTR.cps.toList)∧FeedAt H' f∧SameBut f H H') ⟨[],by rw [upd_same]; rfl,rfl,by simp,hF.same (Same.new hD _),SameBut.of (Same.new hD _)⟩ ?_ ?_
  · rintro i H3 hi ⟨zs,hl,zl,z1,F3,S3⟩
    have i5:i < 5:=hi
    refine ⟨_,rfl,_,rfl,f,20,rfl,F3,by decide,by decide,fun d H4 d0 d26 F4 S4=>?_⟩
    obtain ⟨c,hc,hm⟩:=at_in (l:=LTR.cps.toList) (i:=d) d0 (by rw [L20]; exact d26)
    have hD4:H4 D=some (.lst (zs.map V.str)):=S4 D _ Df hl
    refine ⟨_,d,c,rfl,rfl,small (by decide +kernel),hc,_,hD4,?_,Nx.of hi ⟨zs++[⟨#[c]⟩],?_,?_,?_,feed_upd F4 Df,?_⟩⟩
    · rw [List.length_map,zl]
      exact small1000 (Nat.le_of_lt (Nat.lt_trans i5 (by decide)))
    · rw [upd_same,List.map_append]
      rfl
    · rw [List.length_append,List.length_singleton,zl]
    · intro z hz
      rcases List.mem_append.mp hz with h | h
      · exact z1 z h
      · rw [List.mem_singleton.mp h]
        refine ⟨rfl,fun c' hc'=>?_⟩
        have:c'=c:=by simpa using hc'
        subst this
        exact hm
    · intro b o hb e
      rw [upd_ne (ne_of_none e hD)]
      exact S4 b o hb (S3 b o hb e)
  rintro H3 ⟨zs,hl,zl,z1,F3,S3⟩
  have sl:=sum_ones z1
  have zl5:zs.length=5:=zl
  refine ⟨_,D,zs,rfl,rfl,SqL.of hl,(by decide +kernel),by omega,?_⟩
  have jl:(Txt.join "" zs).length=5:=by
    have:=size_glued "" zs
    have e0:(("" : Str)).length=0:=by decide +kernel
    rw [e0,Nat.mul_zero] at this
    show (Builtin.Str.glued "" zs).length=5
    omega
  have jc:∀ c ∈ (Txt.join "" zs).cps.toList,c ∈ LTR.cps.toList:=fun c hc=>by
    obtain ⟨z,hz,h⟩:=mem_join0 hc
    exact (z1 z hz).2 c h
  generalize Txt.join "" zs=cm at jl jc
  refine ⟨_,rfl,f,6,rfl,F3,by decide,by decide,fun t H4 t0 t6 F4 S4=>?_⟩
  refine ⟨_,rfl,f,20,rfl,F4,by decide,by decide,fun u H5 u0 u20 F5 S5=>?_⟩
  refine ⟨(by show 0≤sizeLine; decide),fun L hL=>?_⟩
  have S05:SameBut f H H5:=S3.trans (S4.trans S5)
  have Lf:=F5.ne hL
  have L0:H L=none:=by
    cases e:H L with
    | none=>rfl
    | some o=>rw [S05 L o Lf e] at hL; cases hL
  refine ⟨_,rfl,m,rfl,by omega,by omega,for_range (fun i σ H'=>∃ (x7 x8 x9:Option V) (ns:List Str),σ=[some (.ref f),some (.int m),some (.str LTR),some (.str cm),some (.int t),some (.int u),some (.ref L),x7,x8,x9,none]∧H' L=some (.lst (ns.map V.str))∧ns.length=i∧(∀ x ∈ ns,NmOk x)∧(∀ x ∈ ns,∀ c ∈ x.cps.toList,c ∈ LTR.cps.toList)∧(∀ (k:Nat) x,ns[k]?=some x→x.cps.toList[t.toNat]?=LTR.cps.toList[((u+7*(k:Int)) % 20).toNat]?)∧FeedAt H' f∧SameBut f H H')
    ⟨_,_,_,[],rfl,by rw [upd_same]; rfl,rfl,by simp,by simp,by simp,F5.same (Same.new hL _),S05.trans (SameBut.of (Same.new hL _))⟩ ?_ ?_⟩
  · rintro i σ H6 hi ⟨x7,x8,x9,ns,rfl,hns,nl,nok,nlt,nat,F6,S6⟩
    refine ⟨_,rfl,_,rfl,_,_,rfl,rfl,f,_,rfl,F6,(Int.sub_pos_of_lt t6),(Int.lt_of_le_of_lt (Int.sub_le_self 6 t0) (by decide)),fun d H7 d0 d1 F7 S7=>?_⟩
    refine ⟨_,_,rfl,rfl,(by show (0:Int) < _; decide),?_⟩
    obtain ⟨c,hc,hm⟩:=at_in (l:=LTR.cps.toList) (i:=(u+7*(0+(i:Int))) % 20) (Int.emod_nonneg _ (by decide)) (by rw [L20]; exact Int.emod_lt_of_pos _ (by decide))
    refine ⟨_,rfl,_,rfl,_,rfl,_,_,rfl,rfl,?_,_,_,rfl,rfl,_,_,rfl,rfl,(by show (0:Int) < _; decide),_,_,c,rfl,rfl,small (by decide +kernel),hc,?_⟩
    · exact .inl ⟨by decide,by decide⟩
    have hL7:=S7 L _ Lf hns
    have z1:(Txt.slice cm none (some t)).length≤cm.length:=Txt.slice_le cm none (some t)
    have z2:(Txt.slice cm (some t) (some (t+d % 3))).length≤cm.length:=Txt.slice_le cm _ _
    have z3:((⟨#[c]⟩:Str)).length=1:=rfl
    refine ⟨_,rfl,.inl ⟨rfl,_,SqL.of hL7⟩,?_⟩
    refine ⟨_,rfl,_,rfl,_,rfl,_,rfl,small (by rw [jl]; decide),_,rfl,_,_,rfl,rfl,small (by rw [z3]; omega),?_⟩
    refine ⟨_,rfl,_,rfl,_,rfl,_,rfl,_,rfl,_,_,rfl,rfl,_,rfl,_,rfl,small (by rw [jl]; decide),_,_,rfl,rfl,small (by rw [Str.length_append,z3]; omega),?_⟩
    refine ⟨L,_,_,rfl,rfl,hL7,?_,?_⟩
    · rw [List.length_map]
      exact small1000 (by omega)
    refine ⟨_,_,_,ns++[(Txt.slice cm none (some t)++⟨#[c]⟩)++Txt.slice cm (some t) (some (t+d % 3))],rfl,?_,?_,?_,?_,?_,feed_upd F7 Lf,?_⟩
    · rw [upd_same,List.map_append]
      rfl
    · rw [List.length_append,List.length_singleton,nl]
    · intro x hx
      rcases List.mem_append.mp hx with h | h
      · exact nok x h
      · rw [List.mem_singleton.mp h]
        refine ⟨?_,fun c' hc'=>?_,fun ea=>?_⟩
        · rw [Str.length_append,Str.length_append,z3]
          omega
        rotate_left
        · have cm1:c ∈ (((Txt.slice cm none (some t)++⟨#[c]⟩)++Txt.slice cm (some t) (some (t+d % 3)):Str)).cps.toList:=by
            rw [Str.cps_append,Str.cps_append]
            simp
          rw [ea] at cm1
          exact ltr_na c hm ((by decide +kernel:∀ c ∈ (("aa" : Str)).cps.toList,c=97) c cm1)
        · rcases mem_append hc' with h | h
          · rcases mem_append h with h | h
            · exact ltr_ok _ (jc _ (mem_slice h))
            · have:c'=c:=by simpa using h
              subst this
              exact ltr_ok _ hm
          · exact ltr_ok _ (jc _ (mem_slice h))
    · intro x hx c' hc'
      rcases List.mem_append.mp hx with h | h
      · exact nlt x h c' hc'
      · rw [List.mem_singleton.mp h] at hc'
        rcases mem_append hc' with h | h
        · rcases mem_append h with h | h
          · exact jc _ (mem_slice h)
          · have:c'=c:=by simpa using h
            subst this
            exact hm
        · exact jc _ (mem_slice h)
    · intro k x hx
      by_cases ck:k < ns.length
      · rw [List.getElem?_append_left ck] at hx
        exact nat k x hx
      · have kl:k < (ns++[(Txt.slice cm none (some t)++⟨#[c]⟩)++Txt.slice cm (some t) (some (t+d % 3))]).length:=(List.getElem?_eq_some_iff.mp hx).1
        rw [List.length_append,List.length_singleton] at kl
        have ek:k=i:=by omega
        subst ek
        rw [List.getElem?_append_right (by omega),nl,Nat.sub_self] at hx
        have ex:(Txt.slice cm none (some t)++⟨#[c]⟩)++Txt.slice cm (some t) (some (t+d % 3))=x:=Option.some.inj hx
        rw [← ex]
        have cl:cm.cps.toList.length=5:=jl
        have es:Txt.slice cm none (some t)=⟨((cm.cps.toList.drop 0).take (t - 0).toNat).toArray⟩:=StrLaws.sliceText_to ⟨t0,by omega⟩
        have el:(Txt.slice cm none (some t)).cps.toList.length=t.toNat:=by
          rw [es]
          simp only [List.drop_zero,Int.sub_zero,List.length_take]
          omega
        have ea:((Txt.slice cm none (some t)++⟨#[c]⟩)++Txt.slice cm (some t) (some (t+d % 3))).cps.toList=(Txt.slice cm none (some t)).cps.toList++([c]++(Txt.slice cm (some t) (some (t+d % 3))).cps.toList):=by
          rw [Str.cps_append,Str.cps_append]
          simp
        rw [ea,List.getElem?_append_right (by omega),el,Nat.sub_self]
        have hc2:LTR.cps.toList[((u+7*(0+(k:Int))) % 20).toNat]?=some c:=at_get (Int.emod_nonneg _ (by decide)) hc
        rw [Int.zero_add] at hc2
        rw [hc2]
        rfl
    · intro b o hb e
      rw [upd_ne (ne_of_none e L0)]
      exact S7 b o hb (S6 b o hb e)
  · rintro σ H6 ⟨x7,x8,x9,ns,rfl,hns,nl,nok,nlt,nat,F6,S6⟩
    have nnd:ns.Nodup:=nd_names u0 u20 (by omega) nat
    refine ⟨_,rfl,_,_,rfl,rfl,_,rfl,?_⟩
    have fin:∀ H':Hp,∀ ns:List Str,H' L=some (.lst (ns.map V.str))→ns.length=m.toNat→(∀ x ∈ ns,NmOk x)→ns.Nodup→FeedAt H' f→SameBut f H H'→Q (.ref L) H':=fun H' ns a b c nd d e=>q L ns H' L0 Lf a b c nd d e
    by_cases c1:(0:Int) < m
    · refine iteD c1 ?_
      refine ⟨_,rfl,f,3,rfl,F6,by decide,by decide,fun d H7 d0 d1 F7 S7=>?_⟩
      refine ⟨rfl,_,rfl,?_⟩
      have hL7:=S7 L _ Lf hns
      refine ite2 (fun _=>?_) (fun _=>?_)
      · refine ⟨(by show 12≤sizeLine; decide),fun l1 h1=>?_⟩
        refine ⟨_,rfl,(by show 6≤sizeLine; decide),fun l2 h2=>?_⟩
        refine ⟨l1,l2,wordsA.map V.str,wordsB.map V.str,rfl,rfl,Same.new h2 _ _ _ upd_same,upd_same,(by show 18≤sizeLine; decide),fun l3 h3=>?_⟩
        refine ⟨_,rfl,(by show 6≤sizeLine; decide),fun l4 h4=>?_⟩
        refine ⟨l3,l4,wordsA.map V.str++wordsB.map V.str,wordsC.map V.str,rfl,rfl,Same.new h4 _ _ _ upd_same,upd_same,(by show 24≤sizeLine; decide),fun l5 h5=>?_⟩
        have G:=(Same.new h1 (.lst (wordsA.map V.str))).trans ((Same.new h2 (.lst (wordsB.map V.str))).trans ((Same.new h3 (.lst (wordsA.map V.str++wordsB.map V.str))).trans ((Same.new h4 (.lst (wordsC.map V.str))).trans (Same.new h5 (.lst ((wordsA.map V.str++wordsB.map V.str)++wordsC.map V.str))))))
        have F8:=F7.same G
        have n5:=(F7.same ((Same.new h1 (.lst (wordsA.map V.str))).trans ((Same.new h2 (.lst (wordsB.map V.str))).trans ((Same.new h3 (.lst (wordsA.map V.str++wordsB.map V.str))).trans (Same.new h4 (.lst (wordsC.map V.str))))))).ne h5
        refine ⟨_,rfl,_,rfl,f,24,rfl,F8,by decide,by decide,fun e H9 e0 e1 F9 S9=>?_⟩
        obtain ⟨v,hv,vm⟩:=at_in (l:=(wordsA.map V.str++wordsB.map V.str)++wordsC.map V.str) (i:=e) e0 (by
          have:((wordsA.map V.str++wordsB.map V.str)++wordsC.map V.str).length=24:=by rfl
          omega)
        rw [← List.map_append,← List.map_append] at vm
        obtain ⟨x,hx,rfl⟩:=List.mem_map.mp vm
        refine ⟨l5,_,e,_,rfl,rfl,SqL.of (S9 l5 _ n5 upd_same),hv,?_⟩
        refine ⟨_,rfl,_,rfl,_,rfl,f,m,rfl,F9,c1,by omega,fun j H10 j0 j1 F10 S10=>?_⟩
        have hL10:=S10 L _ Lf (S9 L _ Lf (G L _ hL7))
        refine ⟨L,_,j,j.toNat,rfl,rfl,hL10,?_,?_⟩
        · have jl:j < ((ns.map V.str).length:Int):=by rw [List.length_map]; omega
          unfold ixN
          rw [if_pos j0,if_pos jl]
        refine ⟨_,rfl,?_⟩
        refine fin _ (ns.set j.toNat x) (by rw [upd_same,List.map_set]) (by rw [List.length_set]; exact nl) ?_ ?_ (feed_upd F10 Lf) ?_
        · intro y hy
          rcases List.mem_or_eq_of_mem_set hy with h | h
          · exact nok y h
          · rw [h]
            exact words_ok x hx
        · refine nd_set nnd fun hm=>?_
          obtain ⟨c,c1,c2⟩:=words_out x hx
          exact c2 (nlt x hm c c1)
        · intro b o hb e'
          rw [upd_ne (ne_of_none e' L0)]
          exact S10 b o hb (S9 b o hb (G b o (S7 b o hb (S6 b o hb e'))))
      · refine ⟨_,rfl,?_⟩
        exact fin H7 ns hL7 nl nok nnd F7 (S6.trans S7)
    · refine iteDF c1 ?_
      refine iteF ?_
      refine ⟨_,rfl,?_⟩
      exact fin H6 ns hns nl nok nnd F6 S6
theorem keepT_lst {H:Hp} {b:Addr} {ys zs:List V} (h:H b=some (.lst ys)):∀ a xs,H a=some (.tup xs)→(upd H b (.lst zs)) a=some (.tup xs):=fun a xs e=>by
  rw [upd_ne]
  · exact e
  · intro z
    rw [z,h] at e
    cases e
theorem at0 (x:V) (xs:List V):atI (x::xs) 0=some x:=atI_nat (j:=0) rfl
theorem namesL_take {ts:List Tr} {i:Nat} {u:Tr} (h:ts[i]?=some u):namesL (ts.take (i+1))=namesL (ts.take i)++u.names:=by
  unfold namesL
  rw [List.take_add_one,h,List.map_append,List.flatten_append]
  simp
theorem namesL_len (ts:List Tr):(namesL ts).length≤sizes ts:=by
  induction ts with
  | nil=>simp [namesL,sizes]
  | cons a r ih =>
    have:=a.names_len
    simp only [namesL,sizes,List.map_cons,List.flatten_cons,List.length_append,List.sum_cons] at ih ⊢
    omega
theorem sizes_take (ts:List Tr) (i:Nat):sizes (ts.take i)≤sizes ts:=by
  induction ts generalizing i with
  | nil=>simp
  | cons a r ih =>
    cases i with
    | zero=>simp [sizes]
    | succ i =>
      have:=ih i
      simp only [sizes,List.take_succ_cons,List.map_cons,List.sum_cons] at this ⊢
      omega
theorem count_strs (ns:List Str) (z:Str):((ns.map V.str).countP fun y=>eqV y (.str z))=ns.count z:=by
  rw [List.countP_map]
  rfl
def spPrimeB:Sp:=fun vs H Q _=>∃ n:Int,vs=[.int n]∧∀ b:Bool,(b=true↔Pr n)→Q (.bl b) H
theorem sc_l_is_prime:FnScope ["_law_number", "_law_k"] ["_law_number"] (defScope s_l_is_prime):=⟨rfl,rfl,rfl,by decide +kernel,rfl,by decide +kernel,by decide +kernel⟩
theorem ok_l_is_prime {f:Addr} {fd:FuncData} (F:Fun K "_law_is_prime" "_law_is_prime" s_l_is_prime f fd) (hrange:mg "range" = none):FnOk P w K mg base CX0 1 f fd ["_law_number"] spPrimeB:=by
  refine F.ok sc_l_is_prime (fun vs H Q E h=>?_) (fun cdv A outer s H vs Q E hr h=>?_)
  · obtain ⟨n,rfl,_⟩:=h
    rfl
  obtain ⟨n,rfl,q⟩:=h
  refine ⟨_,(pss_cons (ps_if (pt_cmpR op_lt (pv 0) pe_int (nomark _)) (pss_one (ps_ret pe_bl)) pss_nil)
      (pss_cons (ps_for PassesOwn.never rfl (pi_range2 rfl hrange (pa_cons pe_int (pa_cons pe_int pa_nil))) (pg_name (i:=1) sc_l_is_prime.nd rfl (Or.inl rfl)) (pss_cons (ps_if (pt_cmpR op_gt (pe_op op_mul (pv 1) (pv 1)) (pv 0) (nomark _)) (pss_one (ps_ret pe_bl)) pss_nil)
        (pss_one (ps_if (pt_cmpR op_eq (pe_op op_mod (pv 0) (pv 1)) pe_int (nomark _)) (pss_one (ps_ret pe_bl)) pss_nil))))
      (pss_one (ps_ret pe_bl)))),?_⟩
  refine ⟨_,rfl,_,_,rfl,rfl,_,rfl,?_⟩
  refine ite2 (fun c=>?_) (fun c=>?_)
  · have c':=of_decide_eq_true c
    exact q false ⟨fun z=>(nomatch z),fun z=>by have:=z.1; omega⟩
  have c':¬ n < 2:=of_decide_eq_false (Bool.eq_false_iff.mpr c)
  refine ⟨2,1001,rfl,⟨by decide,by decide,by decide,by decide⟩,for_range (fun i σ H'=>∃ x,σ=[some (.int n),x]∧H'=H∧PrUpTo n (2+(i:Int))) ⟨_,rfl,rfl,by simpa using upTo_start n⟩ ?_ ?_⟩
  · rintro i σ H' hi ⟨x,rfl,rfl,u⟩
    have hi':i < 999:=hi
    refine ⟨_,rfl,_,rfl,_,_,rfl,rfl,.inl ⟨by omega,by omega⟩,_,rfl,_,_,rfl,rfl,_,rfl,?_⟩
    refine ite2 (fun c1=>?_) (fun c1=>?_)
    · have c2:=of_decide_eq_true c1
      exact q true ⟨fun _=>pr_big (by omega) (by omega) u c2,fun _=>rfl⟩
    · have c2:=of_decide_eq_false (Bool.eq_false_iff.mpr c1)
      refine ⟨_,rfl,_,rfl,_,_,rfl,rfl,(show (0:Int) < 2+(i:Int) by omega),rfl,_,rfl,?_⟩
      refine ite2 (fun c3=>?_) (fun c3=>?_)
      · have c4:=V.int.inj (of_decide_eq_true c3)
        exact q false ⟨fun z=>(nomatch z),fun z=>(pr_not (by omega) (by omega) (by omega) c4 z).elim⟩
      · have c4:=of_decide_eq_false (Bool.eq_false_iff.mpr c3)
        refine ⟨_,rfl,rfl,?_⟩
        have e:(2:Int)+((i+1:Nat):Int)=2+(i:Int)+1:=by omega
        rw [e]
        exact upTo_next u (by omega) (fun z=>c4 (congrArg V.int z))
  · rintro σ H' ⟨x,rfl,rfl,u⟩
    exact q true ⟨fun _=>pr_all (by omega) u,fun _=>rfl⟩
def spWithin:Sp:=fun vs H Q _=>∃ (v:V) (t:Tr),vs=[v]∧TreeAt H v t∧t.wf∧∀ (p:Addr) (xs:List V) (H':Hp),Same H H'→H' p=some (.tup xs)→TreesAt H' xs t.parts→Q (.ref p) H'
theorem sc_trees_within:FnScope ["tree"] ["tree"] (defScope s_trees_within):=⟨rfl,rfl,rfl,by decide +kernel,rfl,by decide +kernel,by decide +kernel⟩
theorem ok_trees_within {f:Addr} {fd:FuncData} (F:Fun K "trees_within" "trees_within" s_trees_within f fd):FnOk P w K mg base CX0 1 f fd ["tree"] spWithin:=by
  refine F.ok sc_trees_within (fun vs H Q E h=>?_) (fun cdv A outer s H vs Q E hr h=>?_)
  · obtain ⟨v,t,rfl,_⟩:=h
    rfl
  obtain ⟨v,t,rfl,T,wf,q⟩:=h
  refine ⟨_,(pss_cons (ps_if (pt_cmpR op_eq (pe_ix ix_tup (pv 0) pe_int (fun _ _=>rfl)) pe_str (nomark _)) (pss_one (ps_ret (pe_tup pa_nil))) pss_nil)
      (pss_one (ps_ret (pe_slice sl_tup (pv 0) (po_some pe_int) po_none)))),?_⟩
  rcases T.view wf with ⟨a,x,rfl,rfl,_,e⟩ | ⟨a,o,xs,rfl,no,xl,e,TS,_⟩
  · refine ⟨_,rfl,a,_,0,_,rfl,rfl,SqT.of e,rfl,rfl,_,rfl,?_⟩
    refine iteD rfl ?_
    refine ⟨(by show 0≤sizeLine; decide),fun p hp=>?_⟩
    exact q p [] _ (Same.new hp _) upd_same .nil
  · refine ⟨_,rfl,a,_,0,.str o,rfl,rfl,SqT.of e,at0 ..,rfl,_,rfl,?_⟩
    refine iteDF (fun z=>no (by injection z)) ?_
    obtain ⟨c1,c2⟩:=cut1 (.str o) xs xl
    refine ⟨_,rfl,1,rfl,a,_,rfl,SqT.of e,c2,fun p hp=>?_⟩
    rw [c1]
    exact q p xs _ (Same.new hp _) upd_same (TS.mono (keepT_same (Same.new hp _)))
def spNamesIn (n:Nat):Sp:=fun vs H Q _=>∃ (v:V) (t:Tr),vs=[v]∧TreeAt H v t∧t.wf∧t.depth≤n∧t.size≤400∧∀ (l:Addr) (H':Hp),H l=none→Same H H'→H' l=some (.lst (t.names.map V.str))→Q (.ref l) H'
theorem sc_names_in:FnScope ["tree", "names", "part"] ["tree"] (defScope s_names_in):=⟨rfl,rfl,rfl,by decide +kernel,rfl,by decide +kernel,by decide +kernel⟩
theorem names_step {n:Nat} {f:Addr} {fd:FuncData} (F:Fun K "names_in" "names_in" s_names_in f fd) (C_trees_within:Cal P w K mg base 1 "trees_within" ["tree"] spWithin) (C_names_in:Cal P w K mg base (n+2) "names_in" ["tree"] (spNamesIn n)):FnOk P w K mg base CX0 (n+3) f fd ["tree"] (spNamesIn (n+1)):=by
  refine F.ok sc_names_in (fun vs H Q E h=>?_) (fun cdv A outer s H vs Q E hr h=>?_)
  · obtain ⟨v,t,rfl,_⟩:=h
    rfl
  obtain ⟨v,t,rfl,T,wf,dn,sz,q⟩:=h
  refine ⟨_,(pss_cons (ps_if (pt_cmpR op_eq (pe_ix ix_tup (pv 0) pe_int (fun _ _=>rfl)) pe_str (nomark _)) (pss_one (ps_ret (pe_lst (pa_cons (pe_ix ix_tup (pv 0) pe_int (fun _ _=>rfl)) pa_nil)))) pss_nil)
      (pss_cons (ps_set (i:=1) sc_names_in.nd rfl (Or.inl rfl) (pe_lst pa_nil))
      (pss_cons (ps_for PassesOwn.never rfl (pi_tup (pe_cal C_trees_within hr (by omega) rfl (pa_cons (pv 0) pa_nil))) (pg_name (i:=2) sc_names_in.nd rfl (Or.inl rfl)) (pss_one (ps_expr (pe_bm PySem.F.plainAttrs_list PySem.F.slot_list_extend PySem.F.type_list_extend mt_extend (pv 1) (pa_cons (pe_cal C_names_in hr (Nat.le_refl _) rfl (pa_cons (pv 2) pa_nil)) pa_nil)))))
      (pss_one (ps_ret (pv 1)))))),?_⟩
  have wf':=wf
  rcases T.view wf with ⟨a,x,rfl,rfl,_,e⟩ | ⟨a,o,xs0,rfl,no,xl0,e,_,nis⟩
  · refine ⟨_,rfl,a,_,0,_,rfl,rfl,SqT.of e,rfl,rfl,_,rfl,?_⟩
    refine iteD rfl ?_
    refine ⟨_,rfl,a,_,1,_,rfl,rfl,SqT.of e,rfl,(by show 1≤sizeLine; decide),fun p hp=>?_⟩
    exact q p _ hp (Same.new hp _) upd_same
  · refine ⟨_,rfl,a,_,0,.str o,rfl,rfl,SqT.of e,at0 ..,rfl,_,rfl,?_⟩
    refine iteDF (fun z=>no (by injection z)) ?_
    refine ⟨(by show 0≤sizeLine; decide),fun L hL=>?_⟩
    have G0:=Same.new hL (.lst [])
    refine ⟨_,rfl,_,t,rfl,T.mono (keepT_same G0),wf,fun p xs H1 S1 hp TS=>?_⟩
    have hL1:H1 L=some (.lst []):=S1 _ _ upd_same
    have pL:p ≠ L:=fun z=>by rw [z,hL1] at hp; cases hp
    have xl:=TS.length
    have sp:=t.size_parts
    refine ⟨p,rfl,⟨_,SqT.of hp⟩,for_tup (K:=K) (xs:=xs) (fun i σ H'=>∃ x2,σ=[some (.ref a),some (.ref L),x2]∧H' L=some (.lst ((namesL (t.parts.take i)).map V.str))∧SameBut L H1 H') ⟨_,rfl,hL1,SameBut.refl _ _⟩ (fun i σ H' _ hst=>by obtain ⟨_,_,_,h⟩:=hst; exact SqT.of (h _ _ pL hp)) ?_ ?_⟩
    · rintro i x σ H2 hx ⟨x2,rfl,hl,S2⟩
      obtain ⟨u,hu,Tu⟩:=TS.get hx
      have um:=List.mem_of_getElem? hu
      obtain ⟨uw,ud,us⟩:=Tr.parts_mem um wf
      have Tu2:TreeAt H2 x u:=Tu.mono fun b ys h=>S2 b _ (fun z=>by rw [z,hL1] at h; cases h) h
      refine ⟨_,rfl,.inl ⟨rfl,_,SqL.of hl⟩,_,rfl,x,u,rfl,Tu2,uw,by omega,by omega,fun l H3 l0 S3 hl3=>?_⟩
      have nl:=u.names_len
      have nl2:=namesL_len (t.parts.take i)
      have nl3:=sizes_take t.parts i
      refine ⟨L,l,_,_,rfl,rfl,S3 _ _ hl,hl3,?_,?_⟩
      · rw [List.length_map,List.length_map]
        exact small (by omega)
      refine ⟨_,rfl,?_,fun b o hb h=>?_⟩
      · rw [upd_same,namesL_take hu,List.map_append]
      · rw [upd_ne hb]
        exact S3 _ _ (S2 _ _ hb h)
    · rintro σ H2 ⟨x2,rfl,hl,S2⟩
      rw [xl,List.take_length,← t.names_parts nis] at hl
      refine ⟨_,rfl,?_⟩
      refine q L H2 hL (fun b o h=>?_) hl
      exact S2 b o (ne_of_none h hL) (S1 _ _ (G0 _ _ h))
theorem names_zero {f:Addr} {fd:FuncData}:FnOk P w K mg base CX0 2 f fd ["tree"] (spNamesIn 0):=by
  have no:∀ vs H Q E,¬ spNamesIn 0 vs H Q E:=fun vs H Q E h=>by
    obtain ⟨v,t,_,_,_,h1,_⟩:=h
    have:=t.depth_pos
    omega
  exact ⟨fun vs H Q E h=>absurd h (no vs H Q E),fun A outer s H args us vs Q E _ _ _ _ h=>absurd h (no vs H Q E)⟩
theorem ok_names_in {f:Addr} {fd:FuncData} (F:Fun K "names_in" "names_in" s_names_in f fd) (m:mg "names_in" = some (.ref f)) (C_trees_within:Cal P w K mg base 1 "trees_within" ["tree"] spWithin) :
    ∀ n:Nat,FnOk P w K mg base CX0 (n+2) f fd ["tree"] (spNamesIn n)
  | 0=>names_zero
  | n+1=>names_step F C_trees_within (Cal.of F (ok_names_in F m C_trees_within n) m (fun _ _ _ _ _ _ us hl=>by obtain ⟨u0,rfl⟩:=len1 hl; rfl))
def spField:Sp:=fun vs H Q _=>∃ n:Int,vs=[.int n]∧n≤999999∧∀ b:Bool,(b=true↔2 < n∧Pr n)→Q (.bl b) H
theorem sc_is_field:FnScope ["number", "divisor"] ["number"] (defScope s_is_field):=⟨rfl,rfl,rfl,by decide +kernel,rfl,by decide +kernel,by decide +kernel⟩
theorem ok_is_field {f:Addr} {fd:FuncData} (F:Fun K "is_field" "is_field" s_is_field f fd):FnOk P w K mg base CX0 1 f fd ["number"] spField:=by
  refine F.ok sc_is_field (fun vs H Q E h=>?_) (fun cdv A outer s H vs Q E hr h=>?_)
  · obtain ⟨n,rfl,_⟩:=h
    rfl
  obtain ⟨n,rfl,n9,q⟩:=h
  refine ⟨_,(pss_cons (ps_if (PW.pt (pw_or (pt_cmpR op_lt (pv 0) pe_int (nomark _)) (pw_or1 (pt_cmpR op_eq (pe_op op_mod (pv 0) pe_int) pe_int (nomark _))))) (pss_one (ps_ret pe_bl)) pss_nil)
      (pss_cons (ps_set (i:=1) sc_is_field.nd rfl (Or.inl rfl) pe_int)
      (pss_cons (ps_while PassesOwn.never (pt_cmpR op_le (pe_op op_mul (pv 1) (pv 1)) (pv 0) (nomark _)) (pss_cons (ps_if (pt_cmpR op_eq (pe_op op_mod (pv 0) (pv 1)) pe_int (nomark _)) (pss_one (ps_ret pe_bl)) pss_nil)
        (pss_one (ps_set (i:=1) sc_is_field.nd rfl (Or.inl rfl) (pe_op op_add (pv 1) pe_int)))))
      (pss_one (ps_ret pe_bl))))),?_⟩
  refine ⟨_,rfl,_,_,rfl,rfl,_,rfl,?_⟩
  by_cases c:n < 3
  · refine iteD c ?_
    refine iteT ?_
    exact q false ⟨fun z=>(nomatch z),fun z=>by omega⟩
  refine iteDF c ?_
  refine ⟨_,rfl,_,_,rfl,rfl,(by show (0:Int) < _; decide),rfl,_,rfl,?_⟩
  by_cases c2:n % 2=0
  · refine iteD (congrArg V.int c2) ?_
    exact q false ⟨fun z=>(nomatch z),fun z=>absurd z.2 (field_no2 c2 (by omega))⟩
  refine iteDF (fun z=>c2 (V.int.inj z)) ?_
  refine ⟨fun m σ H'=>∃ d:Int,σ=[some (.int n),some (.int d)]∧H'=H∧3≤d∧d≤1001∧d % 2=1∧OddUp n d∧m=(n+3 - d).toNat,⟨_,3,rfl,rfl,by omega,by omega,by omega,odd_start n,rfl⟩,?_⟩
  rintro m σ H' ⟨d,rfl,rfl,d3,d9,d2,u,rfl⟩
  refine ⟨_,rfl,_,rfl,_,_,rfl,rfl,.inl ⟨by omega,by omega⟩,_,rfl,_,_,rfl,rfl,_,rfl,?_⟩
  by_cases c3:d*d≤n
  · refine iteD c3 ?_
    have r1:=small_root n9 d3 c3
    have r2:=root_le d3 c3
    refine ⟨_,fun _ _ h=>h,?_⟩
    refine ⟨_,rfl,_,rfl,_,_,rfl,rfl,(show 0 < d by omega),rfl,_,rfl,?_⟩
    by_cases c4:n % d=0
    · refine iteD (congrArg V.int c4) ?_
      exact q false ⟨fun z=>(nomatch z),fun z=>absurd z.2 (field_nod n9 d3 c3 c4)⟩
    refine iteDF (fun z=>c4 (V.int.inj z)) ?_
    refine ⟨_,rfl,_,_,rfl,rfl,?_⟩
    exact ⟨_,by omega,d+2,rfl,rfl,by omega,by omega,by omega,odd_next u d2 c4,rfl⟩
  · refine iteDF c3 ?_
    exact q true ⟨fun _=>⟨by omega,field_yes (by omega) c2 d3 u (by omega)⟩,fun _=>rfl⟩
abbrev s_ginit:Stmt:=inClass s_game 0
abbrev s_gmix:Stmt:=inClass s_game 1
abbrev s_gworth:Stmt:=inClass s_game 2
abbrev s_gcoins:Stmt:=inClass s_game 3
def gf (a b:Addr) (p:Int) (d:Addr):List (Str × V):=putF "degrees" (.ref d) (putF "field" (.int p) (putF "trees" (.ref b) (putF "switches" (.ref a) [])))
theorem gf_sw (a b:Addr) (p:Int) (d:Addr):(gf a b p d).lookup ("switches" : Str)=some (.ref a):=by
  unfold gf
  rw [lookup_putF,if_neg (by decide +kernel),lookup_putF,if_neg (by decide +kernel),lookup_putF,if_neg (by decide +kernel),lookup_putF,if_pos rfl]
theorem gf_tr (a b:Addr) (p:Int) (d:Addr):(gf a b p d).lookup ("trees" : Str)=some (.ref b):=by
  unfold gf
  rw [lookup_putF,if_neg (by decide +kernel),lookup_putF,if_neg (by decide +kernel),lookup_putF,if_pos rfl]
theorem gf_fi (a b:Addr) (p:Int) (d:Addr):(gf a b p d).lookup ("field" : Str)=some (.int p):=by
  unfold gf
  rw [lookup_putF,if_neg (by decide +kernel),lookup_putF,if_pos rfl]
theorem gf_de (a b:Addr) (p:Int) (d:Addr):(gf a b p d).lookup ("degrees" : Str)=some (.ref d):=by
  unfold gf
  rw [lookup_putF,if_pos rfl]
theorem gf_no (a b:Addr) (p:Int) (d:Addr) {m:Str} (h1:¬ m = "degrees") (h2:¬ m = "field") (h3:¬ m = "trees") (h4:¬ m = "switches"):(gf a b p d).lookup m=none:=by
  unfold gf
  rw [lookup_putF,if_neg h1,lookup_putF,if_neg h2,lookup_putF,if_neg h3,lookup_putF,if_neg h4]
  all_goals rfl
structure GTxt (K:PySem.W.Frag) (mg:Str→Option Value) (C:Addr):Prop where
  cl:Cls K C
  nS:NoAttr K C "switches"
  nT:NoAttr K C "trees"
  nF:NoAttr K C "field"
  nD:NoAttr K C "degrees"
  mgC:mg "Game" = some (.ref C)
theorem bestI_at (g:Nat→Int):∀ n,∃ k,k≤n∧bestI g n=g k
  | 0=>⟨0,Nat.le_refl _,rfl⟩
  | n+1=>by
    obtain ⟨k,hk,e⟩:=bestI_at g n
    unfold bestI
    split
    · exact ⟨n+1,Nat.le_refl _,rfl⟩
    · exact ⟨k,by omega,e⟩
theorem maxD_mem {ns:List Int} (h:ns ≠ []):maxD ns 0 ∈ ns:=by
  cases ns with
  | nil=>exact absurd rfl h
  | cons a r =>
    obtain ⟨k,hk,e⟩:=bestI_at (fun i=>(a::r)[i]?.getD 0) ((a::r).length - 1)
    have e1:maxD (a::r) 0=bestI (fun i=>(a::r)[i]?.getD 0) ((a::r).length - 1):=rfl
    have hl:k < (a::r).length:=by
      rw [List.length_cons] at hk ⊢
      omega
    rw [e1,e]
    show (a::r)[k]?.getD 0 ∈ a::r
    rw [List.getElem?_eq_getElem hl]
    exact List.getElem_mem hl
def degOf (ts:List Tr) (x:Str):Int:=maxD (ts.map fun t=>(t.names.count x:Int)) 0
theorem degOf_lt {ts:List Tr} {x:Str} {p:Int} (h0:ts ≠ []) (h:∀ t ∈ ts,(t.names.count x:Int) < p):degOf ts x < p:=by
  have:=maxD_mem (ns:=ts.map fun t=>(t.names.count x:Int)) (by simpa using h0)
  obtain ⟨t,ht,e⟩:=List.mem_map.mp this
  unfold degOf
  rw [← e]
  exact h t ht
def spDeg:Sp:=fun vs H Q _=>∃ (x:Str) (b:Addr) (tv:List V) (ts:List Tr),vs=[.str x,.ref b]∧H b=some (.tup tv)∧TreesAt H tv ts∧ts ≠ []∧ts.length≤10∧(∀ t ∈ ts,t.wf∧t.depth≤10∧t.size≤400)∧∀ H',Same H H'→Q (.int (degOf ts x)) H'
theorem sc_degree_of:FnScope ["name", "trees"] ["name", "trees"] (defScope s_degree_of):=⟨rfl,rfl,rfl,by decide +kernel,rfl,by decide +kernel,by decide +kernel⟩
theorem ok_degree_of {f:Addr} {fd:FuncData} (F:Fun K "degree_of" "degree_of" s_degree_of f fd) (hmax:mg "max" = none) (C_names_in:Cal P w K mg base 12 "names_in" ["tree"] (spNamesIn 10)):FnOk P w K mg base CX0 13 f fd ["name", "trees"] spDeg:=by
  refine F.ok sc_degree_of (fun vs H Q E h=>?_) (fun cdv A outer s H vs Q E hr h=>?_)
  · obtain ⟨x,b,tv,ts,rfl,_⟩:=h
    rfl
  obtain ⟨x,b,tv,ts,rfl,hb,TS,t0,tl,tok,q⟩:=h
  refine ⟨_,(pss_one (ps_ret (pe_callB (call_max1 rfl) rfl hmax PyProof.Rows.boot_max (pa_cons (pe_comp (N:=["name"]) (ix:=[0]) rfl
        (CompScope.one (by with_unfolding_all rfl) (by decide) rfl (by decide) rfl (by decide +kernel) (by with_unfolding_all rfl) (by with_unfolding_all rfl) (by with_unfolding_all rfl) rfl rfl) rfl
        (pi_tup (pv 1)) (fun _ _ _=>pb_all (pe_bmK K PySem.F.plainAttrs_list PySem.F.slot_list_count PySem.F.type_list_count (mt_countK K) (pe_cal C_names_in hr (by decide) rfl (pa_cons (pv 0) pa_nil)) (pa_cons (pv 1) pa_nil)))) pa_nil)))),?_⟩
  have vl:=TS.length
  refine ⟨_,rfl,b,rfl,⟨_,SqT.of hb⟩,fun D hD=>?_⟩
  refine comp_tup (K:=K) (xs:=tv) (fun i H'=>H' D=some (.lst (((ts.take i).map fun t=>(t.names.count x:Int)).map V.int))∧Same H H') ⟨by rw [upd_same]; rfl,Same.new hD _⟩ (fun i H' _ h=>SqT.of (h.2 _ _ hb)) ?_ ?_
  · rintro i z H2 hz ⟨hl,S2⟩
    obtain ⟨t,ht,T⟩:=TS.get hz
    obtain ⟨tw,td,tz⟩:=tok t (List.mem_of_getElem? ht)
    have hi:i < tv.length:=(List.getElem?_eq_some_iff.mp hz).1
    refine ⟨_,rfl,z,t,rfl,T.mono (keepT_same S2),tw,by omega,tz,fun l H3 l0 S3 hl3=>?_⟩
    refine ⟨.inl ⟨rfl,_,SqL.of hl3⟩,_,rfl,l,_,_,rfl,rfl,SqL.of hl3,flat_strs _,rfl,?_⟩
    rw [count_strs]
    refine ⟨_,S3 _ _ hl,?_,Nx.of hi ⟨?_,fun b' o' e'=>?_⟩⟩
    · rw [List.length_map,List.length_map,List.length_take]
      exact small1000 (by omega)
    · rw [upd_same,List.take_add_one,ht,List.map_append,List.map_append]
      rfl
    · rw [upd_ne (ne_of_none e' hD)]
      exact S3 _ _ (S2 _ _ e')
  · rintro H2 ⟨hl,S2⟩
    rw [vl,List.take_length] at hl
    exact ⟨D,_,rfl,SqL.of hl,by simpa using t0,q H2 S2⟩
def spLookS:Sp:=fun vs H Q _=>∃ (a:Addr) (ns:List Str),vs=[.ref a]∧H a=some (.tup (ns.map V.str))∧ns.Nodup∧ns.length≤10∧∀ H',Same H H'→Q .non H'
theorem in_strs (x:Str) (ns:List Str):inV (.str x) (ns.map V.str)=decide (x ∈ ns):=by
  unfold inV
  induction ns with
  | nil=>rfl
  | cons a r ih =>
    rw [List.map_cons,List.any_cons,ih]
    have e:eqV (.str a) (.str x)=decide (x=a):=by
      show (a == x)=_
      by_cases c:x=a
      · subst c; simp
      · rw [decide_eq_false c]; simpa using fun h=>c h.symm
    rw [e]
    by_cases c1:x=a <;> by_cases c2:x ∈ r <;> simp [c1,c2]
theorem sc_look_switches:FnScope ["switches", "place", "name"] ["switches"] (defScope s_look_switches):=⟨rfl,rfl,rfl,by decide +kernel,rfl,by decide +kernel,by decide +kernel⟩
theorem ok_look_switches {f:Addr} {fd:FuncData} (F:Fun K "look_switches" "look_switches" s_look_switches f fd) (henum:mg "enumerate" = none):FnOk P w K mg base CX0 1 f fd ["switches"] spLookS:=by
  refine F.ok sc_look_switches (fun vs H Q E h=>?_) (fun cdv A outer s H vs Q E hr h=>?_)
  · obtain ⟨a,ns,rfl,_⟩:=h
    rfl
  obtain ⟨a,ns,rfl,ha,nd,nl,q⟩:=h
  refine ⟨_,(pss_one (ps_for PassesOwn.never rfl (pi_enumT rfl henum (pv 0)) (pg_tup rfl (pgs_cons (pg_name (i:=1) sc_look_switches.nd rfl (Or.inl rfl)) (pgs_cons (pg_name (i:=2) sc_look_switches.nd rfl (Or.inl rfl)) pgs_nil)))
      (pss_one (ps_if (pt_cmpR op_in_seq (pv 2) (pe_slice sl_tup (pv 0) po_none (po_some (pv 1))) (by with_unfolding_all rfl)) pss_never pss_nil)))),?_⟩
  refine ⟨_,rfl,a,rfl,⟨_,SqT.of ha⟩,for_enumT (K:=K) (xs:=ns.map V.str) (fun i σ H'=>∃ x1 x2:Option V,σ=[some (.ref a),x1,x2]∧Same H H') ⟨_,_,rfl,Same.refl _⟩ (fun i σ H' _ hst=>by obtain ⟨_,_,_,h⟩:=hst; exact SqT.of (h _ _ ha)) ?_ ?_⟩
  · rintro i z σ H1 t hz ⟨x1,x2,rfl,S1⟩ ht
    have hi:i < (ns.map V.str).length:=(List.getElem?_eq_some_iff.mp hz).1
    rw [List.getElem?_map] at hz
    obtain ⟨x,hx,rfl⟩:=Option.map_eq_some_iff.mp hz
    have G:=Same.new ht (.tup [.int (i:Int),.str x])
    have S2:=S1.trans G
    have hi':i < ns.length:=by rw [List.length_map] at hi; exact hi
    refine ⟨t,_,rfl,SqT.of upd_same,rfl,_,_,rfl,_,_,rfl,rfl,?_⟩
    refine ⟨_,rfl,_,rfl,_,rfl,(i:Int),rfl,a,_,rfl,SqT.of (S2 _ _ ha),?_,fun c hc=>?_⟩
    · rintro ⟨_,h⟩
      rw [HT.sIx_nat] at h
      omega
    · refine ⟨c,_,rfl,.inr (SqT.of upd_same),rfl,?_,_,rfl,?_⟩
      · have ec:cutV (ns.map V.str) none (some (i:Int))=(ns.take i).map V.str:=by
          unfold cutV
          rw [HT.sIx_none,HT.sIx_nat,List.drop_zero,Nat.sub_zero,List.map_take]
          congr 1
          omega
        rw [ec]
        exact flat_strs _
      · have ec:cutV (ns.map V.str) none (some (i:Int))=(ns.take i).map V.str:=by
          unfold cutV
          rw [HT.sIx_none,HT.sIx_nat,List.drop_zero,Nat.sub_zero,List.map_take]
          congr 1
          omega
        show if inV (.str x) (cutV (ns.map V.str) none (some (i:Int)))=true then _ else _
        rw [ec,in_strs,decide_eq_false ?_]
        · refine iteF ?_
          exact ⟨_,_,rfl,S2.trans (Same.new hc _)⟩
        · intro hm
          obtain ⟨j,hj,e⟩:=List.getElem_of_mem hm
          rw [List.length_take] at hj
          rw [List.getElem_take] at e
          have ex:ns[i]=x:=by
            rw [List.getElem?_eq_getElem hi'] at hx
            exact Option.some.inj hx
          exact List.pairwise_iff_getElem.mp nd j i (by omega) hi' (by omega) (e.trans ex.symm)
  · rintro σ H1 ⟨x1,x2,rfl,S1⟩
    exact q H1 S1
theorem names_ok {ns:List Str}:∀ t:Tr,t.ok ns→∀ x ∈ t.names,x ∈ ns
  | .is y,h,x,hx=>by rw [List.mem_singleton.mp hx]; exact h
  | .yes,_,x,hx=>by cases hx
  | .no,_,x,hx=>by cases hx
  | .not a,h,x,hx=>names_ok a h x hx
  | .bin _ a b,⟨_,h1,h2⟩,x,hx=>by
    rcases List.mem_append.mp hx with h | h
    · exact names_ok a h1 x h
    · exact names_ok b h2 x h
def spLookN:Sp:=fun vs H Q _=>∃ (a b:Addr) (ns:List Str) (tv:List V) (ts:List Tr),vs=[.ref b,.ref a]∧H a=some (.tup (ns.map V.str))∧H b=some (.tup tv)∧TreesAt H tv ts∧(∀ t ∈ ts,t.ok ns∧t.wf∧t.depth≤10∧t.size≤400)∧∀ H',Same H H'→Q .non H'
theorem sc_look_names:FnScope ["trees", "switches", "tree", "name"] ["trees", "switches"] (defScope s_look_names):=⟨rfl,rfl,rfl,by decide +kernel,rfl,by decide +kernel,by decide +kernel⟩
theorem ok_look_names {f:Addr} {fd:FuncData} (F:Fun K "look_names" "look_names" s_look_names f fd) (C_names_in:Cal P w K mg base 12 "names_in" ["tree"] (spNamesIn 10)):FnOk P w K mg base CX0 13 f fd ["trees", "switches"] spLookN:=by
  refine F.ok sc_look_names (fun vs H Q E h=>?_) (fun cdv A outer s H vs Q E hr h=>?_)
  · obtain ⟨a,b,ns,tv,ts,rfl,_⟩:=h
    rfl
  obtain ⟨a,b,ns,tv,ts,rfl,ha,hb,TS,tok,q⟩:=h
  refine ⟨_,(pss_one (ps_for PassesOwn.never rfl (pi_tup (pv 0)) (pg_name (i:=2) sc_look_names.nd rfl (Or.inl rfl))
      (pss_one (ps_for PassesOwn.never rfl (pi_list (pe_cal C_names_in hr (by decide) rfl (pa_cons (pv 2) pa_nil))) (pg_name (i:=3) sc_look_names.nd rfl (Or.inl rfl))
        (pss_one (ps_if (pt_cmpR op_notIn_seq (pv 3) (pv 1) (by with_unfolding_all rfl)) pss_never pss_nil)))))),?_⟩
  refine ⟨_,rfl,b,rfl,⟨_,SqT.of hb⟩,for_tup (K:=K) (xs:=tv) (fun i σ H'=>∃ x2 x3:Option V,σ=[some (.ref b),some (.ref a),x2,x3]∧Same H H') ⟨_,_,rfl,Same.refl _⟩ (fun i σ H' _ hst=>by obtain ⟨_,_,_,h⟩:=hst; exact SqT.of (h _ _ hb)) ?_ ?_⟩
  · rintro i z σ H1 hz ⟨x2,x3,rfl,S1⟩
    obtain ⟨t,ht,T⟩:=TS.get hz
    obtain ⟨tk,tw,td,tz⟩:=tok t (List.mem_of_getElem? ht)
    refine ⟨_,rfl,z,t,rfl,T.mono (keepT_same S1),tw,by omega,tz,fun l H2 l0 S2 hl=>?_⟩
    have S12:=S1.trans S2
    refine ⟨l,rfl,⟨_,SqL.of hl⟩,for_list (K:=K) (xs:=t.names.map V.str) (fun j σ H'=>∃ x3:Option V,σ=[some (.ref b),some (.ref a),some z,x3]∧H'=H2) ⟨_,rfl,rfl⟩ (fun j σ H' _ hst=>by obtain ⟨_,_,h⟩:=hst; subst h; exact SqL.of hl) ?_ ?_⟩
    · rintro j y σ H3 hy ⟨y3,rfl,rfl⟩
      rw [List.getElem?_map] at hy
      obtain ⟨x,hx,rfl⟩:=Option.map_eq_some_iff.mp hy
      refine ⟨_,rfl,_,rfl,a,_,rfl,.inr (SqT.of (S12 _ _ ha)),rfl,flat_strs _,_,rfl,?_⟩
      show if (!inV (.str x) (ns.map V.str))=true then _ else _
      rw [in_strs,decide_eq_true (names_ok t tk x (List.mem_of_getElem? hx))]
      refine iteF ?_
      exact ⟨_,rfl,rfl⟩
    · rintro σ H3 ⟨y3,rfl,rfl⟩
      exact ⟨_,_,rfl,S12⟩
  · rintro σ H1 ⟨x2,x3,rfl,S1⟩
    exact q H1 S1
def spLookF:Sp:=fun vs H Q _=>∃ p:Int,vs=[.int p]∧Pr p∧2 < p∧p≤999983∧Q .non H
theorem sc_look_field:FnScope ["field"] ["field"] (defScope s_look_field):=⟨rfl,rfl,rfl,by decide +kernel,rfl,by decide +kernel,by decide +kernel⟩
theorem ok_look_field {f:Addr} {fd:FuncData} (F:Fun K "look_field" "look_field" s_look_field f fd) (hend:∃ t,mg "FIELDS_END" = some (.int 1000000 t)) (C_is_field:Cal P w K mg base 1 "is_field" ["number"] spField):FnOk P w K mg base CX0 2 f fd ["field"] spLookF:=by
  refine F.ok sc_look_field (fun vs H Q E h=>?_) (fun cdv A outer s H vs Q E hr h=>?_)
  · obtain ⟨p,rfl,_⟩:=h
    rfl
  obtain ⟨p,rfl,pp,p2,p9,q⟩:=h
  obtain ⟨te,ge⟩:=hend
  refine ⟨_,(pss_one (ps_if (PW.pt (pw_or (pt_cmpR op_ge (pv 0) (pe_glob (v:=.int 1000000) rfl ge ⟨_,rfl⟩) (nomark _)) (pw_or1 (pt_not (pt_val (pe_cal C_is_field hr (by decide) rfl (pa_cons (pv 0) pa_nil))))))) pss_never pss_nil)),?_⟩
  refine ⟨_,rfl,_,_,rfl,rfl,_,rfl,?_⟩
  refine iteDF (by omega) ?_
  refine ⟨_,rfl,p,rfl,by omega,fun b hb=>⟨b,rfl,?_⟩⟩
  rw [hb.mpr ⟨p2,pp⟩]
  exact iteF q
def spLookZ:Sp:=fun vs H Q _=>∃ (p:Int) (d:Addr) (ns:List Int),vs=[.int p,.ref d]∧H d=some (.lst (ns.map V.int))∧ns ≠ []∧(∀ n ∈ ns,n < p)∧Q .non H
theorem sc_look_size:FnScope ["field", "degrees", "greatest"] ["field", "degrees"] (defScope s_look_size):=⟨rfl,rfl,rfl,by decide +kernel,rfl,by decide +kernel,by decide +kernel⟩
theorem ok_look_size {f:Addr} {fd:FuncData} (F:Fun K "look_size" "look_size" s_look_size f fd) (hmax:mg "max" = none):FnOk P w K mg base CX0 1 f fd ["field", "degrees"] spLookZ:=by
  refine F.ok sc_look_size (fun vs H Q E h=>?_) (fun cdv A outer s H vs Q E hr h=>?_)
  · obtain ⟨p,d,ns,rfl,_⟩:=h
    rfl
  obtain ⟨p,d,ns,rfl,hd,n0,nl,q⟩:=h
  refine ⟨_,(pss_cons (ps_set (i:=2) sc_look_size.nd rfl (Or.inl rfl) (pe_callB (call_max1 rfl) rfl hmax PyProof.Rows.boot_max (pa_cons (pv 1) pa_nil)))
      (pss_one (ps_if (pt_cmpR op_le (pv 0) (pv 2) (nomark _)) pss_never pss_nil))),?_⟩
  refine ⟨_,rfl,d,ns,rfl,SqL.of hd,n0,?_⟩
  refine ⟨_,rfl,_,rfl,_,_,rfl,rfl,_,rfl,?_⟩
  have:=nl _ (maxD_mem n0)
  exact iteDF (by omega) q
theorem putF_len (f:Str) (v:V):∀ fs:List (Str × V),(putF f v fs).length≤fs.length+1
  | []=>Nat.le_refl _
  | (g,u)::r=>by
    have:=putF_len f v r
    unfold putF
    split
    · simp
    · simp only [List.length_cons]
      omega
def gf3 (a b:Addr) (p:Int):List (Str × V):=putF "field" (.int p) (putF "trees" (.ref b) (putF "switches" (.ref a) []))
theorem gf3_sw (a b:Addr) (p:Int):(gf3 a b p).lookup ("switches" : Str)=some (.ref a):=by
  unfold gf3
  rw [lookup_putF,if_neg (by decide +kernel),lookup_putF,if_neg (by decide +kernel),lookup_putF,if_pos rfl]
theorem gf3_tr (a b:Addr) (p:Int):(gf3 a b p).lookup ("trees" : Str)=some (.ref b):=by
  unfold gf3
  rw [lookup_putF,if_neg (by decide +kernel),lookup_putF,if_pos rfl]
def GameAt (C:Addr) (H:Hp) (g a b d:Addr) (p:Int):Prop:=∃ dx,H g=some (.ins C dx (gf a b p d))
theorem GameAt.same {C:Addr} {H H':Hp} {g a b d:Addr} {p:Int} (h:GameAt C H g a b d p) (s:Same H H'):GameAt C H' g a b d p:=by
  obtain ⟨dx,e⟩:=h
  exact ⟨dx,s _ _ e⟩
def spGInit (C:Addr):Sp:=fun vs H Q _=>∃ (g dx a b:Addr) (ns:List Str) (tv:List V) (ts:List Tr) (p:Int),vs=[.ref g,.ref a,.ref b,.int p]∧H g=some (.ins C dx [])∧H a=some (.tup (ns.map V.str))∧ns.Nodup∧ns.length≤10∧H b=some (.tup tv)∧TreesAt H tv ts∧1≤ts.length∧ts.length≤10 ∧
  (∀ t ∈ ts,t.ok ns∧t.wf∧t.depth≤10∧t.size≤400)∧Pr p∧2 < p∧p≤999983∧(ts.length:Int)≤p∧(∀ t ∈ ts,∀ x ∈ ns,(t.names.count x:Int) < p) ∧
  ∀ (d:Addr) (H':Hp),H d=none→GameAt C H' g a b d p→H' d=some (.lst ((ns.map (degOf ts)).map V.int))→SameBut g H H'→Q .non H'
theorem sc_ginit:FnScope ["self", "switches", "trees", "field"] ["self", "switches", "trees", "field"] (defScope s_ginit):=⟨rfl,rfl,rfl,by decide +kernel,rfl,by decide +kernel,by decide +kernel⟩
theorem ok_ginit {f C:Addr} {fd:FuncData} (F:Fun K "__init__" "Game.__init__" s_ginit f fd) (T:GTxt K mg C) (htuple:mg "tuple" = none) (hlen:mg "len" = none) (C_degree_of:Cal P w K mg base 13 "degree_of" ["name", "trees"] spDeg) (C_look_switches:Cal P w K mg base 1 "look_switches" ["switches"] spLookS)
    (C_look_names:Cal P w K mg base 13 "look_names" ["trees", "switches"] spLookN) (C_look_field:Cal P w K mg base 2 "look_field" ["field"] spLookF) (C_look_size:Cal P w K mg base 1 "look_size" ["field", "degrees"] spLookZ):FnOk P w K mg base CX0 14 f fd ["self", "switches", "trees", "field"] (spGInit C):=by
  refine F.ok sc_ginit (fun vs H Q E h=>?_) (fun cdv A outer s H vs Q E hr h=>?_)
  · obtain ⟨g,dx,a,b,ns,tv,ts,p,rfl,_⟩:=h
    rfl
  obtain ⟨g,dx,a,b,ns,tv,ts,p,rfl,hg,ha,nd,nl,hb,TS,t1,t10,tok,pp,p2,p9,tp,tc,q⟩:=h
  refine ⟨_,(pss_cons (ps_fld (pv 0) (pe_callTy call_tuple_of rfl htuple boot_tuple' (pa_cons (pv 1) pa_nil)) rfl)
      (pss_cons (ps_fld (pv 0) (pe_callTy call_tuple_of rfl htuple boot_tuple' (pa_cons (pv 2) pa_nil)) rfl)
      (pss_cons (ps_fld (pv 0) (pv 3) rfl)
      (pss_cons (ps_fld (pv 0) (pe_comp (N:=["self"]) (ix:=[0]) rfl
          (CompScope.one (by with_unfolding_all rfl) (by decide) rfl (by decide) rfl (by decide +kernel) (by with_unfolding_all rfl) (by with_unfolding_all rfl) (by with_unfolding_all rfl) rfl rfl) rfl
          (pi_tup (pe_fld (pv 0) rfl)) (fun _ _ _=>pb_all (pe_cal C_degree_of hr (by decide) rfl (pa_cons (pv 0) (pa_cons (pe_fldK K (pv 1)) pa_nil))))) rfl)
      (pss_cons (ps_expr (pe_cal C_look_switches hr (by decide) rfl (pa_cons (pe_fld (pv 0) rfl) pa_nil)))
      (pss_cons (ps_expr (pe_cal C_look_names hr (by decide) rfl (pa_cons (pe_fld (pv 0) rfl) (pa_cons (pe_fld (pv 0) rfl) pa_nil))))
      (pss_cons (ps_expr (pe_cal C_look_field hr (by decide) rfl (pa_cons (pv 3) pa_nil)))
      (pss_one (ps_expr (pe_cal C_look_size hr (by decide) rfl (pa_cons (pv 3) (pa_cons (pe_op op_cat (pe_fld (pv 0) rfl) (pe_lst (pa_cons (pe_op op_sub (pe_callB call_len_seq rfl hlen PySem.boot_len (pa_cons (pe_fld (pv 0) rfl) pa_nil)) pe_int) pa_nil))) pa_nil)))))))))))),?_⟩
  have nag:a ≠ g:=ne_of ha hg (by intro z; cases z)
  have nbg:b ≠ g:=ne_of hb hg (by intro z; cases z)
  have vl:=TS.length
  refine ⟨_,rfl,a,_,rfl,.inr ⟨SqT.of ha,_,rfl,g,C,dx,[],rfl,hg,T.cl,T.nS,(by show 0 < 1000; decide),?_⟩⟩
  refine ⟨_,rfl,b,_,rfl,.inr ⟨SqT.of (by rw [upd_ne nbg]; exact hb),_,rfl,g,C,dx,_,rfl,upd_same,T.cl,T.nT,(Nat.lt_of_le_of_lt (putF_len _ _ _) (by show 1 < 1000; decide)),?_⟩⟩
  refine ⟨_,rfl,_,rfl,g,C,dx,_,rfl,upd_same,T.cl,T.nF,(Nat.lt_of_le_of_lt (putF_len _ _ _) (Nat.lt_of_le_of_lt (Nat.succ_le_succ (putF_len _ _ _)) (by show 2 < 1000; decide))),?_⟩
  have S3:SameBut g H (upd (upd (upd H g (.ins C dx (putF "switches" (.ref a) []))) g (.ins C dx (putF "trees" (.ref b) (putF "switches" (.ref a) [])))) g (.ins C dx (putF "field" (.int p) (putF "trees" (.ref b) (putF "switches" (.ref a) []))))) :=
    (SameBut.upd _).trans ((SameBut.upd _).trans (SameBut.upd _))
  have hg3:upd (upd (upd H g (.ins C dx (putF "switches" (.ref a) []))) g (.ins C dx (putF "trees" (.ref b) (putF "switches" (.ref a) [])))) g (.ins C dx (putF "field" (.int p) (putF "trees" (.ref b) (putF "switches" (.ref a) [])))) g=some (.ins C dx (gf3 a b p)):=upd_same
  generalize upd (upd (upd H g (.ins C dx (putF "switches" (.ref a) []))) g (.ins C dx (putF "trees" (.ref b) (putF "switches" (.ref a) [])))) g (.ins C dx (putF "field" (.int p) (putF "trees" (.ref b) (putF "switches" (.ref a) []))))=H3 at S3 hg3
  have kT:KeepT H H3:=fun c xs h=>S3 c _ (ne_of h hg (by intro z; cases z)) h
  have ha3:=kT _ _ ha
  have hb3:=kT _ _ hb
  have TS3:=TS.mono kT
  refine ⟨_,rfl,g,C,dx,_,_,rfl,hg3,T.cl,T.nS,gf3_sw ..,a,rfl,⟨_,SqT.of ha3⟩,fun D hD=>?_⟩
  have D0:H D=none:=by
    cases e:H D with
    | none=>rfl
    | some o =>
      by_cases c:D=g
      · rw [c,hg3] at hD; cases hD
      · rw [S3 D o c e] at hD; cases hD
  refine comp_tup (K:=K) (xs:=ns.map V.str) (fun i H'=>H' D=some (.lst (((ns.take i).map (degOf ts)).map V.int))∧Same H3 H') ⟨by rw [upd_same]; rfl,Same.new hD _⟩ (fun i H' _ h=>SqT.of (h.2 _ _ ha3)) ?_ ?_
  · rintro i z H4 hz ⟨hl,S4⟩
    have hi:i < (ns.map V.str).length:=(List.getElem?_eq_some_iff.mp hz).1
    rw [List.getElem?_map] at hz
    obtain ⟨x,hx,rfl⟩:=Option.map_eq_some_iff.mp hz
    refine ⟨_,rfl,_,rfl,g,C,dx,_,_,rfl,S4 _ _ hg3,T.cl,T.nT,gf3_tr ..,x,b,tv,ts,rfl,S4 _ _ hb3,TS3.mono (keepT_same S4),?_,t10,fun t ht=>(tok t ht).2,fun H5 S5=>?_⟩
    · intro e
      rw [e] at t1
      exact absurd t1 (by decide)
    refine ⟨_,S5 _ _ hl,?_,Nx.of hi ⟨?_,fun b' o' e'=>?_⟩⟩
    · rw [List.length_map,List.length_map,List.length_take]
      exact small1000 (by omega)
    · rw [upd_same,List.take_add_one,hx,List.map_append,List.map_append]
      rfl
    · rw [upd_ne (ne_of_none e' hD)]
      exact S5 _ _ (S4 _ _ e')
  rintro H4 ⟨hl,S4⟩
  rw [List.length_map,List.take_length] at hl
  refine ⟨_,rfl,g,C,dx,_,rfl,S4 _ _ hg3,T.cl,T.nD,?_,?_⟩
  · exact Nat.lt_of_le_of_lt (Nat.le_trans (putF_len _ _ _) (Nat.succ_le_succ (Nat.le_trans (putF_len _ _ _) (Nat.succ_le_succ (putF_len _ _ _))))) (by show 3 < 1000; decide)
  have nDg:D ≠ g:=fun z=>by rw [z,hg3] at hD; cases hD
  have hg5:upd H4 g (.ins C dx (gf a b p D)) g=some (.ins C dx (gf a b p D)):=upd_same
  have S5:SameBut g H (upd H4 g (.ins C dx (gf a b p D))):=S3.trans ((SameBut.of S4).trans (SameBut.upd _))
  have hD5:upd H4 g (.ins C dx (gf a b p D)) D=some (.lst ((ns.map (degOf ts)).map V.int)):=by rw [upd_ne nDg]; exact hl
  show _
  generalize he5:upd H4 g (.ins C dx (gf a b p D))=H5 at hg5 S5 hD5
  have kT5:KeepT H H5:=fun c xs h=>S5 c _ (ne_of h hg (by intro z; cases z)) h
  rw [show upd H4 g (.ins C dx (putF "degrees" (.ref D) (gf3 a b p)))=H5 from he5]
  refine ⟨_,rfl,g,C,dx,_,_,rfl,hg5,T.cl,T.nS,gf_sw ..,a,ns,rfl,kT5 _ _ ha,nd,nl,fun H6 S6=>?_⟩
  have kT6:KeepT H H6:=fun c xs h=>S6 _ _ (kT5 c xs h)
  refine ⟨_,rfl,g,C,dx,_,_,rfl,S6 _ _ hg5,T.cl,T.nT,gf_tr ..,_,rfl,g,C,dx,_,_,rfl,S6 _ _ hg5,T.cl,T.nS,gf_sw ..,a,b,ns,tv,ts,rfl,kT6 _ _ ha,kT6 _ _ hb,TS.mono kT6,tok,fun H7 S7=>?_⟩
  have S57:=S6.trans S7
  refine ⟨_,rfl,p,rfl,pp,p2,p9,?_⟩
  refine ⟨_,rfl,_,rfl,g,C,dx,_,_,rfl,S57 _ _ hg5,T.cl,T.nD,gf_de ..,_,rfl,g,C,dx,_,_,rfl,S57 _ _ hg5,T.cl,T.nT,gf_tr ..,b,_,rfl,.inr (SqT.of (S57 _ _ (kT5 _ _ hb))),_,_,rfl,rfl,(by show 1≤sizeLine; decide),fun l hl2=>?_⟩
  have Gl:=Same.new hl2 (.lst [.int ((tv.length:Int) - 1)])
  refine ⟨D,l,_,_,rfl,rfl,Gl _ _ (S57 _ _ hD5),upd_same,?_,fun r hr0=>?_⟩
  · rw [List.length_map,List.length_map]
    exact small (by simp; omega)
  have Gr:=Same.new hr0 (.lst ((ns.map (degOf ts)).map V.int++[.int ((tv.length:Int) - 1)]))
  refine ⟨p,r,ns.map (degOf ts)++[(tv.length:Int) - 1],rfl,?_,by simp,fun n hn=>?_,?_⟩
  · rw [upd_same,List.map_append]
    rfl
  · rcases List.mem_append.mp hn with h | h
    · obtain ⟨x,hx,rfl⟩:=List.mem_map.mp h
      refine degOf_lt ?_ fun t ht=>tc t ht x hx
      intro e
      rw [e] at t1
      exact absurd t1 (by decide)
    · rw [List.mem_singleton.mp h]
      omega
  · have S59:=S57.trans (Gl.trans Gr)
    exact q D _ D0 ⟨dx,S59 _ _ hg5⟩ (S59 _ _ hD5) (S5.trans (SameBut.of S59))
inductive Tm where
  | num (n:Int) | box (x:Str) | plain (w:Str) | ask (w:Str) (a:Tm) | op (s:Str) (a b:Tm)
def Tm.size:Tm→Nat
  | .num _=>1 | .box _=>1 | .plain _=>1 | .ask _ a=>a.size+1 | .op _ a b=>a.size+b.size+1
def Tm.depth:Tm→Nat
  | .num _=>1 | .box _=>1 | .plain _=>1 | .ask _ a=>a.depth+1 | .op _ a b=>max a.depth b.depth+1
theorem Tm.depth_pos:∀ t:Tm,1≤t.depth
  | .num _=>Nat.le_refl _ | .box _=>Nat.le_refl _ | .plain _=>Nat.le_refl _ | .ask _ a=>Nat.le_add_left .. | .op _ a b=>Nat.le_add_left ..
def plainW:List Str:=["round", "due", "asked"]
def askW:List Str:=["coin", "true"]
def signW:List Str:=["+", "-", "*", "/", "=", "<"]
inductive TmAt (H:Hp):V→Tm→Prop
  | num {a:Addr} {n:Int}:H a=some (.tup [.str "num", .int n])→TmAt H (.ref a) (.num n)
  | box {a:Addr} {x:Str}:H a=some (.tup [.str "box", .str x])→TmAt H (.ref a) (.box x)
  | plain {a:Addr} {w:Str}:H a=some (.tup [.str w])→TmAt H (.ref a) (.plain w)
  | ask {a:Addr} {w:Str} {v:V} {t:Tm}:H a=some (.tup [.str w,v])→TmAt H v t→TmAt H (.ref a) (.ask w t)
  | op {a:Addr} {s:Str} {v u:V} {t r:Tm}:H a=some (.tup [.str "op", .str s,v,u])→TmAt H v t→TmAt H u r→TmAt H (.ref a) (.op s t r)
theorem TmAt.mono {H H':Hp} (k:KeepT H H') {v:V} {t:Tm} (h:TmAt H v t):TmAt H' v t:=by
  induction h with
  | num e=>exact .num (k _ _ e)
  | box e=>exact .box (k _ _ e)
  | plain e=>exact .plain (k _ _ e)
  | ask e _ ih=>exact .ask (k _ _ e) ih
  | op e _ _ i1 i2=>exact .op (k _ _ e) i1 i2
inductive Hr where
  | fin | go (n:Int) | iff (t:Tm) (n:Int) | set (x:Str) (t:Tm) | say (t:Tm)
inductive HrAt (H:Hp):V→Hr→Prop
  | fin {a:Addr}:H a=some (.tup [.str "end"])→HrAt H (.ref a) .fin
  | go {a:Addr} {n:Int}:H a=some (.tup [.str "go", .int n])→HrAt H (.ref a) (.go n)
  | iff {a:Addr} {v:V} {t:Tm} {n:Int}:H a=some (.tup [.str "if", v,.int n])→TmAt H v t→HrAt H (.ref a) (.iff t n)
  | set {a:Addr} {x:Str} {v:V} {t:Tm}:H a=some (.tup [.str "set", .str x,v])→TmAt H v t→HrAt H (.ref a) (.set x t)
  | say {a:Addr} {v:V} {t:Tm}:H a=some (.tup [.str "say", v])→TmAt H v t→HrAt H (.ref a) (.say t)
theorem HrAt.mono {H H':Hp} (k:KeepT H H') {v:V} {r:Hr} (h:HrAt H v r):HrAt H' v r:=by
  cases h with
  | fin e=>exact .fin (k _ _ e)
  | go e=>exact .go (k _ _ e)
  | iff e t=>exact .iff (k _ _ e) (t.mono k)
  | set e t=>exact .set (k _ _ e) (t.mono k)
  | say e t=>exact .say (k _ _ e) (t.mono k)
section
variable {CM CA CG:Addr}
abbrev s_ainit:Stmt:=inClass s_asking 0
abbrev s_minit:Stmt:=inClass s_machine 0
abbrev s_msay:Stmt:=inClass s_machine 1
abbrev s_mrow:Stmt:=inClass s_machine 2
abbrev s_mbox:Stmt:=inClass s_machine 3
theorem neS {a b:Str} (h:¬ a=b):¬ V.str a=V.str b:=fun z=>h (V.str.inj z)
def opI (p:Int) (s:Str) (x y:Int):Int:=if s = "+" then (x+y) % p else if x < y then 1 else 0
def Tm.val (p:Int) (bx:Str→Int):Tm→Int
  | .num n=>n % p | .box x=>bx x | .plain _=>0 | .ask _ _=>0 | .op s a b=>opI p s (a.val p bx) (b.val p bx)
def Tm.quiet:Tm→Prop
  | .num _=>True | .box _=>True | .plain _=>False | .ask _ _=>False | .op s a b=>(s = "+" ∨ s = "<")∧a.quiet∧b.quiet
def spOp:Sp:=fun vs H Q _=>∃ (s:Str) (x y p:Int),vs=[.str s,.int x,.int y,.int p]∧(s = "+" ∨ s = "<")∧0 < p∧Q (.int (opI p s x y)) H
theorem sc_op_value:FnScope ["sign", "first", "second", "p"] ["sign", "first", "second", "p"] (defScope s_op_value):=⟨rfl,rfl,rfl,by decide +kernel,rfl,by decide +kernel,by decide +kernel⟩
theorem ok_op_value {f:Addr} {fd:FuncData} (F:Fun K "op_value" "op_value" s_op_value f fd):FnOk P w K mg base CX0 1 f fd ["sign", "first", "second", "p"] spOp:=by
  refine F.ok sc_op_value (fun vs H Q E h=>?_) (fun cdv A outer s H vs Q E hr h=>?_)
  · obtain ⟨s,x,y,p,rfl,_⟩:=h
    rfl
  obtain ⟨s,x,y,p,rfl,hs,p0,q⟩:=h
  refine ⟨_,(pss_cons (ps_if (pt_cmpR op_eq (pv 0) pe_str (nomark _)) (pss_one (ps_ret (pe_op op_mod (pe_op op_add (pv 1) (pv 2)) (pv 3)))) pss_nil)
      (pss_cons (ps_if (pt_cmpR op_eq (pv 0) pe_str (nomark _)) pss_never pss_nil)
      (pss_cons (ps_if (pt_cmpR op_eq (pv 0) pe_str (nomark _)) pss_never pss_nil)
      (pss_cons (ps_if (pt_cmpR op_eq (pv 0) pe_str (nomark _)) pss_never pss_nil)
      (pss_cons (ps_if (pt_cmpR op_eq (pv 0) pe_str (nomark _)) pss_never pss_nil)
      (pss_one (ps_ret (pe_ifExp (pt_cmpR op_lt (pv 1) (pv 2) (nomark _)) pe_int pe_int)))))))),?_⟩
  rcases hs with rfl | rfl
  · refine ⟨_,rfl,rfl,_,rfl,iteD rfl ?_⟩
    exact ⟨_,rfl,_,rfl,_,_,rfl,rfl,_,rfl,_,_,rfl,rfl,p0,q⟩
  · refine ⟨_,rfl,rfl,_,rfl,iteDF (neS (by decide +kernel)) ?_⟩
    refine ⟨_,rfl,rfl,_,rfl,iteDF (neS (by decide +kernel)) ?_⟩
    refine ⟨_,rfl,rfl,_,rfl,iteDF (neS (by decide +kernel)) ?_⟩
    refine ⟨_,rfl,rfl,_,rfl,iteDF (neS (by decide +kernel)) ?_⟩
    refine ⟨_,rfl,rfl,_,rfl,iteDF (neS (by decide +kernel)) ?_⟩
    refine ⟨_,rfl,_,rfl,_,_,rfl,rfl,_,rfl,?_⟩
    have e:opI p "<" x y=if x < y then 1 else 0:=if_neg (by decide +kernel)
    rw [e] at q
    by_cases c:x < y
    · rw [if_pos c] at q
      exact iteD c q
    · rw [if_neg c] at q
      exact iteDF c q
def al (g:Addr) (nr mn hd s:Int) (aT:Addr) (tr:V):List (Str × V):=[("game", .ref g),("number", .int nr),("many", .int mn),("held", .int hd),("s", .int s),("tossed", .ref aT),("truths", tr)]
theorem al_g {g:Addr} {nr mn hd s:Int} {aT:Addr} {tr:V}:(al g nr mn hd s aT tr).lookup ("game" : Str)=some (.ref g):=by with_unfolding_all rfl
structure ATxt (K:PySem.W.Frag) (mg:Str→Option Value) (C:Addr):Prop where
  cl:Cls K C
  nG:NoAttr K C "game"
  nN:NoAttr K C "number"
  nM:NoAttr K C "many"
  nH:NoAttr K C "held"
  nS:NoAttr K C "s"
  nT:NoAttr K C "tossed"
  nR:NoAttr K C "truths"
  mgC:mg "Asking" = some (.ref C)
def ml (g h:Addr) (r:Int) (b:Addr):List (Str × V):=[("game", .ref g),("helper", .ref h),("next_round", .int r),("boxes", .ref b)]
section
variable {g h b:Addr} {r:Int}
theorem ml_g:(ml g h r b).lookup ("game" : Str)=some (.ref g):=by with_unfolding_all rfl
theorem ml_h:(ml g h r b).lookup ("helper" : Str)=some (.ref h):=by with_unfolding_all rfl
theorem ml_r:(ml g h r b).lookup ("next_round" : Str)=some (.int r):=by with_unfolding_all rfl
theorem ml_b:(ml g h r b).lookup ("boxes" : Str)=some (.ref b):=by with_unfolding_all rfl
theorem ml_n1:(ml g h r b).lookup ("do_row" : Str)=none:=by with_unfolding_all rfl
theorem ml_n2:(ml g h r b).lookup ("say" : Str)=none:=by with_unfolding_all rfl
theorem ml_n3:(ml g h r b).lookup ("box" : Str)=none:=by with_unfolding_all rfl
theorem ml_len:(ml g h r b).length < 1000:=by show 4 < 1000; decide
theorem ml_put {v:Int}:putF "next_round" (.int v) (ml g h r b)=ml g h v b:=by with_unfolding_all rfl
end
structure MTxt (K:PySem.W.Frag) (mg:Str→Option Value) (C:Addr):Prop where
  cl:Cls K C
  nG:NoAttr K C "game"
  nH:NoAttr K C "helper"
  nR:NoAttr K C "next_round"
  nB:NoAttr K C "boxes"
  mgC:mg "Machine" = some (.ref C)
def BxAt (H:Hp) (b:Addr) (bx:Str→Int) (m:Nat):Prop:=∃ kvs:List (Key × V),H b=some (.dK kvs)∧kvs.length≤m∧∀ x:Str,(valV kvs (.inr x)).getD (.int 0)=.int (bx x)
def bxPut (bx:Str→Int) (x:Str) (n:Int):Str→Int:=fun y=>if y=x then n else bx y
theorem BxAt.keep {H H':Hp} {b:Addr} {bx:Str→Int} {m:Nat} (h:BxAt H b bx m) (k:∀ o,H b=some o→H' b=some o):BxAt H' b bx m:=by
  obtain ⟨kvs,e,r⟩:=h
  exact ⟨kvs,k _ e,r⟩
theorem bx_put {kvs:List (Key × V)} {bx:Str→Int} (x:Str) (n:Int) (h:∀ x:Str,(valV kvs (.inr x)).getD (.int 0)=.int (bx x)):∀ y:Str,(valV (putK kvs (.inr x) (.int n)) (.inr y)).getD (.int 0)=.int (bxPut bx x n y):=fun y=>by
  rw [valV_put]
  unfold bxPut
  by_cases c:y=x
  · rw [if_pos (by rw [c]),if_pos c]
    rfl
  · rw [if_neg (fun z=>c (Sum.inr.inj z)),if_neg c]
    exact h y
def AkAt (CA CG:Addr) (H:Hp) (k:Addr) (p:Int):Prop:=∃ (dk g:Addr) (nr mn hd s:Int) (aT:Addr) (tr:V) (a b d:Addr),H k=some (.ins CA dk (al g nr mn hd s aT tr))∧GameAt CG H g a b d p
def spVal (CA CG:Addr) (n:Nat):Sp:=fun vs H Q _=>∃ (v:V) (t:Tm) (b k:Addr) (bx:Str→Int) (m:Nat) (p:Int),vs=[v,.ref b,.ref k]∧TmAt H v t∧t.quiet∧t.depth≤n∧BxAt H b bx m∧AkAt CA CG H k p∧0 < p∧Q (.int (t.val p bx)) H
theorem sc_value_of:FnScope ["term", "boxes", "asking", "word", "first", "second"] ["term", "boxes", "asking"] (defScope s_value_of):=⟨rfl,rfl,rfl,by decide +kernel,rfl,by decide +kernel,by decide +kernel⟩
theorem val_step {n:Nat} {f:Addr} {fd:FuncData} (F:Fun K "value_of" "value_of" s_value_of f fd) (TA:ATxt K mg CA) (TG:GTxt K mg CG) (C_op_value:Cal P w K mg base 1 "op_value" ["sign", "first", "second", "p"] spOp) (C_value_of:Cal P w K mg base (n+2) "value_of" ["term", "boxes", "asking"] (spVal CA CG n)):FnOk P w K mg base CX0 (n+3) f fd ["term", "boxes", "asking"] (spVal CA CG (n+1)):=by
  refine F.ok sc_value_of (fun vs H Q E h=>?_) (fun cdv A outer s H vs Q E hr h=>?_)
  · obtain ⟨v,t,b,k,bx,m,p,rfl,_⟩:=h
    rfl
  obtain ⟨v,t,b,k,bx,m,p,rfl,T,tq,td,BX,AK,p0,q⟩:=h
  have hu:=hu_of hr
  refine ⟨_,(pss_cons (ps_set (i:=3) sc_value_of.nd rfl (Or.inl rfl) (pe_ix ix_tup (pv 0) pe_int (fun _ _=>rfl)))
      (pss_cons (ps_if (pt_cmpR op_eq (pv 3) pe_str (nomark _)) (pss_one (ps_ret (pe_op op_mod (pe_ix ix_tup (pv 0) pe_int (fun _ _=>rfl)) (pe_fld (pe_fld (pv 2) rfl) rfl)))) pss_nil)
      (pss_cons (ps_if (pt_cmpR op_eq (pv 3) pe_str (nomark _)) (pss_one (ps_ret (pe_dget2 hu (pv 1) (pe_ix ix_tup (pv 0) pe_int (fun _ _=>rfl)) pe_int ⟨rfl,rfl,rfl,rfl⟩))) pss_nil)
      (pss_cons (ps_if (pt_cmpR op_eq (pv 3) pe_str (nomark _)) pss_never pss_nil)
      (pss_cons (ps_if (pt_cmpR op_eq (pv 3) pe_str (nomark _)) pss_never pss_nil)
      (pss_cons (ps_if (pt_cmpR op_eq (pv 3) pe_str (nomark _)) (pss_cons (ps_set (i:=4) sc_value_of.nd rfl (Or.inl rfl) (pe_cal C_value_of hr (Nat.le_refl _) rfl (pa_cons (pe_ix ix_tup (pv 0) pe_int (fun _ _=>rfl)) (pa_cons (pv 1) (pa_cons (pv 2) pa_nil)))))
        (pss_cons (ps_set (i:=5) sc_value_of.nd rfl (Or.inl rfl) (pe_cal C_value_of hr (Nat.le_refl _) rfl (pa_cons (pe_ix ix_tup (pv 0) pe_int (fun _ _=>rfl)) (pa_cons (pv 1) (pa_cons (pv 2) pa_nil)))))
        (pss_one (ps_ret (pe_cal C_op_value hr (by omega) rfl (pa_cons (pe_ix ix_tup (pv 0) pe_int (fun _ _=>rfl)) (pa_cons (pv 4) (pa_cons (pv 5) (pa_cons (pe_fld (pe_fld (pv 2) rfl) rfl) pa_nil))))))))) pss_nil)
      pss_never)))))),?_⟩
  have AK':=AK
  obtain ⟨dk,g,nr,mn,hd,sc,aT,tr,ga,gb,gd,hk,⟨dg,hg⟩⟩:=AK'
  cases T with
  | @num a n e =>
    refine ⟨_,rfl,a,_,0,_,rfl,rfl,SqT.of e,rfl,?_⟩
    refine ⟨_,rfl,rfl,_,rfl,iteD rfl ?_⟩
    exact ⟨_,rfl,a,_,1,_,rfl,rfl,SqT.of e,rfl,_,rfl,k,CA,dk,_,_,rfl,hk,TA.cl,TA.nG,al_g,g,CG,dg,_,_,rfl,hg,TG.cl,TG.nF,gf_fi ..,_,_,rfl,rfl,p0,q⟩
  | @box a x e =>
    refine ⟨_,rfl,a,_,0,_,rfl,rfl,SqT.of e,rfl,?_⟩
    refine ⟨_,rfl,rfl,_,rfl,iteDF (neS (by decide +kernel)) ?_⟩
    refine ⟨_,rfl,rfl,_,rfl,iteD rfl ?_⟩
    obtain ⟨kvs,hb,_,hx⟩:=BX
    refine ⟨_,rfl,b,rfl,.inl ⟨kvs,.inl hb⟩,_,rfl,a,_,1,_,rfl,rfl,SqT.of e,rfl,_,DGet.k (k:=.inr x) hb,?_⟩
    rw [hx]
    exact q
  | plain e=>exact tq.elim
  | ask e _=>exact tq.elim
  | @op a o v1 v2 t1 t2 e T1 T2 =>
    obtain ⟨oq,q1,q2⟩:=tq
    have d1:t1.depth≤n:=by have:max t1.depth t2.depth+1≤n+1:=td; omega
    have d2:t2.depth≤n:=by have:max t1.depth t2.depth+1≤n+1:=td; omega
    refine ⟨_,rfl,a,_,0,_,rfl,rfl,SqT.of e,rfl,?_⟩
    refine ⟨_,rfl,rfl,_,rfl,iteDF (neS (by decide +kernel)) ?_⟩
    refine ⟨_,rfl,rfl,_,rfl,iteDF (neS (by decide +kernel)) ?_⟩
    refine ⟨_,rfl,rfl,_,rfl,iteDF (neS (by decide +kernel)) ?_⟩
    refine ⟨_,rfl,rfl,_,rfl,iteDF (neS (by decide +kernel)) ?_⟩
    refine ⟨_,rfl,rfl,_,rfl,iteD rfl ?_⟩
    refine ⟨_,rfl,a,_,2,_,rfl,rfl,SqT.of e,rfl,_,rfl,_,rfl,v1,t1,b,k,bx,m,p,rfl,T1,q1,d1,BX,AK,p0,?_⟩
    refine ⟨_,rfl,a,_,3,_,rfl,rfl,SqT.of e,rfl,_,rfl,_,rfl,v2,t2,b,k,bx,m,p,rfl,T2,q2,d2,BX,AK,p0,?_⟩
    exact ⟨_,rfl,a,_,1,_,rfl,rfl,SqT.of e,rfl,_,rfl,_,rfl,_,rfl,k,CA,dk,_,_,rfl,hk,TA.cl,TA.nG,al_g,g,CG,dg,_,_,rfl,hg,TG.cl,TG.nF,gf_fi ..,o,_,_,p,rfl,oq,p0,q⟩
theorem val_zero {f:Addr} {fd:FuncData}:FnOk P w K mg base CX0 2 f fd ["term", "boxes", "asking"] (spVal CA CG 0):=by
  have no:∀ vs H Q E,¬ spVal CA CG 0 vs H Q E:=fun vs H Q E h=>by
    obtain ⟨v,t,_,_,_,_,_,_,_,_,h1,_⟩:=h
    have:=t.depth_pos
    omega
  exact ⟨fun vs H Q E h=>absurd h (no vs H Q E),fun A outer s H args us vs Q E _ _ _ _ h=>absurd h (no vs H Q E)⟩
theorem ok_value_of {f:Addr} {fd:FuncData} (F:Fun K "value_of" "value_of" s_value_of f fd) (m:mg "value_of" = some (.ref f)) (TA:ATxt K mg CA) (TG:GTxt K mg CG) (C_op_value:Cal P w K mg base 1 "op_value" ["sign", "first", "second", "p"] spOp) :
    ∀ n:Nat,FnOk P w K mg base CX0 (n+2) f fd ["term", "boxes", "asking"] (spVal CA CG n)
  | 0=>val_zero
  | n+1=>val_step F TA TG C_op_value (Cal.of F (ok_value_of F m TA TG C_op_value n) m (fun _ _ _ _ _ _ us hl=>by obtain ⟨u0,u1,u2,rfl⟩:=len3 hl; rfl))
end
section
variable {CM CA CG:Addr}
structure MS where
  pl:Int
  bx:Str→Int
  sd:List Int
def stepR (p len:Int) (s:MS):Hr→MS
  | .fin=>⟨len,s.bx,s.sd⟩
  | .go n=>⟨n,s.bx,s.sd⟩
  | .iff t n=>⟨if t.val p s.bx=0 then s.pl+1 else n,s.bx,s.sd⟩
  | .set x t=>⟨s.pl+1,bxPut s.bx x (t.val p s.bx),s.sd⟩
  | .say t=>⟨s.pl+1,s.bx,s.sd++[t.val p s.bx]⟩
def stepM (p:Int) (rows:List Hr) (s:MS):MS:=match rows[s.pl.toNat]? with
  | some r=>stepR p rows.length s r
  | none=>s
def runM (p:Int) (rows:List Hr) (mn:Int):Nat→MS→MS
  | 0,s=>s
  | n+1,s=>if s.pl < (rows.length:Int)∧(s.sd.length:Int) < mn then runM p rows mn n (stepM p rows s) else s
def outM (mn:Int) (sd:List Int):List Int:=sd++List.replicate (mn - (sd.length:Int)).toNat 0
def Hr.quiet:Hr→Prop
  | .fin=>True | .go n=>0≤n | .iff t n=>t.quiet∧t.depth≤4∧0≤n | .set _ t=>t.quiet∧t.depth≤4 | .say t=>t.quiet∧t.depth≤4
theorem stepM_pl {p:Int} {rows:List Hr} (hq:∀ r ∈ rows,r.quiet) {s:MS} (h:0≤s.pl):0≤(stepM p rows s).pl:=by
  unfold stepM
  cases e:rows[s.pl.toNat]? with
  | none=>exact h
  | some r =>
    have q:=hq r (List.mem_of_getElem? e)
    cases r with
    | fin=>exact Int.natCast_nonneg _
    | go n=>exact q
    | iff t n =>
      show 0≤if t.val p s.bx=0 then s.pl+1 else n
      by_cases c:t.val p s.bx=0
      · rw [if_pos c]; omega
      · rw [if_neg c]; exact q.2.2
    | set x t=>show 0≤s.pl+1; omega
    | say t=>show 0≤s.pl+1; omega
theorem stepM_sd {p:Int} {rows:List Hr} {s:MS}:(stepM p rows s).sd.length≤s.sd.length+1:=by
  unfold stepM
  cases e:rows[s.pl.toNat]? with
  | none=>exact Nat.le_succ _
  | some r =>
    cases r with
    | fin=>exact Nat.le_succ _
    | go n=>exact Nat.le_succ _
    | iff t n=>exact Nat.le_succ _
    | set x t=>exact Nat.le_succ _
    | say t=>show (s.sd++[_]).length≤_; rw [List.length_append]; exact Nat.le_refl _
def RowsAt (H:Hp) (rv:List V) (rows:List Hr):Prop:=rv.length=rows.length∧∀ (i:Nat) (v:V) (r:Hr),rv[i]?=some v→rows[i]?=some r→HrAt H v r
theorem RowsAt.mono {H H':Hp} {rv:List V} {rows:List Hr} (h:RowsAt H rv rows) (k:KeepT H H'):RowsAt H' rv rows:=⟨h.1,fun i v r h1 h2=>(h.2 i v r h1 h2).mono k⟩
def But2 (b c:Addr) (H H':Hp):Prop:=∀ a o,a ≠ b→a ≠ c→H a=some o→H' a=some o
theorem But2.trans {b c:Addr} {H H1 H2:Hp} (x:But2 b c H H1) (y:But2 b c H1 H2):But2 b c H H2:=fun a o h1 h2 e=>y a o h1 h2 (x a o h1 h2 e)
theorem BxAt.le {H:Hp} {b:Addr} {bx:Str→Int} {m n:Nat} (h:BxAt H b bx m) (k:m≤n):BxAt H b bx n:=by
  obtain ⟨kvs,e,l,r⟩:=h
  exact ⟨kvs,e,Nat.le_trans l k,r⟩
def spRowM (CM CA CG:Addr):Sp:=fun vs H Q _=>∃ (M g h b dm k sd:Addr) (rv:List V) (r pl p:Int) (rows:List Hr) (bx:Str→Int) (m:Nat) (said:List Int),
  vs=[.ref M,.int pl,.ref sd,.ref k]∧H M=some (.ins CM dm (ml g h r b))∧H h=some (.tup rv)∧RowsAt H rv rows∧(∀ r ∈ rows,r.quiet)∧0≤pl∧pl < (rows.length:Int)∧BxAt H b bx m∧m≤10000∧H sd=some (.lst (said.map V.int))∧said.length≤900∧AkAt CA CG H k p∧0 < p ∧
  ∀ H',H' sd=some (.lst ((stepM p rows ⟨pl,bx,said⟩).sd.map V.int))→BxAt H' b (stepM p rows ⟨pl,bx,said⟩).bx (m+1)→But2 b sd H H'→Q (.int (stepM p rows ⟨pl,bx,said⟩).pl) H'
theorem sc_mrow:FnScope ["self", "place", "said", "asking", "row", "word"] ["self", "place", "said", "asking"] (defScope s_mrow):=⟨rfl,rfl,rfl,by decide +kernel,rfl,by decide +kernel,by decide +kernel⟩
theorem ok_mrow {f:Addr} {fd:FuncData} (F:Fun K "do_row" "Machine.do_row" s_mrow f fd) (B:Bl mg) (TM:MTxt K mg CM) (C_value_of:Cal P w K mg base 6 "value_of" ["term", "boxes", "asking"] (spVal CA CG 4)):FnOk P w K mg base CX0 7 f fd ["self", "place", "said", "asking"] (spRowM CM CA CG):=by
  refine F.ok sc_mrow (fun vs H Q E h=>?_) (fun cdv A outer s H vs Q E hr h=>?_)
  · obtain ⟨M,g,h,b,dm,k,sd,rv,r,pl,p,rows,bx,m,said,rfl,_⟩:=h
    rfl
  obtain ⟨M,g,h,b,dm,k,sd,rv,rn,pl,p,rows,bx,m,said,rfl,hM,hh,RW,rq,pl0,pl1,BX,m1,hsd,sl,AK,p0,q⟩:=h
  have hu:=hu_of hr
  refine ⟨_,(pss_cons (ps_set (i:=4) sc_mrow.nd rfl (Or.inl rfl) (pe_ix ix_tup (pe_fld (pv 0) rfl) (pv 1) (fun _ _=>rfl)))
      (pss_cons (ps_set (i:=5) sc_mrow.nd rfl (Or.inl rfl) (pe_ix ix_tup (pv 4) pe_int (fun _ _=>rfl)))
      (pss_cons (ps_if (pt_cmpR op_eq (pv 5) pe_str (nomark _)) (pss_one (ps_ret (pe_callB call_len_seq rfl B.len PySem.boot_len (pa_cons (pe_fld (pv 0) rfl) pa_nil)))) pss_nil)
      (pss_cons (ps_if (pt_cmpR op_eq (pv 5) pe_str (nomark _)) (pss_one (ps_ret (pe_ix ix_tup (pv 4) pe_int (fun _ _=>rfl)))) pss_nil)
      (pss_cons (ps_if (pt_cmpR op_eq (pv 5) pe_str (nomark _)) (pss_one (ps_dput hu (pe_fld (pv 0) rfl) (pe_ix ix_tup (pv 4) pe_int (fun _ _=>rfl)) (pe_cal C_value_of hr (by decide) rfl (pa_cons (pe_ix ix_tup (pv 4) pe_int (fun _ _=>rfl)) (pa_cons (pe_fld (pv 0) rfl) (pa_cons (pv 3) pa_nil)))) rfl)) (pss_one (ps_if (pt_cmpR op_eq (pv 5) pe_str (nomark _)) (pss_one (ps_expr (pe_bm PySem.F.plainAttrs_list PySem.F.slot_list_append PySem.F.type_list_append mt_append (pv 2) (pa_cons (pe_cal C_value_of hr (by decide) rfl (pa_cons (pe_ix ix_tup (pv 4) pe_int (fun _ _=>rfl)) (pa_cons (pe_fld (pv 0) rfl) (pa_cons (pv 3) pa_nil)))) pa_nil)))) (pss_one (ps_if (pt_cmpR op_ne (pe_cal C_value_of hr (by decide) rfl (pa_cons (pe_ix ix_tup (pv 4) pe_int (fun _ _=>rfl)) (pa_cons (pe_fld (pv 0) rfl) (pa_cons (pv 3) pa_nil)))) pe_int (nomark _)) (pss_one (ps_ret (pe_ix ix_tup (pv 4) pe_int (fun _ _=>rfl)))) pss_nil)))))
      (pss_one (ps_ret (pe_op op_add (pv 1) pe_int)))))))),?_⟩
  obtain ⟨i,rfl⟩:=Int.eq_ofNat_of_zero_le pl0
  have hi:i < rows.length:=by omega
  have hi':i < rv.length:=by rw [RW.1]; exact hi
  have er:rows[i]?=some rows[i]:=List.getElem?_eq_getElem hi
  have ev:rv[i]?=some rv[i]:=List.getElem?_eq_getElem hi'
  have RA:=RW.2 i _ _ ev er
  have rqi:=rq _ (List.getElem_mem hi)
  have hst:stepM p rows ⟨(i:Int),bx,said⟩=stepR p rows.length ⟨(i:Int),bx,said⟩ rows[i]:=by
    unfold stepM
    rw [show ((⟨(i:Int),bx,said⟩:MS).pl.toNat)=i from Int.toNat_natCast i,er]
  rw [hst] at q
  generalize rows[i]=row at RA rqi q er hst
  have at_:atI rv (i:Int)=some rv[i]:=atI_nat ev
  generalize rv[i]=v at RA at_ ev
  refine ⟨_,rfl,M,CM,dm,_,_,rfl,hM,TM.cl,TM.nH,ml_h,_,rfl,h,_,_,v,rfl,rfl,SqT.of hh,at_,?_⟩
  have K0:But2 b sd H H:=fun _ _ _ _ e=>e
  have nBS:sd ≠ b:=by
    obtain ⟨kvs,e,_⟩:=BX
    exact ne_of hsd e (by intro z; cases z)
  cases RA with
  | @fin a e =>
    refine ⟨_,rfl,a,_,0,_,rfl,rfl,SqT.of e,rfl,?_⟩
    refine ⟨_,rfl,rfl,_,rfl,iteD rfl ?_⟩
    refine ⟨_,rfl,M,CM,dm,_,_,rfl,hM,TM.cl,TM.nH,ml_h,h,_,rfl,.inr (SqT.of hh),?_⟩
    rw [RW.1]
    exact q H hsd (BX.le (Nat.le_succ _)) K0
  | @go a n e =>
    refine ⟨_,rfl,a,_,0,_,rfl,rfl,SqT.of e,rfl,?_⟩
    refine ⟨_,rfl,rfl,_,rfl,iteDF (neS (by decide +kernel)) ?_⟩
    refine ⟨_,rfl,rfl,_,rfl,iteD rfl ?_⟩
    exact ⟨_,rfl,a,_,1,_,rfl,rfl,SqT.of e,rfl,q H hsd (BX.le (Nat.le_succ _)) K0⟩
  | @iff a u t n e T =>
    refine ⟨_,rfl,a,_,0,_,rfl,rfl,SqT.of e,rfl,?_⟩
    refine ⟨_,rfl,rfl,_,rfl,iteDF (neS (by decide +kernel)) ?_⟩
    refine ⟨_,rfl,rfl,_,rfl,iteDF (neS (by decide +kernel)) ?_⟩
    refine ⟨_,rfl,rfl,_,rfl,iteDF (neS (by decide +kernel)) ?_⟩
    refine ⟨_,rfl,rfl,_,rfl,iteDF (neS (by decide +kernel)) ?_⟩
    refine ⟨_,rfl,a,_,1,_,rfl,rfl,SqT.of e,rfl,_,rfl,M,CM,dm,_,_,rfl,hM,TM.cl,TM.nB,ml_b,_,rfl,u,t,b,k,bx,m,p,rfl,T,rqi.1,rqi.2.1,BX,AK,p0,?_⟩
    refine ⟨rfl,_,rfl,?_⟩
    have q':∀ H',H' sd=some (.lst (said.map V.int))→BxAt H' b bx (m+1)→But2 b sd H H'→Q (.int (if t.val p bx=0 then (i:Int)+1 else n)) H':=q
    by_cases c:t.val p bx=0
    · rw [if_pos c] at q'
      refine iteNS (congrArg V.int c) ?_
      exact ⟨_,rfl,_,_,rfl,rfl,q' H hsd (BX.le (Nat.le_succ _)) K0⟩
    · rw [if_neg c] at q'
      refine iteN (fun z=>c (V.int.inj z)) ?_
      exact ⟨_,rfl,a,_,2,_,rfl,rfl,SqT.of e,rfl,q' H hsd (BX.le (Nat.le_succ _)) K0⟩
  | @set a x u t e T =>
    refine ⟨_,rfl,a,_,0,_,rfl,rfl,SqT.of e,rfl,?_⟩
    refine ⟨_,rfl,rfl,_,rfl,iteDF (neS (by decide +kernel)) ?_⟩
    refine ⟨_,rfl,rfl,_,rfl,iteDF (neS (by decide +kernel)) ?_⟩
    refine ⟨_,rfl,rfl,_,rfl,iteD rfl ?_⟩
    obtain ⟨kvs,hb,kl,hx⟩:=id BX
    refine ⟨_,rfl,a,_,2,_,rfl,rfl,SqT.of e,rfl,_,rfl,M,CM,dm,_,_,rfl,hM,TM.cl,TM.nB,ml_b,_,rfl,u,t,b,k,bx,m,p,rfl,T,rqi.1,rqi.2,BX,AK,p0,?_⟩
    refine ⟨_,rfl,M,CM,dm,_,_,rfl,hM,TM.cl,TM.nB,ml_b,_,rfl,a,_,1,_,rfl,rfl,SqT.of e,rfl,b,_,rfl,DPut.k (k:=.inr x) hb ?_,?_⟩
    · exact Nat.lt_of_le_of_lt kl (Nat.lt_of_le_of_lt m1 (by decide))
    refine ⟨_,rfl,_,_,rfl,rfl,?_⟩
    refine q _ ?_ ⟨_,upd_same,Nat.le_trans (length_putK _ _ _) (Nat.succ_le_succ kl),bx_put x _ hx⟩ (fun c o h1 _ e=>by rw [upd_ne h1]; exact e)
    rw [upd_ne nBS]
    exact hsd
  | @say a u t e T =>
    refine ⟨_,rfl,a,_,0,_,rfl,rfl,SqT.of e,rfl,?_⟩
    refine ⟨_,rfl,rfl,_,rfl,iteDF (neS (by decide +kernel)) ?_⟩
    refine ⟨_,rfl,rfl,_,rfl,iteDF (neS (by decide +kernel)) ?_⟩
    refine ⟨_,rfl,rfl,_,rfl,iteDF (neS (by decide +kernel)) ?_⟩
    refine ⟨_,rfl,rfl,_,rfl,iteD rfl ?_⟩
    refine ⟨_,rfl,.inl ⟨rfl,_,SqL.of hsd⟩,?_⟩
    refine ⟨_,rfl,a,_,1,_,rfl,rfl,SqT.of e,rfl,_,rfl,M,CM,dm,_,_,rfl,hM,TM.cl,TM.nB,ml_b,_,rfl,u,t,b,k,bx,m,p,rfl,T,rqi.1,rqi.2,BX,AK,p0,?_⟩
    refine ⟨sd,_,_,rfl,rfl,hsd,?_,?_⟩
    · rw [List.length_map]
      exact small1000 (by omega)
    refine ⟨_,rfl,_,_,rfl,rfl,?_⟩
    refine q _ ?_ ((BX.keep fun o e=>by rw [upd_ne nBS.symm]; exact e).le (Nat.le_succ _)) (fun c o _ h2 e=>by rw [upd_ne h2]; exact e)
    rw [upd_same]
    show _=some (HO.lst ((said++[t.val p bx]).map V.int))
    rw [List.map_append]
    rfl
end
section
variable {CM CA CG:Addr}
theorem gf_game (a b:Addr) (p:Int) (d:Addr):(gf a b p d).lookup ("game" : Str)=none:=gf_no _ _ _ _ (by decide +kernel) (by decide +kernel) (by decide +kernel) (by decide +kernel)
theorem GameAt.ne {C:Addr} {H:Hp} {g a b d D:Addr} {p:Int} {dx:Addr} {fs:List (Str × V)} {v:V} (h:GameAt CG H g a b d p) (hD:H D=some (.ins C dx fs)) (hg:fs.lookup ("game" : Str)=some v):g ≠ D:=fun z=>by
  obtain ⟨dx',e⟩:=h
  rw [z,hD] at e
  cases e
  rw [gf_game] at hg
  cases hg
theorem GameAt.but {H H':Hp} {g a b d:Addr} {p:Int} (h:GameAt CG H g a b d p) (k:∀ o,H g=some o→H' g=some o):GameAt CG H' g a b d p:=by
  obtain ⟨dx,e⟩:=h
  exact ⟨dx,k _ e⟩
def m1 (g:Addr):List (Str × V):=[("game", .ref g)]
def m2 (g h:Addr):List (Str × V):=[("game", .ref g),("helper", .ref h)]
def m3 (g h:Addr):List (Str × V):=[("game", .ref g),("helper", .ref h),("next_round", .int 0)]
theorem pm1 {g:Addr}:putF "game" (.ref g) []=m1 g:=by with_unfolding_all rfl
theorem pm2 {g h:Addr}:putF "helper" (.ref h) (m1 g)=m2 g h:=by with_unfolding_all rfl
theorem pm3 {g h:Addr}:putF "next_round" (.int 0) (m2 g h)=m3 g h:=by with_unfolding_all rfl
theorem pm4 {g h b:Addr}:putF "boxes" (.ref b) (m3 g h)=ml g h 0 b:=by with_unfolding_all rfl
def spMInit (CM:Addr):Sp:=fun vs H Q _=>∃ (M g h dm:Addr),vs=[.ref M,.ref g,.ref h]∧H M=some (.ins CM dm [])∧∀ (b:Addr) (H':Hp),H b=none→H' M=some (.ins CM dm (ml g h 0 b))→H' b=some (.dK [])→SameBut M H H'→Q .non H'
theorem sc_minit:FnScope ["self", "game", "helper"] ["self", "game", "helper"] (defScope s_minit):=⟨rfl,rfl,rfl,by decide +kernel,rfl,by decide +kernel,by decide +kernel⟩
theorem ok_minit {f:Addr} {fd:FuncData} (F:Fun K "__init__" "Machine.__init__" s_minit f fd) (T:MTxt K mg CM):FnOk P w K mg base CX0 1 f fd ["self", "game", "helper"] (spMInit CM):=by
  refine F.ok sc_minit (fun vs H Q E h=>?_) (fun cdv A outer s H vs Q E hr h=>?_)
  · obtain ⟨M,g,h,dm,rfl,_⟩:=h
    rfl
  obtain ⟨M,g,h,dm,rfl,hM,q⟩:=h
  refine ⟨_,(pss_cons (ps_fld (pv 0) (pv 1) rfl)
      (pss_cons (ps_fld (pv 0) (pv 2) rfl)
      (pss_cons (ps_fld (pv 0) pe_int rfl)
      (pss_one (ps_fld (pv 0) pe_dnewK rfl))))),?_⟩
  refine ⟨_,rfl,_,rfl,M,CM,dm,_,rfl,hM,T.cl,T.nG,(by show 0 < 1000; decide),?_⟩
  rw [pm1]
  refine ⟨_,rfl,_,rfl,M,CM,dm,_,rfl,upd_same,T.cl,T.nH,(by show 1 < 1000; decide),?_⟩
  rw [pm2]
  refine ⟨_,rfl,M,CM,dm,_,rfl,upd_same,T.cl,T.nR,(by show 2 < 1000; decide),?_⟩
  rw [pm3]
  have S3:SameBut M H (upd (upd (upd H M (.ins CM dm (m1 g))) M (.ins CM dm (m2 g h))) M (.ins CM dm (m3 g h))):=(SameBut.upd _).trans ((SameBut.upd _).trans (SameBut.upd _))
  have g3:upd (upd (upd H M (.ins CM dm (m1 g))) M (.ins CM dm (m2 g h))) M (.ins CM dm (m3 g h)) M=some (.ins CM dm (m3 g h)):=upd_same
  generalize upd (upd (upd H M (.ins CM dm (m1 g))) M (.ins CM dm (m2 g h))) M (.ins CM dm (m3 g h))=H3 at S3 g3
  intro b hb
  have bM:b ≠ M:=(ne_of_none g3 hb).symm
  refine ⟨_,rfl,M,CM,dm,_,rfl,by rw [upd_ne bM.symm]; exact g3,T.cl,T.nB,(by show 3 < 1000; decide),?_⟩
  rw [pm4]
  refine q b _ ?_ upd_same (by rw [upd_ne bM]; exact upd_same) (S3.trans ((SameBut.of (Same.new hb _)).trans (SameBut.upd _)))
  cases e:H b with
  | none=>rfl
  | some o=>rw [S3 b o bM e] at hb; cases hb
def a1 (g:Addr):List (Str × V):=[("game", .ref g)]
def a2 (g:Addr) (nr:Int):List (Str × V):=[("game", .ref g),("number", .int nr)]
def a3 (g:Addr) (nr mn:Int):List (Str × V):=[("game", .ref g),("number", .int nr),("many", .int mn)]
def a4 (g:Addr) (nr mn hd:Int):List (Str × V):=[("game", .ref g),("number", .int nr),("many", .int mn),("held", .int hd)]
def a5 (g:Addr) (nr mn hd s:Int):List (Str × V):=[("game", .ref g),("number", .int nr),("many", .int mn),("held", .int hd),("s", .int s)]
def a6 (g:Addr) (nr mn hd s:Int) (aT:Addr):List (Str × V):=[("game", .ref g),("number", .int nr),("many", .int mn),("held", .int hd),("s", .int s),("tossed", .ref aT)]
section
variable {g aT:Addr} {nr mn hd s:Int}
theorem pa1:putF "game" (.ref g) []=a1 g:=by with_unfolding_all rfl
theorem pa2:putF "number" (.int nr) (a1 g)=a2 g nr:=by with_unfolding_all rfl
theorem pa3:putF "many" (.int mn) (a2 g nr)=a3 g nr mn:=by with_unfolding_all rfl
theorem pa4:putF "held" (.int hd) (a3 g nr mn)=a4 g nr mn hd:=by with_unfolding_all rfl
theorem pa5:putF "s" (.int s) (a4 g nr mn hd)=a5 g nr mn hd s:=by with_unfolding_all rfl
theorem pa6:putF "tossed" (.ref aT) (a5 g nr mn hd s)=a6 g nr mn hd s aT:=by with_unfolding_all rfl
theorem pa7:putF "truths" .non (a6 g nr mn hd s aT)=al g nr mn hd s aT .non:=by with_unfolding_all rfl
end
def spAInit (CA:Addr):Sp:=fun vs H Q _=>∃ (k dk g c:Addr) (nr mn hd s:Int) (xs:List V),vs=[.ref k,.ref g,.int nr,.int mn,.int hd,.int s,.ref c]∧H k=some (.ins CA dk [])∧(H c=some (.lst xs)∨H c=some (.tup xs)) ∧
  ∀ (aT:Addr) (H':Hp),H' k=some (.ins CA dk (al g nr mn hd s aT .non))→H' aT=some (.tup xs)→SameBut k H H'→Q .non H'
theorem sc_ainit:FnScope ["self", "game", "number", "many", "due", "s", "coins"] ["self", "game", "number", "many", "due", "s", "coins"] (defScope s_ainit):=⟨rfl,rfl,rfl,by decide +kernel,rfl,by decide +kernel,by decide +kernel⟩
theorem ok_ainit {f:Addr} {fd:FuncData} (F:Fun K "__init__" "Asking.__init__" s_ainit f fd) (B:Bl mg) (T:ATxt K mg CA):FnOk P w K mg base CX0 1 f fd ["self", "game", "number", "many", "due", "s", "coins"] (spAInit CA):=by
  refine F.ok sc_ainit (fun vs H Q E h=>?_) (fun cdv A outer s H vs Q E hr h=>?_)
  · obtain ⟨k,dk,g,c,nr,mn,hd,s,xs,rfl,_⟩:=h
    rfl
  obtain ⟨k,dk,g,c,nr,mn,hd,s,xs,rfl,hk,hc,q⟩:=h
  refine ⟨_,(pss_cons (ps_fld (pv 0) (pv 1) rfl)
      (pss_cons (ps_fld (pv 0) (pv 2) rfl)
      (pss_cons (ps_fld (pv 0) (pv 3) rfl)
      (pss_cons (ps_fld (pv 0) (pv 4) rfl)
      (pss_cons (ps_fld (pv 0) (pv 5) rfl)
      (pss_cons (ps_fld (pv 0) (pe_callTy call_tuple_of rfl B.tuple boot_tuple' (pa_cons (pv 6) pa_nil)) rfl)
      (pss_one (ps_fld (pv 0) pe_non rfl)))))))),?_⟩
  refine ⟨_,rfl,_,rfl,k,CA,dk,_,rfl,hk,T.cl,T.nG,(by show 0 < 1000; decide),?_⟩
  rw [pa1]
  refine ⟨_,rfl,_,rfl,k,CA,dk,_,rfl,upd_same,T.cl,T.nN,(by show 1 < 1000; decide),?_⟩
  rw [pa2]
  refine ⟨_,rfl,_,rfl,k,CA,dk,_,rfl,upd_same,T.cl,T.nM,(by show 2 < 1000; decide),?_⟩
  rw [pa3]
  refine ⟨_,rfl,_,rfl,k,CA,dk,_,rfl,upd_same,T.cl,T.nH,(by show 3 < 1000; decide),?_⟩
  rw [pa4]
  refine ⟨_,rfl,_,rfl,k,CA,dk,_,rfl,upd_same,T.cl,T.nS,(by show 4 < 1000; decide),?_⟩
  rw [pa5]
  have S5:SameBut k H (upd (upd (upd (upd (upd H k (.ins CA dk (a1 g))) k (.ins CA dk (a2 g nr))) k (.ins CA dk (a3 g nr mn))) k (.ins CA dk (a4 g nr mn hd))) k (.ins CA dk (a5 g nr mn hd s))):=(SameBut.upd _).trans ((SameBut.upd _).trans ((SameBut.upd _).trans ((SameBut.upd _).trans (SameBut.upd _))))
  have g5:upd (upd (upd (upd (upd H k (.ins CA dk (a1 g))) k (.ins CA dk (a2 g nr))) k (.ins CA dk (a3 g nr mn))) k (.ins CA dk (a4 g nr mn hd))) k (.ins CA dk (a5 g nr mn hd s)) k=some (.ins CA dk (a5 g nr mn hd s)):=upd_same
  generalize upd (upd (upd (upd (upd H k (.ins CA dk (a1 g))) k (.ins CA dk (a2 g nr))) k (.ins CA dk (a3 g nr mn))) k (.ins CA dk (a4 g nr mn hd))) k (.ins CA dk (a5 g nr mn hd s))=H5 at S5 g5
  rcases hc with hc | hc
  · have hc5:=S5 _ _ (ne_of hc hk (by intro z; cases z)) hc
    refine ⟨_,rfl,c,_,rfl,.inl ⟨SqL.of hc5,fun aT ha=>?_⟩⟩
    have aK:aT ≠ k:=(ne_of_none g5 ha).symm
    refine ⟨_,rfl,k,CA,dk,_,rfl,by rw [upd_ne aK.symm]; exact g5,T.cl,T.nT,(by show 5 < 1000; decide),?_⟩
    rw [pa6]
    refine ⟨_,rfl,k,CA,dk,_,rfl,upd_same,T.cl,T.nR,(by show 6 < 1000; decide),?_⟩
    rw [pa7]
    exact q aT _ upd_same (by rw [upd_ne aK,upd_ne aK]; exact upd_same) (S5.trans ((SameBut.of (Same.new ha _)).trans ((SameBut.upd _).trans (SameBut.upd _))))
  · have nc:=ne_of hc hk (by intro z; cases z)
    have hc5:=S5 _ _ nc hc
    refine ⟨_,rfl,c,_,rfl,.inr ⟨SqT.of hc5,?_⟩⟩
    refine ⟨_,rfl,k,CA,dk,_,rfl,g5,T.cl,T.nT,(by show 5 < 1000; decide),?_⟩
    rw [pa6]
    refine ⟨_,rfl,k,CA,dk,_,rfl,upd_same,T.cl,T.nR,(by show 6 < 1000; decide),?_⟩
    rw [pa7]
    exact q c _ upd_same (by rw [upd_ne nc,upd_ne nc]; exact hc5) (S5.trans ((SameBut.upd _).trans (SameBut.upd _)))
def spBox (CM:Addr):Sp:=fun vs H Q _=>∃ (M g h b dm:Addr) (r:Int) (x:Str) (bx:Str→Int) (m:Nat),vs=[.ref M,.str x]∧H M=some (.ins CM dm (ml g h r b))∧BxAt H b bx m∧Q (.int (bx x)) H
theorem sc_mbox:FnScope ["self", "x"] ["self", "x"] (defScope s_mbox):=⟨rfl,rfl,rfl,by decide +kernel,rfl,by decide +kernel,by decide +kernel⟩
theorem ok_mbox {f:Addr} {fd:FuncData} (F:Fun K "box" "Machine.box" s_mbox f fd) (T:MTxt K mg CM):FnOk P w K mg base CX0 1 f fd ["self", "x"] (spBox CM):=by
  refine F.ok sc_mbox (fun vs H Q E h=>?_) (fun cdv A outer s H vs Q E hr h=>?_)
  · obtain ⟨M,g,h,b,dm,r,x,bx,m,rfl,_⟩:=h
    rfl
  obtain ⟨M,g,h,b,dm,r,x,bx,m,rfl,hM,BX,q⟩:=h
  have hu:=hu_of hr
  refine ⟨_,(pss_one (ps_ret (pe_dget2 hu (pe_fld (pv 0) rfl) (pv 1) pe_int ⟨rfl,rfl,rfl,rfl⟩))),?_⟩
  obtain ⟨kvs,hb,_,hx⟩:=BX
  refine ⟨_,rfl,M,CM,dm,_,_,rfl,hM,T.cl,T.nB,ml_b,b,rfl,.inl ⟨kvs,.inl hb⟩,_,rfl,_,DGet.k (k:=.inr x) hb,?_⟩
  rw [hx]
  exact q
def spSay (CM CG:Addr):Sp:=fun vs H Q _=>∃ (M g h b dm c a' b' d':Addr) (rv:List V) (r mn du s p:Int) (rows:List Hr) (bx:Str→Int) (m:Nat) (xs:List V),
  vs=[.ref M,.int mn,.int du,.int s,.ref c]∧H M=some (.ins CM dm (ml g h r b))∧H h=some (.tup rv)∧RowsAt H rv rows∧(∀ r ∈ rows,r.quiet)∧BxAt H b bx m∧m≤5000∧GameAt CG H g a' b' d' p∧0 < p∧(H c=some (.lst xs)∨H c=some (.tup xs))∧0≤mn∧mn≤100 ∧
  ∀ (l:Addr) (H':Hp),H l=none→H' l=some (.lst ((outM mn (runM p rows mn 200 ⟨0,bx,[]⟩).sd).map V.int))→BxAt H' b (runM p rows mn 200 ⟨0,bx,[]⟩).bx (m+200)→H' M=some (.ins CM dm (ml g h (r+1) b))→But2 M b H H'→Q (.ref l) H'
theorem sc_msay:FnScope ["self", "many", "due", "s", "coins", "asking", "said", "place", "done"] ["self", "many", "due", "s", "coins"] (defScope s_msay):=⟨rfl,rfl,rfl,by decide +kernel,rfl,by decide +kernel,by decide +kernel⟩
theorem rep_flat (k:Nat) (x:V):(List.replicate k [x]).flatten=List.replicate k x:=by
  induction k with
  | zero=>rfl
  | succ k ih=>rw [List.replicate_succ,List.flatten_cons,ih,List.replicate_succ]; rfl
theorem pss_cut {X:Cx} {ss:List Stmt} {t t':TS} (h:PSs X ss t) (hw:∀ D σ H,t' D σ H→t D σ H):PSs X ss t':=fun pins s σ H D I k=>h pins s σ H D I (hw _ _ _ k)
def tSayE:TS:=fun Dn σ H=>∃ (x0 x2 x3 x4 x5 x7 x8:Option V) (sd:Addr) (mn:Int) (xs:List Int),σ=[x0,some (.int mn),x2,x3,x4,x5,some (.ref sd),x7,x8]∧H sd=some (.lst (xs.map V.int))∧xs.length≤900∧0≤mn∧mn≤100 ∧
  ∀ (l:Addr) (H':Hp),H l=none→Same H H'→H' l=some (.lst ((outM mn xs).map V.int))→Dn.rt (.ref l) H'
theorem ok_msay {f fA fR:Addr} {fd fdA fdR:FuncData} (F:Fun K "say" "Machine.say" s_msay f fd) (B:Bl mg) (TM:MTxt K mg CM) (TA:ATxt K mg CA) (hmost:∃ t,mg "MOST_ROWS_DONE" = some (.int 200 t))
    (MA:Mk K CA fA) (GA:FnOk P w K mg base CX0 1 fA fdA ["self", "game", "number", "many", "due", "s", "coins"] (spAInit CA)) (bA:Binds K fdA ["self", "game", "number", "many", "due", "s", "coins"] [])
    (mR:Meth K CM "do_row" fR) (GR:FnOk P w K mg base CX0 7 fR fdR ["self", "place", "said", "asking"] (spRowM CM CA CG)) (bR:Binds K fdR ["self", "place", "said", "asking"] []):FnOk P w K mg base CX0 8 f fd ["self", "many", "due", "s", "coins"] (spSay CM CG):=by
  refine F.ok sc_msay (fun vs H Q E h=>?_) (fun cdv A outer s H vs Q E hr h=>?_)
  · obtain ⟨M,g,h,b,dm,c,a',b',d',rv,r,mn,du,s,p,rows,bx,m,xs,rfl,_⟩:=h
    rfl
  obtain ⟨M,g,h,b,dm,c,a',b',d',rv,rn,mn,du,s,p,rows,bx,m,xs,rfl,hM,hh,RW,rq,BX,mm,G,p0,hc,mn0,mn1,q⟩:=h
  obtain ⟨te,ge⟩:=hmost
  have hr2:Room (1+1) _:=hr.mono (by decide)
  have hr7:Room 7 _:=hr.mono (by decide)
  refine ⟨_,(pss_cons (ps_set (i:=5) sc_msay.nd rfl (Or.inl rfl) (pe_make MA GA hr2 rfl TA.mgC bA .nil pass0 (pa_cons (pe_fld (pv 0) rfl) (pa_cons (pe_fld (pv 0) rfl) (pa_cons (pv 1) (pa_cons (pv 2) (pa_cons (pv 3) (pa_cons (pv 4) pa_nil))))))))
      (pss_cons (ps_fld (pv 0) (pe_op op_add (pe_fld (pv 0) rfl) pe_int) rfl)
      (pss_cons (ps_set (i:=6) sc_msay.nd rfl (Or.inl rfl) (pe_lst pa_nil))
      (pss_cons (ps_set (i:=7) sc_msay.nd rfl (Or.inl rfl) pe_int)
      (pss_cons (ps_set (i:=8) sc_msay.nd rfl (Or.inl rfl) pe_int)
      (pss_cons (ps_while PassesOwn.never (PW.pt (pw_and (pt_cmpR op_lt (pv 7) (pe_callB call_len_seq rfl B.len PySem.boot_len (pa_cons (pe_fld (pv 0) rfl) pa_nil)) (nomark _)) (pw_and (pt_cmpR op_lt (pe_callB call_len_seq rfl B.len PySem.boot_len (pa_cons (pv 6) pa_nil)) (pv 1) (nomark _)) (pw_and1 (pt_cmpR op_lt (pv 8) (pe_glob (v:=.int 200) rfl ge ⟨_,rfl⟩) (nomark _)))))) (pss_cons (ps_set (i:=7) sc_msay.nd rfl (Or.inl rfl) (pe_meth (pv 0) TM.cl mR GR hr7 bR .nil pass0 (pa_cons (pv 7) (pa_cons (pv 6) (pa_cons (pv 5) pa_nil)))))
        (pss_one (ps_set (i:=8) sc_msay.nd rfl (Or.inl rfl) (pe_op op_add (pv 8) pe_int)))))
      (pss_cut (t':=tSayE) (pss_one (ps_ret (pe_op op_cat (pv 6) (pe_op op_rep (pe_lst (pa_cons pe_int pa_nil)) (pe_op op_sub (pv 1) (pe_callB call_len_seq rfl B.len PySem.boot_len (pa_cons (pv 6) pa_nil))))))) (by
        rintro Dn σ H ⟨x0,x2,x3,x4,x5,x7,x8,sd,mn,xs,rfl,hsd,xl,mn0,mn1,q⟩
        refine ⟨_,rfl,(by show 1≤sizeLine; decide),fun z hz=>?_⟩
        have I1:=Same.new hz (.lst [.int 0])
        have g1:upd H z (.lst [.int 0]) z=some (.lst [.int 0]):=upd_same
        generalize upd H z (.lst [.int 0])=H1 at I1 g1
        refine ⟨_,rfl,_,rfl,sd,_,rfl,.inl (SqL.of (I1 _ _ hsd)),_,_,rfl,rfl,?_⟩
        have el:((xs.map V.int).length:Int)=(xs.length:Int):=by rw [List.length_map]
        refine ⟨z,_,_,rfl,rfl,g1,by omega,by omega,small (by show 1*(mn - ((xs.map V.int).length:Int)).toNat≤1000; omega),fun y hy=>?_⟩
        rw [rep_flat]
        have I2:=Same.new hy (.lst (List.replicate (mn - ((xs.map V.int).length:Int)).toNat (.int 0)))
        have g2:upd H1 y (.lst (List.replicate (mn - ((xs.map V.int).length:Int)).toNat (.int 0))) y=some (.lst (List.replicate (mn - ((xs.map V.int).length:Int)).toNat (.int 0))):=upd_same
        generalize upd H1 y (.lst (List.replicate (mn - ((xs.map V.int).length:Int)).toNat (.int 0)))=H2 at I2 g2
        refine ⟨sd,y,_,_,rfl,rfl,I2 _ _ (I1 _ _ hsd),g2,?_,fun l hl=>?_⟩
        · rw [List.length_replicate,List.length_map]
          exact small (by omega)
        refine q l _ ?_ (I1.trans (I2.trans (Same.new hl _))) ?_
        · cases e:H l with
          | none=>rfl
          | some o=>rw [I2 _ _ (I1 _ _ e)] at hl; cases hl
        · rw [upd_same,el]
          unfold outM
          rw [List.map_append,List.map_replicate])))))))),?_⟩
  refine ⟨_,rfl,M,CM,dm,_,_,rfl,hM,TM.cl,TM.nG,ml_g,_,rfl,M,CM,dm,_,_,rfl,hM,TM.cl,TM.nR,ml_r,_,rfl,_,rfl,_,rfl,_,rfl,fun k dk hk hdk nk=>?_⟩
  have S1:Same H (upd (upd H dk (.own k)) k (.ins CA dk [])):=fun a o e=>by
    rw [upd_ne (ne_of_none e hk),upd_ne (ne_of_none e hdk)]
    exact e
  have g1:upd (upd H dk (.own k)) k (.ins CA dk []) k=some (.ins CA dk []):=upd_same
  generalize upd (upd H dk (.own k)) k (.ins CA dk [])=H1 at S1 g1
  refine ⟨k,dk,g,c,rn,mn,du,s,xs,rfl,g1,hc.imp (S1 _ _) (S1 _ _),fun aT H2 hk2 _ S2=>⟨rfl,?_⟩⟩
  have S02:Same H H2:=Same.but S1 hk S2
  clear S1 S2 g1
  have hM2:=S02 _ _ hM
  refine ⟨_,rfl,M,CM,dm,_,_,rfl,hM2,TM.cl,TM.nR,ml_r,_,_,rfl,rfl,_,rfl,M,CM,dm,_,rfl,hM2,TM.cl,TM.nR,ml_len,?_⟩
  rw [ml_put]
  have nMk:M ≠ k:=ne_of_none hM hk
  have S3:SameBut M H2 (upd H2 M (.ins CM dm (ml g h (rn+1) b))):=SameBut.upd _
  have hM3:upd H2 M (.ins CM dm (ml g h (rn+1) b)) M=some (.ins CM dm (ml g h (rn+1) b)):=upd_same
  generalize upd H2 M (.ins CM dm (ml g h (rn+1) b))=H3 at S3 hM3
  refine ⟨(by show 0≤sizeLine; decide),fun sd hsd=>?_⟩
  have I4:=Same.new hsd (.lst [])
  have g4:upd H3 sd (.lst []) sd=some (.lst []):=upd_same
  generalize upd H3 sd (.lst [])=H4 at I4 g4
  have gM:g ≠ M:=(G.but (S02 g)).ne hM2 ml_g
  have nbM:b ≠ M:=by
    obtain ⟨kvs,e,_⟩:=BX
    exact ne_of e hM (by intro z; cases z)
  have S04:SameBut M H H4:=(SameBut.of S02).trans (S3.trans (SameBut.of I4))
  have hM4:=I4 _ _ hM3
  have kT:KeepT H H4:=fun c xs h=>S04 c _ (ne_of h hM (by intro z; cases z)) h
  have hh4:=kT _ _ hh
  have RW4:=RW.mono kT
  have BX4:BxAt H4 b bx m:=BX.keep fun o e=>S04 b o nbM e
  have G4:GameAt CG H4 g a' b' d' p:=G.but fun o e=>S04 g o gM e
  have hk4:=I4 _ _ (S3 _ _ nMk.symm hk2)
  have b4:∃ kvs,H4 b=some (.dK kvs):=by
    obtain ⟨kvs,e,_⟩:=BX4
    exact ⟨kvs,e⟩
  obtain ⟨kv4,hb4⟩:=b4
  have nbs:b ≠ sd:=ne_of hb4 g4 (by intro z; cases z)
  have nhb:h ≠ b:=ne_of hh4 hb4 (by intro z; cases z)
  have nhs:h ≠ sd:=ne_of hh4 g4 (by intro z; cases z)
  have nMs:M ≠ sd:=ne_of hM4 g4 (by intro z; cases z)
  have nkb:k ≠ b:=ne_of hk4 hb4 (by intro z; cases z)
  have nks:k ≠ sd:=ne_of hk4 g4 (by intro z; cases z)
  obtain ⟨dg,hg4⟩:=G4
  have ngb:g ≠ b:=ne_of hg4 hb4 (by intro z; cases z)
  have ngs:g ≠ sd:=ne_of hg4 g4 (by intro z; cases z)
  have sd0:H sd=none:=by
    cases e:H sd with
    | none=>rfl
    | some o=>rw [S3 _ _ nMs.symm (S02 _ _ e)] at hsd; cases hsd
  refine ⟨fun mm σ H'=>∃ (st:MS) (d:Nat),σ=[some (.ref M),some (.int mn),some (.int du),some (.int s),some (.ref c),some (.ref k),some (.ref sd),some (.int st.pl),some (.int (d:Int))]∧d≤200∧mm=200 - d∧0≤st.pl∧st.sd.length≤d∧runM p rows mn (200 - d) st=runM p rows mn 200 ⟨0,bx,[]⟩∧H' sd=some (.lst (st.sd.map V.int))∧BxAt H' b st.bx (m+d)∧But2 b sd H4 H',
    ⟨_,⟨0,bx,[]⟩,0,rfl,Nat.zero_le _,rfl,Int.le_refl 0,Nat.le_refl _,rfl,g4,BX4,fun _ _ _ _ e=>e⟩,?_⟩
  rintro mm σ H' ⟨st,d,rfl,d2,rfl,st0,sl,hrun,hsd',BX',S'⟩
  have hM':=S' _ _ nbM.symm nMs hM4
  have hh':=S' _ _ nhb nhs hh4
  have hg':=S' _ _ ngb ngs hg4
  have hk':=S' _ _ nkb nks hk4
  have kT':KeepT H4 H':=fun c xs h=>S' c _ (ne_of h hb4 (by intro z; cases z)) (ne_of h g4 (by intro z; cases z)) h
  have RW':=RW4.mono kT'
  have AK':AkAt CA CG H' k p:=⟨dk,g,_,_,_,_,aT,.non,a',b',d',hk',dg,hg'⟩
  have fin:runM p rows mn (200 - d) st=st→∀ (l:Addr) (H5:Hp),H' l=none→Same H' H5→H5 l=some (.lst ((outM mn st.sd).map V.int))→Q (.ref l) H5:=fun er l H5 l0 S5 hl=>by
    rw [er] at hrun
    rw [← hrun] at q
    refine q l H5 ?_ hl ((BX'.keep fun o e=>S5 b o e).le (by omega)) (S5 _ _ hM') (fun a o h1 h2 e=>?_)
    · cases e:H l with
      | none=>rfl
      | some o =>
        have lM:l ≠ M:=fun z=>by rw [z,hM'] at l0; cases l0
        have lb:l ≠ b:=fun z=>by
          obtain ⟨kvs,e',_⟩:=BX'
          rw [z,e'] at l0; cases l0
        have ls:l ≠ sd:=fun z=>by rw [z,hsd'] at l0; cases l0
        rw [S' _ _ lb ls (S04 _ _ lM e)] at l0
        cases l0
    · exact S5 _ _ (S' _ _ h2 (ne_of_none e sd0) (S04 _ _ h1 e))
  refine ⟨_,rfl,_,rfl,M,CM,dm,_,_,rfl,hM',TM.cl,TM.nH,ml_h,h,_,rfl,.inr (SqT.of hh'),_,_,rfl,rfl,_,rfl,?_⟩
  rw [RW.1]
  by_cases c1:st.pl < (rows.length:Int)
  · refine iteD c1 ?_
    refine ⟨_,rfl,sd,_,rfl,.inl (SqL.of hsd'),_,rfl,_,_,rfl,rfl,_,rfl,?_⟩
    rw [List.length_map]
    by_cases c2:(st.sd.length:Int) < mn
    · refine iteD c2 ?_
      refine ⟨_,rfl,_,_,rfl,rfl,_,rfl,?_⟩
      by_cases c3:d < 200
      · refine iteD (by omega) ?_
        refine ⟨_,fun _ _ h=>h,?_⟩
        refine ⟨_,rfl,M,dm,_,rfl,hM',ml_n1,_,rfl,_,rfl,_,rfl,M,g,h,b,dm,k,sd,rv,_,st.pl,p,rows,st.bx,m+d,st.sd,rfl,hM',hh',RW',rq,st0,c1,BX',by omega,hsd',by omega,AK',p0,fun H6 hs6 BX6 S6=>?_⟩
        refine ⟨_,rfl,_,_,rfl,rfl,?_⟩
        refine ⟨_,(show 200 - (d+1) < 200 - d by omega),stepM p rows st,d+1,rfl,c3,rfl,stepM_pl rq st0,Nat.le_trans stepM_sd (Nat.succ_le_succ sl),?_,hs6,BX6,S'.trans S6⟩
        rw [← hrun,show 200 - d=(200 - (d+1))+1 by omega]
        exact (if_pos ⟨c1,c2⟩).symm
      · refine iteDF (by omega) ?_
        have ed:200 - d=0:=by omega
        exact ⟨_,_,_,_,_,_,_,sd,mn,st.sd,rfl,hsd',by omega,mn0,mn1,fin (by rw [ed]; rfl)⟩
    · refine iteDF c2 (iteF ?_)
      refine ⟨_,_,_,_,_,_,_,sd,mn,st.sd,rfl,hsd',by omega,mn0,mn1,fin ?_⟩
      cases 200 - d with
      | zero=>rfl
      | succ n=>exact if_neg (fun z=>c2 z.2)
  · refine iteDF c1 (iteF ?_)
    refine ⟨_,_,_,_,_,_,_,sd,mn,st.sd,rfl,hsd',by omega,mn0,mn1,fin ?_⟩
    cases 200 - d with
    | zero=>rfl
    | succ n=>exact if_neg (fun z=>c1 z.1)
end
section
variable {CM CA CG:Addr}
theorem RowsAt.app {H:Hp} {a b:List V} {r s:List Hr} (h:RowsAt H a r) (k:RowsAt H b s):RowsAt H (a++b) (r++s):=by
  refine ⟨by rw [List.length_append,List.length_append,h.1,k.1],fun i v x e1 e2=>?_⟩
  by_cases c:i < a.length
  · rw [List.getElem?_append_left c] at e1
    rw [List.getElem?_append_left (by rw [← h.1]; exact c)] at e2
    exact h.2 i v x e1 e2
  · rw [List.getElem?_append_right (by omega)] at e1
    rw [List.getElem?_append_right (by rw [← h.1]; omega),← h.1] at e2
    exact k.2 _ v x e1 e2
theorem RowsAt.all {H:Hp} {a:List V} {r:Hr} (h:∀ v ∈ a,HrAt H v r) {n:Nat} (hn:a.length=n):RowsAt H a (List.replicate n r):=by
  refine ⟨by rw [List.length_replicate,hn],fun i v x e1 e2=>?_⟩
  rw [List.eq_of_mem_replicate (List.mem_of_getElem? e2)]
  exact h v (List.mem_of_getElem? e1)
theorem RowsAt.one {H:Hp} {v:V} {r:Hr} (h:HrAt H v r):RowsAt H [v] [r]:=RowsAt.all (n:=1) (fun x hx=>by rw [List.mem_singleton.mp hx]; exact h) rfl
theorem mk_op {H:Hp} {t1 t2 t3:Addr} {x s:Str} {n:Int} (h1:H t1=none) (h2:upd H t1 (.tup [.str "box", .str x]) t2=none) (h3:upd (upd H t1 (.tup [.str "box", .str x])) t2 (.tup [.str "num", .int n]) t3=none) :
    TmAt (upd (upd (upd H t1 (.tup [.str "box", .str x])) t2 (.tup [.str "num", .int n])) t3 (.tup [.str "op", .str s,.ref t1,.ref t2])) (.ref t3) (.op s (.box x) (.num n))∧Same H (upd (upd (upd H t1 (.tup [.str "box", .str x])) t2 (.tup [.str "num", .int n])) t3 (.tup [.str "op", .str s,.ref t1,.ref t2])):=by
  have I1:=Same.new h1 (.tup [.str "box", .str x])
  have I2:=Same.new h2 (.tup [.str "num", .int n])
  have I3:=Same.new h3 (.tup [.str "op", .str s,.ref t1,.ref t2])
  exact ⟨.op upd_same (.box (I3 _ _ (I2 _ _ upd_same))) (.num (I3 _ _ upd_same)),I1.trans (I2.trans I3)⟩
theorem mk_set {H:Hp} {t1 t2 t3 t4:Addr} {x y s:Str} {n:Int} (h1:H t1=none) (h2:upd H t1 (.tup [.str "box", .str x]) t2=none) (h3:upd (upd H t1 (.tup [.str "box", .str x])) t2 (.tup [.str "num", .int n]) t3=none)
    (h4:(upd (upd (upd H t1 (.tup [.str "box", .str x])) t2 (.tup [.str "num", .int n])) t3 (.tup [.str "op", .str s,.ref t1,.ref t2])) t4=none):HrAt (upd (upd (upd (upd H t1 (.tup [.str "box", .str x])) t2 (.tup [.str "num", .int n])) t3 (.tup [.str "op", .str s,.ref t1,.ref t2])) t4 (.tup [.str "set", .str y,.ref t3])) (.ref t4) (.set y (.op s (.box x) (.num n)))∧Same H (upd (upd (upd (upd H t1 (.tup [.str "box", .str x])) t2 (.tup [.str "num", .int n])) t3 (.tup [.str "op", .str s,.ref t1,.ref t2])) t4 (.tup [.str "set", .str y,.ref t3])):=by
  obtain ⟨T,S⟩:=mk_op (s:=s) h1 h2 h3
  have I4:=Same.new h4 (.tup [.str "set", .str y,.ref t3])
  exact ⟨.set upd_same (T.mono (keepT_same I4)),S.trans I4⟩
def oneR (hd:Str):Hr:=.set hd (.op "+" (.box hd) (.num 1))
def hRows (c hd:Str) (ah mo tu sa:Int) (ev:Bool):List Hr :=
  ((List.replicate ah.toNat (oneR hd)++[.set c (.op "+" (.box c) (.num 1)),.set hd (.op "+" (.box hd) (.num mo)),if ev=true then .go ah else .iff (.op "<" (.box c) (.num tu)) ah])++List.replicate sa.toNat (.say (.box hd)))++[.set c (.num 3)]
def plV (ah mo tu sa:Int) (ev:Bool):List V:=[.int ah,.int mo,.int tu,.int sa,.bl ev]
def spHelper:Sp:=fun vs H Q _=>∃ (nl pl:Addr) (c hd:Str) (r:List Str) (ah mo tu sa:Int) (ev:Bool),vs=[.ref nl,.ref pl]∧H nl=some (.lst ((c::hd::r).map V.str))∧r.length≤10∧H pl=some (.tup (plV ah mo tu sa ev))∧0≤ah∧ah≤10∧0≤sa∧sa≤10 ∧
  ∀ (h:Addr) (rv:List V) (H':Hp),Same H H'→H' h=some (.tup rv)→RowsAt H' rv (hRows c hd ah mo tu sa ev)→Q (.ref h) H'
theorem cut2 (c d:V) (r:List V):cutV (c::d::r) none (some 2)=[c,d]:=by
  unfold cutV
  have e1:HT.sIx (c::d::r).length 0 none=0:=rfl
  have e2:HT.sIx (c::d::r).length (c::d::r).length (some 2)=2:=by
    show HT.sIx (r.length+1+1) (r.length+1+1) (some 2)=2
    unfold HT.sIx
    simp
  rw [e1,e2]
  rfl
def tHelE (K:PySem.W.Frag):TS:=fun Dn σ H=>∃ (x0 x1 x2 x3 x4 x6:Option V) (c hd:Str) (L:Addr) (vs:List V) (rows:List Hr) (sa:Int),σ=[x0,x1,x2,x3,x4,some (.int sa),x6,some (.str c),some (.str hd),some (.ref L)]∧H L=some (.lst vs)∧RowsAt H vs rows∧vs.length≤100∧0≤sa∧sa≤10 ∧
  ∀ (h:Addr) (rv:List V) (H':Hp),Same H H'→H' h=some (.tup rv)→RowsAt H' rv ((rows++List.replicate sa.toNat (.say (.box hd)))++[.set c (.num 3)])→Dn.rt (.ref h) H'
theorem sc_l_helper:FnScope ["_law_names_here", "_law_plan", "_law_ahead", "_law_more", "_law_turns", "_law_says", "_law_ever", "_law_count", "_law_held", "_law_rows"] ["_law_names_here", "_law_plan"] (defScope s_l_helper):=⟨rfl,rfl,rfl,by decide +kernel,rfl,by decide +kernel,by decide +kernel⟩
theorem ok_l_helper {f:Addr} {fd:FuncData} (F:Fun K "_law_helper" "_law_helper" s_l_helper f fd) (B:Bl mg):FnOk P w K mg base CX0 1 f fd ["_law_names_here", "_law_plan"] spHelper:=by
  refine F.ok sc_l_helper (fun vs H Q E h=>?_) (fun cdv A outer s H vs Q E hr h=>?_)
  · obtain ⟨nl,pl,c,hd,r,ah,mo,tu,sa,ev,rfl,_⟩:=h
    rfl
  obtain ⟨nl,pl,c,hd,r,ah,mo,tu,sa,ev,rfl,hN,r10,hP,ah0,ah1,sa0,sa1,q⟩:=h
  refine ⟨_,(pss_cons (ps_asg (pv 1) (pg_tup rfl (pgs_cons (pg_name (i:=2) sc_l_helper.nd rfl (Or.inl rfl)) (pgs_cons (pg_name (i:=3) sc_l_helper.nd rfl (Or.inl rfl)) (pgs_cons (pg_name (i:=4) sc_l_helper.nd rfl (Or.inl rfl)) (pgs_cons (pg_name (i:=5) sc_l_helper.nd rfl (Or.inl rfl)) (pgs_cons (pg_name (i:=6) sc_l_helper.nd rfl (Or.inl rfl)) pgs_nil)))))))
      (pss_cons (ps_asg (pe_slice sl_list (pv 0) po_none (po_some pe_int)) (pg_lst rfl (pgs_cons (pg_name (i:=7) sc_l_helper.nd rfl (Or.inl rfl)) (pgs_cons (pg_name (i:=8) sc_l_helper.nd rfl (Or.inr rfl)) pgs_nil))))
      (pss_cons (ps_comp (i:=9) (N:=["_law_held"]) (ix:=[8]) sc_l_helper.nd rfl (Or.inl rfl) rfl
          (CompScope.one (by with_unfolding_all rfl) (by decide) rfl (by decide) rfl (by decide +kernel) (by with_unfolding_all rfl) (by with_unfolding_all rfl) (by with_unfolding_all rfl) rfl rfl) rfl
          (pi_range1 rfl B.range (pa_cons (pv 2) pa_nil)) (fun _ _ _=>pb_all (pe_tup (pa_cons pe_str (pa_cons (pv 1) (pa_cons (pe_tup (pa_cons pe_str (pa_cons pe_str (pa_cons (pe_tup (pa_cons pe_str (pa_cons (pv 1) pa_nil))) (pa_cons (pe_tup (pa_cons pe_str (pa_cons pe_int pa_nil))) pa_nil))))) pa_nil))))))
      (pss_cons (ps_expr (pe_bm PySem.F.plainAttrs_list PySem.F.slot_list_append PySem.F.type_list_append mt_append (pv 9) (pa_cons (pe_tup (pa_cons pe_str (pa_cons (pv 7) (pa_cons (pe_tup (pa_cons pe_str (pa_cons pe_str (pa_cons (pe_tup (pa_cons pe_str (pa_cons (pv 7) pa_nil))) (pa_cons (pe_tup (pa_cons pe_str (pa_cons pe_int pa_nil))) pa_nil))))) pa_nil)))) pa_nil)))
      (pss_cons (ps_expr (pe_bm PySem.F.plainAttrs_list PySem.F.slot_list_append PySem.F.type_list_append mt_append (pv 9) (pa_cons (pe_tup (pa_cons pe_str (pa_cons (pv 8) (pa_cons (pe_tup (pa_cons pe_str (pa_cons pe_str (pa_cons (pe_tup (pa_cons pe_str (pa_cons (pv 8) pa_nil))) (pa_cons (pe_tup (pa_cons pe_str (pa_cons (pv 3) pa_nil))) pa_nil))))) pa_nil)))) pa_nil)))
      (pss_cons (ps_if (pt_val (pv 6)) (pss_one (ps_expr (pe_bm PySem.F.plainAttrs_list PySem.F.slot_list_append PySem.F.type_list_append mt_append (pv 9) (pa_cons (pe_tup (pa_cons pe_str (pa_cons (pv 2) pa_nil))) pa_nil)))) (pss_one (ps_expr (pe_bm PySem.F.plainAttrs_list PySem.F.slot_list_append PySem.F.type_list_append mt_append (pv 9) (pa_cons (pe_tup (pa_cons pe_str (pa_cons (pe_tup (pa_cons pe_str (pa_cons pe_str (pa_cons (pe_tup (pa_cons pe_str (pa_cons (pv 7) pa_nil))) (pa_cons (pe_tup (pa_cons pe_str (pa_cons (pv 4) pa_nil))) pa_nil))))) (pa_cons (pv 2) pa_nil)))) pa_nil)))))
      (pss_cut (t':=tHelE K) (pss_one (ps_ret (pe_callTy call_tuple_of rfl B.tuple boot_tuple' (pa_cons (pe_op op_cat (pe_op op_cat (pv 9) (pe_op op_rep (pe_lst (pa_cons (pe_tup (pa_cons pe_str (pa_cons (pe_tup (pa_cons pe_str (pa_cons (pv 8) pa_nil))) pa_nil))) pa_nil)) (pv 5))) (pe_lst (pa_cons (pe_tup (pa_cons pe_str (pa_cons (pv 7) (pa_cons (pe_tup (pa_cons pe_str (pa_cons pe_int pa_nil))) pa_nil)))) pa_nil))) pa_nil)))) (by
        rintro Dn σ H ⟨x0,x1,x2,x3,x4,x6,c,hd,L,vs,rows,sa,rfl,hL,RW,vl,sa0,sa1,q⟩
        refine ⟨_,rfl,_,rfl,(by show 2≤sizeLine; decide),fun t1 h1=>⟨(by show 2≤sizeLine; decide),fun t2 h2=>⟨(by show 1≤sizeLine; decide),fun t3 h3=>?_⟩⟩⟩
        have I1:=Same.new h1 (.tup [.str "box", .str hd])
        have I2:=Same.new h2 (.tup [.str "say", .ref t1])
        have I3:=Same.new h3 (.lst [.ref t2])
        have R2:HrAt (upd (upd (upd H t1 (.tup [.str "box", .str hd])) t2 (.tup [.str "say", .ref t1])) t3 (.lst [.ref t2])) (.ref t2) (.say (.box hd)):=.say (I3 _ _ upd_same) (.box (I3 _ _ (I2 _ _ upd_same)))
        have g3:upd (upd (upd H t1 (.tup [.str "box", .str hd])) t2 (.tup [.str "say", .ref t1])) t3 (.lst [.ref t2]) t3=some (.lst [.ref t2]):=upd_same
        have J3:=I1.trans (I2.trans I3)
        generalize upd (upd (upd H t1 (.tup [.str "box", .str hd])) t2 (.tup [.str "say", .ref t1])) t3 (.lst [.ref t2])=H3 at R2 g3 J3
        clear I1 I2 I3
        refine ⟨_,rfl,t3,_,_,rfl,rfl,g3,by omega,by omega,small (by show 1*sa.toNat≤1000; omega),fun t4 h4=>?_⟩
        rw [rep_flat]
        have I4:=Same.new h4 (.lst (List.replicate sa.toNat (.ref t2)))
        have g4:upd H3 t4 (.lst (List.replicate sa.toNat (.ref t2))) t4=some (.lst (List.replicate sa.toNat (.ref t2))):=upd_same
        generalize upd H3 t4 (.lst (List.replicate sa.toNat (.ref t2)))=H4 at I4 g4
        refine ⟨L,t4,_,_,rfl,rfl,I4 _ _ (J3 _ _ hL),g4,small (by rw [List.length_replicate]; omega),fun t5 h5=>?_⟩
        have I5:=Same.new h5 (.lst (vs++List.replicate sa.toNat (.ref t2)))
        have g5:upd H4 t5 (.lst (vs++List.replicate sa.toNat (.ref t2))) t5=some (.lst (vs++List.replicate sa.toNat (.ref t2))):=upd_same
        generalize upd H4 t5 (.lst (vs++List.replicate sa.toNat (.ref t2)))=H5 at I5 g5
        refine ⟨_,rfl,(by show 2≤sizeLine; decide),fun t6 h6=>⟨(by show 3≤sizeLine; decide),fun t7 h7=>⟨(by show 1≤sizeLine; decide),fun t8 h8=>?_⟩⟩⟩
        have I6:=Same.new h6 (.tup [.str "num", .int 3])
        have I7:=Same.new h7 (.tup [.str "set", .str c,.ref t6])
        have I8:=Same.new h8 (.lst [.ref t7])
        have R7:HrAt (upd (upd (upd H5 t6 (.tup [.str "num", .int 3])) t7 (.tup [.str "set", .str c,.ref t6])) t8 (.lst [.ref t7])) (.ref t7) (.set c (.num 3)):=.set (I8 _ _ upd_same) (.num (I8 _ _ (I7 _ _ upd_same)))
        have g8:upd (upd (upd H5 t6 (.tup [.str "num", .int 3])) t7 (.tup [.str "set", .str c,.ref t6])) t8 (.lst [.ref t7]) t8=some (.lst [.ref t7]):=upd_same
        have J8:=I6.trans (I7.trans I8)
        generalize upd (upd (upd H5 t6 (.tup [.str "num", .int 3])) t7 (.tup [.str "set", .str c,.ref t6])) t8 (.lst [.ref t7])=H8 at R7 g8 J8
        clear I6 I7 I8
        refine ⟨t5,t8,_,_,rfl,rfl,J8 _ _ g5,g8,small (by rw [List.length_append,List.length_replicate]; show _+1≤1000; omega),fun t9 h9=>?_⟩
        have I9:=Same.new h9 (.lst ((vs++List.replicate sa.toNat (.ref t2))++[.ref t7]))
        refine ⟨t9,_,rfl,.inl ⟨SqL.of upd_same,fun l hl=>?_⟩⟩
        have I10:=Same.new hl (.tup ((vs++List.replicate sa.toNat (.ref t2))++[.ref t7]))
        have J39:=I4.trans (I5.trans (J8.trans (I9.trans I10)))
        refine q l _ _ (J3.trans J39) upd_same ?_
        exact ((RW.mono (keepT_same (J3.trans J39))).app (RowsAt.all (fun v hv=>by rw [List.eq_of_mem_replicate hv]; exact R2.mono (keepT_same J39)) (by rw [List.length_replicate]))).app (RowsAt.one (R7.mono (keepT_same (I9.trans I10)))))))))))),?_⟩
  refine ⟨_,rfl,pl,_,rfl,SqT.of hP,rfl,_,_,rfl,_,_,rfl,_,_,rfl,_,_,rfl,_,_,rfl,rfl,?_⟩
  refine ⟨_,rfl,_,rfl,nl,_,rfl,SqL.of hN,fun t0 h0=>?_⟩
  rw [show cutV ((c::hd::r).map V.str) none (some 2)=[.str c,.str hd] from cut2 _ _ _]
  have I0:=Same.new h0 (.lst [.str c,.str hd])
  have g0:upd H t0 (.lst [.str c,.str hd]) t0=some (.lst [.str c,.str hd]):=upd_same
  generalize upd H t0 (.lst [.str c,.str hd])=H1 at I0 g0
  refine ⟨t0,_,rfl,SqL.of g0,rfl,_,_,rfl,_,_,rfl,rfl,?_⟩
  refine ⟨_,rfl,_,rfl,by omega,by omega,fun D hD=>?_⟩
  refine comp_range (fun i H'=>∃ vs:List V,H' D=some (.lst vs)∧vs.length=i∧(∀ v ∈ vs,HrAt H' v (oneR hd))∧Same H1 H') ⟨[],by rw [upd_same],rfl,(fun v hv=>by cases hv),Same.new hD _⟩ ?_ ?_
  · rintro i H2 hi ⟨vs,hv,vl,RV,S2⟩
    refine ⟨_,rfl,_,rfl,(by show 2≤sizeLine; decide),fun t1 h1=>⟨(by show 2≤sizeLine; decide),fun t2 h2=>⟨(by show 4≤sizeLine; decide),fun t3 h3=>⟨(by show 3≤sizeLine; decide),fun t4 h4=>?_⟩⟩⟩⟩
    obtain ⟨R,S⟩:=mk_set (x:=hd) (y:=hd) (s := "+") (n:=1) h1 h2 h3 h4
    generalize upd (upd (upd (upd H2 t1 (.tup [.str "box", .str hd])) t2 (.tup [.str "num", .int 1])) t3 (.tup [.str "op", .str "+", .ref t1,.ref t2])) t4 (.tup [.str "set", .str hd,.ref t3])=H3 at R S
    refine ⟨vs,S _ _ hv,small1000 (by omega),Nx.of hi ⟨vs++[.ref t4],upd_same,by rw [List.length_append,vl]; rfl,fun v hv'=>?_,fun b o e=>?_⟩⟩
    · have k:KeepT H3 (upd H3 D (.lst (vs++[.ref t4]))):=keepT_lst (S _ _ hv)
      rcases List.mem_append.mp hv' with m | m
      · exact (RV v m).mono (fun a xs e=>k _ _ (S _ _ e))
      · rw [List.mem_singleton.mp m]
        exact R.mono k
    · rw [upd_ne (ne_of_none e hD)]
      exact S _ _ (S2 _ _ e)
  rintro H2 ⟨vs,hv,vl,RV,S2⟩
  have RW0:RowsAt H2 vs (List.replicate ah.toNat (oneR hd)):=RowsAt.all RV vl
  have S0:Same H H2:=I0.trans S2
  clear RV
  refine ⟨_,rfl,.inl ⟨rfl,_,SqL.of hv⟩,?_⟩
  refine ⟨_,rfl,_,rfl,(by show 2≤sizeLine; decide),fun t1 h1=>⟨(by show 2≤sizeLine; decide),fun t2 h2=>⟨(by show 4≤sizeLine; decide),fun t3 h3=>⟨(by show 3≤sizeLine; decide),fun t4 h4=>?_⟩⟩⟩⟩
  obtain ⟨R,S⟩:=mk_set (x:=c) (y:=c) (s := "+") (n:=1) h1 h2 h3 h4
  generalize upd (upd (upd (upd H2 t1 (.tup [.str "box", .str c])) t2 (.tup [.str "num", .int 1])) t3 (.tup [.str "op", .str "+", .ref t1,.ref t2])) t4 (.tup [.str "set", .str c,.ref t3])=H3 at R S
  have D0:H D=none:=by
    cases e:H D with
    | none=>rfl
    | some o=>rw [I0 _ _ e] at hD; cases hD
  refine ⟨D,_,_,rfl,rfl,S _ _ hv,small1000 (by omega),?_⟩
  have k3:KeepT H3 (upd H3 D (.lst (vs++[.ref t4]))):=keepT_lst (S _ _ hv)
  have RW1:RowsAt (upd H3 D (.lst (vs++[.ref t4]))) (vs++[.ref t4]) (List.replicate ah.toNat (oneR hd)++[.set c (.op "+" (.box c) (.num 1))]):=(RW0.mono (fun a xs e=>k3 _ _ (S _ _ e))).app (RowsAt.one (R.mono k3))
  have hv1:upd H3 D (.lst (vs++[.ref t4])) D=some (.lst (vs++[.ref t4])):=upd_same
  have S1:Same H (upd H3 D (.lst (vs++[.ref t4]))):=fun b o e=>by
    rw [upd_ne (ne_of_none e D0)]
    exact S _ _ (S0 _ _ e)
  generalize upd H3 D (.lst (vs++[.ref t4]))=H4 at RW1 hv1 S1
  have vl1:(vs++[V.ref t4]).length=ah.toNat+1:=by rw [List.length_append,vl]; rfl
  generalize vs++[V.ref t4]=vs1 at RW1 hv1 vl1
  clear R S k3 RW0 S0 hv vl h1 h2 h3 h4
  refine ⟨_,rfl,.inl ⟨rfl,_,SqL.of hv1⟩,?_⟩
  refine ⟨_,rfl,_,rfl,(by show 2≤sizeLine; decide),fun u1 h1=>⟨_,rfl,(by show 2≤sizeLine; decide),fun u2 h2=>⟨(by show 4≤sizeLine; decide),fun u3 h3=>⟨(by show 3≤sizeLine; decide),fun u4 h4=>?_⟩⟩⟩⟩
  obtain ⟨R,S⟩:=mk_set (x:=hd) (y:=hd) (s := "+") (n:=mo) h1 h2 h3 h4
  generalize upd (upd (upd (upd H4 u1 (.tup [.str "box", .str hd])) u2 (.tup [.str "num", .int mo])) u3 (.tup [.str "op", .str "+", .ref u1,.ref u2])) u4 (.tup [.str "set", .str hd,.ref u3])=H5 at R S
  refine ⟨D,_,_,rfl,rfl,S _ _ hv1,small1000 (by omega),?_⟩
  have k3:KeepT H5 (upd H5 D (.lst (vs1++[.ref u4]))):=keepT_lst (S _ _ hv1)
  have RW2:RowsAt (upd H5 D (.lst (vs1++[.ref u4]))) (vs1++[.ref u4]) ((List.replicate ah.toNat (oneR hd)++[.set c (.op "+" (.box c) (.num 1))])++[.set hd (.op "+" (.box hd) (.num mo))]):=(RW1.mono (fun a xs e=>k3 _ _ (S _ _ e))).app (RowsAt.one (R.mono k3))
  have hv2:upd H5 D (.lst (vs1++[.ref u4])) D=some (.lst (vs1++[.ref u4])):=upd_same
  have S2':Same H (upd H5 D (.lst (vs1++[.ref u4]))):=fun b o e=>by
    rw [upd_ne (ne_of_none e D0)]
    exact S _ _ (S1 _ _ e)
  generalize upd H5 D (.lst (vs1++[.ref u4]))=H6 at RW2 hv2 S2'
  have vl2:(vs1++[V.ref u4]).length=ah.toNat+2:=by rw [List.length_append,vl1]; rfl
  generalize vs1++[V.ref u4]=vs2 at RW2 hv2 vl2
  clear R S k3 RW1 S1 hv1 vl1 h1 h2 h3 h4
  have fin:∀ (r3:Hr) (v3:V) (H7:Hp),Same H6 H7→HrAt H7 v3 r3→(r3=if ev=true then Hr.go ah else .iff (.op "<" (.box c) (.num tu)) ah)→H7 D=some (.lst vs2)→RowsAt (upd H7 D (.lst (vs2++[v3]))) (vs2++[v3]) (List.replicate ah.toNat (oneR hd)++[.set c (.op "+" (.box c) (.num 1)),.set hd (.op "+" (.box hd) (.num mo)),if ev=true then .go ah else .iff (.op "<" (.box c) (.num tu)) ah])∧Same H (upd H7 D (.lst (vs2++[v3]))):=by
    intro r3 v3 H7 S7 R3 e3 h7
    have k7:KeepT H7 (upd H7 D (.lst (vs2++[v3]))):=keepT_lst h7
    refine ⟨?_,fun b o e=>by rw [upd_ne (ne_of_none e D0)]; exact S7 _ _ (S2' _ _ e)⟩
    have z:=(RW2.mono (fun a xs e=>k7 _ _ (S7 _ _ e))).app (RowsAt.one (R3.mono k7))
    rw [e3,List.append_assoc,List.append_assoc] at z
    exact z
  cases ev with
  | true =>
    refine ⟨_,rfl,_,rfl,iteT ?_⟩
    refine ⟨_,rfl,.inl ⟨rfl,_,SqL.of hv2⟩,?_⟩
    refine ⟨_,rfl,(by show 2≤sizeLine; decide),fun u1 h1=>?_⟩
    have J1:=Same.new h1 (.tup [.str "go", .int ah])
    refine ⟨D,_,_,rfl,rfl,J1 _ _ hv2,small1000 (by omega),?_⟩
    obtain ⟨RW3,S3⟩:=fin (.go ah) (.ref u1) _ J1 (.go upd_same) rfl (J1 _ _ hv2)
    exact ⟨_,_,_,_,_,_,c,hd,D,_,_,sa,rfl,upd_same,RW3,by rw [List.length_append,vl2]; show _+1≤100; omega,sa0,sa1,fun h rv H' S' hh RW'=>q h rv H' (S3.trans S') hh RW'⟩
  | false =>
    refine ⟨_,rfl,_,rfl,iteF ?_⟩
    refine ⟨_,rfl,.inl ⟨rfl,_,SqL.of hv2⟩,?_⟩
    refine ⟨_,rfl,(by show 2≤sizeLine; decide),fun u1 h1=>⟨_,rfl,(by show 2≤sizeLine; decide),fun u2 h2=>⟨(by show 4≤sizeLine; decide),fun u3 h3=>⟨_,rfl,(by show 3≤sizeLine; decide),fun u4 h4=>?_⟩⟩⟩⟩
    obtain ⟨T,S⟩:=mk_op (x:=c) (s := "<") (n:=tu) h1 h2 h3
    have J4:=Same.new h4 (.tup [.str "if", .ref u3,.int ah])
    have R4:HrAt (upd (upd (upd (upd H6 u1 (.tup [.str "box", .str c])) u2 (.tup [.str "num", .int tu])) u3 (.tup [.str "op", .str "<", .ref u1,.ref u2])) u4 (.tup [.str "if", .ref u3,.int ah])) (.ref u4) (.iff (.op "<" (.box c) (.num tu)) ah):=.iff upd_same (T.mono (keepT_same J4))
    have J:=S.trans J4
    generalize upd (upd (upd (upd H6 u1 (.tup [.str "box", .str c])) u2 (.tup [.str "num", .int tu])) u3 (.tup [.str "op", .str "<", .ref u1,.ref u2])) u4 (.tup [.str "if", .ref u3,.int ah])=H7 at R4 J
    refine ⟨D,_,_,rfl,rfl,J _ _ hv2,small1000 (by omega),?_⟩
    obtain ⟨RW3,S3⟩:=fin _ (.ref u4) _ J R4 rfl (J _ _ hv2)
    exact ⟨_,_,_,_,_,_,c,hd,D,_,_,sa,rfl,upd_same,RW3,by rw [List.length_append,vl2]; show _+1≤100; omega,sa0,sa1,fun h rv H' S' hh RW'=>q h rv H' (S3.trans S') hh RW'⟩
end
section
def W35 (tu c0:Int):Int:=if tu - c0 > 1 then tu - c0 else 1
def dueA (ah mo p c0 h0 mn:Int):List Int × Int × Int :=
  (List.replicate mn.toNat 0,c0+(200 - ah) / 3+(if (200 - ah) % 3 > 0 then 1 else 0),(h0+ah+mo*((200 - ah) / 3+(if (200 - ah) % 3 > 1 then 1 else 0))) % p)
def dueB (ah mo sa p c0 h0 mn wn:Int):List Int × Int × Int :=
  let he:=(h0+ah+mo*wn) % p
  let lf:=200 - ah - 3*wn
  let td:=min3 sa lf mn
  (List.replicate td.toNat he++List.replicate (mn - td).toNat 0,if td < mn∧sa < lf then 3 else c0+wn,he)
def dueF (ah mo tu sa:Int) (ev:Bool) (p c0 h0 mn:Int):List Int × Int × Int :=
  if ev=true∨200 - ah < 3*W35 tu c0 then dueA ah mo p c0 h0 mn else dueB ah mo sa p c0 h0 mn (W35 tu c0)
def spDue:Sp:=fun vs H Q _=>∃ (pl bx:Addr) (ah mo tu sa:Int) (ev:Bool) (p c0 h0 mn:Int),vs=[.ref pl,.int p,.ref bx,.int mn]∧H pl=some (.tup (plV ah mo tu sa ev))∧H bx=some (.tup [.int c0,.int h0])∧0≤ah∧ah≤10∧0≤sa∧sa≤10∧0≤mn∧mn≤10∧0≤mo∧mo < 1000000∧0≤c0∧c0≤1000∧0≤tu∧tu≤1000∧0 < p ∧
  ∀ (t l b:Addr) (H':Hp),Same H H'→H' t=some (.tup [.ref l,.ref b])→H' l=some (.lst ((dueF ah mo tu sa ev p c0 h0 mn).1.map V.int))→H' b=some (.tup [.int (dueF ah mo tu sa ev p c0 h0 mn).2.1,.int (dueF ah mo tu sa ev p c0 h0 mn).2.2])→Q (.ref t) H'
theorem sc_l_due:FnScope ["_law_plan", "_law_p", "_law_boxes", "_law_many", "_law_ahead", "_law_more", "_law_turns", "_law_says", "_law_ever", "_law_count", "_law_held", "_law_left", "_law_wanted", "_law_whole", "_law_told", "_law_said"] ["_law_plan", "_law_p", "_law_boxes", "_law_many"] (defScope s_l_due):=⟨rfl,rfl,rfl,by decide +kernel,rfl,by decide +kernel,by decide +kernel⟩
def tDueE:TS:=fun Dn σ H=>∃ (x0 x2 x4 x5 x6 x8 x14 x15:Option V) (p mn sa ct he lf wn wh:Int),σ=[x0,some (.int p),x2,some (.int mn),x4,x5,x6,some (.int sa),x8,some (.int ct),some (.int he),some (.int lf),some (.int wn),some (.int wh),x14,x15]∧0≤mn∧mn≤10∧0≤sa∧sa≤10∧0 < p ∧
  (wh < wn→∀ (t l b:Addr) (H':Hp),Same H H'→H' t=some (.tup [.ref l,.ref b])→H' l=some (.lst ((List.replicate mn.toNat (0:Int)).map V.int))→H' b=some (.tup [.int ct,.int (he % p)])→Dn.rt (.ref t) H') ∧
  (¬ wh < wn→0≤wn∧wn≤1000∧0≤lf - 3*wn∧∀ (t l b:Addr) (H':Hp),Same H H'→H' t=some (.tup [.ref l,.ref b])→H' l=some (.lst ((List.replicate (min3 sa (lf - 3*wn) mn).toNat (he % p)++List.replicate (mn - min3 sa (lf - 3*wn) mn).toNat 0).map V.int))→H' b=some (.tup [.int (if min3 sa (lf - 3*wn) mn < mn∧sa < lf - 3*wn then 3 else ct),.int (he % p)])→Dn.rt (.ref t) H')
def tDueM:TS:=fun Dn σ H=>∃ (x0 x2 x4 x6 x8 x13 x14 x15:Option V) (p mn mo sa ct he lf wn:Int),σ=[x0,some (.int p),x2,some (.int mn),x4,some (.int mo),x6,some (.int sa),x8,some (.int ct),some (.int he),some (.int lf),some (.int wn),x13,x14,x15]∧0≤mn∧mn≤10∧0≤sa∧sa≤10∧0≤mo∧mo < 1000000∧0 < p∧0≤lf∧lf≤200 ∧
  ((wn=lf / 3+1∧∀ (t l b:Addr) (H':Hp),Same H H'→H' t=some (.tup [.ref l,.ref b])→H' l=some (.lst ((List.replicate mn.toNat (0:Int)).map V.int))→H' b=some (.tup [.int (ct+lf / 3+(if lf % 3 > 0 then 1 else 0)),.int ((he+mo*(lf / 3+(if lf % 3 > 1 then 1 else 0))) % p)])→Dn.rt (.ref t) H') ∨
  (0≤wn∧3*wn≤lf∧∀ (t l b:Addr) (H':Hp),Same H H'→H' t=some (.tup [.ref l,.ref b])→H' l=some (.lst ((List.replicate (min3 sa (lf - 3*wn) mn).toNat ((he+mo*wn) % p)++List.replicate (mn - min3 sa (lf - 3*wn) mn).toNat 0).map V.int))→H' b=some (.tup [.int (if min3 sa (lf - 3*wn) mn < mn∧sa < lf - 3*wn then 3 else ct+wn),.int ((he+mo*wn) % p)])→Dn.rt (.ref t) H'))
theorem ok_l_due {f:Addr} {fd:FuncData} (F:Fun K "_law_due" "_law_due" s_l_due f fd) (B:Bl mg):FnOk P w K mg base CX0 1 f fd ["_law_plan", "_law_p", "_law_boxes", "_law_many"] spDue:=by
  refine F.ok sc_l_due (fun vs H Q E h=>?_) (fun cdv A outer s H vs Q E hr h=>?_)
  · obtain ⟨pl,bx,ah,mo,tu,sa,ev,p,c0,h0,mn,rfl,_⟩:=h
    rfl
  obtain ⟨pl,bx,ah,mo,tu,sa,ev,p,c0,h0,mn,rfl,hP,hB,ah0,ah1,sa0,sa1,mn0,mn1,mo0,mo1,c00,c01,tu0,tu1,p0,q⟩:=h
  refine ⟨_,(pss_cons (ps_asg (pv 0) (pg_tup rfl (pgs_cons (pg_name (i:=4) sc_l_due.nd rfl (Or.inl rfl)) (pgs_cons (pg_name (i:=5) sc_l_due.nd rfl (Or.inl rfl)) (pgs_cons (pg_name (i:=6) sc_l_due.nd rfl (Or.inl rfl)) (pgs_cons (pg_name (i:=7) sc_l_due.nd rfl (Or.inl rfl)) (pgs_cons (pg_name (i:=8) sc_l_due.nd rfl (Or.inl rfl)) pgs_nil)))))))
      (pss_cons (ps_asg (pv 2) (pg_tup rfl (pgs_cons (pg_name (i:=9) sc_l_due.nd rfl (Or.inl rfl)) (pgs_cons (pg_name (i:=10) sc_l_due.nd rfl (Or.inl rfl)) pgs_nil))))
      (pss_cons (ps_set (i:=11) sc_l_due.nd rfl (Or.inl rfl) (pe_op op_sub pe_int (pv 4)))
      (pss_cons (ps_set (i:=10) sc_l_due.nd rfl (Or.inl rfl) (pe_op op_add (pv 10) (pv 4)))
      (pss_cons (ps_set (i:=12) sc_l_due.nd rfl (Or.inl rfl) (pe_callB (call_max2 rfl) rfl B.max PyProof.Rows.boot_max (pa_cons pe_int (pa_cons (pe_op op_sub (pv 6) (pv 9)) pa_nil))))
      (pss_cons (ps_if (PW.pt (pw_or (pt_val (pv 8)) (pw_or1 (pt_cmpR op_gt (pe_op op_mul pe_int (pv 12)) (pv 11) (nomark _))))) (pss_one (ps_set (i:=12) sc_l_due.nd rfl (Or.inl rfl) (pe_op op_add (pe_op op_fdiv (pv 11) pe_int) pe_int))) pss_nil)
      (pss_cut (t':=tDueM) (pss_cons (ps_set (i:=13) sc_l_due.nd rfl (Or.inl rfl) (pe_callB (call_min2 rfl) rfl B.min PyProof.Rows.boot_min (pa_cons (pv 12) (pa_cons (pe_op op_fdiv (pv 11) pe_int) pa_nil))))
      (pss_cons (ps_set (i:=9) sc_l_due.nd rfl (Or.inl rfl) (pe_op op_add (pe_op op_add (pv 9) (pv 13)) (pe_callTy call_int1 rfl B.int boot_int' (pa_cons (pe_and (pe_cmpR op_lt (pv 13) (pv 12) (nomark _)) (pe_one (pe_cmpR op_gt (pe_op op_mod (pv 11) pe_int) pe_int (nomark _)))) pa_nil))))
      (pss_cons (ps_set (i:=10) sc_l_due.nd rfl (Or.inl rfl) (pe_op op_add (pv 10) (pe_op op_mul (pv 5) (pe_op op_add (pv 13) (pe_callTy call_int1 rfl B.int boot_int' (pa_cons (pe_and (pe_cmpR op_lt (pv 13) (pv 12) (nomark _)) (pe_one (pe_cmpR op_gt (pe_op op_mod (pv 11) pe_int) pe_int (nomark _)))) pa_nil))))))
      (pss_cut (t':=tDueE) (pss_cons (ps_if (pt_cmpR op_lt (pv 13) (pv 12) (nomark _)) (pss_one (ps_ret (pe_tup (pa_cons (pe_op op_rep (pe_lst (pa_cons pe_int pa_nil)) (pv 3)) (pa_cons (pe_tup (pa_cons (pv 9) (pa_cons (pe_op op_mod (pv 10) (pv 1)) pa_nil))) pa_nil))))) pss_nil)
      (pss_cons (ps_set (i:=11) sc_l_due.nd rfl (Or.inl rfl) (pe_op op_sub (pv 11) (pe_op op_mul pe_int (pv 12))))
      (pss_cons (ps_set (i:=14) sc_l_due.nd rfl (Or.inl rfl) (pe_callB (call_min3 rfl) rfl B.min PyProof.Rows.boot_min (pa_cons (pv 7) (pa_cons (pv 11) (pa_cons (pv 3) pa_nil)))))
      (pss_cons (ps_set (i:=15) sc_l_due.nd rfl (Or.inl rfl) (pe_op op_cat (pe_op op_rep (pe_lst (pa_cons (pe_op op_mod (pv 10) (pv 1)) pa_nil)) (pv 14)) (pe_op op_rep (pe_lst (pa_cons pe_int pa_nil)) (pe_op op_sub (pv 3) (pv 14)))))
      (pss_cons (ps_if (PW.pt (pw_and (pt_cmpR op_lt (pv 14) (pv 3) (nomark _)) (pw_and1 (pt_cmpR op_gt (pv 11) (pv 7) (nomark _))))) (pss_one (ps_set (i:=9) sc_l_due.nd rfl (Or.inl rfl) pe_int)) pss_nil)
      (pss_one (ps_ret (pe_tup (pa_cons (pv 15) (pa_cons (pe_tup (pa_cons (pv 9) (pa_cons (pe_op op_mod (pv 10) (pv 1)) pa_nil))) pa_nil)))))))))) (by
        rintro Dn σ H ⟨x0,x2,x4,x5,x6,x8,x14,x15,p,mn,sa,ct,he,lf,wn,wh,rfl,mn0,mn1,sa0,sa1,p0,q1,q2⟩
        refine ⟨_,rfl,_,rfl,_,_,rfl,rfl,_,rfl,?_⟩
        by_cases c:wh < wn
        · have q:=q1 c
          refine iteD c ?_
          refine ⟨(by show 1≤sizeLine; decide),fun z hz=>?_⟩
          have I1:=Same.new hz (.lst [.int 0])
          have g1:upd H z (.lst [.int 0]) z=some (.lst [.int 0]):=upd_same
          generalize upd H z (.lst [.int 0])=H1 at I1 g1
          refine ⟨_,rfl,z,_,_,rfl,rfl,g1,by omega,by omega,small (by show 1*mn.toNat≤1000; omega),fun y hy=>?_⟩
          rw [rep_flat]
          have I2:=Same.new hy (.lst (List.replicate mn.toNat (.int 0)))
          have g2:upd H1 y (.lst (List.replicate mn.toNat (.int 0))) y=some (.lst (List.replicate mn.toNat (.int 0))):=upd_same
          generalize upd H1 y (.lst (List.replicate mn.toNat (.int 0)))=H2 at I2 g2
          refine ⟨_,rfl,_,rfl,_,rfl,_,_,rfl,rfl,p0,(by show 2≤sizeLine; decide),fun b hb=>?_⟩
          have I3:=Same.new hb (.tup [.int ct,.int (he % p)])
          have g3:upd H2 b (.tup [.int ct,.int (he % p)]) b=some (.tup [.int ct,.int (he % p)]):=upd_same
          generalize upd H2 b (.tup [.int ct,.int (he % p)])=H3 at I3 g3
          refine ⟨(by show 2≤sizeLine; decide),fun t ht=>?_⟩
          have I4:=Same.new ht (.tup [.ref y,.ref b])
          refine q t y b _ (I1.trans (I2.trans (I3.trans I4))) upd_same ?_ (I4 _ _ g3)
          rw [List.map_replicate]
          exact I4 _ _ (I3 _ _ g2)
        · obtain ⟨wn0,wn1,lf0,q⟩:=q2 c
          refine iteDF c ?_
          refine ⟨_,rfl,_,rfl,_,_,rfl,rfl,.inl ⟨by decide,by decide⟩,_,_,rfl,rfl,?_⟩
          refine ⟨_,rfl,_,rfl,_,rfl,_,_,_,rfl,?_⟩
          have tdd:0≤min3 sa (lf - 3*wn) mn∧min3 sa (lf - 3*wn) mn≤mn:=by
            unfold min3
            split <;> split <;> omega
          obtain ⟨td0,td1⟩:=tdd
          refine ⟨_,rfl,_,rfl,_,_,rfl,rfl,p0,(by show 1≤sizeLine; decide),fun z hz=>?_⟩
          have I1:=Same.new hz (.lst [.int (he % p)])
          have g1:upd H z (.lst [.int (he % p)]) z=some (.lst [.int (he % p)]):=upd_same
          generalize upd H z (.lst [.int (he % p)])=H1 at I1 g1
          refine ⟨_,rfl,z,_,_,rfl,rfl,g1,by omega,by omega,small (by show 1*(min3 sa (lf - 3*wn) mn).toNat≤1000; omega),fun y hy=>?_⟩
          rw [rep_flat]
          have I2:=Same.new hy (.lst (List.replicate (min3 sa (lf - 3*wn) mn).toNat (.int (he % p))))
          have g2:upd H1 y (.lst (List.replicate (min3 sa (lf - 3*wn) mn).toNat (.int (he % p)))) y=some (.lst (List.replicate (min3 sa (lf - 3*wn) mn).toNat (.int (he % p)))):=upd_same
          generalize upd H1 y (.lst (List.replicate (min3 sa (lf - 3*wn) mn).toNat (.int (he % p))))=H2 at I2 g2
          refine ⟨(by show 1≤sizeLine; decide),fun z2 hz2=>?_⟩
          have I3:=Same.new hz2 (.lst [.int 0])
          have g3:upd H2 z2 (.lst [.int 0]) z2=some (.lst [.int 0]):=upd_same
          generalize upd H2 z2 (.lst [.int 0])=H3 at I3 g3
          refine ⟨_,rfl,_,rfl,_,_,rfl,rfl,z2,_,_,rfl,rfl,g3,by omega,by omega,small (by show 1*(mn - (min3 sa (lf - 3*wn) mn)).toNat≤1000; omega),fun y2 hy2=>?_⟩
          rw [rep_flat]
          have I4:=Same.new hy2 (.lst (List.replicate (mn - (min3 sa (lf - 3*wn) mn)).toNat (.int 0)))
          have g4:upd H3 y2 (.lst (List.replicate (mn - (min3 sa (lf - 3*wn) mn)).toNat (.int 0))) y2=some (.lst (List.replicate (mn - (min3 sa (lf - 3*wn) mn)).toNat (.int 0))):=upd_same
          generalize upd H3 y2 (.lst (List.replicate (mn - (min3 sa (lf - 3*wn) mn)).toNat (.int 0)))=H4 at I4 g4
          refine ⟨y,y2,_,_,rfl,rfl,I4 _ _ (I3 _ _ g2),g4,small (by rw [List.length_replicate,List.length_replicate]; omega),fun l hl=>?_⟩
          have I5:=Same.new hl (.lst (List.replicate (min3 sa (lf - 3*wn) mn).toNat (V.int (he % p))++List.replicate (mn - (min3 sa (lf - 3*wn) mn)).toNat (V.int 0)))
          have g5:upd H4 l (.lst (List.replicate (min3 sa (lf - 3*wn) mn).toNat (V.int (he % p))++List.replicate (mn - (min3 sa (lf - 3*wn) mn)).toNat (V.int 0))) l=some (.lst ((List.replicate (min3 sa (lf - 3*wn) mn).toNat (he % p)++List.replicate (mn - (min3 sa (lf - 3*wn) mn)).toNat 0).map V.int)):=by
            rw [upd_same,List.map_append,List.map_replicate,List.map_replicate]
          generalize upd H4 l (.lst (List.replicate (min3 sa (lf - 3*wn) mn).toNat (V.int (he % p))++List.replicate (mn - (min3 sa (lf - 3*wn) mn)).toNat (V.int 0)))=H5 at I5 g5
          have J:=I1.trans (I2.trans (I3.trans (I4.trans I5)))
          have fin:∀ cc:Int,cc=(if (min3 sa (lf - 3*wn) mn) < mn∧sa < (lf - 3*wn) then 3 else ct)→∀ (b:Addr),H5 b=none→∀ t:Addr,upd H5 b (.tup [.int cc,.int (he % p)]) t=none→Dn.rt (.ref t) (upd (upd H5 b (.tup [.int cc,.int (he % p)])) t (.tup [.ref l,.ref b])):=fun cc ec b hb t ht=>by
            have I6:=Same.new hb (.tup [.int cc,.int (he % p)])
            have I7:=Same.new ht (.tup [.ref l,.ref b])
            refine q t l b _ (J.trans (I6.trans I7)) upd_same (I7 _ _ (I6 _ _ g5)) ?_
            rw [← ec]
            exact I7 _ _ upd_same
          refine ⟨_,rfl,_,rfl,_,_,rfl,rfl,_,rfl,?_⟩
          by_cases c1:(min3 sa (lf - 3*wn) mn) < mn
          · refine iteD c1 ?_
            refine ⟨_,rfl,_,rfl,_,_,rfl,rfl,_,rfl,?_⟩
            by_cases c2:(lf - 3*wn) > sa
            · refine iteD c2 ?_
              exact ⟨_,rfl,_,rfl,_,rfl,_,rfl,_,_,rfl,rfl,p0,(by show 2≤sizeLine; decide),fun b hb=>⟨(by show 2≤sizeLine; decide),fun t ht=>fin 3 (by rw [if_pos ⟨c1,c2⟩]) b hb t ht⟩⟩
            · refine iteDF c2 ?_
              exact ⟨_,rfl,_,rfl,_,rfl,_,rfl,_,_,rfl,rfl,p0,(by show 2≤sizeLine; decide),fun b hb=>⟨(by show 2≤sizeLine; decide),fun t ht=>fin ct (by rw [if_neg (fun z=>c2 z.2)]) b hb t ht⟩⟩
          · refine iteDF c1 (iteF ?_)
            exact ⟨_,rfl,_,rfl,_,rfl,_,rfl,_,_,rfl,rfl,p0,(by show 2≤sizeLine; decide),fun b hb=>⟨(by show 2≤sizeLine; decide),fun t ht=>fin ct (by rw [if_neg (fun z=>c1 z.1)]) b hb t ht⟩⟩))))) (by
        rintro Dn σ H ⟨x0,x2,x4,x6,x8,x13,x14,x15,p,mn,mo,sa,ct,he,lf,wn,rfl,mn0,mn1,sa0,sa1,mo0,mo1,p0,lf0,lf1,h⟩
        refine ⟨_,rfl,_,rfl,_,_,rfl,rfl,⟨by decide,by omega⟩,_,_,rfl,?_⟩
        rcases h with ⟨rfl,q⟩ | ⟨wn0,wn1,q⟩
        · rw [if_pos (show lf / 3 < lf / 3+1 by omega)]
          have c1:lf / 3 < lf / 3+1:=by omega
          refine ⟨_,rfl,_,rfl,_,_,rfl,rfl,_,rfl,_,rfl,_,_,rfl,rfl,_,rfl,iteD c1 ?_⟩
          refine ⟨_,rfl,_,_,rfl,rfl,(show (0:Int) < 3 by decide),_,_,rfl,rfl,.inr ⟨_,rfl,?_⟩⟩
          refine ⟨_,_,rfl,rfl,?_⟩
          have e1:(if decide (lf % 3 > 0)=true then (1:Int) else 0)=if lf % 3 > 0 then 1 else 0:=by simp only [decide_eq_true_eq]
          have e2:(if decide (lf % 3 > 1)=true then (1:Int) else 0)=if lf % 3 > 1 then 1 else 0:=by simp only [decide_eq_true_eq]
          rw [e1]
          refine ⟨_,rfl,_,rfl,_,rfl,_,rfl,_,rfl,_,_,rfl,rfl,_,rfl,iteD c1 ?_⟩
          refine ⟨_,rfl,_,_,rfl,rfl,(show (0:Int) < 3 by decide),_,_,rfl,rfl,.inr ⟨_,rfl,?_⟩⟩
          have b2:(0:Int)≤(if lf % 3 > 1 then 1 else 0)∧(if lf % 3 > 1 then (1:Int) else 0)≤1:=by split <;> omega
          rw [e2]
          refine ⟨_,_,rfl,rfl,_,_,rfl,rfl,.inl ⟨by omega,by omega⟩,_,_,rfl,rfl,?_⟩
          exact ⟨_,_,_,_,_,_,_,_,p,mn,sa,_,_,lf,_,_,rfl,mn0,mn1,sa0,sa1,p0,fun _=>q,fun z=>absurd c1 z⟩
        · have c0:¬ lf / 3 < wn:=by omega
          rw [if_neg c0]
          have c1:¬ wn < wn:=by omega
          refine ⟨_,rfl,_,rfl,_,_,rfl,rfl,_,rfl,_,rfl,_,_,rfl,rfl,_,rfl,iteDF c1 ?_⟩
          refine .inr ⟨_,rfl,?_⟩
          refine ⟨_,_,rfl,rfl,?_⟩
          refine ⟨_,rfl,_,rfl,_,rfl,_,rfl,_,rfl,_,_,rfl,rfl,_,rfl,iteDF c1 ?_⟩
          refine .inr ⟨_,rfl,?_⟩
          refine ⟨_,_,rfl,rfl,_,_,rfl,rfl,.inl ⟨by omega,by omega⟩,_,_,rfl,rfl,?_⟩
          refine ⟨_,_,_,_,_,_,_,_,p,mn,sa,_,_,lf,wn,wn,rfl,mn0,mn1,sa0,sa1,p0,fun z=>absurd z c1,fun _=>⟨wn0,by omega,by omega,?_⟩⟩
          have e3:ct+wn+(if false=true then (1:Int) else 0)=ct+wn:=by simp
          have e4:wn+(if false=true then (1:Int) else 0)=wn:=by simp
          rw [e3,e4]
          exact q)))))))),?_⟩
  refine ⟨_,rfl,pl,_,rfl,SqT.of hP,rfl,_,_,rfl,_,_,rfl,_,_,rfl,_,_,rfl,_,_,rfl,rfl,?_⟩
  refine ⟨_,rfl,bx,_,rfl,SqT.of hB,rfl,_,_,rfl,_,_,rfl,rfl,?_⟩
  refine ⟨_,rfl,_,_,rfl,rfl,?_⟩
  refine ⟨_,rfl,_,rfl,_,_,rfl,rfl,?_⟩
  refine ⟨_,rfl,_,rfl,_,_,rfl,rfl,1,_,rfl,?_⟩
  have w0:1≤W35 tu c0:=by unfold W35; split <;> omega
  have w1:W35 tu c0≤1000:=by unfold W35; split <;> omega
  have eA:ev=true∨200 - ah < 3*W35 tu c0→dueF ah mo tu sa ev p c0 h0 mn=dueA ah mo p c0 h0 mn:=fun h=>if_pos h
  have eB:¬ (ev=true∨200 - ah < 3*W35 tu c0)→dueF ah mo tu sa ev p c0 h0 mn=dueB ah mo sa p c0 h0 mn (W35 tu c0):=fun h=>if_neg h
  cases ev with
  | true =>
    rw [eA (.inl rfl)] at q
    refine ⟨_,rfl,true,rfl,iteT (iteT ?_)⟩
    refine ⟨_,rfl,_,_,rfl,rfl,⟨by decide,by omega⟩,_,_,rfl,rfl,?_⟩
    exact ⟨_,_,_,_,_,_,_,_,p,mn,mo,sa,c0,_,_,_,rfl,mn0,mn1,sa0,sa1,mo0,mo1,p0,by omega,by omega,.inl ⟨rfl,q⟩⟩
  | false =>
    refine ⟨_,rfl,false,rfl,iteF ?_⟩
    refine ⟨_,rfl,_,_,rfl,rfl,.inl ⟨by decide,by decide⟩,_,rfl,_,_,rfl,rfl,_,rfl,?_⟩
    by_cases cc:3*W35 tu c0 > 200 - ah
    · rw [eA (.inr cc)] at q
      refine iteD cc ?_
      refine ⟨_,rfl,_,_,rfl,rfl,⟨by decide,by omega⟩,_,_,rfl,rfl,?_⟩
      exact ⟨_,_,_,_,_,_,_,_,p,mn,mo,sa,c0,_,_,_,rfl,mn0,mn1,sa0,sa1,mo0,mo1,p0,by omega,by omega,.inl ⟨rfl,q⟩⟩
    · rw [eB (fun z=>z.elim (fun z=>nomatch z) cc)] at q
      refine iteDF cc ?_
      exact ⟨_,_,_,_,_,_,_,_,p,mn,mo,sa,c0,_,_,W35 tu c0,rfl,mn0,mn1,sa0,sa1,mo0,mo1,p0,by omega,by omega,.inr ⟨by omega,by omega,q⟩⟩
end
section
theorem runM_stop {p:Int} {rows:List Hr} {mn:Int} {s:MS} (c:¬ (s.pl < (rows.length:Int)∧(s.sd.length:Int) < mn)):∀ n,runM p rows mn n s=s
  | 0=>rfl
  | n+1=>if_neg c
theorem runM_one {p:Int} {rows:List Hr} {mn:Int} {n:Nat} {s:MS} {r:Hr} {i:Nat} (hi:s.pl=(i:Int)) (hr:rows[i]?=some r) (hm:(s.sd.length:Int) < mn):runM p rows mn (n+1) s=runM p rows mn n (stepR p rows.length s r):=by
  have li:i < rows.length:=(List.getElem?_eq_some_iff.mp hr).1
  have c:s.pl < (rows.length:Int)∧(s.sd.length:Int) < mn:=⟨by omega,hm⟩
  show (if _ then _ else _)=_
  rw [if_pos c]
  congr 1
  unfold stepM
  rw [hi,Int.toNat_natCast,hr]
section
variable {c hd:Str} {ah mo tu sa:Int} {ev:Bool}
theorem hR_len (a0:0≤ah) (s0:0≤sa):((hRows c hd ah mo tu sa ev).length:Int)=ah+3+sa+1:=by
  unfold hRows
  simp only [List.length_append,List.length_replicate,List.length_cons,List.length_nil]
  omega
theorem hR_a {i:Nat} (h:i < ah.toNat):(hRows c hd ah mo tu sa ev)[i]?=some (oneR hd):=by
  unfold hRows
  rw [List.append_assoc,List.append_assoc,List.getElem?_append_left (by rw [List.length_replicate]; exact h),List.getElem?_replicate,if_pos h]
theorem hR_b (k:Nat):(hRows c hd ah mo tu sa ev)[ah.toNat+k]?=([Hr.set c (.op "+" (.box c) (.num 1)),.set hd (.op "+" (.box hd) (.num mo)),if ev=true then .go ah else .iff (.op "<" (.box c) (.num tu)) ah]++(List.replicate sa.toNat (.say (.box hd))++[.set c (.num 3)]))[k]?:=by
  unfold hRows
  rw [List.append_assoc,List.append_assoc,List.getElem?_append_right (by rw [List.length_replicate]; omega),List.length_replicate,Nat.add_sub_cancel_left]
theorem hR_1:(hRows c hd ah mo tu sa ev)[ah.toNat]?=some (.set c (.op "+" (.box c) (.num 1))):=hR_b 0
theorem hR_2:(hRows c hd ah mo tu sa ev)[ah.toNat+1]?=some (.set hd (.op "+" (.box hd) (.num mo))):=hR_b 1
theorem hR_3:(hRows c hd ah mo tu sa ev)[ah.toNat+2]?=some (if ev=true then .go ah else .iff (.op "<" (.box c) (.num tu)) ah):=hR_b 2
theorem hR_c {k:Nat} (h:k < sa.toNat):(hRows c hd ah mo tu sa ev)[ah.toNat+3+k]?=some (.say (.box hd)):=by
  rw [Nat.add_assoc,hR_b,List.getElem?_append_right (by show 3≤3+k; omega)]
  show (List.replicate sa.toNat (Hr.say (.box hd))++[.set c (.num 3)])[3+k - 3]?=_
  rw [Nat.add_sub_cancel_left,List.getElem?_append_left (by rw [List.length_replicate]; exact h),List.getElem?_replicate,if_pos h]
theorem hR_d:(hRows c hd ah mo tu sa ev)[ah.toNat+3+sa.toNat]?=some (.set c (.num 3)):=by
  rw [Nat.add_assoc,hR_b,List.getElem?_append_right (by show 3≤3+sa.toNat; omega)]
  show (List.replicate sa.toNat (Hr.say (.box hd))++[.set c (.num 3)])[3+sa.toNat - 3]?=_
  rw [Nat.add_sub_cancel_left,List.getElem?_append_right (by rw [List.length_replicate]; omega),List.length_replicate,Nat.sub_self]
  rfl
theorem hR_quiet (a0:0≤ah):∀ r ∈ hRows c hd ah mo tu sa ev,r.quiet:=by
  intro r hr
  have q1:∀ (x y s:Str) (n:Int),(s = "+" ∨ s = "<")→(Tm.op s (.box x) (.num n)).quiet:=fun x y s n h=>⟨h,trivial,trivial⟩
  unfold hRows at hr
  rcases List.mem_append.mp hr with h | h
  · rcases List.mem_append.mp h with h | h
    · rcases List.mem_append.mp h with h | h
      · rw [List.eq_of_mem_replicate h]
        exact ⟨q1 hd hd _ _ (.inl rfl),(by show 2≤4; decide)⟩
      · rcases List.mem_cons.mp h with rfl | h
        · exact ⟨q1 c c _ _ (.inl rfl),(by show 2≤4; decide)⟩
        · rcases List.mem_cons.mp h with rfl | h
          · exact ⟨q1 c c _ _ (.inl rfl),(by show 2≤4; decide)⟩
          · rw [List.mem_singleton.mp h]
            cases ev with
            | true=>exact a0
            | false=>exact ⟨q1 c c _ _ (.inr rfl),(by show 2≤4; decide),a0⟩
    · rw [List.eq_of_mem_replicate h]
      exact ⟨trivial,(by show 1≤4; decide)⟩
  · rw [List.mem_singleton.mp h]
    exact ⟨trivial,(by show 1≤4; decide)⟩
end
def Bx2 (bx:Str→Int) (c hd:Str) (n x:Int):Str→Int:=bxPut (bxPut bx c n) hd x
theorem bx2_c {bx:Str→Int} {c hd:Str} {n x:Int} (ne:c ≠ hd):Bx2 bx c hd n x c=n:=by
  unfold Bx2 bxPut
  rw [if_neg ne,if_pos rfl]
theorem bx2_h {bx:Str→Int} {c hd:Str} {n x:Int}:Bx2 bx c hd n x hd=x:=if_pos rfl
theorem bx2_o {bx:Str→Int} {c hd y:Str} {n x:Int} (h1:y ≠ c) (h2:y ≠ hd):Bx2 bx c hd n x y=bx y:=by
  unfold Bx2 bxPut
  rw [if_neg h2,if_neg h1]
theorem bx2_putc {bx:Str→Int} {c hd:Str} {n x m:Int} (ne:c ≠ hd):bxPut (Bx2 bx c hd n x) c m=Bx2 bx c hd m x:=by
  funext y
  unfold Bx2 bxPut
  by_cases h1:y=c
  · rw [if_pos h1,if_neg (fun z=>ne (h1.symm.trans z)),if_pos h1]
  · rw [if_neg h1]
    by_cases h2:y=hd
    · rw [if_pos h2,if_pos h2]
    · rw [if_neg h2,if_neg h1,if_neg h2,if_neg h1]
theorem bx2_puth {bx:Str→Int} {c hd:Str} {n x m:Int}:bxPut (Bx2 bx c hd n x) hd m=Bx2 bx c hd n m:=by
  funext y
  unfold Bx2 bxPut
  by_cases h2:y=hd
  · rw [if_pos h2,if_pos h2]
  · rw [if_neg h2,if_neg h2,if_neg h2]
theorem bx2_id {bx:Str→Int} {c hd:Str}:Bx2 bx c hd (bx c) (bx hd)=bx:=by
  funext y
  unfold Bx2 bxPut
  by_cases h2:y=hd
  · rw [if_pos h2,h2]
  · rw [if_neg h2]
    by_cases h1:y=c
    · rw [if_pos h1,h1]
    · rw [if_neg h1]
section
variable {c hd:Str} {ah mo tu sa p mn n0 x0:Int} {ev:Bool} {bx:Str→Int}
theorem add_val (p:Int) (b:Str→Int) (x:Str) (n:Int):(Tm.op "+" (.box x) (.num n)).val p b=(b x+n % p) % p:=by
  show opI p "+" _ _=_
  exact if_pos rfl
theorem lt_val (p:Int) (b:Str→Int) (x:Str) (n:Int):(Tm.op "<" (.box x) (.num n)).val p b=if b x < n % p then 1 else 0:=by
  show opI p "<" _ _=_
  exact if_neg (by decide +kernel)
theorem run_ahead (ne:c ≠ hd) (p1:1 < p) (hm:0 < mn):∀ (k i n:Nat) (x:Int),i+k≤ah.toNat→0≤x→x < p →
    runM p (hRows c hd ah mo tu sa ev) mn (k+n) ⟨(i:Int),Bx2 bx c hd n0 x,[]⟩=runM p (hRows c hd ah mo tu sa ev) mn n ⟨((i+k:Nat):Int),Bx2 bx c hd n0 ((x+k) % p),[]⟩
  | 0,i,n,x,_,h0,h1=>by
    rw [Nat.zero_add,Nat.add_zero,show x+((0:Nat):Int)=x by omega,Int.emod_eq_of_lt h0 h1]
  | k+1,i,n,x,hk,h0,h1=>by
    rw [show k+1+n=(k+n)+1 by omega,runM_one rfl (hR_a (by omega)) (by show (0:Int) < mn; exact hm)]
    show runM p _ mn (k+n) ⟨(i:Int)+1,bxPut (Bx2 bx c hd n0 x) hd ((Tm.op "+" (.box hd) (.num 1)).val p (Bx2 bx c hd n0 x)),[]⟩=_
    rw [add_val,bx2_h,bx2_puth,Int.emod_eq_of_lt (show (0:Int)≤1 by omega) p1]
    have ih:=run_ahead ne p1 hm k (i+1) n ((x+1) % p) (by omega) (Int.emod_nonneg _ (by omega)) (Int.emod_lt_of_pos _ (by omega))
    rw [show ((i+1:Nat):Int)=(i:Int)+1 by omega] at ih
    rw [ih,Int.emod_add_emod,show i+1+k=i+(k+1) by omega,show x+1+(k:Int)=x+((k+1:Nat):Int) by omega]
structure Lp (p mo n x:Int):Prop where
  n0:0≤n
  n1:n+1 < p
  x0:0≤x
  x1:x < p
theorem run_l1 (ne:c ≠ hd) (a0:0≤ah) (hm:0 < mn) {n:Nat} {z x:Int} (z0:0≤z) (z1:z+1 < p) :
    runM p (hRows c hd ah mo tu sa ev) mn (n+1) ⟨ah,Bx2 bx c hd z x,[]⟩=runM p (hRows c hd ah mo tu sa ev) mn n ⟨ah+1,Bx2 bx c hd (z+1) x,[]⟩:=by
  rw [runM_one (i:=ah.toNat) (by show ah=_; omega) hR_1 (by show (0:Int) < mn; exact hm)]
  show runM p _ mn n ⟨ah+1,bxPut (Bx2 bx c hd z x) c ((Tm.op "+" (.box c) (.num 1)).val p (Bx2 bx c hd z x)),[]⟩=_
  rw [add_val,bx2_c ne,bx2_putc ne,Int.emod_eq_of_lt (show (0:Int)≤1 by omega) (show (1:Int) < p by omega),Int.emod_eq_of_lt (by omega) z1]
theorem run_l2 (a0:0≤ah) (hm:0 < mn) {n:Nat} {z x:Int} :
    runM p (hRows c hd ah mo tu sa ev) mn (n+1) ⟨ah+1,Bx2 bx c hd z x,[]⟩=runM p (hRows c hd ah mo tu sa ev) mn n ⟨ah+2,Bx2 bx c hd z ((x+mo) % p),[]⟩:=by
  rw [runM_one (i:=ah.toNat+1) (by show ah+1=_; omega) hR_2 (by show (0:Int) < mn; exact hm)]
  show runM p _ mn n ⟨ah+1+1,bxPut (Bx2 bx c hd z x) hd ((Tm.op "+" (.box hd) (.num mo)).val p (Bx2 bx c hd z x)),[]⟩=_
  rw [add_val,bx2_h,bx2_puth,Int.add_emod_emod,show ah+1+1=ah+2 by omega]
theorem run_l3 (ne:c ≠ hd) (a0:0≤ah) (hm:0 < mn) (t0:0≤tu) (t1:tu < p) {n:Nat} {z x:Int} :
    runM p (hRows c hd ah mo tu sa ev) mn (n+1) ⟨ah+2,Bx2 bx c hd z x,[]⟩=runM p (hRows c hd ah mo tu sa ev) mn n ⟨if ev=true∨z < tu then ah else ah+3,Bx2 bx c hd z x,[]⟩:=by
  rw [runM_one (i:=ah.toNat+2) (by show ah+2=_; omega) hR_3 (by show (0:Int) < mn; exact hm)]
  cases ev with
  | true =>
    rw [if_pos rfl,if_pos (.inl rfl)]
    rfl
  | false =>
    rw [if_neg (by decide)]
    show runM p _ mn n ⟨if (Tm.op "<" (.box c) (.num tu)).val p (Bx2 bx c hd z x)=0 then ah+2+1 else ah,Bx2 bx c hd z x,[]⟩=_
    rw [lt_val,bx2_c ne,Int.emod_eq_of_lt t0 t1]
    by_cases h:z < tu
    · rw [if_pos h,if_neg (by decide),if_pos (.inr h)]
    · rw [if_neg h,if_pos rfl,if_neg (fun q=>q.elim (fun q=>nomatch q) h),show ah+2+1=ah+3 by omega]
theorem run_loop (ne:c ≠ hd) (a0:0≤ah) (hm:0 < mn) (t0:0≤tu) (t1:tu < p):∀ (j n:Nat) (z x:Int),0≤z→z+j < p→(ev=true∨z+j < tu∨j=0)→0≤x→x < p →
    runM p (hRows c hd ah mo tu sa ev) mn (3*j+n) ⟨ah,Bx2 bx c hd z x,[]⟩=runM p (hRows c hd ah mo tu sa ev) mn n ⟨ah,Bx2 bx c hd (z+j) ((x+mo*j) % p),[]⟩
  | 0,n,z,x,_,_,_,h0,h1=>by
    rw [show 3*0+n=n by omega,show z+((0:Nat):Int)=z by omega,show x+mo*((0:Nat):Int)=x by simp,Int.emod_eq_of_lt h0 h1]
  | j+1,n,z,x,z0,z1,zt,h0,h1=>by
    rw [show 3*(j+1)+n=((3*j+n)+1+1)+1 by omega,run_l1 ne a0 hm z0 (by omega),run_l2 a0 hm,run_l3 ne a0 hm t0 t1,if_pos (zt.imp_right fun h=>by omega)]
    rw [run_loop ne a0 hm t0 t1 j n (z+1) ((x+mo) % p) (by omega) (by omega) (zt.imp_right fun h=>.inl (by omega)) (Int.emod_nonneg _ (by omega)) (Int.emod_lt_of_pos _ (by omega))]
    rw [Int.emod_add_emod,show z+1+(j:Int)=z+((j+1:Nat):Int) by omega,show x+mo+mo*(j:Int)=x+mo*((j+1:Nat):Int) by rw [Int.natCast_add,Int.mul_add]; omega]
theorem run_says (a0:0≤ah):∀ (k i n:Nat) (z x:Int) (sd:List Int),i+k≤sa.toNat→(sd.length:Int)+k≤mn →
    runM p (hRows c hd ah mo tu sa ev) mn (k+n) ⟨ah+3+(i:Int),Bx2 bx c hd z x,sd⟩=runM p (hRows c hd ah mo tu sa ev) mn n ⟨ah+3+((i+k:Nat):Int),Bx2 bx c hd z x,sd++List.replicate k x⟩
  | 0,i,n,z,x,sd,_,_=>by
    rw [Nat.zero_add,Nat.add_zero,List.replicate_zero,List.append_nil]
  | k+1,i,n,z,x,sd,hk,hl=>by
    rw [show k+1+n=(k+n)+1 by omega,runM_one (i:=ah.toNat+3+i) (by show ah+3+(i:Int)=_; omega) (hR_c (by omega)) (by show (sd.length:Int) < mn; omega)]
    show runM p _ mn (k+n) ⟨ah+3+(i:Int)+1,Bx2 bx c hd z x,sd++[Bx2 bx c hd z x hd]⟩=_
    rw [bx2_h,show ah+3+(i:Int)+1=ah+3+((i+1:Nat):Int) by omega]
    rw [run_says a0 k (i+1) n z x (sd++[x]) (by omega) (by rw [List.length_append]; show ((sd.length+1:Nat):Int)+k≤mn; omega)]
    rw [show i+1+k=i+(k+1) by omega,List.append_assoc,List.replicate_succ]
    rfl
structure R35 (ah mo tu sa p mn:Int):Prop where
  a0:0≤ah
  a1:ah≤10
  s0:0≤sa
  m1:0 < mn
  t0:0≤tu
  t1:tu < p
  p3:3 < p
theorem run_start (ne:c ≠ hd) (k:R35 ah mo tu sa p mn) (h0:0≤bx hd) (h1:bx hd < p) (n:Nat) :
    runM p (hRows c hd ah mo tu sa ev) mn (ah.toNat+n) ⟨0,bx,[]⟩=runM p (hRows c hd ah mo tu sa ev) mn n ⟨ah,Bx2 bx c hd (bx c) ((bx hd+ah) % p),[]⟩:=by
  have a0:=k.a0
  have p3:=k.p3
  have e:=run_ahead (mo:=mo) (tu:=tu) (sa:=sa) (ev:=ev) (ah:=ah) (n0:=bx c) (bx:=bx) ne (show 1 < p by omega) k.m1 ah.toNat 0 n (bx hd) (by omega) h0 h1
  rw [bx2_id,Nat.zero_add,Int.toNat_of_nonneg a0] at e
  exact e
theorem run_A (ne:c ≠ hd) (k:R35 ah mo tu sa p mn) (c0:0≤bx c) (c1:bx c+67 < p) (h0:0≤bx hd) (h1:bx hd < p) (hA:ev=true∨200 - ah < 3*W35 tu (bx c)) :
    (runM p (hRows c hd ah mo tu sa ev) mn 200 ⟨0,bx,[]⟩).sd=[]∧(runM p (hRows c hd ah mo tu sa ev) mn 200 ⟨0,bx,[]⟩).bx=Bx2 bx c hd (dueA ah mo p (bx c) (bx hd) mn).2.1 (dueA ah mo p (bx c) (bx hd) mn).2.2:=by
  have a0:=k.a0
  have a1:=k.a1
  have p3:=k.p3
  have lp:∃ j r:Nat,200 - ah.toNat=3*j+r∧r < 3:=⟨(200 - ah.toNat) / 3,(200 - ah.toNat) % 3,by omega,by omega⟩
  obtain ⟨j,r,ejr,r3⟩:=lp
  have ej:(200 - ah) / 3=(j:Int):=by omega
  have er:(200 - ah) % 3=(r:Int):=by omega
  have hz:ev=true∨bx c+(j:Int) < tu∨j=0:=hA.imp_right fun h=>.inl (by
    unfold W35 at h
    split at h <;> omega)
  have x0:0≤(bx hd+ah) % p:=Int.emod_nonneg _ (by omega)
  have x1:(bx hd+ah) % p < p:=Int.emod_lt_of_pos _ (by omega)
  have e:runM p (hRows c hd ah mo tu sa ev) mn 200 ⟨0,bx,[]⟩=runM p (hRows c hd ah mo tu sa ev) mn r ⟨ah,Bx2 bx c hd (bx c+j) (((bx hd+ah) % p+mo*j) % p),[]⟩:=by
    rw [show 200=ah.toNat+(3*j+r) by omega,run_start ne k h0 h1,run_loop ne a0 k.m1 k.t0 k.t1 j r _ _ c0 (by omega) hz x0 x1]
  rw [e,Int.emod_add_emod]
  unfold dueA
  rw [ej,er]
  have:r=0∨r=1∨r=2:=by omega
  rcases this with rfl | rfl | rfl
  · refine ⟨rfl,?_⟩
    show Bx2 bx c hd _ _=Bx2 bx c hd _ _
    rw [if_neg (by omega),if_neg (by omega),Int.add_zero,Int.add_zero]
  · rw [run_l1 ne a0 k.m1 (by omega) (by omega)]
    refine ⟨rfl,?_⟩
    show Bx2 bx c hd _ _=Bx2 bx c hd _ _
    rw [if_pos (by omega),if_neg (by omega),Int.add_zero]
  · rw [show 2=1+1 from rfl,run_l1 ne a0 k.m1 (by omega) (by omega),show 1=0+1 from rfl,run_l2 a0 k.m1]
    refine ⟨rfl,?_⟩
    show Bx2 bx c hd _ _=Bx2 bx c hd _ _
    rw [if_pos (by omega),if_pos (by omega),Int.emod_add_emod,Int.mul_add,Int.mul_one,Int.add_assoc (bx hd+ah)]
theorem run_B (ne:c ≠ hd) (k:R35 ah mo tu sa p mn) (c0:0≤bx c) (c1:bx c+67 < p) (h0:0≤bx hd) (h1:bx hd < p) (hB:¬ (ev=true∨200 - ah < 3*W35 tu (bx c))) :
    outM mn (runM p (hRows c hd ah mo tu sa ev) mn 200 ⟨0,bx,[]⟩).sd=(dueB ah mo sa p (bx c) (bx hd) mn (W35 tu (bx c))).1∧(runM p (hRows c hd ah mo tu sa ev) mn 200 ⟨0,bx,[]⟩).bx=Bx2 bx c hd (dueB ah mo sa p (bx c) (bx hd) mn (W35 tu (bx c))).2.1 (dueB ah mo sa p (bx c) (bx hd) mn (W35 tu (bx c))).2.2:=by
  have a0:=k.a0
  have a1:=k.a1
  have p3:=k.p3
  have s0:=k.s0
  have m1:=k.m1
  obtain ⟨w,ew⟩:∃ w,w=W35 tu (bx c):=⟨_,rfl⟩
  have w1:1≤w:=by rw [ew]; unfold W35; split <;> omega
  have w2:tu≤bx c+w:=by rw [ew]; unfold W35; split <;> omega
  have w3:w=1∨bx c+w=tu:=by rw [ew]; unfold W35; split <;> omega
  have e0:¬ ev=true:=fun z=>hB (.inl z)
  have wl:3*w≤200 - ah:=by rw [ew]; have:=fun z=>hB (.inr z); omega
  rw [← ew]
  clear hB ew
  obtain ⟨j,rfl⟩:∃ j:Nat,w=(j:Int)+1:=⟨(w - 1).toNat,by omega⟩
  obtain ⟨n,en⟩:∃ n:Nat,200 - ah.toNat=3*j+(n+1+1+1):=⟨200 - ah.toNat - 3*j - 3,by omega⟩
  have ln:200 - ah - 3*((j:Int)+1)=(n:Int):=by omega
  have x0:0≤(bx hd+ah) % p:=Int.emod_nonneg _ (by omega)
  have x1:(bx hd+ah) % p < p:=Int.emod_lt_of_pos _ (by omega)
  have hz:ev=true∨bx c+(j:Int) < tu∨j=0:=.inr (by omega)
  have e:runM p (hRows c hd ah mo tu sa ev) mn 200 ⟨0,bx,[]⟩=runM p (hRows c hd ah mo tu sa ev) mn n ⟨ah+3+((0:Nat):Int),Bx2 bx c hd (bx c+((j:Int)+1)) ((bx hd+ah+mo*((j:Int)+1)) % p),[]⟩:=by
    rw [show 200=ah.toNat+(3*j+(n+1+1+1)) by omega,run_start ne k h0 h1,run_loop ne a0 k.m1 k.t0 k.t1 j _ _ _ c0 (by omega) hz x0 x1]
    rw [run_l1 ne a0 m1 (by omega) (by omega),run_l2 a0 m1,run_l3 ne a0 m1 k.t0 k.t1,if_neg (fun z=>z.elim e0 (by omega))]
    rw [Int.emod_add_emod,Int.add_assoc ((bx hd+ah) % p),Int.emod_add_emod,Int.mul_add,Int.mul_one,Int.add_assoc (bx c)]
    show _=runM p _ mn n ⟨ah+3+0,_,_⟩
    rw [Int.add_zero]
  rw [e]
  unfold dueB
  simp only []
  rw [ln]
  generalize (bx hd+ah+mo*((j:Int)+1)) % p=he
  have td:0≤min3 sa (n:Int) mn∧min3 sa (n:Int) mn≤sa∧min3 sa (n:Int) mn≤n∧min3 sa (n:Int) mn≤mn∧(min3 sa (n:Int) mn=sa∨min3 sa (n:Int) mn=n∨min3 sa (n:Int) mn=mn):=by
    unfold min3
    split <;> split <;> omega
  generalize min3 sa (n:Int) mn=td at td
  obtain ⟨d0,d1,d2,d3,d4⟩:=td
  obtain ⟨d,rfl⟩:=Int.eq_ofNat_of_zero_le d0
  obtain ⟨r,rfl⟩:∃ r:Nat,n=d+r:=⟨n - d,by omega⟩
  rw [run_says a0 d 0 r _ he [] (by omega) (by show ((0:Nat):Int)+d≤mn; omega),List.nil_append,Nat.zero_add]
  have ol:outM mn (List.replicate d he)=List.replicate ((d:Int)).toNat he++List.replicate (mn - (d:Int)).toNat 0:=by
    unfold outM
    rw [List.length_replicate,Int.toNat_natCast]
  by_cases c2:(d:Int) < mn∧sa < ((d+r:Nat):Int)
  · have es:(d:Int)=sa:=by omega
    obtain ⟨r',rfl⟩:∃ r':Nat,r=r'+1:=⟨r - 1,by omega⟩
    rw [runM_one (i:=ah.toNat+3+sa.toNat) (by show ah+3+(d:Int)=_; omega) hR_d (by show ((List.replicate d he).length:Int) < mn; rw [List.length_replicate]; exact c2.1)]
    have st:stepR p ((hRows c hd ah mo tu sa ev).length:Int) ⟨ah+3+(d:Int),Bx2 bx c hd (bx c+((j:Int)+1)) he,List.replicate d he⟩ (.set c (.num 3))=⟨ah+3+(d:Int)+1,Bx2 bx c hd 3 he,List.replicate d he⟩:=by
      show MS.mk _ (bxPut _ c (3 % p)) _=_
      rw [bx2_putc ne,Int.emod_eq_of_lt (by omega) p3]
    rw [st,runM_stop (fun z=>by have:=hR_len (c:=c) (hd:=hd) (mo:=mo) (tu:=tu) (ev:=ev) a0 s0; have h:ah+3+(d:Int)+1 < _:=z.1; omega),if_pos c2]
    exact ⟨ol,rfl⟩
  · rw [if_neg c2]
    have es:(d:Int)=mn∨r=0:=by omega
    have e:runM p (hRows c hd ah mo tu sa ev) mn r ⟨ah+3+(d:Int),Bx2 bx c hd (bx c+((j:Int)+1)) he,List.replicate d he⟩=⟨ah+3+(d:Int),Bx2 bx c hd (bx c+((j:Int)+1)) he,List.replicate d he⟩:=by
      rcases es with h | rfl
      · refine runM_stop (fun z=>?_) r
        have z2:((List.replicate d he).length:Int) < mn:=z.2
        rw [List.length_replicate] at z2
        omega
      · rfl
    rw [e]
    exact ⟨ol,rfl⟩
theorem run_due (ne:c ≠ hd) (k:R35 ah mo tu sa p mn) (c0:0≤bx c) (c1:bx c+67 < p) (h0:0≤bx hd) (h1:bx hd < p) :
    outM mn (runM p (hRows c hd ah mo tu sa ev) mn 200 ⟨0,bx,[]⟩).sd=(dueF ah mo tu sa ev p (bx c) (bx hd) mn).1∧(runM p (hRows c hd ah mo tu sa ev) mn 200 ⟨0,bx,[]⟩).bx=Bx2 bx c hd (dueF ah mo tu sa ev p (bx c) (bx hd) mn).2.1 (dueF ah mo tu sa ev p (bx c) (bx hd) mn).2.2:=by
  unfold dueF
  by_cases h:ev=true∨200 - ah < 3*W35 tu (bx c)
  · rw [if_pos h]
    obtain ⟨e1,e2⟩:=run_A ne k c0 c1 h0 h1 h
    refine ⟨?_,e2⟩
    rw [e1]
    unfold outM dueA
    rw [List.nil_append]
    show List.replicate (mn - 0).toNat (0:Int)=_
    rw [Int.sub_zero]
  · rw [if_neg h]
    exact run_B ne k c0 c1 h0 h1 h
theorem due_rng {c0 h0:Int} (k:R35 ah mo tu sa p mn) (p0:0≤c0):0≤(dueF ah mo tu sa ev p c0 h0 mn).2.1∧(dueF ah mo tu sa ev p c0 h0 mn).2.1≤c0+67∧0≤(dueF ah mo tu sa ev p c0 h0 mn).2.2∧(dueF ah mo tu sa ev p c0 h0 mn).2.2 < p:=by
  have a0:=k.a0
  have a1:=k.a1
  have p3:=k.p3
  unfold dueF
  by_cases h:ev=true∨200 - ah < 3*W35 tu c0
  · rw [if_pos h]
    unfold dueA
    refine ⟨?_,?_,Int.emod_nonneg _ (by omega),Int.emod_lt_of_pos _ (by omega)⟩
    · show 0≤c0+(200 - ah) / 3+_
      split <;> omega
    · show c0+(200 - ah) / 3+_≤c0+67
      split <;> omega
  · rw [if_neg h]
    have w1:1≤W35 tu c0:=by unfold W35; split <;> omega
    have w2:3*W35 tu c0≤200 - ah:=by have:=fun z=>h (.inr z); omega
    have hh:∀ (q:Prop) [Decidable q],0≤(if q then (3:Int) else c0+W35 tu c0)∧(if q then (3:Int) else c0+W35 tu c0)≤c0+67:=by
      intro q _
      split <;> omega
    unfold dueB
    exact ⟨(hh _).1,(hh _).2,Int.emod_nonneg _ (by omega),Int.emod_lt_of_pos _ (by omega)⟩
end
end
section
variable {CM CA CG:Addr}
theorem eqvAll_ints:∀ ns ms:List Int,PyData.eqvAll (ns.map PyData.int) (ms.map PyData.int)=decide (ns=ms)
  | [],[]=>rfl
  | [],_::_=>rfl
  | _::_,[]=>rfl
  | a::r,b::t=>by
    simp only [List.map_cons,PyData.eqvAll,PyData.eqv,eqvAll_ints r t]
    by_cases h1:a=b <;> by_cases h2:r=t <;> simp [h1,h2]
theorem eqv_li (ns ms:List Int):PyData.eqv (.list (ns.map PyData.int)) (.list (ms.map PyData.int))=decide (ns=ms):=by simp [PyData.eqv,eqvAll_ints]
theorem shaped_li (ns:List Int):SeqAt.shaped (.list (ns.map PyData.int))=true:=by
  simp [SeqAt.shaped,PyData.canLay0,PyData.depth,PySem.W.ke_canLayAll0,PySem.W.ke_depthAll]
structure MW (CM:Addr) (H:Hp) (M g h b:Addr) (rows:List Hr) (r:Int) (bx:Str→Int) (m:Nat):Prop where
  hM:∃ dm,H M=some (.ins CM dm (ml g h r b))
  hh:∃ rv,H h=some (.tup rv)∧RowsAt H rv rows
  BX:BxAt H b bx m
theorem MW.same {H H':Hp} {M g h b:Addr} {rows:List Hr} {r:Int} {bx:Str→Int} {m:Nat} (w:MW CM H M g h b rows r bx m) (s:Same H H'):MW CM H' M g h b rows r bx m:=by
  obtain ⟨⟨dm,e⟩,⟨rv,e2,R⟩,B⟩:=w
  exact ⟨⟨dm,s _ _ e⟩,⟨rv,s _ _ e2,R.mono (keepT_same s)⟩,B.keep fun o h=>s _ _ h⟩
theorem MW.bD {H:Hp} {M g h b:Addr} {rows:List Hr} {r:Int} {bx:Str→Int} {m:Nat} (w:MW CM H M g h b rows r bx m):∃ kvs,H b=some (.dK kvs):=by
  obtain ⟨kvs,e,_⟩:=w.BX
  exact ⟨kvs,e⟩
theorem MW.but {H H':Hp} {M g h b N b' C' dn:Addr} {fs:List (Str × V)} {kvs:List (Key × V)} {rows:List Hr} {r:Int} {bx:Str→Int} {m:Nat} (w:MW CM H M g h b rows r bx m) (s:But2 N b' H H') (hN:H N=some (.ins C' dn fs)) (hb:H b'=some (.dK kvs)) (n1:M ≠ N) (n2:b ≠ b'):MW CM H' M g h b rows r bx m:=by
  obtain ⟨kv,hk⟩:=w.bD
  obtain ⟨⟨dm,e⟩,⟨rv,e2,R⟩,B⟩:=w
  have kT:KeepT H H':=fun a xs e=>s _ _ (ne_of e hN (by intro z; cases z)) (ne_of e hb (by intro z; cases z)) e
  exact ⟨⟨dm,s _ _ n1 (ne_of e hb (by intro z; cases z)) e⟩,⟨rv,kT _ _ e2,R.mono kT⟩,B.keep fun o h=>s _ _ (ne_of hk hN (by intro z; cases z)) n2 h⟩
theorem tup_but {H H':Hp} {N b' C' dn a:Addr} {fs:List (Str × V)} {kvs:List (Key × V)} {xs:List V} (s:But2 N b' H H') (hN:H N=some (.ins C' dn fs)) (hb:H b'=some (.dK kvs)) (e:H a=some (.tup xs)):H' a=some (.tup xs):=s _ _ (ne_of e hN (by intro z; cases z)) (ne_of e hb (by intro z; cases z)) e
theorem lst_but {H H':Hp} {N b' C' dn a:Addr} {fs:List (Str × V)} {kvs:List (Key × V)} {xs:List V} (s:But2 N b' H H') (hN:H N=some (.ins C' dn fs)) (hb:H b'=some (.dK kvs)) (e:H a=some (.lst xs)):H' a=some (.lst xs):=s _ _ (ne_of e hN (by intro z; cases z)) (ne_of e hb (by intro z; cases z)) e
theorem GameAt.but2 {H H':Hp} {g a b d N b':Addr} {p:Int} {dn g' h r':Addr} {rr:Int} {kvs:List (Key × V)} (G:GameAt CG H g a b d p) (s:But2 N b' H H') (hN:H N=some (.ins CM dn (ml g' h rr r'))) (hb:H b'=some (.dK kvs)):GameAt CG H' g a b d p:=by
  have n:=G.ne hN ml_g
  obtain ⟨dg,e⟩:=G
  exact ⟨dg,s _ _ n (ne_of e hb (by intro z; cases z)) e⟩
structure L35 (CM CG:Addr) (H:Hp) (nl pl M h b M2 h2 b2 g ga gb gd:Addr) (c hd y3 y4:Str) (ah mo tu sa p:Int) (ev:Bool) (i:Nat) (bx bx2:Str→Int):Prop where
  hN:H nl=some (.lst ([c,hd,y3,y4].map V.str))
  hP:H pl=some (.tup (plV ah mo tu sa ev))
  W1:MW CM H M g h b (hRows c hd ah mo tu sa ev) (i:Int) bx (200*i)
  W2:MW CM H M2 g h2 b2 (hRows c hd 1 1 5 1 false) (i:Int) bx2 (200*i)
  G:GameAt CG H g ga gb gd p
  nM:M ≠ M2
  nb:b ≠ b2
theorem L35.same {H H':Hp} {nl pl M h b M2 h2 b2 g ga gb gd:Addr} {c hd y3 y4:Str} {ah mo tu sa p:Int} {ev:Bool} {i:Nat} {bx bx2:Str→Int} (w:L35 CM CG H nl pl M h b M2 h2 b2 g ga gb gd c hd y3 y4 ah mo tu sa p ev i bx bx2) (s:Same H H'):L35 CM CG H' nl pl M h b M2 h2 b2 g ga gb gd c hd y3 y4 ah mo tu sa p ev i bx bx2 :=
  ⟨s _ _ w.hN,s _ _ w.hP,w.W1.same s,w.W2.same s,w.G.same s,w.nM,w.nb⟩
structure K35 (c hd y3:Str) (ah mo tu sa p:Int):Prop where
  ne:c ≠ hd
  n1:y3 ≠ c
  n2:y3 ≠ hd
  a0:0≤ah
  a1:ah≤10
  m0:0≤mo
  m1:mo < 1000000
  t0:0≤tu
  t1:tu≤100
  s0:0≤sa
  s1:sa≤10
  p1:300 < p
theorem MW.feed {H H':Hp} {M g h b f:Addr} {rows:List Hr} {r:Int} {bx:Str→Int} {m:Nat} (w:MW CM H M g h b rows r bx m) (F:FeedAt H f) (s:SameBut f H H'):MW CM H' M g h b rows r bx m:=by
  obtain ⟨kv,hk⟩:=w.bD
  obtain ⟨⟨dm,e⟩,⟨rv,e2,R⟩,B⟩:=w
  obtain ⟨x,t,ef,_⟩:=F
  have kT:KeepT H H':=fun a xs e=>s _ _ (ne_of e ef (by intro z; cases z)) e
  exact ⟨⟨dm,s _ _ (ne_of e ef (by intro z; cases z)) e⟩,⟨rv,kT _ _ e2,R.mono kT⟩,B.keep fun o h=>s _ _ (ne_of hk ef (by intro z; cases z)) h⟩
theorem L35.feed {H H':Hp} {f nl pl M h b M2 h2 b2 g ga gb gd:Addr} {c hd y3 y4:Str} {ah mo tu sa p:Int} {ev:Bool} {i:Nat} {bx bx2:Str→Int} (w:L35 CM CG H nl pl M h b M2 h2 b2 g ga gb gd c hd y3 y4 ah mo tu sa p ev i bx bx2) (F:FeedAt H f) (n:nl ≠ f) (s:SameBut f H H'):L35 CM CG H' nl pl M h b M2 h2 b2 g ga gb gd c hd y3 y4 ah mo tu sa p ev i bx bx2:=by
  have F':=F
  obtain ⟨x,t,ef,_⟩:=F'
  obtain ⟨dg,hg⟩:=w.G
  exact ⟨s _ _ n w.hN,s _ _ (ne_of w.hP ef (by intro z; cases z)) w.hP,w.W1.feed F s,w.W2.feed F s,⟨dg,s _ _ (ne_of hg ef (by intro z; cases z)) hg⟩,w.nM,w.nb⟩
def tL35 (CM CG:Addr):TS:=fun Dn σ H=>∃ (x0 x9 x10 x11 x12:Option V) (f nl pl M h b M2 h2 b2 g ga gb gd bA:Addr) (c hd y3 y4:Str) (ah mo tu sa p:Int) (ev:Bool) (bx bx2:Str→Int),
  σ=[x0,some (.ref f),some (.ref nl),some (.int p),some (.ref g),some (.ref pl),some (.ref M),some (.ref M2),some (.ref bA),x9,x10,x11,x12]∧FeedAt H f∧nl ≠ f∧L35 CM CG H nl pl M h b M2 h2 b2 g ga gb gd c hd y3 y4 ah mo tu sa p ev 0 bx bx2∧K35 c hd y3 ah mo tu sa p∧H bA=some (.tup [.int 0,.int 0])∧(∀ x,bx x=0)∧∀ H',Dn.rt (.bl true) H'
theorem sc_law:FnScope ["_law_script", "_law_feed_here", "_law_names_here", "_law_p", "_law_made", "_law_plan", "_law_machine", "_law_other", "_law_boxes", "_law_number", "_law_many", "_law_said", "_law_found"] ["_law_script"] (defScope s_law):=⟨rfl,rfl,rfl,by decide +kernel,rfl,by decide +kernel,by decide +kernel⟩
theorem ok_law {f fI fM fS fB:Addr} {fd fdI fdM fdS fdB:FuncData} (F:Fun K "law" "law" s_law f fd) (B:Bl mg) (TM:MTxt K mg CM) (TG:GTxt K mg CG)
    (MG:Mk K CG fI) (GI:FnOk P w K mg base CX0 14 fI fdI ["self", "switches", "trees", "field"] (spGInit CG)) (bI:Binds K fdI ["self", "switches", "trees", "field"] [])
    (MM:Mk K CM fM) (GM:FnOk P w K mg base CX0 1 fM fdM ["self", "game", "helper"] (spMInit CM)) (bM:Binds K fdM ["self", "game", "helper"] [])
    (mS:Meth K CM "say" fS) (GS:FnOk P w K mg base CX0 8 fS fdS ["self", "many", "due", "s", "coins"] (spSay CM CG)) (bS:Binds K fdS ["self", "many", "due", "s", "coins"] [])
    (mB:Meth K CM "box" fB) (GB:FnOk P w K mg base CX0 1 fB fdB ["self", "x"] (spBox CM)) (bB:Binds K fdB ["self", "x"] [])
    (C_l_feed:Cal P w K mg base 1 "_law_feed" ["_law_script", "_law_k"] (spFeed K)) (C_l_take:Cal P w K mg base 1 "_law_take" ["_law_feed_here", "_law_many"] spTake) (C_l_names:Cal P w K mg base 2 "_law_names" ["_law_feed_here", "_law_many"] spNamesN)
    (C_l_is_prime:Cal P w K mg base 1 "_law_is_prime" ["_law_number"] spPrimeB) (C_l_helper:Cal P w K mg base 1 "_law_helper" ["_law_names_here", "_law_plan"] spHelper) (C_l_due:Cal P w K mg base 1 "_law_due" ["_law_plan", "_law_p", "_law_boxes", "_law_many"] spDue):FnOk P w K mg base CX0 16 f fd ["_law_script"] (spLaw K):=by
  refine F.ok sc_law (fun vs H Q E h=>?_) (fun cdv A outer s H vs Q E hr h=>?_)
  · obtain ⟨a,ns,rfl,_⟩:=h
    rfl
  obtain ⟨a0,ns0,rfl,hS,h63,q⟩:=h
  have hr1:Room 1 _:=hr.mono (by decide)
  have hr2:Room (1+1) _:=hr.mono (by decide)
  have hr8:Room 8 _:=hr.mono (by decide)
  have hr15:Room (14+1) _:=hr
  refine ⟨_,(pss_cons (ps_set (i:=1) sc_law.nd rfl (Or.inl rfl) (pe_cal C_l_feed hr (by decide) rfl (pa_cons (pv 0) (pa_cons pe_int pa_nil))))
      (pss_cons (ps_set (i:=2) sc_law.nd rfl (Or.inl rfl) (pe_cal C_l_names hr (by decide) rfl (pa_cons (pv 1) (pa_cons pe_int pa_nil))))
      (pss_cons (ps_set (i:=3) sc_law.nd rfl (Or.inl rfl) (pe_op op_add pe_int (pe_cal C_l_take hr (by decide) rfl (pa_cons (pv 1) (pa_cons pe_int pa_nil)))))
      (pss_cons (ps_while PassesOwn.never (pt_not (pt_val (pe_cal C_l_is_prime hr (by decide) rfl (pa_cons (pv 3) pa_nil)))) (pss_one (ps_set (i:=3) sc_law.nd rfl (Or.inl rfl) (pe_op op_add (pv 3) pe_int))))
      (pss_cons (ps_set (i:=4) sc_law.nd rfl (Or.inl rfl) (pe_make MG GI hr15 rfl TG.mgC bI .nil pass0 (pa_cons (pe_tup (pa_cons (pe_ix ix_list (pv 2) pe_int (fun _ _=>rfl)) (pa_cons (pe_ix ix_list (pv 2) pe_int (fun _ _=>rfl)) pa_nil))) (pa_cons (pe_tup (pa_cons (pe_tup (pa_cons pe_str (pa_cons (pe_tup (pa_cons pe_str (pa_cons (pe_ix ix_list (pv 2) pe_int (fun _ _=>rfl)) pa_nil))) (pa_cons (pe_tup (pa_cons pe_str (pa_cons (pe_ix ix_list (pv 2) pe_int (fun _ _=>rfl)) pa_nil))) pa_nil)))) pa_nil)) (pa_cons (pv 3) pa_nil)))))
      (pss_cons (ps_set (i:=1) sc_law.nd rfl (Or.inl rfl) (pe_cal C_l_feed hr (by decide) rfl (pa_cons (pv 0) (pa_cons pe_int pa_nil))))
      (pss_cons (ps_set (i:=5) sc_law.nd rfl (Or.inl rfl) (pe_tup (pa_cons (pe_cal C_l_take hr (by decide) rfl (pa_cons (pv 1) (pa_cons pe_int pa_nil))) (pa_cons (pe_cal C_l_take hr (by decide) rfl (pa_cons (pv 1) (pa_cons (pv 3) pa_nil))) (pa_cons (pe_op op_add pe_int (pe_cal C_l_take hr (by decide) rfl (pa_cons (pv 1) (pa_cons pe_int pa_nil)))) (pa_cons (pe_cal C_l_take hr (by decide) rfl (pa_cons (pv 1) (pa_cons pe_int pa_nil))) pa_nil))))))
      (pss_cons (ps_set (i:=5) sc_law.nd rfl (Or.inl rfl) (pe_op op_catT (pv 5) (pe_tup (pa_cons (pe_cmpR op_eq (pe_cal C_l_take hr (by decide) rfl (pa_cons (pv 1) (pa_cons pe_int pa_nil))) pe_int (nomark _)) pa_nil))))
      (pss_cons (ps_set (i:=6) sc_law.nd rfl (Or.inl rfl) (pe_make MM GM hr2 rfl TM.mgC bM .nil pass0 (pa_cons (pv 4) (pa_cons (pe_cal C_l_helper hr (by decide) rfl (pa_cons (pv 2) (pa_cons (pv 5) pa_nil))) pa_nil))))
      (pss_cons (ps_set (i:=7) sc_law.nd rfl (Or.inl rfl) (pe_make MM GM hr2 rfl TM.mgC bM .nil pass0 (pa_cons (pv 4) (pa_cons (pe_cal C_l_helper hr (by decide) rfl (pa_cons (pv 2) (pa_cons (pe_tup (pa_cons pe_int (pa_cons pe_int (pa_cons pe_int (pa_cons pe_int (pa_cons pe_bl pa_nil)))))) pa_nil))) pa_nil))))
      (pss_cons (ps_set (i:=8) sc_law.nd rfl (Or.inl rfl) (pe_tup (pa_cons pe_int (pa_cons pe_int pa_nil))))
      (pss_cut (t':=tL35 CM CG) (pss_cons (ps_for PassesOwn.never rfl (pi_range1 rfl B.range (pa_cons (pe_op op_add pe_int (pe_cal C_l_take hr (by decide) rfl (pa_cons (pv 1) (pa_cons pe_int pa_nil)))) pa_nil)) (pg_name (i:=9) sc_law.nd rfl (Or.inl rfl)) (pss_cons (ps_set (i:=10) sc_law.nd rfl (Or.inl rfl) (pe_op op_add pe_int (pe_callTy call_int1 rfl B.int boot_int' (pa_cons (pe_cmpR op_gt (pv 9) pe_int (nomark _)) pa_nil))))
        (pss_cons (ps_asg (pe_cal C_l_due hr (by decide) rfl (pa_cons (pv 5) (pa_cons (pv 3) (pa_cons (pv 8) (pa_cons (pv 10) pa_nil))))) (pg_tup rfl (pgs_cons (pg_name (i:=11) sc_law.nd rfl (Or.inl rfl)) (pgs_cons (pg_name (i:=8) sc_law.nd rfl (Or.inl rfl)) pgs_nil))))
        (pss_cons (ps_set (i:=12) sc_law.nd rfl (Or.inl rfl) (pe_meth (pv 6) TM.cl mS GS hr8 bS .nil pass0 (pa_cons (pv 10) (pa_cons pe_int (pa_cons pe_int (pa_cons (pe_op op_rep (pe_lst (pa_cons (pv 9) pa_nil)) (pe_op op_fdiv (pv 9) pe_int)) pa_nil))))))
        (pss_cons (ps_expr (pe_meth (pv 7) TM.cl mS GS hr8 bS .nil pass0 (pa_cons (pv 10) (pa_cons pe_int (pa_cons pe_int (pa_cons (pe_op op_rep (pe_lst (pa_cons (pe_op op_sub (pv 3) pe_int) pa_nil)) (pe_op op_fdiv (pv 9) pe_int)) pa_nil))))))
        (pss_cons (ps_if (PW.pt (pw_or (pt_cmpR (op_neD hr.units) (pv 12) (pv 11) (nomark _)) (pw_or1 (pt_not (pt_val (pe_callB call_isinst rfl B.isinstance PyProof.Rows.boot_isinstance (pa_cons (pv 12) (pa_cons (pe_bltn (v:=V.ty "list") rfl B.list boot_list' rfl) pa_nil)))))))) (pss_one (ps_ret pe_bl)) pss_nil)
        (pss_one (ps_if (PW.pt (pw_or (pt_cmpR op_ne (pe_meth (pv 6) TM.cl mB GB hr1 bB .nil pass0 (pa_cons (pe_ix ix_list (pv 2) pe_int (fun _ _=>rfl)) pa_nil)) (pe_ix ix_tup (pv 8) pe_int (fun _ _=>rfl)) (nomark _)) (pw_or1 (pt_cmpR op_ne (pe_meth (pv 6) TM.cl mB GB hr1 bB .nil pass0 (pa_cons (pe_ix ix_list (pv 2) pe_int (fun _ _=>rfl)) pa_nil)) (pe_ix ix_tup (pv 8) pe_int (fun _ _=>rfl)) (nomark _))))) (pss_one (ps_ret pe_bl)) pss_nil))))))))
      (pss_one (ps_ret (pe_cmpR op_eq (pe_meth (pv 6) TM.cl mB GB hr1 bB .nil pass0 (pa_cons (pe_ix ix_list (pv 2) pe_int (fun _ _=>rfl)) pa_nil)) pe_int (nomark _))))) (by
        rintro Dn σ H ⟨x0,x9,x10,x11,x12,f,nl,pl,M,h,b,M2,h2,b2,g,ga,gb,gd,bA,c,hd,y3,y4,ah,mo,tu,sa,p,ev,bx,bx2,rfl,F0,nf,W,k,hB,b0,q⟩
        have p1:=k.p1
        have ka0:=k.a0
        have ka1:=k.a1
        have t1:=k.t1
        have ks0:=k.s0
        refine ⟨_,rfl,f,3,rfl,F0,by decide,by decide,fun d H1 d0 d3 F1 B1=>?_⟩
        have W1:=W.feed F0 nf B1
        have hB1:H1 bA=some (.tup [.int 0,.int 0]):=by
          obtain ⟨x,t,ef,_⟩:=F0
          exact B1 _ _ (ne_of hB ef (by intro z; cases z)) hB
        refine ⟨_,_,rfl,rfl,_,rfl,by omega,by omega,for_range (fun i σ H'=>∃ (x9 x10 x11 x12:Option V) (bA:Addr) (bx bx2:Str→Int),σ=[x0,some (.ref f),some (.ref nl),some (.int p),some (.ref g),some (.ref pl),some (.ref M),some (.ref M2),some (.ref bA),x9,x10,x11,x12]∧L35 CM CG H' nl pl M h b M2 h2 b2 g ga gb gd c hd y3 y4 ah mo tu sa p ev i bx bx2∧H' bA=some (.tup [.int (bx c),.int (bx hd)])∧0≤bx c∧bx c≤67*(i:Int)∧0≤bx hd∧bx hd < p∧bx y3=0)
          ⟨_,_,_,_,bA,bx,bx2,rfl,W1,by rw [b0,b0]; exact hB1,by rw [b0]; decide,by rw [b0]; decide,by rw [b0]; decide,by rw [b0]; omega,b0 _⟩ ?_ ?_⟩
        · clear hB b0 hB1 W W1
          rintro i σ H2 hi ⟨x9,x10,x11,x12,bA,bx,bx2,rfl,W,hB,c0,c1,h0,h1,y0⟩
          have hi':i≤2:=by omega
          refine ⟨_,rfl,_,_,rfl,rfl,.inr ⟨_,rfl,?_⟩⟩
          obtain ⟨ix,ei,i0,i1⟩:∃ ix:Int,(if decide (0+(i:Int) > 0)=true then (1:Int) else 0)=ix∧0≤ix∧ix < 2:=⟨_,rfl,by split <;> decide,by split <;> decide⟩
          rw [ei]
          refine ⟨_,_,rfl,rfl,?_⟩
          clear ei
          have kr:R35 ah mo tu sa p (1+ix):=⟨ka0,ka1,ks0,by omega,k.t0,by omega,by omega⟩
          obtain ⟨rd1,rd2⟩:=run_due (ev:=ev) (bx:=bx) k.ne kr c0 (by omega) h0 h1
          obtain ⟨g0,g1,g2,g3⟩:=due_rng (ev:=ev) (h0:=bx hd) kr c0
          refine ⟨_,rfl,_,rfl,_,rfl,_,rfl,pl,bA,ah,mo,tu,sa,ev,p,bx c,bx hd,(1+ix),rfl,W.hP,hB,ka0,ka1,ks0,k.s1,by omega,by omega,k.m0,k.m1,c0,by omega,k.t0,by omega,by omega,fun t l bB H3 S3 ht hl hbB=>?_⟩
          refine ⟨t,_,rfl,SqT.of ht,rfl,_,_,rfl,_,_,rfl,rfl,?_⟩
          have W3:=W.same S3
          clear W hB S3 ht
          obtain ⟨dm,hM3⟩:=W3.W1.hM
          refine ⟨_,rfl,M,dm,_,rfl,hM3,ml_n2,_,rfl,_,rfl,(by show 1≤sizeLine; decide),fun z hz=>?_⟩
          have I4:=Same.new hz (.lst [.int (0+(i:Int))])
          have g4:upd H3 z (.lst [.int (0+(i:Int))]) z=some (.lst [.int (0+(i:Int))]):=upd_same
          generalize upd H3 z (.lst [.int (0+(i:Int))])=H4 at I4 g4
          refine ⟨_,rfl,_,_,rfl,rfl,⟨by decide,by decide⟩,z,_,_,rfl,rfl,g4,by omega,by omega,small (by show 1*_≤1000; omega),fun y hy=>?_⟩
          rw [rep_flat]
          have I5:=Same.new hy (.lst (List.replicate ((0+(i:Int)) / 2).toNat (.int (0+(i:Int)))))
          have g5:upd H4 y (.lst (List.replicate ((0+(i:Int)) / 2).toNat (.int (0+(i:Int))))) y=some (.lst (List.replicate ((0+(i:Int)) / 2).toNat (.int (0+(i:Int))))):=upd_same
          generalize upd H4 y (.lst (List.replicate ((0+(i:Int)) / 2).toNat (.int (0+(i:Int)))))=H5 at I5 g5
          have J5:=I4.trans I5
          have W5:=W3.same J5
          obtain ⟨⟨dm5,hM5⟩,⟨rv,hh5,RW5⟩,BX5⟩:=W5.W1
          refine ⟨M,g,h,b,dm5,y,ga,gb,gd,rv,(i:Int),(1+ix),0,0,p,_,bx,200*i,_,rfl,hM5,hh5,RW5,hR_quiet ka0,BX5,by omega,W5.G,by omega,.inl g5,by omega,by omega,fun l1 H6 l0 hl1 BX6 hM6 S6=>?_⟩
          obtain ⟨kv5,hb5⟩:=W5.W1.bD
          have W62:=W5.W2.but S6 hM5 hb5 W5.nM.symm W5.nb.symm
          have kT6:KeepT H5 H6:=fun a xs e=>tup_but S6 hM5 hb5 e
          have W61:MW CM H6 M g h b (hRows c hd ah mo tu sa ev) ((i:Int)+1) (runM p (hRows c hd ah mo tu sa ev) (1+ix) 200 ⟨0,bx,[]⟩).bx (200*i+200):=⟨⟨dm5,hM6⟩,⟨rv,kT6 _ _ hh5,RW5.mono kT6⟩,BX6⟩
          have G6:=W5.G.but2 S6 hM5 hb5
          have hN6:=lst_but S6 hM5 hb5 W5.hN
          have hP6:=kT6 _ _ W5.hP
          have hl6:=lst_but S6 hM5 hb5 (J5 _ _ hl)
          have hbB6:=kT6 _ _ (J5 _ _ hbB)
          have nM:=W5.nM
          have nb:=W5.nb
          clear W3 W5 S6 kT6 BX6 hM6 BX5 RW5 hh5 hM5 hb5 I4 I5 J5 hl hbB hM3 g4 g5
          rw [rd1] at hl1
          rw [rd2] at W61
          obtain ⟨dm2,hM26⟩:=W62.hM
          refine ⟨_,rfl,M2,dm2,_,rfl,hM26,ml_n2,_,rfl,_,rfl,_,_,rfl,rfl,(by show 1≤sizeLine; decide),fun z2 hz2=>?_⟩
          have I7:=Same.new hz2 (.lst [.int (p - 1)])
          have g7:upd H6 z2 (.lst [.int (p - 1)]) z2=some (.lst [.int (p - 1)]):=upd_same
          generalize upd H6 z2 (.lst [.int (p - 1)])=H7 at I7 g7
          refine ⟨_,rfl,_,_,rfl,rfl,⟨by decide,by decide⟩,z2,_,_,rfl,rfl,g7,by omega,by omega,small (by show 1*_≤1000; omega),fun y2 hy2=>?_⟩
          rw [rep_flat]
          have I8:=Same.new hy2 (.lst (List.replicate ((0+(i:Int)) / 2).toNat (.int (p - 1))))
          have g8:upd H7 y2 (.lst (List.replicate ((0+(i:Int)) / 2).toNat (.int (p - 1)))) y2=some (.lst (List.replicate ((0+(i:Int)) / 2).toNat (.int (p - 1)))):=upd_same
          generalize upd H7 y2 (.lst (List.replicate ((0+(i:Int)) / 2).toNat (.int (p - 1))))=H8 at I8 g8
          have J8:=I7.trans I8
          obtain ⟨⟨dm8,hM8⟩,⟨rv2,hh8,RW8⟩,BX8⟩:=W62.same J8
          refine ⟨M2,g,h2,b2,dm8,y2,ga,gb,gd,rv2,(i:Int),(1+ix),0,0,p,_,bx2,200*i,_,rfl,hM8,hh8,RW8,hR_quiet (by decide),BX8,by omega,G6.same J8,by omega,.inl g8,by omega,by omega,fun l2 H9 _ _ BX9 hM9 S9=>?_⟩
          obtain ⟨kv8,hb8⟩:=(W62.same J8).bD
          have kT9:KeepT H8 H9:=fun a xs e=>tup_but S9 hM8 hb8 e
          have W91:=(W61.same J8).but S9 hM8 hb8 nM nb
          have W9:L35 CM CG H9 nl pl M h b M2 h2 b2 g ga gb gd c hd y3 y4 ah mo tu sa p ev (i+1) (Bx2 bx c hd (dueF ah mo tu sa ev p (bx c) (bx hd) (1+ix)).2.1 (dueF ah mo tu sa ev p (bx c) (bx hd) (1+ix)).2.2) (runM p (hRows c hd 1 1 5 1 false) (1+ix) 200 ⟨0,bx2,[]⟩).bx :=
            ⟨lst_but S9 hM8 hb8 (J8 _ _ hN6),kT9 _ _ (J8 _ _ hP6),W91,⟨⟨dm8,hM9⟩,⟨rv2,kT9 _ _ hh8,RW8.mono kT9⟩,BX9⟩,(G6.same J8).but2 S9 hM8 hb8,nM,nb⟩
          have hl9:=lst_but S9 hM8 hb8 (J8 _ _ hl6)
          have hl19:=lst_but S9 hM8 hb8 (J8 _ _ hl1)
          have hbB9:=kT9 _ _ (J8 _ _ hbB6)
          clear W61 W62 W91 S9 kT9 BX9 hM9 hh8 RW8 BX8 hM8 hb8 I7 I8 J8 g7 g8 hN6 hP6 G6 hl6 hl1 hbB6 hM26
          refine ⟨_,rfl,_,rfl,_,_,.lst (SqL.of hl19) (rep_ints _),.lst (SqL.of hl9) (rep_ints _),shaped_li _,shaped_li _,_,rfl,?_⟩
          rw [eqv_li,decide_eq_true rfl]
          refine iteF ?_
          refine ⟨_,rfl,_,_, "list", true,rfl,TyOf.lst hl19,kit_self _ _,_,rfl,?_⟩
          refine iteF ?_
          obtain ⟨⟨dm9,hM9⟩,_,BX9⟩:=W9.W1
          refine ⟨_,rfl,M,dm9,_,rfl,hM9,ml_n3,_,rfl,nl,_,0,_,rfl,rfl,SqL.of W9.hN,rfl,M,g,h,b,dm9,_,c,_,_,rfl,hM9,BX9,_,rfl,bB,_,0,_,rfl,rfl,SqT.of hbB9,rfl,rfl,_,rfl,?_⟩
          refine iteNS (congrArg V.int (bx2_c k.ne)) ?_
          refine ⟨_,rfl,M,dm9,_,rfl,hM9,ml_n3,_,rfl,nl,_,1,_,rfl,rfl,SqL.of W9.hN,rfl,M,g,h,b,dm9,_,hd,_,_,rfl,hM9,BX9,_,rfl,bB,_,1,_,rfl,rfl,SqT.of hbB9,rfl,rfl,_,rfl,?_⟩
          refine iteNS (congrArg V.int bx2_h) ?_
          refine ⟨_,_,_,_,bB,_,_,rfl,W9,?_,?_,?_,?_,?_,?_⟩
          · rw [bx2_c k.ne,bx2_h]
            exact hbB9
          · rw [bx2_c k.ne]
            exact g0
          · rw [bx2_c k.ne]
            omega
          · rw [bx2_h]
            exact g2
          · rw [bx2_h]
            exact g3
          · rw [bx2_o k.n1 k.n2]
            exact y0
        · rintro σ H2 ⟨x9,x10,x11,x12,bA,bx,bx2,rfl,W,hB,c0,c1,h0,h1,y0⟩
          obtain ⟨⟨dm9,hM9⟩,_,BX9⟩:=W.W1
          refine ⟨_,rfl,M,dm9,_,rfl,hM9,ml_n3,_,rfl,nl,_,2,_,rfl,rfl,SqL.of W.hN,rfl,M,g,h,b,dm9,_,y3,_,_,rfl,hM9,BX9,rfl,?_⟩
          rw [y0,decide_eq_true rfl]
          exact q _))))))))))))),?_⟩
  refine ⟨_,rfl,a0,ns0,1,rfl,hS,h63,by decide,by decide,fun f H1 f0 S1 F1=>?_⟩
  refine ⟨_,rfl,f,4,rfl,F1,by decide,by decide,fun nl ns H2 l0 nf hN nlen nok nd F2 S2=>?_⟩
  obtain ⟨c,hd,y3,y4,rfl⟩:∃ c hd y3 y4,ns=[c,hd,y3,y4]:=by
    match ns,nlen with
    | [a,b,c,d],_=>exact ⟨a,b,c,d,rfl⟩
  refine ⟨_,rfl,f,9000,rfl,F2,by decide,by decide,fun d H3 d0 d1 F3 S3=>⟨_,_,rfl,rfl,?_⟩⟩
  have hN3:=S3 _ _ nf hN
  have T3:Same H H3:=Same.but S1 f0 (S2.trans S3)
  clear S1 S2 S3 F1 F2 hN
  refine ⟨fun mm σ H'=>∃ n:Int,σ=[some (.ref a0),some (.ref f),some (.ref nl),some (.int n),none,none,none,none,none,none,none,none,none]∧H'=H3∧301≤n∧n≤999983∧mm=(999983 - n).toNat,⟨_,_,rfl,rfl,by omega,by omega,rfl⟩,?_⟩
  rintro mm σ H' ⟨n,rfl,rfl,n0,n1,rfl⟩
  refine ⟨_,rfl,n,rfl,fun b hb=>⟨b,rfl,?_⟩⟩
  cases b with
  | false =>
    refine iteT ?_
    refine ⟨_,fun _ _ h=>h,?_⟩
    have ne:n ≠ 999983:=fun z=>by
      subst z
      exact nomatch hb.mpr pr_999983
    refine ⟨_,rfl,_,_,rfl,rfl,?_⟩
    exact ⟨_,by omega,n+1,rfl,rfl,by omega,by omega,rfl⟩
  | true =>
    have pp:Pr n:=hb.mp rfl
    refine iteF ?_
    refine ⟨_,rfl,nl,_,2,_,rfl,rfl,SqL.of hN3,rfl,_,rfl,nl,_,3,_,rfl,rfl,SqL.of hN3,rfl,(by show 2≤sizeLine; decide),fun t1 h1=>?_⟩
    have I1:=Same.new h1 (.tup [.str y3,.str y4])
    have g1:upd H' t1 (.tup [.str y3,.str y4]) t1=some (.tup [.str y3,.str y4]):=upd_same
    generalize upd H' t1 (.tup [.str y3,.str y4])=H4 at I1 g1
    refine ⟨_,rfl,nl,_,2,_,rfl,rfl,SqL.of (I1 _ _ hN3),rfl,(by show 2≤sizeLine; decide),fun t2 h2=>?_⟩
    have I2:=Same.new h2 (.tup [.str "is", .str y3])
    have g2:upd H4 t2 (.tup [.str "is", .str y3]) t2=some (.tup [.str "is", .str y3]):=upd_same
    generalize upd H4 t2 (.tup [.str "is", .str y3])=H5 at I2 g2
    refine ⟨_,rfl,nl,_,3,_,rfl,rfl,SqL.of (I2 _ _ (I1 _ _ hN3)),rfl,(by show 2≤sizeLine; decide),fun t3 h3=>⟨(by show 3≤sizeLine; decide),fun t4 h4=>⟨(by show 1≤sizeLine; decide),fun t5 h5=>?_⟩⟩⟩
    have I3:=Same.new h3 (.tup [.str "is", .str y4])
    have I4:=Same.new h4 (.tup [.str "and", .ref t2,.ref t3])
    have I5:=Same.new h5 (.tup [.ref t4])
    have TT:TreeAt (upd (upd (upd H5 t3 (.tup [.str "is", .str y4])) t4 (.tup [.str "and", .ref t2,.ref t3])) t5 (.tup [.ref t4])) (.ref t4) (.bin "and" (.is y3) (.is y4)):=.bin (I5 _ _ upd_same) (.is (I5 _ _ (I4 _ _ (I3 _ _ g2)))) (.is (I5 _ _ (I4 _ _ upd_same)))
    have g5:upd (upd (upd H5 t3 (.tup [.str "is", .str y4])) t4 (.tup [.str "and", .ref t2,.ref t3])) t5 (.tup [.ref t4]) t5=some (.tup [.ref t4]):=upd_same
    have J5:=I2.trans (I3.trans (I4.trans I5))
    generalize upd (upd (upd H5 t3 (.tup [.str "is", .str y4])) t4 (.tup [.str "and", .ref t2,.ref t3])) t5 (.tup [.ref t4])=H6 at TT g5 J5
    have T6:Same H' H6:=I1.trans J5
    clear I3 I4 I5 h1 h2 h3 h4 h5
    refine ⟨_,rfl,fun g dg hg hdg ng=>?_⟩
    have K7:Same H6 (upd (upd H6 dg (.own g)) g (.ins CG dg [])):=fun a o e=>by
      rw [upd_ne (ne_of_none e hg),upd_ne (ne_of_none e hdg)]
      exact e
    have nd1:=nd
    simp only [List.nodup_cons,List.mem_cons,List.not_mem_nil,not_or] at nd1
    refine ⟨g,dg,t1,t5,[y3,y4],[.ref t4],[.bin "and" (.is y3) (.is y4)],n,rfl,upd_same,K7 _ _ (J5 _ _ g1),?_,(by show 2≤10; decide),K7 _ _ g5,.cons (TT.mono (keepT_same K7)) .nil,(by show 1≤1; decide),(by show 1≤10; decide),?_,pp,by omega,n1,(by show (1:Int)≤n; omega),?_,fun gd H8 gd0 G hgd S8=>⟨rfl,?_⟩⟩
    · simp only [List.nodup_cons,List.mem_cons,List.not_mem_nil,not_or,not_false_eq_true,and_true,List.nodup_nil]
      exact nd1.2.2.1.1
    · intro t ht
      rw [List.mem_singleton.mp ht]
      exact ⟨⟨by decide +kernel,List.mem_cons_self ..,List.mem_cons_of_mem _ (List.mem_cons_self ..)⟩,⟨by decide +kernel,nok _ (by simp),nok _ (by simp)⟩,(by show 2≤10; decide),(by show 3≤400; decide)⟩
    · intro t ht x _
      rw [List.mem_singleton.mp ht]
      have:=List.count_le_length (a:=x) (l:=[y3,y4])
      show ((List.count x [y3,y4]:Nat):Int) < n
      have h2:[y3,y4].length=2:=rfl
      omega
    have T8:Same H' H8:=T6.trans (Same.but K7 hg S8)
    clear K7 S8 T6 I1 I2 J5 g1 g2 g5 TT hgd hdg ng
    have N8:=T8 _ _ hN3
    refine ⟨_,rfl,a0,ns0,2,rfl,(T3.trans T8).seq hS,h63,by decide,by decide,fun f2 H9 f20 S9 F9=>?_⟩
    have nf2:nl ≠ f2:=ne_of_none N8 f20
    have gf2:g ≠ f2:=by
      obtain ⟨dg',e⟩:=G
      exact ne_of_none e f20
    have G9:=G.same S9
    have N9:=S9 _ _ N8
    clear N8 S9 G T8
    refine ⟨_,rfl,f2,4,rfl,F9,by decide,by decide,fun e1 Ha e10 e11 Fa Sa=>⟨_,rfl,_,rfl,f2,n,rfl,Fa,by omega,by omega,fun e2 Hb e20 e21 Fb Sb=>⟨_,rfl,f2,12,rfl,Fb,by decide,by decide,fun e3 Hc e30 e31 Fc Sc=>⟨_,_,rfl,rfl,_,rfl,f2,4,rfl,Fc,by decide,by decide,fun e4 Hd e40 e41 Fd Sd=>⟨(by show 4≤sizeLine; decide),fun tp htp=>?_⟩⟩⟩⟩⟩
    have Sd':=Sa.trans (Sb.trans (Sc.trans Sd))
    have Id:=Same.new htp (.tup [.int e1,.int e2,.int (58+e3),.int e4])
    have gd1:upd Hd tp (.tup [.int e1,.int e2,.int (58+e3),.int e4]) tp=some (.tup [.int e1,.int e2,.int (58+e3),.int e4]):=upd_same
    have Fe:=Fd.same Id
    have Se:SameBut f2 H9 (upd Hd tp (.tup [.int e1,.int e2,.int (58+e3),.int e4])):=Sd'.trans (SameBut.of Id)
    generalize upd Hd tp (.tup [.int e1,.int e2,.int (58+e3),.int e4])=He at gd1 Fe Se
    clear Sd' Sa Sb Sc Sd Id Fa Fb Fc Fd
    refine ⟨_,rfl,_,rfl,f2,8,rfl,Fe,by decide,by decide,fun e5 Hf e50 e51 Ff Sf=>⟨rfl,(by show 1≤sizeLine; decide),fun t6 h6=>?_⟩⟩
    have If:=Same.new h6 (.tup [.bl (decide (V.int e5=V.int 0))])
    have tf:tp ≠ f2:=by
      obtain ⟨x,t,ef,_⟩:=Fe
      exact ne_of gd1 ef (by intro z; cases z)
    refine ⟨tp,t6,_,_,rfl,rfl,SqT.of (If _ _ (Sf _ _ tf gd1)),SqT.of upd_same,(fun z=>nomatch z),(by show 5≤sizeLine; decide),(fun z=>nomatch z),fun _ pl hpl=>?_⟩
    obtain ⟨ev,eev⟩:∃ ev:Bool,ev=decide (V.int e5=V.int 0):=⟨_,rfl⟩
    rw [← eev] at If hpl ⊢
    have Ig:=Same.new hpl (.tup ([.int e1,.int e2,.int (58+e3),.int e4]++[.bl ev]))
    have gP:upd (upd Hf t6 (.tup [.bl ev])) pl (.tup ([.int e1,.int e2,.int (58+e3),.int e4]++[.bl ev])) pl=some (.tup (plV e1 e2 (58+e3) e4 ev)):=upd_same
    have Sg:SameBut f2 H9 (upd (upd Hf t6 (.tup [.bl ev])) pl (.tup ([.int e1,.int e2,.int (58+e3),.int e4]++[.bl ev]))):=Se.trans (Sf.trans (SameBut.of (If.trans Ig)))
    have Fg:=Ff.same (If.trans Ig)
    generalize upd (upd Hf t6 (.tup [.bl ev])) pl (.tup ([.int e1,.int e2,.int (58+e3),.int e4]++[.bl ev]))=Hg at gP Sg Fg
    have Ng:=Sg _ _ nf2 N9
    have Gg:GameAt CG Hg g t1 t5 gd n:=G9.but fun o e=>Sg _ _ gf2 e
    clear Se Sf If Ig Fe Ff gd1 Sg G9 N9
    refine ⟨_,rfl,_,rfl,_,rfl,nl,pl,c,hd,[y3,y4],e1,e2,58+e3,e4,ev,rfl,Ng,(by show 2≤10; decide),gP,e10,by omega,e40,by omega,fun h1 rv1 Hh Sh hh1 RW1=>fun M dm hM hdm nM=>?_⟩
    have Kh:Same Hh (upd (upd Hh dm (.own M)) M (.ins CM dm [])):=fun a o e=>by
      rw [upd_ne (ne_of_none e hM),upd_ne (ne_of_none e hdm)]
      exact e
    refine ⟨M,g,h1,dm,rfl,upd_same,fun b1 Hi b10 hMi hbi Si=>⟨rfl,?_⟩⟩
    have Ti:Same Hh Hi:=Same.but Kh hM Si
    have W1:MW CM Hi M g h1 b1 (hRows c hd e1 e2 (58+e3) e4 ev) 0 (fun _=>0) 0:=⟨⟨dm,hMi⟩,⟨rv1,Ti _ _ hh1,RW1.mono (keepT_same Ti)⟩,[],hbi,Nat.le_refl _,fun _=>rfl⟩
    have Tj:=Sh.trans Ti
    have Nj:=Tj _ _ Ng
    have Pj:=Tj _ _ gP
    have Gj:=Gg.same Tj
    have Fj:=Fg.same Tj
    clear Kh Si Ti Sh hh1 RW1 hMi hbi Ng Gg Fg gP Tj b10 hM hdm nM
    refine ⟨_,rfl,_,rfl,(by show 5≤sizeLine; decide),fun t7 h7=>?_⟩
    have Ik:=Same.new h7 (.tup [.int 1,.int 1,.int 5,.int 1,.bl false])
    have gk:upd Hi t7 (.tup [.int 1,.int 1,.int 5,.int 1,.bl false]) t7=some (.tup (plV 1 1 5 1 false)):=upd_same
    generalize upd Hi t7 (.tup [.int 1,.int 1,.int 5,.int 1,.bl false])=Hk at Ik gk
    refine ⟨nl,t7,c,hd,[y3,y4],1,1,5,1,false,rfl,Ik _ _ Nj,(by show 2≤10; decide),gk,by decide,by decide,by decide,by decide,fun h2 rv2 Hl Sl hh2 RW2=>fun M2 dm2 hM2 hdm2 nM2=>?_⟩
    have Kl:Same Hl (upd (upd Hl dm2 (.own M2)) M2 (.ins CM dm2 [])):=fun a o e=>by
      rw [upd_ne (ne_of_none e hM2),upd_ne (ne_of_none e hdm2)]
      exact e
    have Tl:=Ik.trans Sl
    obtain ⟨dmj,hMj⟩:=(W1.same Tl).hM
    obtain ⟨kvj,hbj⟩:=(W1.same Tl).bD
    have nMM:M ≠ M2:=ne_of_none hMj hM2
    refine ⟨M2,g,h2,dm2,rfl,upd_same,fun b2 Hm b20 hMm hbm Sm=>⟨rfl,?_⟩⟩
    have nbb:b1 ≠ b2:=ne_of_none (Kl _ _ hbj) b20
    have Tm':Same Hl Hm:=Same.but Kl hM2 Sm
    have W2:MW CM Hm M2 g h2 b2 (hRows c hd 1 1 5 1 false) 0 (fun _=>0) 0:=⟨⟨dm2,hMm⟩,⟨rv2,Tm' _ _ hh2,RW2.mono (keepT_same Tm')⟩,[],hbm,Nat.le_refl _,fun _=>rfl⟩
    have Tn:=Tl.trans Tm'
    have WW:L35 CM CG Hm nl pl M h1 b1 M2 h2 b2 g t1 t5 gd c hd y3 y4 e1 e2 (58+e3) e4 n ev 0 (fun _=>0) (fun _=>0):=⟨Tn _ _ Nj,Tn _ _ Pj,W1.same Tn,W2,Gj.same Tn,nMM,nbb⟩
    have Fn:=Fj.same Tn
    refine ⟨(by show 2≤sizeLine; decide),fun bA hbA=>?_⟩
    have Io:=Same.new hbA (.tup [.int 0,.int 0])
    refine ⟨_,_,_,_,_,f2,nl,pl,M,h1,b1,M2,h2,b2,g,t1,t5,gd,bA,c,hd,y3,y4,e1,e2,58+e3,e4,n,ev,_,_,rfl,Fn.same Io,nf2,WW.same Io,⟨nd1.1.1,fun z=>nd1.1.2.1 z.symm,fun z=>nd1.2.1.1 z.symm,e10,by omega,e20,by omega,by omega,by omega,e40,by omega,by omega⟩,upd_same,fun _=>rfl,q⟩
end
end
theorem all_mk {l:PySem.W.OpenLaw} {w:World} {K:PySem.W.Frag} {h:Heap} {mg:Str→Option Value} {fa f0 f1 f2 f3 f4 f5 f6 f7 f8 f9 f10 f11 f12 f13 f14 f15 f16:Addr} (X:K.In h) (G:h.Ns mainGlobals mg) (hfa:mg "law" = some (.ref fa))
    {od0 an0 od1 an1 od2 an2 od3 an3 od4 an4 od5 an5 od6 an6 od7 an7 od8 an8 od9 an9 od10 an10 od11 an11 od12 an12 od13 an13 od14 an14 od15 an15 od16 an16:Option Addr} {sl0 sl1 sl2 sl3 sl4 sl5 sl6 sl7 sl8 sl9 sl10 sl11 sl12 sl13 sl14 sl15 sl16:Array (Option Value)} {oc0 kV0 dc0 pm0 cd0 ct0 oc1 kV1 dc1 pm1 cd1 ct1 oc2 kV2 dc2 pm2 cd2 ct2 oc3 kV3 dc3 pm3 cd3 ct3 oc4 kV4 dc4 pm4 cd4 ct4 oc5 kV5 dc5 pm5 cd5 ct5 oc6 kV6 dc6 pm6 cd6 ct6 oc7 kV7 dc7 pm7 cd7 ct7 oc8 kV8 dc8 pm8 cd8 ct8 oc9 kV9 dc9 pm9 cd9 ct9 oc10 kV10 dc10 pm10 cd10 ct10 oc11 kV11 dc11 pm11 cd11 ct11 oc12 kV12 dc12 pm12 cd12 ct12 oc13 kV13 dc13 pm13 cd13 ct13 oc14 kV14 dc14 pm14 cd14 ct14 oc15 kV15 dc15 pm15 cd15 ct15 oc16 kV16 dc16 pm16 cd16 ct16:Value}
    (a0:PySem.W.nsIn K mainGlobals "is_field" = some (some (.ref f0))) (l0:K.lookup f0=some ⟨oc0,od0,.func (PySem.W.fnOf "is_field" "is_field" (defArgs s_is_field) (defBody s_is_field) (defScope s_is_field) .none kV0 dc0 pm0 an0 cd0 ct0),sl0⟩) (c0:PySem.W.codeIn K cd0 "is_field" = true) (k0:PySem.W.keepIn K (.ref f0)=true)
    (a1:PySem.W.nsIn K mainGlobals "trees_within" = some (some (.ref f1))) (l1:K.lookup f1=some ⟨oc1,od1,.func (PySem.W.fnOf "trees_within" "trees_within" (defArgs s_trees_within) (defBody s_trees_within) (defScope s_trees_within) .none kV1 dc1 pm1 an1 cd1 ct1),sl1⟩) (c1:PySem.W.codeIn K cd1 "trees_within" = true) (k1:PySem.W.keepIn K (.ref f1)=true)
    (a2:PySem.W.nsIn K mainGlobals "names_in" = some (some (.ref f2))) (l2:K.lookup f2=some ⟨oc2,od2,.func (PySem.W.fnOf "names_in" "names_in" (defArgs s_names_in) (defBody s_names_in) (defScope s_names_in) .none kV2 dc2 pm2 an2 cd2 ct2),sl2⟩) (c2:PySem.W.codeIn K cd2 "names_in" = true) (k2:PySem.W.keepIn K (.ref f2)=true)
    (a3:PySem.W.nsIn K mainGlobals "value_of" = some (some (.ref f3))) (l3:K.lookup f3=some ⟨oc3,od3,.func (PySem.W.fnOf "value_of" "value_of" (defArgs s_value_of) (defBody s_value_of) (defScope s_value_of) .none kV3 dc3 pm3 an3 cd3 ct3),sl3⟩) (c3:PySem.W.codeIn K cd3 "value_of" = true) (k3:PySem.W.keepIn K (.ref f3)=true)
    (a4:PySem.W.nsIn K mainGlobals "op_value" = some (some (.ref f4))) (l4:K.lookup f4=some ⟨oc4,od4,.func (PySem.W.fnOf "op_value" "op_value" (defArgs s_op_value) (defBody s_op_value) (defScope s_op_value) .none kV4 dc4 pm4 an4 cd4 ct4),sl4⟩) (c4:PySem.W.codeIn K cd4 "op_value" = true) (k4:PySem.W.keepIn K (.ref f4)=true)
    (a5:PySem.W.nsIn K mainGlobals "degree_of" = some (some (.ref f5))) (l5:K.lookup f5=some ⟨oc5,od5,.func (PySem.W.fnOf "degree_of" "degree_of" (defArgs s_degree_of) (defBody s_degree_of) (defScope s_degree_of) .none kV5 dc5 pm5 an5 cd5 ct5),sl5⟩) (c5:PySem.W.codeIn K cd5 "degree_of" = true) (k5:PySem.W.keepIn K (.ref f5)=true)
    (a6:PySem.W.nsIn K mainGlobals "look_switches" = some (some (.ref f6))) (l6:K.lookup f6=some ⟨oc6,od6,.func (PySem.W.fnOf "look_switches" "look_switches" (defArgs s_look_switches) (defBody s_look_switches) (defScope s_look_switches) .none kV6 dc6 pm6 an6 cd6 ct6),sl6⟩) (c6:PySem.W.codeIn K cd6 "look_switches" = true) (k6:PySem.W.keepIn K (.ref f6)=true)
    (a7:PySem.W.nsIn K mainGlobals "look_names" = some (some (.ref f7))) (l7:K.lookup f7=some ⟨oc7,od7,.func (PySem.W.fnOf "look_names" "look_names" (defArgs s_look_names) (defBody s_look_names) (defScope s_look_names) .none kV7 dc7 pm7 an7 cd7 ct7),sl7⟩) (c7:PySem.W.codeIn K cd7 "look_names" = true) (k7:PySem.W.keepIn K (.ref f7)=true)
    (a8:PySem.W.nsIn K mainGlobals "look_field" = some (some (.ref f8))) (l8:K.lookup f8=some ⟨oc8,od8,.func (PySem.W.fnOf "look_field" "look_field" (defArgs s_look_field) (defBody s_look_field) (defScope s_look_field) .none kV8 dc8 pm8 an8 cd8 ct8),sl8⟩) (c8:PySem.W.codeIn K cd8 "look_field" = true) (k8:PySem.W.keepIn K (.ref f8)=true)
    (a9:PySem.W.nsIn K mainGlobals "look_size" = some (some (.ref f9))) (l9:K.lookup f9=some ⟨oc9,od9,.func (PySem.W.fnOf "look_size" "look_size" (defArgs s_look_size) (defBody s_look_size) (defScope s_look_size) .none kV9 dc9 pm9 an9 cd9 ct9),sl9⟩) (c9:PySem.W.codeIn K cd9 "look_size" = true) (k9:PySem.W.keepIn K (.ref f9)=true)
    (a10:PySem.W.nsIn K mainGlobals "_law_feed" = some (some (.ref f10))) (l10:K.lookup f10=some ⟨oc10,od10,.func (PySem.W.fnOf "_law_feed" "_law_feed" (defArgs s_l_feed) (defBody s_l_feed) (defScope s_l_feed) .none kV10 dc10 pm10 an10 cd10 ct10),sl10⟩) (c10:PySem.W.codeIn K cd10 "_law_feed" = true) (k10:PySem.W.keepIn K (.ref f10)=true)
    (a11:PySem.W.nsIn K mainGlobals "_law_take" = some (some (.ref f11))) (l11:K.lookup f11=some ⟨oc11,od11,.func (PySem.W.fnOf "_law_take" "_law_take" (defArgs s_l_take) (defBody s_l_take) (defScope s_l_take) .none kV11 dc11 pm11 an11 cd11 ct11),sl11⟩) (c11:PySem.W.codeIn K cd11 "_law_take" = true) (k11:PySem.W.keepIn K (.ref f11)=true)
    (a12:PySem.W.nsIn K mainGlobals "_law_names" = some (some (.ref f12))) (l12:K.lookup f12=some ⟨oc12,od12,.func (PySem.W.fnOf "_law_names" "_law_names" (defArgs s_l_names) (defBody s_l_names) (defScope s_l_names) .none kV12 dc12 pm12 an12 cd12 ct12),sl12⟩) (c12:PySem.W.codeIn K cd12 "_law_names" = true) (k12:PySem.W.keepIn K (.ref f12)=true)
    (a13:PySem.W.nsIn K mainGlobals "_law_is_prime" = some (some (.ref f13))) (l13:K.lookup f13=some ⟨oc13,od13,.func (PySem.W.fnOf "_law_is_prime" "_law_is_prime" (defArgs s_l_is_prime) (defBody s_l_is_prime) (defScope s_l_is_prime) .none kV13 dc13 pm13 an13 cd13 ct13),sl13⟩) (c13:PySem.W.codeIn K cd13 "_law_is_prime" = true) (k13:PySem.W.keepIn K (.ref f13)=true)
    (a14:PySem.W.nsIn K mainGlobals "_law_helper" = some (some (.ref f14))) (l14:K.lookup f14=some ⟨oc14,od14,.func (PySem.W.fnOf "_law_helper" "_law_helper" (defArgs s_l_helper) (defBody s_l_helper) (defScope s_l_helper) .none kV14 dc14 pm14 an14 cd14 ct14),sl14⟩) (c14:PySem.W.codeIn K cd14 "_law_helper" = true) (k14:PySem.W.keepIn K (.ref f14)=true)
    (a15:PySem.W.nsIn K mainGlobals "_law_due" = some (some (.ref f15))) (l15:K.lookup f15=some ⟨oc15,od15,.func (PySem.W.fnOf "_law_due" "_law_due" (defArgs s_l_due) (defBody s_l_due) (defScope s_l_due) .none kV15 dc15 pm15 an15 cd15 ct15),sl15⟩) (c15:PySem.W.codeIn K cd15 "_law_due" = true) (k15:PySem.W.keepIn K (.ref f15)=true)
    (a16:PySem.W.nsIn K mainGlobals "law" = some (some (.ref f16))) (l16:K.lookup f16=some ⟨oc16,od16,.func (PySem.W.fnOf "law" "law" (defArgs s_law) (defBody s_law) (defScope s_law) .none kV16 dc16 pm16 an16 cd16 ct16),sl16⟩) (c16:PySem.W.codeIn K cd16 "law" = true) (k16:PySem.W.keepIn K (.ref f16)=true)
    {CG gmgI:Addr} {gmodI gmanI:Option Addr} {gmslI:Array (Option Value)} {gmocI gmkVI gmdcI gmpmI gmcdI gmctI:Value}
    {CA asgI:Addr} {asodI asanI:Option Addr} {asslI:Array (Option Value)} {asocI askVI asdcI aspmI ascdI asctI:Value}
    {CM mcgI mcgS mcgR mcgB:Addr} {mcodI mcanI mcodS mcanS mcodR mcanR mcodB mcanB:Option Addr} {mcslI mcslS mcslR mcslB:Array (Option Value)} {mcocI mckVI mcdcI mcpmI mccdI mcctI mcocS mckVS mcdcS mcpmS mccdS mcctS mcocR mckVR mcdcR mcpmR mccdR mcctR mcocB mckVB mcdcB mcpmB mccdB mcctB:Value}
    {te tm:Tok}
    (gmgg:PySem.W.nsIn K mainGlobals "Game" = some (some (.ref CG)))
    (gmaI:PySem.W.findIn K (.ref CG) "__init__" = some (some (.ref gmgI)))
    (gmiI:PySem.W.isFn K (.ref gmgI)=true)
    (gmlI:K.lookup gmgI=some ⟨gmocI,gmodI,.func (PySem.W.fnOf "__init__" "Game.__init__" (defArgs s_ginit) (defBody s_ginit) (defScope s_ginit) .none gmkVI gmdcI gmpmI gmanI gmcdI gmctI),gmslI⟩)
    (gmcI:PySem.W.codeIn K gmcdI "Game.__init__" = true)
    (gmkI:PySem.W.keepIn K (.ref gmgI)=true)
    (gmpg:PySem.W.plainGet K CG Str.empty=true)
    (gmhdi:PySem.W.hasDictIn K CG=true)
    (gmpov:PySem.W.plainOver K CG=true)
    (gmsat:PySem.W.findIn K (.ref CG) "__setattr__" = some (some (.builtin "object.__setattr__")))
    (gmmki:PySem.W.makesIn K CG=true)
    (gmkcl:PySem.W.keepIn K (.ref CG)=true)
    (gmn_switches:PySem.W.findIn K (.ref CG) "switches" = some none)
    (gmn_trees:PySem.W.findIn K (.ref CG) "trees" = some none)
    (gmn_field:PySem.W.findIn K (.ref CG) "field" = some none)
    (gmn_degrees:PySem.W.findIn K (.ref CG) "degrees" = some none)
    (asgg:PySem.W.nsIn K mainGlobals "Asking" = some (some (.ref CA)))
    (asaI:PySem.W.findIn K (.ref CA) "__init__" = some (some (.ref asgI)))
    (asiI:PySem.W.isFn K (.ref asgI)=true)
    (aslI:K.lookup asgI=some ⟨asocI,asodI,.func (PySem.W.fnOf "__init__" "Asking.__init__" (defArgs s_ainit) (defBody s_ainit) (defScope s_ainit) .none askVI asdcI aspmI asanI ascdI asctI),asslI⟩)
    (ascI:PySem.W.codeIn K ascdI "Asking.__init__" = true)
    (askI:PySem.W.keepIn K (.ref asgI)=true)
    (aspg:PySem.W.plainGet K CA Str.empty=true)
    (ashdi:PySem.W.hasDictIn K CA=true)
    (aspov:PySem.W.plainOver K CA=true)
    (assat:PySem.W.findIn K (.ref CA) "__setattr__" = some (some (.builtin "object.__setattr__")))
    (asmki:PySem.W.makesIn K CA=true)
    (askcl:PySem.W.keepIn K (.ref CA)=true)
    (asn_game:PySem.W.findIn K (.ref CA) "game" = some none)
    (asn_number:PySem.W.findIn K (.ref CA) "number" = some none)
    (asn_many:PySem.W.findIn K (.ref CA) "many" = some none)
    (asn_held:PySem.W.findIn K (.ref CA) "held" = some none)
    (asn_s:PySem.W.findIn K (.ref CA) "s" = some none)
    (asn_tossed:PySem.W.findIn K (.ref CA) "tossed" = some none)
    (asn_truths:PySem.W.findIn K (.ref CA) "truths" = some none)
    (mcgg:PySem.W.nsIn K mainGlobals "Machine" = some (some (.ref CM)))
    (mcaI:PySem.W.findIn K (.ref CM) "__init__" = some (some (.ref mcgI)))
    (mciI:PySem.W.isFn K (.ref mcgI)=true)
    (mclI:K.lookup mcgI=some ⟨mcocI,mcodI,.func (PySem.W.fnOf "__init__" "Machine.__init__" (defArgs s_minit) (defBody s_minit) (defScope s_minit) .none mckVI mcdcI mcpmI mcanI mccdI mcctI),mcslI⟩)
    (mccI:PySem.W.codeIn K mccdI "Machine.__init__" = true)
    (mckI:PySem.W.keepIn K (.ref mcgI)=true)
    (mcaS:PySem.W.findIn K (.ref CM) "say" = some (some (.ref mcgS)))
    (mciS:PySem.W.isFn K (.ref mcgS)=true)
    (mclS:K.lookup mcgS=some ⟨mcocS,mcodS,.func (PySem.W.fnOf "say" "Machine.say" (defArgs s_msay) (defBody s_msay) (defScope s_msay) .none mckVS mcdcS mcpmS mcanS mccdS mcctS),mcslS⟩)
    (mccS:PySem.W.codeIn K mccdS "Machine.say" = true)
    (mckS:PySem.W.keepIn K (.ref mcgS)=true)
    (mcaR:PySem.W.findIn K (.ref CM) "do_row" = some (some (.ref mcgR)))
    (mciR:PySem.W.isFn K (.ref mcgR)=true)
    (mclR:K.lookup mcgR=some ⟨mcocR,mcodR,.func (PySem.W.fnOf "do_row" "Machine.do_row" (defArgs s_mrow) (defBody s_mrow) (defScope s_mrow) .none mckVR mcdcR mcpmR mcanR mccdR mcctR),mcslR⟩)
    (mccR:PySem.W.codeIn K mccdR "Machine.do_row" = true)
    (mckR:PySem.W.keepIn K (.ref mcgR)=true)
    (mcaB:PySem.W.findIn K (.ref CM) "box" = some (some (.ref mcgB)))
    (mciB:PySem.W.isFn K (.ref mcgB)=true)
    (mclB:K.lookup mcgB=some ⟨mcocB,mcodB,.func (PySem.W.fnOf "box" "Machine.box" (defArgs s_mbox) (defBody s_mbox) (defScope s_mbox) .none mckVB mcdcB mcpmB mcanB mccdB mcctB),mcslB⟩)
    (mccB:PySem.W.codeIn K mccdB "Machine.box" = true)
    (mckB:PySem.W.keepIn K (.ref mcgB)=true)
    (mcpg:PySem.W.plainGet K CM Str.empty=true)
    (mchdi:PySem.W.hasDictIn K CM=true)
    (mcpov:PySem.W.plainOver K CM=true)
    (mcsat:PySem.W.findIn K (.ref CM) "__setattr__" = some (some (.builtin "object.__setattr__")))
    (mcmki:PySem.W.makesIn K CM=true)
    (mckcl:PySem.W.keepIn K (.ref CM)=true)
    (mcn_game:PySem.W.findIn K (.ref CM) "game" = some none)
    (mcn_helper:PySem.W.findIn K (.ref CM) "helper" = some none)
    (mcn_next_round:PySem.W.findIn K (.ref CM) "next_round" = some none)
    (mcn_boxes:PySem.W.findIn K (.ref CM) "boxes" = some none)
    (ge:PySem.W.nsIn K mainGlobals "FIELDS_END" = some (some (.int 1000000 te)))
    (gmo:PySem.W.nsIn K mainGlobals "MOST_ROWS_DONE" = some (some (.int 200 tm)))
    (z0:PySem.W.nsIn K mainGlobals "len" = some none) (z1:PySem.W.nsIn K mainGlobals "range" = some none) (z2:PySem.W.nsIn K mainGlobals "isinstance" = some none) (z3:PySem.W.nsIn K mainGlobals "int" = some none) (z4:PySem.W.nsIn K mainGlobals "list" = some none) (z5:PySem.W.nsIn K mainGlobals "tuple" = some none) (z6:PySem.W.nsIn K mainGlobals "max" = some none) (z7:PySem.W.nsIn K mainGlobals "min" = some none) (z8:PySem.W.nsIn K mainGlobals "enumerate" = some none) :
    ∃ fd:FuncData,(∀ (s:Shared) (v:Value),BindsTo s fd ⟨[v],[]⟩ [("_law_script", v)])∧∀ base:Heap,K.In base→base.Ns mainGlobals mg→FnOk l.prog w K mg base CX0 16 fa fd ["_law_script"] (spLaw K):=by
  have e:=hfa.symm.trans (PySem.W.mg_of X G a16)
  cases e
  have F_is_field:=fun_mk (st:=s_is_field) l0 c0 k0
  have m_is_field:=PySem.W.mg_of X G a0
  have F_trees_within:=fun_mk (st:=s_trees_within) l1 c1 k1
  have m_trees_within:=PySem.W.mg_of X G a1
  have F_names_in:=fun_mk (st:=s_names_in) l2 c2 k2
  have m_names_in:=PySem.W.mg_of X G a2
  have F_value_of:=fun_mk (st:=s_value_of) l3 c3 k3
  have m_value_of:=PySem.W.mg_of X G a3
  have F_op_value:=fun_mk (st:=s_op_value) l4 c4 k4
  have m_op_value:=PySem.W.mg_of X G a4
  have F_degree_of:=fun_mk (st:=s_degree_of) l5 c5 k5
  have m_degree_of:=PySem.W.mg_of X G a5
  have F_look_switches:=fun_mk (st:=s_look_switches) l6 c6 k6
  have m_look_switches:=PySem.W.mg_of X G a6
  have F_look_names:=fun_mk (st:=s_look_names) l7 c7 k7
  have m_look_names:=PySem.W.mg_of X G a7
  have F_look_field:=fun_mk (st:=s_look_field) l8 c8 k8
  have m_look_field:=PySem.W.mg_of X G a8
  have F_look_size:=fun_mk (st:=s_look_size) l9 c9 k9
  have m_look_size:=PySem.W.mg_of X G a9
  have F_l_feed:=fun_mk (st:=s_l_feed) l10 c10 k10
  have m_l_feed:=PySem.W.mg_of X G a10
  have F_l_take:=fun_mk (st:=s_l_take) l11 c11 k11
  have m_l_take:=PySem.W.mg_of X G a11
  have F_l_names:=fun_mk (st:=s_l_names) l12 c12 k12
  have m_l_names:=PySem.W.mg_of X G a12
  have F_l_is_prime:=fun_mk (st:=s_l_is_prime) l13 c13 k13
  have m_l_is_prime:=PySem.W.mg_of X G a13
  have F_l_helper:=fun_mk (st:=s_l_helper) l14 c14 k14
  have m_l_helper:=PySem.W.mg_of X G a14
  have F_l_due:=fun_mk (st:=s_l_due) l15 c15 k15
  have m_l_due:=PySem.W.mg_of X G a15
  have F_law:=fun_mk (st:=s_law) l16 c16 k16
  have B:Bl mg:=⟨PySem.W.mg_none_of X G z0,PySem.W.mg_none_of X G z1,PySem.W.mg_none_of X G z2,PySem.W.mg_none_of X G z3,PySem.W.mg_none_of X G z4,PySem.W.mg_none_of X G z5,PySem.W.mg_none_of X G z6,PySem.W.mg_none_of X G z7,PySem.W.mg_none_of X G z8⟩
  refine ⟨PySem.W.fnOf "law" "law" (defArgs s_law) (defBody s_law) (defScope s_law) .none kV16 dc16 pm16 an16 cd16 ct16,fun s v=>.of_eq rfl,fun base _ _=>?_⟩
  have TG:GTxt K mg CG:=⟨⟨gmpg,gmhdi,gmpov,gmsat⟩,gmn_switches,gmn_trees,gmn_field,gmn_degrees,PySem.W.mg_of X G gmgg⟩
  have TA:ATxt K mg CA:=⟨⟨aspg,ashdi,aspov,assat⟩,asn_game,asn_number,asn_many,asn_held,asn_s,asn_tossed,asn_truths,PySem.W.mg_of X G asgg⟩
  have TM:MTxt K mg CM:=⟨⟨mcpg,mchdi,mcpov,mcsat⟩,mcn_game,mcn_helper,mcn_next_round,mcn_boxes,PySem.W.mg_of X G mcgg⟩
  have F_gmI:=fun_mk (st:=s_ginit) gmlI gmcI gmkI
  have b_gmI:=F_gmI.binds (ps:=["self", "switches", "trees", "field"]) fun _ _ _ _ _ _ us hl=>by obtain ⟨u0,u1,u2,u3,rfl⟩:=len4 hl; rfl
  have F_asI:=fun_mk (st:=s_ainit) aslI ascI askI
  have b_asI:=F_asI.binds (ps:=["self", "game", "number", "many", "due", "s", "coins"]) fun _ _ _ _ _ _ us hl=>by obtain ⟨u0,u1,u2,u3,u4,u5,u6,rfl⟩:=len7 hl; rfl
  have F_mcI:=fun_mk (st:=s_minit) mclI mccI mckI
  have b_mcI:=F_mcI.binds (ps:=["self", "game", "helper"]) fun _ _ _ _ _ _ us hl=>by obtain ⟨u0,u1,u2,rfl⟩:=len3 hl; rfl
  have F_mcS:=fun_mk (st:=s_msay) mclS mccS mckS
  have b_mcS:=F_mcS.binds (ps:=["self", "many", "due", "s", "coins"]) fun _ _ _ _ _ _ us hl=>by obtain ⟨u0,u1,u2,u3,u4,rfl⟩:=len5 hl; rfl
  have m_mcS:Meth K CM "say" mcgS:=⟨mcaS,mciS,mckS⟩
  have F_mcR:=fun_mk (st:=s_mrow) mclR mccR mckR
  have b_mcR:=F_mcR.binds (ps:=["self", "place", "said", "asking"]) fun _ _ _ _ _ _ us hl=>by obtain ⟨u0,u1,u2,u3,rfl⟩:=len4 hl; rfl
  have m_mcR:Meth K CM "do_row" mcgR:=⟨mcaR,mciR,mckR⟩
  have F_mcB:=fun_mk (st:=s_mbox) mclB mccB mckB
  have b_mcB:=F_mcB.binds (ps:=["self", "x"]) fun _ _ _ _ _ _ us hl=>by obtain ⟨u0,u1,rfl⟩:=len2 hl; rfl
  have m_mcB:Meth K CM "box" mcgB:=⟨mcaB,mciB,mckB⟩
  have C_l_feed:=Cal.of (P:=l.prog) (w:=w) (base:=base) F_l_feed (ok_l_feed F_l_feed B.len) m_l_feed (fun _ _ _ _ _ _ us hl=>by obtain ⟨u0,u1,rfl⟩:=len2 hl; rfl)
  have C_l_take:=Cal.of (P:=l.prog) (w:=w) (base:=base) F_l_take (ok_l_take F_l_take ) m_l_take (fun _ _ _ _ _ _ us hl=>by obtain ⟨u0,u1,rfl⟩:=len2 hl; rfl)
  have C_is_field:=Cal.of (P:=l.prog) (w:=w) (base:=base) F_is_field (ok_is_field F_is_field ) m_is_field (fun _ _ _ _ _ _ us hl=>by obtain ⟨u0,rfl⟩:=len1 hl; rfl)
  have C_trees_within:=Cal.of (P:=l.prog) (w:=w) (base:=base) F_trees_within (ok_trees_within F_trees_within ) m_trees_within (fun _ _ _ _ _ _ us hl=>by obtain ⟨u0,rfl⟩:=len1 hl; rfl)
  have C_names_in:=Cal.of (P:=l.prog) (w:=w) (base:=base) F_names_in (ok_names_in F_names_in m_names_in C_trees_within 10) m_names_in (fun _ _ _ _ _ _ us hl=>by obtain ⟨u0,rfl⟩:=len1 hl; rfl)
  have C_degree_of:=Cal.of (P:=l.prog) (w:=w) (base:=base) F_degree_of (ok_degree_of F_degree_of B.max C_names_in) m_degree_of (fun _ _ _ _ _ _ us hl=>by obtain ⟨u0,u1,rfl⟩:=len2 hl; rfl)
  have C_look_switches:=Cal.of (P:=l.prog) (w:=w) (base:=base) F_look_switches (ok_look_switches F_look_switches B.enumerate) m_look_switches (fun _ _ _ _ _ _ us hl=>by obtain ⟨u0,rfl⟩:=len1 hl; rfl)
  have C_look_names:=Cal.of (P:=l.prog) (w:=w) (base:=base) F_look_names (ok_look_names F_look_names C_names_in) m_look_names (fun _ _ _ _ _ _ us hl=>by obtain ⟨u0,u1,rfl⟩:=len2 hl; rfl)
  have C_look_field:=Cal.of (P:=l.prog) (w:=w) (base:=base) F_look_field (ok_look_field F_look_field ⟨te,PySem.W.mg_of X G ge⟩ C_is_field) m_look_field (fun _ _ _ _ _ _ us hl=>by obtain ⟨u0,rfl⟩:=len1 hl; rfl)
  have C_look_size:=Cal.of (P:=l.prog) (w:=w) (base:=base) F_look_size (ok_look_size F_look_size B.max) m_look_size (fun _ _ _ _ _ _ us hl=>by obtain ⟨u0,u1,rfl⟩:=len2 hl; rfl)
  have C_l_names:=Cal.of (P:=l.prog) (w:=w) (base:=base) F_l_names (ok_l_names F_l_names B.range C_l_take) m_l_names (fun _ _ _ _ _ _ us hl=>by obtain ⟨u0,u1,rfl⟩:=len2 hl; rfl)
  have C_l_is_prime:=Cal.of (P:=l.prog) (w:=w) (base:=base) F_l_is_prime (ok_l_is_prime F_l_is_prime B.range) m_l_is_prime (fun _ _ _ _ _ _ us hl=>by obtain ⟨u0,rfl⟩:=len1 hl; rfl)
  have G_gmI:=ok_ginit (P:=l.prog) (w:=w) (base:=base) F_gmI TG B.tuple B.len C_degree_of C_look_switches C_look_names C_look_field C_look_size
  have C_op_value:=Cal.of (P:=l.prog) (w:=w) (base:=base) F_op_value (ok_op_value F_op_value ) m_op_value (fun _ _ _ _ _ _ us hl=>by obtain ⟨u0,u1,u2,u3,rfl⟩:=len4 hl; rfl)
  have C_value_of:=Cal.of (P:=l.prog) (w:=w) (base:=base) F_value_of (ok_value_of F_value_of m_value_of TA TG C_op_value 4) m_value_of (fun _ _ _ _ _ _ us hl=>by obtain ⟨u0,u1,u2,rfl⟩:=len3 hl; rfl)
  have G_asI:=ok_ainit (P:=l.prog) (w:=w) (base:=base) F_asI B TA
  have G_mcI:=ok_minit (P:=l.prog) (w:=w) (base:=base) F_mcI TM
  have G_mcR:=ok_mrow (P:=l.prog) (w:=w) (base:=base) F_mcR B TM C_value_of
  have G_mcS:=ok_msay (P:=l.prog) (w:=w) (base:=base) F_mcS B TM TA ⟨tm,PySem.W.mg_of X G gmo⟩ ⟨asmki,asaI,asiI,askcl⟩ G_asI b_asI m_mcR G_mcR b_mcR
  have G_mcB:=ok_mbox (P:=l.prog) (w:=w) (base:=base) F_mcB TM
  have C_l_helper:=Cal.of (P:=l.prog) (w:=w) (base:=base) F_l_helper (ok_l_helper F_l_helper B) m_l_helper (fun _ _ _ _ _ _ us hl=>by obtain ⟨u0,u1,rfl⟩:=len2 hl; rfl)
  have C_l_due:=Cal.of (P:=l.prog) (w:=w) (base:=base) F_l_due (ok_l_due F_l_due B) m_l_due (fun _ _ _ _ _ _ us hl=>by obtain ⟨u0,u1,u2,u3,rfl⟩:=len4 hl; rfl)
  exact ok_law F_law B TM TG ⟨gmmki,gmaI,gmiI,gmkcl⟩ G_gmI b_gmI ⟨mcmki,mcaI,mciI,mckcl⟩ G_mcI b_mcI m_mcS G_mcS b_mcS m_mcB G_mcB b_mcB C_l_feed C_l_take C_l_names C_l_is_prime C_l_helper C_l_due
theorem walk {l:PySem.W.OpenLaw} {q:Program} {loose:List Str} {XP:(Str→Option Value)→Heap→Prop} {YP:World→Heap→Prop} {d:DefRec} {K:Params→PySem.W.Frag} (hn:l.most=some 63) (hdf:d.params.defaults=[])
    (hY:∀ (w:World) (h:Heap),YP w h→(K w.params).In h)
    (F:∀ (w:World) (mg:Str→Option Value) (fa:Addr) (h:Heap),(K w.params).In h→h.Ns mainGlobals mg→mg d.name=some (.ref fa) →
      ∃ fd:FuncData,(∀ (s:Shared) (u:Value),BindsTo s fd ⟨[u],[]⟩ [("_law_script", u)])∧∀ base:Heap,(K w.params).In base→base.Ns mainGlobals mg→FnOk l.prog w (K w.params) mg base CX0 16 fa fd ["_law_script"] (spLaw (K w.params))) :
    PySem.W.WalkO q loose XP YP l.row.toRowW d [] (fun f vs=>PySem.call f vs) :=
  L2.walk_of (n:=63) (k:=16) (x := "_law_script") (CX:=fun _=>CX0) (sp:=fun w=>spLaw (K w.params)) hn (by decide) hdf ⟨rfl,by decide,by decide⟩ hY F (fun _ _ a ns hl _ hS=>⟨a,ns,rfl,hS,hl,fun _=>rfl⟩) fun _ _ _ _ _ z=>z
end Mine
namespace PySem.W.Fast
def tw8146833798369475655:=()
def tw17181252335947777245:=()
def tw4768044748803213427:=()
def tw3227028547877878213:=()
def tw13435199618284262784:=()
def tw16462518951295602073:=()
def tw598927687413313617:=()
def tw4530057610225693903:=()
def tw1688795725881044258:=()
def tw9804113792363309280:=()
def tw13795955469321677950:=()
def tw18329900394836186175:=()
def tw4711083799258351046:=()
def tw3033324468080068412:=()
def tw18078879332180041203:=()
def tw8509520910769439428:=()
def tw4852707784283551639:=()
def tw11297422996730777885:=()
def tw4170542175003429760:=()
def tw5653805078397811660:=()
def tw7215911925338042938:=()
def tw8535713856589479681:=()
def tw592807279755821841:=()
def tw12345933815457776373:=()
def tw7748121009548066823:=()
def tw818829768174409492:=()
def tw10365742445377175309:=()
def tw12315336833276780955:=()
def tw14757563390827825249:=()
def tw14315039676546835697:=()
def tw7516225870891018080:=()
def tw14540534426654302078:=()
def tw4146920388395969007:=()
def tw9595387339970916769:=()
def tw1642411064383734044:=()
def tw9810452612571275243:=()
def tw10150514169084152939:=()
def tw4282865716521622469:=()
def tw9692725939977703551:=()
def tw13049173258829386866:=()
def tw7105836284746841501:=()
def tw4908548134660777213:=()
def tw9514849013854731348:=()
def tw16739406322733568590:=()
def tw415060727848462705:=()
def tw7653629290159069352:=()
def tw428390458068587429:=()
def tw8506208677489904596:=()
def tw7614440819590167180:=()
def tw13494623521876205447:=()
def tw2709055099333255881:=()
def tw12212638874255579634:=()
def tw2445396043161500549:=()
def tw3376430533529500028:=()
def tw7578838492392697831:=()
def tw5754746934893395921:=()
def tw16056416895493651210:=()
def tw8304667853031898477:=()
def tw15568806480936956430:=()
def tw12104754570350366449:=()
def tw10990863556049436397:=()
def tw218496854730260729:=()
def tw9775892241814439932:=()
def tw10631682588486393054:=()
def tw918918325632156521:=()
def tw13888131621472356502:=()
def tw16074517778775254256:=()
def tw5250667578441393700:=()
def tw15890362999514449901:=()
def tw13577758589182554624:=()
def tw11169619563947069705:=()
def tw4389855995353995511:=()
def tw16097777634282164762:=()
def tw11181061162387492616:=()
def tw12113456519609265896:=()
def tw8139541355192261374:=()
def tw7686819015173155818:=()
def tw1178798037823088632:=()
def tw16105226140163942055:=()
def tw5875071542014455853:=()
def tw3082012594563257740:=()
def tw8252053631323775096:=()
def tw16485561103016256377:=()
def tw6682779561406750258:=()
def tw2452074927278180616:=()
def tw15232833479874765046:=()
def tw6513916843687821281:=()
def tw1901433100102650479:=()
def tw15464750791858336871:=()
def tw4982000440804464494:=()
def tw6443974160087613090:=()
def tw910283597785955175:=()
def tw13099117064324147889:=()
def tw17437900404966489109:=()
def tw1257924483656513786:=()
def tw2680369180685580010:=()
def tw15652424919992904844:=()
def tw10138543758830287540:=()
def tw18084514053095881072:=()
def tw12633872330640163971:=()
def tw14260332714436855219:=()
def tw10095718107099959357:=()
def tw8896149500257015253:=()
def tw14713292438457988497:=()
def tw9643830290501740733:=()
def tw8465699699261957202:=()
def tw576757280208653687:=()
def tw12977739283586313251:=()
def tw925155409336982443:=()
def tw8851169509893480592:=()
def tw11813742049042794922:=()
def tw10437366660965579580:=()
def tw15990341273117660685:=()
def tw17478655934222640948:=()
def tw15906009324424354125:=()
def tw3008505500053702012:=()
def tw4160460466758673220:=()
def tw977258016060135225:=()
def tw14960550719131923130:=()
def tw69371868882062691:=()
def tw12346115002317454133:=()
def tw14847230043446709277:=()
def tw14670775476565606017:=()
def tw16084078334526653468:=()
def tw16822819872760368932:=()
def tw17059030546475285491:=()
def tw836124623337815349:=()
def tw13897644789994756409:=()
def tw10745246282757968817:=()
def tw10756048879663986059:=()
def tw17210027054071500136:=()
def tw9911146429859453830:=()
def tw2257446430072690453:=()
def tw16747039962030652554:=()
def tw15518746254536031819:=()
def tw15734992931294239597:=()
def tw4602327229754405463:=()
def tw16589377172992325753:=()
def tw10803281581145397461:=()
def tw4333060716732133763:=()
def tw4445727246156849113:=()
def tw16526340120856082545:=()
def tw3968362960889297452:=()
def tw8652156711773543691:=()
def tw9143326215601828946:=()
def tw13339019000381482662:=()
def tw9052194107974152910:=()
def tw3664881433713149366:=()
def tw9574525755981506330:=()
def tw3982582719851594487:=()
def tw3013901859131629416:=()
def tw2940802733551211825:=()
def tw3544399853053963684:=()
def tw12468288666872732933:=()
def tw2391505602811721189:=()
def tw8172611259583320713:=()
def tw4579470019564516782:=()
def tw10486939080568843997:=()
def tw7885178335636165642:=()
def tw16588087943356929181:=()
def tw10425928498390746842:=()
def tw3417855192073333584:=()
def tw15160649599705464295:=()
def tw14648369485487417843:=()
def tw7943870821618143335:=()
def tw16497825157975418023:=()
def tw18421661340412507993:=()
def tw2021217312128301868:=()
def tw9335066462407928238:=()
def tw9330901515154552741:=()
def tw4818971363901441747:=()
def tw5673027671212709510:=()
def tw2212936765828995461:=()
def tw8783029387493471041:=()
def tw17533713850905617872:=()
def tw9948031257524592279:=()
def tw4141448857585906646:=()
def tw7151503226458294612:=()
def tw1701345164104051638:=()
def tw9013754385785320690:=()
def tw16052393139489020719:=()
def tw11327345621640263547:=()
def tw12292002096408938778:=()
def tw13009036977337206127:=()
def tw5405841874733489866:=()
def tw13057346499610296491:=()
def tw17637065365112785475:=()
def tw3558415909011097122:=()
def tw13536187976671986547:=()
def tw83334746659128047:=()
def tw16765884047073619151:=()
def tw13528708911737613212:=()
def tw6255649225079469308:=()
def tw17885265406310808956:=()
def tw16342038390414281337:=()
def tw1212826276592502078:=()
def tw12141506286211856642:=()
def tw13060668047870329182:=()
def tw4764383097658038906:=()
def tw14230229489264726057:=()
def tw6248556995694026226:=()
def tw1372392029673952720:=()
def tw17102991807989940622:=()
def tw4433564757888174846:=()
def tw13786070113411878306:=()
def tw2042027137535274731:=()
def tw14608618208233085493:=()
def tw17599605114707976543:=()
def tw15080358810762583751:=()
def tw9294700819525277888:=()
def tw16718052550149559086:=()
def tw15008107688140414299:=()
def tw13317227860218805880:=()
def tw11488105028186933532:=()
def tw12491034253302399869:=()
def tw7996871832720989189:=()
def tw9175504861418935327:=()
def tw14687373546868464028:=()
def tw8568931537859459773:=()
def tw10032059018347146269:=()
def tw4748098354698269787:=()
def tw8172484351596956283:=()
def tw8407003536553484394:=()
def tw13157514985220937508:=()
def tw14680255846148677261:=()
def tw18348538194242674467:=()
def tw17944271798240940913:=()
def tw16487588237794172607:=()
def tw12488500515226127601:=()
def tw3197989001691741736:=()
def tw1867035275494632768:=()
def tw9997546976501495952:=()
def tw1741072615736604081:=()
def tw18298064476958987388:=()
def tw9717151295627279711:=()
def tw16059153427245794177:=()
def tw5156695143657019414:=()
def tw9304559389328024802:=()
def tw17500131639622876780:=()
def tw17525951516932249803:=()
def tw3967672658168826270:=()
def tw5971935475046555526:=()
def tw4219482486105295761:=()
def tw7358314746938134801:=()
def tw18112969596187442330:=()
def tw1864429983175209488:=()
def tw14083627593365216593:=()
def tw12253678707039603527:=()
def tw4453038874294638817:=()
def tw17009582981323374678:=()
def tw2054518138424617865:=()
def tw13341504700152396726:=()
def tw15379889368254592984:=()
def tw2151266118707289500:=()
def tw13014360778204912126:=()
def tw13005349933542890770:=()
def tw3327470955200959026:=()
def tw12386590777229915512:=()
def tw17990268394088181295:=()
def tw12859817651936699080:=()
def tw17499838167096136316:=()
def tw16825995825717027969:=()
def tw5802243742732961479:=()
def tw17133513626088526481:=()
def tw17240790174902020458:=()
def tw17070690271957375710:=()
def tw2100847848552617830:=()
def tw15570035373375068841:=()
def tw18179800974139142946:=()
def tw9945913031228964738:=()
def tw8449706200571765906:=()
def tw16958620349594074831:=()
def tw5746420100717358356:=()
def tw3835072066111176341:=()
def tw4317123087740256314:=()
def tw5051251467268692129:=()
def tw9771575190806695252:=()
def tw8244252361624695250:=()
def tw1014120833786662322:=()
def tw3063705794660195521:=()
def tw14807963380781027145:=()
def tw7197173938850138030:=()
def tw17928899910276590649:=()
def tw13119022256740020865:=()
def tw5419656323575217929:=()
def tw1429116316003434178:=()
def tw5412620598235892117:=()
def tw11633829537303150332:=()
def tw15155923409042239317:=()
def tw15910170599609331473:=()
def tw14422613671034446444:=()
def tw1309795035892937303:=()
def tw17077310788381877244:=()
def tw18398756631536982844:=()
def tw12696742847113698466:=()
def tw9178803716973413093:=()
def tw10429667900522913653:=()
def tw136796524224681585:=()
def tw2776041364922976378:=()
def tw13543496303480261325:=()
def tw10127406136427861218:=()
def tw200773528710430462:=()
def tw18289283101089171848:=()
def tw1254088170491459844:=()
def tw3513788312531218435:=()
def tw16326665527311878869:=()
def tw14053119078273228430:=()
def tw4085224465945232557:=()
def tw13243525883683262958:=()
def tw12750410875356893087:=()
def tw14432297097407230151:=()
def tw10886972993808322294:=()
def tw12234889465938594883:=()
def tw15803712358017175761:=()
def tw685799138265527809:=()
def tw7105938487367596273:=()
def tw2339351884765676916:=()
def tw10208062354079635604:=()
def tw17062278305585678588:=()
def tw45160911090105127:=()
def tw15253730339798942341:=()
def tw16091684465774498210:=()
def tw10242506919969916600:=()
def tw9800210847836368981:=()
def tw15803852590553710979:=()
def tw11240928823106306926:=()
def tw12399439286477780902:=()
def tw5992029896011391140:=()
def tw11167586757128498435:=()
def tw17267882242160881284:=()
def tw6656122777651298152:=()
def tw2514030940972412597:=()
def tw5593502723879691292:=()
def tw1921876025074580740:=()
def tw17453764110962000821:=()
def tw2472750114096643349:=()
def tw6448705199731103487:=()
def tw11823666895897519919:=()
def tw6398657017129837209:=()
def tw12211625724959603836:=()
def tw14578120477759691112:=()
def tw17533520954876544278:=()
def tw2302318106945464948:=()
def tw15110179602911903068:=()
def tw1663002172553193106:=()
def tw1498697451556150326:=()
def tw15013201127174791179:=()
def tw11649657622656461860:=()
def tw4574149529211024226:=()
def tw2538031441870042841:=()
def tw1225725709753884055:=()
def tw5774382943369105618:=()
def tw13169556763728012061:=()
def tw4779560894417820388:=()
def tw17064805686120964563:=()
def tw8215580665783573388:=()
def tw2189135235641521807:=()
def tw172350381521501534:=()
def tw4442394365092077296:=()
def tw14472314736927990301:=()
def tw442872995488579474:=()
def tw10645983831797664978:=()
def tw8291234389687272159:=()
def tw6635362981000338152:=()
def tw15291166725752613949:=()
def tw1343769928457433382:=()
def tw9848377665873631109:=()
def tw11137969130319839873:=()
def tw10880960353576122338:=()
def tw1673742743616108072:=()
def tw1135315299548499719:=()
def tw12889180883852578855:=()
def tw2833740977583655820:=()
def tw14281328484460778721:=()
def tw5878556704360749597:=()
def tw1143448915317594949:=()
def tw14091758539806444194:=()
def tw14301420355063755017:=()
def tw6816973848535458152:=()
def tw2658909838902297838:=()
def tw8627887966475364223:=()
def tw11522264134211563225:=()
def tw18418860210051974879:=()
def tw7406763146373481820:=()
def tw10965883763402926872:=()
def tw13383697044400610042:=()
def tw15922791758336950417:=()
def tw1438856418280900858:=()
def tw16648860621612572553:=()
def tw8115183033988552427:=()
def tw7001611610710194740:=()
def tw9835428015595256613:=()
def tw3399654425172752267:=()
def tw1941292462245592406:=()
def tw8935046965122671421:=()
def tw2527363307180083831:=()
def tw7428404482927815010:=()
def tw6702795545137588322:=()
def tw14750895093902731403:=()
def tw14461109598576423831:=()
def tw11586640989632338876:=()
def tw5680744660283592875:=()
def tw15156702028873256436:=()
def tw82159093769159767:=()
def tw14994261329594517478:=()
def tw14457029510936931745:=()
def tw15043511694252900460:=()
def tw13212965303919128196:=()
def tw3060804438932235489:=()
def tw14958783893124289351:=()
def tw5593702788848043665:=()
def tw8530331320066651693:=()
def tw11720872914262234153:=()
def tw16544600324804945169:=()
def tw12393690678376110723:=()
def tw6803163519711267554:=()
def tw13993412729960280397:=()
def tw5350218674884234436:=()
def tw786883794904331868:=()
def tw9277726620673672094:=()
def tw6324668602779846202:=()
def tw3850041018825736549:=()
def tw5268788409152501631:=()
def tw10748301308476641628:=()
def tw6800817772629550195:=()
def tw18359105103760651602:=()
def tw795323130733412866:=()
def tw6246962083067221155:=()
def tw6289065248845158088:=()
def tw4137378041842122637:=()
def tw14732594250240531933:=()
def tw18443668467622912746:=()
def tw16185701548003517303:=()
end PySem.W.Fast
open PySem PySem.W PyProof.Rows
set_option maxRecDepth 100000 in
set_option maxHeartbeats 0 in
theorem PySem.Challenge.cw_asktally_k35_two_hundred_rows_holds : PySem.Challenge.rw_asktally_k35_two_hundred_rows.Holds := by
  w_on; o_law; k_head; (case hw=>w_witness2)
  k_fill
  refine Mine.walk (l:=PySem.Challenge.rw_asktally_k35_two_hundred_rows) rfl rfl (fun w h Y=>PySem.W.kIn_of Y) ?F
  case F =>
    intro w mg fa h KX G hmg
    refine' Mine.all_mk KX G hmg ?a0 ?l0 ?c0 ?k0 ?a1 ?l1 ?c1 ?k1 ?a2 ?l2 ?c2 ?k2 ?a3 ?l3 ?c3 ?k3 ?a4 ?l4 ?c4 ?k4 ?a5 ?l5 ?c5 ?k5 ?a6 ?l6 ?c6 ?k6 ?a7 ?l7 ?c7 ?k7 ?a8 ?l8 ?c8 ?k8 ?a9 ?l9 ?c9 ?k9 ?a10 ?l10 ?c10 ?k10 ?a11 ?l11 ?c11 ?k11 ?a12 ?l12 ?c12 ?k12 ?a13 ?l13 ?c13 ?k13 ?a14 ?l14 ?c14 ?k14 ?a15 ?l15 ?c15 ?k15 ?a16 ?l16 ?c16 ?k16 ?gmgg ?gmaI ?gmiI ?gmlI ?gmcI ?gmkI ?gmpg ?gmhdi ?gmpov ?gmsat ?gmmki ?gmkcl ?gmn_switches ?gmn_trees ?gmn_field ?gmn_degrees ?asgg ?asaI ?asiI ?aslI ?ascI ?askI ?aspg ?ashdi ?aspov ?assat ?asmki ?askcl ?asn_game ?asn_number ?asn_many ?asn_held ?asn_s ?asn_tossed ?asn_truths ?mcgg ?mcaI ?mciI ?mclI ?mccI ?mckI ?mcaS ?mciS ?mclS ?mccS ?mckS ?mcaR ?mciR ?mclR ?mccR ?mckR ?mcaB ?mciB ?mclB ?mccB ?mckB ?mcpg ?mchdi ?mcpov ?mcsat ?mcmki ?mckcl ?mcn_game ?mcn_helper ?mcn_next_round ?mcn_boxes ?ge ?gmo ?z0 ?z1 ?z2 ?z3 ?z4 ?z5 ?z6 ?z7 ?z8
    (case a0=>k_is); (case l0=>k_is); (case c0=>k_is); (case k0=>k_is)
    (case a1=>k_is); (case l1=>k_is); (case c1=>k_is); (case k1=>k_is)
    (case a2=>k_is); (case l2=>k_is); (case c2=>k_is); (case k2=>k_is)
    (case a3=>k_is); (case l3=>k_is); (case c3=>k_is); (case k3=>k_is)
    (case a4=>k_is); (case l4=>k_is); (case c4=>k_is); (case k4=>k_is)
    (case a5=>k_is); (case l5=>k_is); (case c5=>k_is); (case k5=>k_is)
    (case a6=>k_is); (case l6=>k_is); (case c6=>k_is); (case k6=>k_is)
    (case a7=>k_is); (case l7=>k_is); (case c7=>k_is); (case k7=>k_is)
    (case a8=>k_is); (case l8=>k_is); (case c8=>k_is); (case k8=>k_is)
    (case a9=>k_is); (case l9=>k_is); (case c9=>k_is); (case k9=>k_is)
    (case a10=>k_is); (case l10=>k_is); (case c10=>k_is); (case k10=>k_is)
    (case a11=>k_is); (case l11=>k_is); (case c11=>k_is); (case k11=>k_is)
    (case a12=>k_is); (case l12=>k_is); (case c12=>k_is); (case k12=>k_is)
    (case a13=>k_is); (case l13=>k_is); (case c13=>k_is); (case k13=>k_is)
    (case a14=>k_is); (case l14=>k_is); (case c14=>k_is); (case k14=>k_is)
    (case a15=>k_is); (case l15=>k_is); (case c15=>k_is); (case k15=>k_is)
    (case a16=>k_is); (case l16=>k_is); (case c16=>k_is); (case k16=>k_is)
    (case gmgg=>k_is)
    (case gmaI=>k_is)
    (case gmiI=>k_is)
    (case gmlI=>k_is)
    (case gmcI=>k_is)
    (case gmkI=>k_is)
    (case gmpg=>k_is)
    (case gmhdi=>k_is)
    (case gmpov=>k_is)
    (case gmsat=>k_is)
    (case gmmki=>k_is)
    (case gmkcl=>k_is)
    (case gmn_switches=>k_is)
    (case gmn_trees=>k_is)
    (case gmn_field=>k_is)
    (case gmn_degrees=>k_is)
    (case asgg=>k_is)
    (case asaI=>k_is)
    (case asiI=>k_is)
    (case aslI=>k_is)
    (case ascI=>k_is)
    (case askI=>k_is)
    (case aspg=>k_is)
    (case ashdi=>k_is)
    (case aspov=>k_is)
    (case assat=>k_is)
    (case asmki=>k_is)
    (case askcl=>k_is)
    (case asn_game=>k_is)
    (case asn_number=>k_is)
    (case asn_many=>k_is)
    (case asn_held=>k_is)
    (case asn_s=>k_is)
    (case asn_tossed=>k_is)
    (case asn_truths=>k_is)
    (case mcgg=>k_is)
    (case mcaI=>k_is)
    (case mciI=>k_is)
    (case mclI=>k_is)
    (case mccI=>k_is)
    (case mckI=>k_is)
    (case mcaS=>k_is)
    (case mciS=>k_is)
    (case mclS=>k_is)
    (case mccS=>k_is)
    (case mckS=>k_is)
    (case mcaR=>k_is)
    (case mciR=>k_is)
    (case mclR=>k_is)
    (case mccR=>k_is)
    (case mckR=>k_is)
    (case mcaB=>k_is)
    (case mciB=>k_is)
    (case mclB=>k_is)
    (case mccB=>k_is)
    (case mckB=>k_is)
    (case mcpg=>k_is)
    (case mchdi=>k_is)
    (case mcpov=>k_is)
    (case mcsat=>k_is)
    (case mcmki=>k_is)
    (case mckcl=>k_is)
    (case mcn_game=>k_is)
    (case mcn_helper=>k_is)
    (case mcn_next_round=>k_is)
    (case mcn_boxes=>k_is)
    (case ge=>k_is)
    (case gmo=>k_is)
    (case z0=>k_is)
    (case z1=>k_is)
    (case z2=>k_is)
    (case z3=>k_is)
    (case z4=>k_is)
    (case z5=>k_is)
    (case z6=>k_is)
    (case z7=>k_is)
    (case z8=>k_is)
