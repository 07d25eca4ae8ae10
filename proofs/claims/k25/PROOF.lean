import PyProof.Rows.All
import Wide.All
import OpenK.AllK
import Wide.FinOn
import Lean
import PyProof.EqAt
import PyProof.EqKinds
import PyProof.TupleCall
import PySem.Challenge.RW_asktally_k25_games_refused
set_option Elab.async false
set_option linter.all false
set_option maxRecDepth 100000
namespace L2
open PySem PySem.Spec PyProof.Rows
abbrev Key:=Sum Int Str
def keyIs:Key→Value→Bool
  | .inl k,v=>Value.isInt k v
  | .inr x,v=>Value.isStrOf x v
def keyH (w:World):Key→Int
  | .inl k=>hashInt k
  | .inr x=>hashStr w x
theorem keyIs_shape:∀ {k:Key} {v:Value},keyIs k v=true→(∃ i t,k=Sum.inl i∧v=Value.int i t)∨(∃ x t,k=Sum.inr x∧v=Value.str x t)
  | .inl i,v,h=>by
    obtain ⟨t,e⟩:=Value.isInt_shape (k:=i) (v:=v) h
    exact .inl ⟨i,t,rfl,e⟩
  | .inr x,v,h=>by
    obtain ⟨t,e⟩:=Value.isStrOf_shape (x:=x) (v:=v) h
    exact .inr ⟨x,t,rfl,e⟩
theorem key_ll (a b:Int):decide ((Sum.inl a:Key)=Sum.inl b)=(a == b):=by
  by_cases e:a=b
  · subst e; simp
  · have h:¬ (Sum.inl a:Key)=Sum.inl b:=fun q=>e (Sum.inl.inj q)
    rw [decide_eq_false h]
    exact (beq_eq_false_iff_ne.mpr e).symm
theorem key_rr (a b:Str):decide ((Sum.inr a:Key)=Sum.inr b)=decide (a=b):=by
  by_cases e:a=b
  · subst e; simp
  · have h:¬ (Sum.inr a:Key)=Sum.inr b:=fun q=>e (Sum.inr.inj q)
    rw [decide_eq_false h,decide_eq_false e]
theorem key_lr (a:Int) (b:Str):decide ((Sum.inl a:Key)=Sum.inr b)=false:=decide_eq_false (fun q=>nomatch q)
theorem key_rl (a:Str) (b:Int):decide ((Sum.inr a:Key)=Sum.inl b)=false:=decide_eq_false (fun q=>nomatch q)
def mixKind (prog:Program) (w:World):PySem.KeyKind prog w Key where
  is:=keyIs
  hash:=keyH w
  inj:=fun v a b ha hb=>by
    rcases keyIs_shape ha with ⟨i,t,rfl,rfl⟩ | ⟨x,t,rfl,rfl⟩
    · rcases keyIs_shape hb with ⟨j,u,rfl,e⟩ | ⟨y,u,rfl,e⟩
      · injection e with e1 _; rw [e1]
      · exact nomatch e
    · rcases keyIs_shape hb with ⟨j,u,rfl,e⟩ | ⟨y,u,rfl,e⟩
      · exact nomatch e
      · injection e with e1 _; rw [e1]
  byValue:=fun k v h=>by
    rcases keyIs_shape h with ⟨i,t,rfl,rfl⟩ | ⟨x,t,rfl,rfl⟩ <;> rfl
  pyHash:=fun hv h=>by
    rcases keyIs_shape hv with ⟨i,t,rfl,rfl⟩ | ⟨x,t,rfl,rfl⟩
    · exact wpAny_pyHash_int h
    · exact wpAny_pyHash_str h
  eqBool:=fun hu hv h=>by
    rcases keyIs_shape hu with ⟨i,t,rfl,rfl⟩ | ⟨x,t,rfl,rfl⟩
    · rcases keyIs_shape hv with ⟨j,u,rfl,rfl⟩ | ⟨y,u,rfl,rfl⟩
      · rw [key_ll] at h; exact wpAny_eqBool_int h
      · rw [key_lr] at h; exact SeqAt.EqAt.int_str i t y u _ _ _ _ h
    · rcases keyIs_shape hv with ⟨j,u,rfl,rfl⟩ | ⟨y,u,rfl,rfl⟩
      · rw [key_rl] at h; exact SeqAt.EqAt.str_int x t j u _ _ _ _ h
      · rw [key_rr] at h; exact wpAny_eqBool_str h
  «strs»:=fun k x t v h=>by
    rcases keyIs_shape h with ⟨i,u,rfl,e⟩ | ⟨y,u,rfl,e⟩
    · exact nomatch e
    · injection e with e1 _
      subst e1
      cases v <;> rfl
end L2
namespace L2
open PySem PySem.Spec PyProof.Rows
inductive V where
  | non | bl (b:Bool) | int (i:Int) | str (x:Str) | byt (b:Array UInt8) | flt (b:UInt64) | ref (a:Addr) | ty (n:String)
  deriving DecidableEq
def RelV:V→Value→Prop
  | .non,u=>u=Value.none
  | .bl b,u=>u=Value.bool b
  | .int i,u=>∃ t,u=Value.int i t
  | .str x,u=>∃ t,u=Value.str x t
  | .byt b,u=>∃ t,u=Value.bytes b t
  | .flt b,u=>∃ t,u=Value.float b t
  | .ref a,u=>u=Value.ref a
  | .ty n,u=>u=Value.type n
abbrev Vals:List V→List Value→Prop:=Paired RelV
theorem Vals.length {xs:List V} {us:List Value} (r:Vals xs us):xs.length=us.length:=Paired.length r
theorem Vals.get:∀ {xs:List V} {us:List Value} {i:Nat} {x:V},Vals xs us→xs[i]?=some x→∃ u,us[i]?=some u∧RelV x u
  | _,_,_,_,.nil,e=>by simp at e
  | _,_,0,_,.cons r _,e=>by simp at e; subst e; exact ⟨_,rfl,r⟩
  | _,_,i+1,x,.cons _ t,e=>by
    obtain ⟨u,h1,h2⟩:=Vals.get (i:=i) (x:=x) t (by simpa using e)
    exact ⟨u,by simpa using h1,h2⟩
theorem Vals.set {x:V} {u:Value} (r:RelV x u):∀ {xs:List V} {us:List Value} (i:Nat),Vals xs us→Vals (xs.set i x) (us.set i u)
  | _,_,_,.nil=>.nil
  | _,_,0,.cons _ t=>.cons r t
  | _,_,i+1,.cons q t=>.cons q (Vals.set r i t)
theorem Vals.append:∀ {xs ys:List V} {us ws:List Value},Vals xs us→Vals ys ws→Vals (xs++ys) (us++ws)
  | _,_,_,_,.nil,s=>s
  | _,_,_,_,.cons r t,s=>.cons r (Vals.append t s)
theorem Vals.take:∀ {xs:List V} {us:List Value} (n:Nat),Vals xs us→Vals (xs.take n) (us.take n)
  | _,_,0,_=>.nil
  | _,_,_+1,.nil=>.nil
  | _,_,n+1,.cons r t=>.cons r (Vals.take n t)
theorem Vals.drop:∀ {xs:List V} {us:List Value} (n:Nat),Vals xs us→Vals (xs.drop n) (us.drop n)
  | _,_,0,r=>r
  | _,_,_+1,.nil=>.nil
  | _,_,n+1,.cons _ t=>Vals.drop n t
def RelO:Option V→Option Value→Prop
  | some v,some u=>RelV v u
  | none,none=>True
  | _,_=>False
def KV {κ:Type}:List (κ × V)→List (κ × Value)→Prop:=Paired fun (p:κ × V) (q:κ × Value)=>p.1=q.1∧RelV p.2 q.2
def kV:Key→V
  | .inl i=>.int i
  | .inr x=>.str x
inductive HO where
    | lst (xs:List V)
    | tup (xs:List V)
    | dK (kvs:List (Key × V)) | dT (kvs:List (List Key × V))
    | set (S:Int→Bool) (n:Nat)
    | ins (C dx:Addr) (fs:List (Str × V))
    | own (x:Addr)
    | xd (fs:List (Str × V))
    | met (f x:Addr)
    | rng (lo hi:Int)
    | frz (o:Obj) (u:HO)
    | tbl (ps:Array Value)
    | ext (φ:Heap→Prop)
abbrev Hp:=Addr→Option HO
def upd (H:Hp) (a:Addr) (o:HO):Hp:=fun b=>if b=a then some o else H b
theorem upd_same {H:Hp} {a:Addr} {o:HO}:upd H a o a=some o:=by unfold upd; rw [if_pos rfl]
theorem upd_ne {H:Hp} {a b:Addr} {o:HO} (h:b ≠ a):upd H a o b=H b:=by unfold upd; rw [if_neg h]
theorem ne_of {H:Hp} {a b:Addr} {o u:HO} (h:H a=some o) (h':H b=some u) (d:o ≠ u):a ≠ b:=by
  intro e; subst e; rw [h] at h'; exact d (Option.some.inj h')
theorem ne_of_none {H:Hp} {a b:Addr} {o:HO} (h:H a=some o) (h':H b=none):a ≠ b:=by
  intro e; subst e; rw [h] at h'; cases h'
section
variable (P:Program) (w:World)
def ObjOk (H:Hp) (h:Heap) (a:Addr):HO→Prop
  | .lst xs=>xs.length≤sizeLine∧∃ (its:List Value) (n:Nat),Vals xs its∧h.get? a=some { cls:=.type "list", data:=.seq its.toArray n }
  | .tup xs=>xs.length≤sizeLine∧∃ its:List Value,Vals xs its∧IsTup h a its.toArray∧∃ o,h.get? a=some o∧o.dict=none
  | .dK kvs=>kvs.length≤sizeLine∧(a == sysModules)=false∧∃ vs,KV kvs vs∧h.DictOf (mixKind P w) a vs
  | .dT kvs=>kvs.length≤sizeLine∧(a == sysModules)=false∧∃ xs:List (List Key × Addr × Value),
      Paired (fun (p:List Key × V) (q:List Key × Addr × Value)=>p.1=q.1∧H q.2.1=some (.tup (p.1.map kV))∧RelV p.2 q.2.2) kvs xs ∧
      ∃ o es ep,h.get? a=some o∧o.ExactDict∧o.data=.dict es ep∧es.toList=xs.map (entryOfKey (tupleKind (mixKind P w)))∧(xs.map (·.1)).Nodup
  | .set S n=>h.SetOf (intKind P w) a S n
  | .ins C dx fs=>H dx=some (.own a)∧fs.length≤1000∧dx ≠ a∧h.get? a=some (PySem.W.instObj C dx) ∧
      ∃ mA,h.Ns1 dx mA∧(∀ f,RelO (fs.lookup f) (mA f))∧PySem.Within mA (fs.map (·.1))
  | .own _=>∃ o,h.get? a=some o
  | .xd fs=>∃ mA,h.Ns1 a mA∧∀ f,RelO (fs.lookup f) (mA f)
  | .rng lo hi=>∃ t u v,h.get? a=some { cls:=.type "range", data:=.fields #[.int lo t,.int hi u,.int 1 v] }
  | .frz o u=>h.get? a=some o∧ObjOk H h a u
  | .tbl ps=>h.get? a=some { cls:=.none,data:=.fields ps }
  | .met f x=>h.get? a=some (PySem.W.methodObj (.ref f) (.ref x))
  | .ext φ=>φ h∧(∃ o,h.get? a=some o)∧∀ h1 h2:Heap,φ h1→(∀ o,h1.get? a=some o→h2.get? a=some o)→φ h2
def HOk (H:Hp) (h:Heap):Prop:=∀ a o,H a=some o→ObjOk P w H h a o
end
section
variable {P:Program} {w:World} {H H':Hp} {h h':Heap} {a:Addr} {o:HO}
theorem ObjOk.lt (x:ObjOk P w H h a o):a < h.objs.size:=by
  cases o with
  | lst xs=>obtain ⟨_,_,_,_,e⟩:=x; exact Heap.lt_size e
  | tup xs=>obtain ⟨_,_,_,p,_⟩:=x; exact p.lt
  | dK kvs=>obtain ⟨_,_,_,_,o,_,_,e,_⟩:=x; exact Heap.lt_size e
  | dT kvs=>obtain ⟨_,_,_,_,o,_,_,e,_⟩:=x; exact Heap.lt_size e
  | set S n=>obtain ⟨o,_,_,_,e,_⟩:=x; exact Heap.lt_size e
  | ins C dx fs=>obtain ⟨_,_,_,e,_⟩:=x; exact Heap.lt_size e
  | own y=>obtain ⟨_,e⟩:=x; exact Heap.lt_size e
  | xd fs=>obtain ⟨_,⟨_,_,_,e,_⟩,_⟩:=x; exact Heap.lt_size e
  | rng lo hi=>obtain ⟨_,_,_,e⟩:=x; exact Heap.lt_size e
  | frz ob u=>obtain ⟨e,_⟩:=x; exact Heap.lt_size e
  | tbl ps=>exact Heap.lt_size (show h.get? a=some _ from x)
  | met f y=>exact Heap.lt_size (show h.get? a=some _ from x)
  | ext φ=>obtain ⟨_,⟨_,e⟩,_⟩:=x; exact Heap.lt_size e
theorem Paired.mapP {α β:Type} {F G:α→β→Prop}:∀ {l₁:List α} {l₂:List β},Paired F l₁ l₂→(∀ a b,F a b→G a b)→Paired G l₁ l₂
  | _,_,.nil,_=>.nil
  | _,_,.cons r t,f=>.cons (f _ _ r) (Paired.mapP t f)
theorem ObjOk.stay (x:ObjOk P w H h a o) (k:∀ b u,(b=a∨H b=some (.own a))→h.get? b=some u→h'.get? b=some u)
    (ho:∀ b,H b=some (.own a)→H' b=some (.own a)) (ht:∀ b xs,H b=some (.tup xs)→H' b=some (.tup xs)):ObjOk P w H' h' a o:=by
  induction o with
  | lst xs=>obtain ⟨z,its,n,r,e⟩:=x; exact ⟨z,its,n,r,k _ _ (.inl rfl) e⟩
  | tup xs=>obtain ⟨z,its,r,⟨ob,e,c⟩,od,e2,d⟩:=x; exact ⟨z,its,r,⟨ob,k _ _ (.inl rfl) e,c⟩,od,k _ _ (.inl rfl) e2,d⟩
  | dK kvs=>obtain ⟨z,y,vs,r,ob,es,ep,e,c⟩:=x; exact ⟨z,y,vs,r,ob,es,ep,k _ _ (.inl rfl) e,c⟩
  | dT kvs =>
    obtain ⟨z,y,xs,r,ob,es,ep,e,c⟩:=x
    exact ⟨z,y,xs,Paired.mapP r fun p q z=>⟨z.1,ht _ _ z.2.1,z.2.2⟩,ob,es,ep,k _ _ (.inl rfl) e,c⟩
  | set S n=>obtain ⟨ob,es,ep,t,e,c⟩:=x; exact ⟨ob,es,ep,t,k _ _ (.inl rfl) e,c⟩
  | ins C dx fs =>
    obtain ⟨d,z,ne,e,mA,⟨od,es,ep,e2,c⟩,r⟩:=x
    exact ⟨ho _ d,z,ne,k _ _ (.inl rfl) e,mA,⟨od,es,ep,k _ _ (.inr d) e2,c⟩,r⟩
  | own y=>obtain ⟨ob,e⟩:=x; exact ⟨ob,k _ _ (.inl rfl) e⟩
  | xd fs=>obtain ⟨mA,⟨od,es,ep,e,c⟩,r⟩:=x; exact ⟨mA,⟨od,es,ep,k _ _ (.inl rfl) e,c⟩,r⟩
  | rng lo hi=>obtain ⟨t,u,v,e⟩:=x; exact ⟨t,u,v,k _ _ (.inl rfl) e⟩
  | frz ob u ih=>obtain ⟨e,q⟩:=x; exact ⟨k _ _ (.inl rfl) e,ih q⟩
  | tbl ps =>
    have e:h.get? a=some { cls:=.none,data:=.fields ps }:=x
    show h'.get? a=some { cls:=.none,data:=.fields ps }
    exact k a _ (.inl rfl) e
  | met f y =>
    have e:h.get? a=some (PySem.W.methodObj (.ref f) (.ref y)):=x
    show h'.get? a=some (PySem.W.methodObj (.ref f) (.ref y))
    exact k a _ (.inl rfl) e
  | ext φ=>obtain ⟨p,⟨o,e⟩,st⟩:=x; exact ⟨st _ _ p fun o q=>k _ _ (.inl rfl) q,⟨o,k _ _ (.inl rfl) e⟩,st⟩
theorem HOk.lt (x:HOk P w H h) (e:H a=some o):a < h.objs.size:=(x a o e).lt
theorem HOk.fresh (x:HOk P w H h) (e:h.objs.size≤a):H a=none:=by
  cases q:H a with
  | none=>rfl
  | some u=>exact absurd (Nat.lt_of_lt_of_le (x.lt q) e) (Nat.lt_irrefl _)
theorem HOk.kept (x:HOk P w H h) (k:∀ b u,h.get? b=some u→h'.get? b=some u):HOk P w H h':=fun a o e =>
  (x a o e).stay (fun b u _ q=>k b u q) (fun _ q=>q) fun _ _ q=>q
theorem HOk.laid (x:HOk P w H h) (k:∀ b u,h.get? b=some u→h'.get? b=some u) (hp:h.objs.size≤a) (new:ObjOk P w (upd H a o) h' a o):HOk P w (upd H a o) h':=fun b u e=>by
  have hn:=x.fresh hp
  by_cases hb:b=a
  · subst hb; rw [upd_same] at e; cases e; exact new
  · rw [upd_ne hb] at e
    exact (x b u e).stay (fun c v _ q=>k c v q) (fun c q=>by rw [upd_ne (ne_of_none q hn)]; exact q) fun c xs q=>by rw [upd_ne (ne_of_none q hn)]; exact q
end
def Rd (H:Hp) (a:Addr) (u:HO):Prop:=H a=some u∨∃ o,H a=some (.frz o u)
theorem Rd.ok {P:Program} {w:World} {H:Hp} {h:Heap} {a:Addr} {u:HO} (r:Rd H a u) (x:HOk P w H h):ObjOk P w H h a u:=by
  rcases r with r | ⟨o,r⟩
  · exact x a u r
  · obtain ⟨_,q⟩:=x a _ r
    exact q
def Mut:Option HO→Prop
  | some (.lst _)=>True
  | some (.dK _)=>True
  | some (.dT _)=>True
  | some (.set _ _)=>True
  | some (.ins _ _ _)=>True
  | some (.ext _)=>True
  | _=>False
section
variable {P:Program} {w:World} {H:Hp} {h h':Heap} {x e:Addr} {o':HO}
theorem HOk.write (ok:HOk P w H h) (mu:Mut (H x)) (he:e=x∨H e=some (.own x)) (k:∀ b u,b ≠ e→h.get? b=some u→h'.get? b=some u) (heo:∃ u,h'.get? e=some u)
    (new:ObjOk P w (upd H x o') h' x o'):HOk P w (upd H x o') h':=fun b u q=>by
  have nown:∀ c y,H c=some (.own y)→c ≠ x:=fun c y r z=>by subst z; rw [r] at mu; exact mu
  have ntup:∀ c xs,H c=some (.tup xs)→c ≠ x:=fun c xs r z=>by subst z; rw [r] at mu; exact mu
  by_cases hb:b=x
  · subst hb; rw [upd_same] at q; cases q; exact new
  · rw [upd_ne hb] at q
    by_cases hbe:b=e
    · have q':H b=some (.own x):=by
        rcases he with z | z
        · exact absurd (hbe.trans z) hb
        · rw [hbe]; exact z
      rw [q] at q'; cases q'
      obtain ⟨v,hv⟩:=heo
      exact ⟨v,by rw [hbe]; exact hv⟩
    · refine (ok b u q).stay (fun c v hc r=>k c v ?_ r) (fun c r=>by rw [upd_ne (nown c b r)]; exact r) fun c xs r=>by rw [upd_ne (ntup c xs r)]; exact r
      rcases hc with rfl | hc
      · exact hbe
      · rintro rfl
        rcases he with z | z
        · exact nown c b hc z
        · rw [hc] at z; cases z; exact hb rfl
end
structure Un (fs ex:List Addr) (H H':Hp) (h h':Heap):Prop where
  keep:∀ b o,h.get? b=some o→H b=none→b ∉ fs→b ∉ ex→h'.get? b=some o
  slot:∀ b o,h.get? b=some o→H b=none→b ∈ fs→b ∉ ex→∃ sl,h'.get? b=some { o with slots:=sl }
  free:∀ b o,h.get? b=some o→H b=none→b ∉ ex→H' b=none
  there:∀ b o,h.get? b=some o→b ∉ ex→∃ o',h'.get? b=some o'
  tups:∀ b xs,H b=some (.tup xs)→H' b=some (.tup xs)
  frzs:∀ b o u,H b=some (.frz o u)→H' b=some (.frz o u)
  tbls:∀ b ps,H b=some (.tbl ps)→∃ more,H' b=some (.tbl (ps++more))
section
variable {fs fs' ex ex':List Addr} {H H1 H2:Hp} {h h1 h2 h':Heap} {a x e:Addr} {o:HO}
theorem Un.any (u:Un fs ex H H1 h h1) {b:Addr} {ob:Obj} (q:h.get? b=some ob) (n:H b=none) (hx:b ∉ ex):∃ sl,h1.get? b=some { ob with slots:=sl }:=by
  by_cases hb:b ∈ fs
  · exact u.slot b ob q n hb hx
  · exact ⟨ob.slots,u.keep b ob q n hb hx⟩
theorem Un.trans (a:Un fs ex H H1 h h1) (b:Un fs ex H1 H2 h1 h2):Un fs ex H H2 h h2 where
  keep:=fun c ob q n hc hx=>b.keep c ob (a.keep c ob q n hc hx) (a.free c ob q n hx) hc hx
  slot:=fun c ob q n hc hx=>by
    obtain ⟨sl,e1⟩:=a.slot c ob q n hc hx
    obtain ⟨sl',e2⟩:=b.slot c _ e1 (a.free c ob q n hx) hc hx
    exact ⟨sl',e2⟩
  free:=fun c ob q n hx=>by
    obtain ⟨o',e1⟩:=a.there c ob q hx
    exact b.free c o' e1 (a.free c ob q n hx) hx
  there:=fun c ob q hx=>by
    obtain ⟨o',e1⟩:=a.there c ob q hx
    exact b.there c o' e1 hx
  tups:=fun c xs q=>b.tups c xs (a.tups c xs q)
  frzs:=fun c ob xs q=>b.frzs c ob xs (a.frzs c ob xs q)
  tbls:=fun c ps q=>by
    obtain ⟨m1,e1⟩:=a.tbls c ps q
    obtain ⟨m2,e2⟩:=b.tbls c _ e1
    exact ⟨m1++m2,by rw [e2,Array.append_assoc]⟩
theorem Un.kept (k:∀ b u,h.get? b=some u→h'.get? b=some u):Un fs ex H H h h' :=
  ⟨fun b ob q _ _ _=>k b ob q,fun b ob q _ _ _=>⟨ob.slots,k b ob q⟩,fun _ _ _ n _=>n,fun b ob q _=>⟨ob,k b ob q⟩,fun _ _ q=>q,fun _ _ _ q=>q,fun _ ps q=>⟨#[],by rw [q]; simp⟩⟩
theorem Un.refl:Un fs ex H H h h:=Un.kept fun _ _ q=>q
theorem Un.laid (k:∀ b u,h.get? b=some u→h'.get? b=some u) (hp:h.objs.size≤a) (hn:H a=none):Un fs ex H (upd H a o) h h' where
  keep:=fun b u q _ _ _=>k b u q
  slot:=fun b u q _ _ _=>⟨u.slots,k b u q⟩
  free:=fun b u q n _=>by rw [upd_ne (Nat.ne_of_lt (Nat.lt_of_lt_of_le (Heap.lt_size q) hp))]; exact n
  there:=fun b u q _=>⟨u,k b u q⟩
  tups:=fun b xs q=>by rw [upd_ne (ne_of_none q hn)]; exact q
  frzs:=fun b u xs q=>by rw [upd_ne (ne_of_none q hn)]; exact q
  tbls:=fun b ps q=>⟨#[],by rw [upd_ne (ne_of_none q hn),q]; simp⟩
theorem Un.write (mu:Mut (H x)) (he:e=x∨H e=some (.own x)) (k:∀ b u,b ≠ e→h.get? b=some u→h'.get? b=some u) (heo:∃ u,h'.get? e=some u):Un fs ex H (upd H x o) h h':=by
  have hx:∀ b,H b=none→b ≠ x:=fun b n z=>by subst z; rw [n] at mu; exact mu
  have hb:∀ b,H b=none→b ≠ e:=fun b n z=>by
    subst z
    rcases he with r | r
    · exact hx b n r
    · rw [n] at r; cases r
  have hm:∀ b u,H b=some u→¬ Mut (some u)→b ≠ x:=fun b u q nm z=>by subst z; rw [q] at mu; exact nm mu
  refine ⟨fun b u q n _ _=>k b u (hb b n) q,fun b u q n _ _=>⟨u.slots,k b u (hb b n) q⟩,fun b u q n _=>by rw [upd_ne (hx b n)]; exact n,fun b u q _=>?_,
    fun b xs q=>by rw [upd_ne (hm b _ q fun z=>z)]; exact q,fun b u xs q=>by rw [upd_ne (hm b _ q fun z=>z)]; exact q,fun b ps q=>⟨#[],by rw [upd_ne (hm b _ q fun z=>z),q]; simp⟩⟩
  by_cases hbe:b=e
  · subst hbe; exact heo
  · exact ⟨u,k b u hbe q⟩
theorem Un.mono (u:Un fs ex H H1 h h1) (hs:∀ b ∈ fs,b ∈ fs') (hx:∀ b ∈ ex,b ∈ ex'):Un fs' ex' H H1 h h1 :=
  ⟨fun b ob q n hb he=>u.keep b ob q n (fun z=>hb (hs b z)) fun z=>he (hx b z),fun _ _ q n _ he=>u.any q n fun z=>he (hx _ z),fun b ob q n he=>u.free b ob q n fun z=>he (hx b z),fun b ob q he=>u.there b ob q fun z=>he (hx b z),u.tups,u.frzs,u.tbls⟩
end
def trk (h:Heap) (H:Hp):List Addr:=(List.range h.objs.size).filter fun a=>(H a).isSome
def hidT (h:Heap) (H:Hp):Heap:=PySem.W.hideAll h (trk h H)
theorem hidT_size (h:Heap) (H:Hp):(hidT h H).objs.size=h.objs.size:=PySem.W.hideAll_size _ _
theorem hidT_get {h:Heap} {H:Hp} {b:Addr} {o:Obj} (e:h.get? b=some o) (n:H b=none):(hidT h H).get? b=some o :=
  PySem.W.hideAll_get _ e fun hm=>by
    have q:(H b).isSome=true:=(List.mem_filter.mp hm).2
    rw [n] at q; simp at q
theorem of_hidT {h:Heap} {H:Hp} {b:Addr} {o:Obj} (e:(hidT h H).get? b=some o):h.get? b=some o∧H b=none:=by
  have e':h.get? b=some o:=PySem.W.of_hideAll (trk h H) e
  refine ⟨e',?_⟩
  cases q:H b with
  | none=>rfl
  | some x =>
    have hm:b ∈ trk h H:=List.mem_filter.mpr ⟨List.mem_range.mpr (Heap.lt_size e'),by simp [q]⟩
    have z:(hidT h H).get? b=none:=PySem.W.hideAll_none (trk h H) hm
    rw [z] at e; cases e
def allNews (g h:Heap) (L:Addr):List (Addr × Obj):=(List.range h.objs.size).filterMap fun a=>if a=L∨(g.get? a).isSome=true then none else (h.get? a).map fun o=>(a,o)
def rest (g h:Heap) (L d:Addr):List (Addr × Obj):=(allNews g h L).filter fun p=>decide (p.1 ≠ d)
end L2
namespace L2
open PySem PySem.Spec PyProof.Rows
structure Mod (K:PySem.W.Frag) (mg:Str→Option Value) (base:Heap):Prop where
  kin:K.In base
  glob:base.Ns mainGlobals mg
  blt:∃ mb,base.Ns builtinsNs mb∧∀ x:Str,x ≠ "__name__" → mb x=bootBuiltins x
  nolimit:base.NoLimit
structure Cx where
  prog:Program
  w:World
  K:PySem.W.Frag
  mg:Str→Option Value
  base:Heap
  A:Around
  N:List Str
  s₀:Shared
  H₀:Hp
  env:Env
  outer:List Env
  stack:List Env
  ex:List Addr
  fn:Str→Bool
  calm:Bool
  pn:List (Addr × Obj)
  xe:Value→Shared→Prop
def frs (l:List Env):List Addr:=l.filterMap (·.frame)
abbrev Cx.fs (X:Cx):List Addr:=frs X.outer
def Vis (sc:Scope) (x:Str):Prop:=sc.names.lookup x=some .local∨sc.names.lookup x=some .cell∨sc.names.lookup x=some .free
def Loc (sc:Scope) (x:Str):Prop:=sc.names.lookup x=some .local∨sc.names.lookup x=some .cell
def Look (env:Env) (h:Heap) (m:Str→Option Value) (x:Str) (u:Value):Prop :=
  (env.kindOf x=some .local∧m x=some u)∨((env.kindOf x=some .cell∨env.kindOf x=some .free)∧∃ c,env.cells.lookup x=some c∧h.IsCell c (some u))
structure Cx.Ok (X:Cx):Prop where
  mod:Mod X.K X.mg X.base
  kind:X.env.scope.kind=.function
  glob:X.env.globals=mainGlobals
  blt:X.env.builtins=builtinsNs
  above:X.s₀.heap.objs.size≤X.env.locals
  inj:∀ x y c,X.env.cells.lookup x=some c→X.env.cells.lookup y=some c→x=y
  has:∀ x,(X.env.kindOf x=some .cell∨X.env.kindOf x=some .free)→∃ c,X.env.cells.lookup x=some c
  cab:∀ x c,X.fn x=true→X.env.cells.lookup x=some c→X.s₀.heap.objs.size≤c
  hd:X.calm=true→X.A.handled=none
  frames:X.A.frames=some X.stack
  stk:X.stack=X.outer∨(X.stack=X.env::X.outer∧X.env.frame=some X.env.locals)
  exf:∀ b ∈ X.ex,b ≠ X.env.locals∧∀ x c,X.env.cells.lookup x=some c→c ≠ b
  bs:∀ b o,X.base.get? b=some o→X.s₀.heap.get? b=some o∧X.H₀ b=none
  bsz:X.base.objs.size≤X.s₀.heap.objs.size
  noex:∀ b o,X.base.get? b=some o→b ∉ X.ex
  exfs:∀ b ∈ X.ex,b ∉ X.fs
  funs:X.s₀.heap.FunFrames X.base X.outer
  frf:∀ b ∈ X.fs,X.H₀ b=none
structure Inv (X:Cx) (pins:List (Addr × Obj)) (σ:List (Option V)) (H:Hp) (s:Shared):Prop where
  ok:X.Ok
  os:s.os=X.s₀.os
  bare:AllBare s.gens
  base:Un X.fs X.ex X.H₀ H X.s₀.heap s.heap
  loc:∃ m,s.heap.Ns X.env.locals m∧∀ (i:Nat) (x:Str) (v:V),X.N[i]?=some x→σ[i]?=some (some v)→Vis X.env.scope x→∃ u,RelV v u∧Look X.env s.heap m x u
  cell:∀ x c,X.env.cells.lookup x=some c→∃ v,s.heap.IsCell c v
  free:H X.env.locals=none
  freeC:∀ x c,X.env.cells.lookup x=some c→H c=none
  pin:∀ p ∈ X.pn++pins,s.heap.get? p.1=some p.2∧H p.1=none∧p.1 ≠ X.env.locals∧p.1 ∉ X.fs∧∀ v,p.2.data ≠ .cell v
  hok:HOk X.prog X.w H s.heap
  len:σ.length=X.N.length
section
variable {X:Cx} {pins:List (Addr × Obj)} {σ:List (Option V)} {H H':Hp} {s:Shared} {h':Heap}
theorem Cx.Ok.nofr (ok:X.Ok) {b:Addr} {o:Obj} (e:X.base.get? b=some o):b ∉ X.fs:=fun hb=>by
  have:=(ok.funs.mem hb).1
  rw [e] at this; cases this
theorem Inv.bs (I:Inv X pins σ H s):∀ b o,X.base.get? b=some o→s.heap.get? b=some o∧H b=none:=fun b o e =>
  ⟨I.base.keep b o (I.ok.bs b o e).1 (I.ok.bs b o e).2 (I.ok.nofr e) (I.ok.noex b o e),I.base.free b o (I.ok.bs b o e).1 (I.ok.bs b o e).2 (I.ok.noex b o e)⟩
theorem Inv.bk (I:Inv X pins σ H s):∀ b o,X.base.get? b=some o→s.heap.get? b=some o:=fun b o e=>(I.bs b o e).1
theorem Inv.mod (I:Inv X pins σ H s):Mod X.K X.mg X.base:=I.ok.mod
theorem Inv.kIn (I:Inv X pins σ H s):X.K.In s.heap:=I.ok.mod.kin.keeps I.bk
theorem Inv.lt (I:Inv X pins σ H s):X.env.locals < s.heap.objs.size:=let ⟨_,hn,_⟩:=I.loc; hn.lt
theorem Inv.sz (I:Inv X pins σ H s):X.s₀.heap.objs.size≤s.heap.objs.size:=Nat.le_trans I.ok.above (Nat.le_of_lt I.lt)
theorem Inv.nofs (I:Inv X pins σ H s) {a:Addr} (h:s.heap.objs.size≤a):a ∉ X.fs:=fun hb=>by
  obtain ⟨_,o,ho,_⟩:=I.ok.funs.mem hb
  exact absurd (Nat.lt_of_lt_of_le (Heap.lt_size ho) (Nat.le_trans I.sz h)) (Nat.lt_irrefl _)
theorem Inv.cne (I:Inv X pins σ H s):∀ x c,X.env.cells.lookup x=some c→c ≠ X.env.locals:=fun x c e z=>by
  obtain ⟨v,o,ho,hd⟩:=I.cell x c e
  obtain ⟨m,⟨o',es,ep,ho',hd',_⟩,_⟩:=I.loc
  rw [z,ho'] at ho; cases ho; rw [hd'] at hd; cases hd
theorem Inv.funs (I:Inv X pins σ H s):s.heap.FunFrames X.base X.outer:=by
  have all:∀ (l:List Env),(∀ b ∈ frs l,b ∈ X.fs)→X.s₀.heap.FunFrames X.base l→s.heap.FunFrames X.base l:=by
    intro l
    induction l with
    | nil=>intro _ _; trivial
    | cons env r ih =>
      intro hs hl
      obtain ⟨hk,⟨L,o,hf,hn,ho,hd⟩,hr⟩:=hl
      have hL:L ∈ X.fs:=hs L (by unfold frs; rw [List.filterMap_cons,hf]; exact List.mem_cons_self)
      obtain ⟨sl,e⟩:=I.base.slot L o ho (I.ok.frf L hL) hL fun z=>I.ok.exfs L z hL
      exact ⟨hk,⟨L,_,hf,hn,e,hd⟩,ih (fun b hb=>hs b (by unfold frs; rw [List.filterMap_cons,hf]; exact List.mem_cons_of_mem _ hb)) hr⟩
  exact all X.outer (fun _ hb=>hb) I.ok.funs
theorem Inv.stack (I:Inv X pins σ H s):s.heap.FunFrames X.base X.stack:=by
  rcases I.ok.stk with e | ⟨e,hf⟩
  · rw [e]; exact I.funs
  · rw [e]
    obtain ⟨m,hn,_⟩:=I.loc
    refine .cons (by rw [I.ok.kind]; decide) hf hn ?_ I.funs
    exact Heap.get?_none_of_le (Nat.le_trans I.ok.bsz I.ok.above)
theorem Inv.stkSub (I:Inv X pins σ H s):∀ b ∈ frs X.stack,b ∈ X.env.locals::X.fs:=fun b hb=>by
  rcases I.ok.stk with e | ⟨e,hf⟩
  · rw [e] at hb; exact List.mem_cons_of_mem _ hb
  · rw [e] at hb
    unfold frs at hb
    rw [List.filterMap_cons,hf] at hb
    exact hb
theorem Inv.stkFree (I:Inv X pins σ H s):∀ b ∈ frs X.stack,H b=none:=fun b hb=>by
  rcases List.mem_cons.mp (I.stkSub b hb) with e | hb
  · rw [e]; exact I.free
  · obtain ⟨_,o,ho,_⟩:=I.ok.funs.mem hb
    exact I.base.free b o ho (I.ok.frf b hb) fun z=>I.ok.exfs b z hb
theorem Inv.step {g':Array GenState} {t':Nat} {d':Drawn} {ch:List Addr} (I:Inv X pins σ H s)
    (hch:∀ b ∈ ch,(b ∈ X.ex∨X.s₀.heap.objs.size≤b)∧b ≠ X.env.locals∧(∀ x c,X.env.cells.lookup x=some c→c ≠ b)∧∀ p ∈ X.pn++pins,p.1 ≠ b)
    (keep:∀ b o,b ≠ X.env.locals→b ∉ X.fs→b ∉ ch→s.heap.get? b=some o→H b=none→h'.get? b=some o)
    (slot:∀ b o,b ≠ X.env.locals→b ∈ X.fs→b ∉ ch→s.heap.get? b=some o→H b=none→∃ sl,h'.get? b=some { o with slots:=sl }) (free:∀ b o,b ∉ ch→s.heap.get? b=some o→H b=none→H' b=none)
    (there:∀ b o,b ∉ ch→s.heap.get? b=some o→∃ o',h'.get? b=some o')
    (tups:∀ b xs,H b=some (.tup xs)→H' b=some (.tup xs)) (frzs:∀ b o u,H b=some (.frz o u)→H' b=some (.frz o u)) (tbls:∀ b ps,H b=some (.tbl ps)→∃ more,H' b=some (.tbl (ps++more)))
    (ns:∀ m,s.heap.Ns X.env.locals m→h'.Ns X.env.locals m) (hok:HOk X.prog X.w H' h') (hg:AllBare g') :
    Inv X pins σ H' { s with heap:=h',gens:=g',drawn:=d',toks:=t' }:=by
  have neL:∀ b o,X.s₀.heap.get? b=some o→b ≠ X.env.locals:=fun b o e=>Nat.ne_of_lt (Nat.lt_of_lt_of_le (Heap.lt_size e) I.ok.above)
  have neC:∀ b o,X.s₀.heap.get? b=some o→b ∉ X.ex→b ∉ ch:=fun b o e hx hb=>by
    rcases (hch b hb).1 with z | z
    · exact hx z
    · exact absurd (Nat.lt_of_lt_of_le (Heap.lt_size e) z) (Nat.lt_irrefl _)
  have cellK:∀ x c,X.env.cells.lookup x=some c→∀ v,s.heap.IsCell c v→h'.IsCell c v:=fun x c e v ⟨o,ho,hd⟩=>by
    have nch:c ∉ ch:=fun z=>(hch c z).2.2.1 x c e rfl
    by_cases hc:c ∈ X.fs
    · obtain ⟨sl,q⟩:=slot c o (I.cne x c e) hc nch ho (I.freeC x c e)
      exact ⟨_,q,hd⟩
    · exact ⟨o,keep c o (I.cne x c e) hc nch ho (I.freeC x c e),hd⟩
  refine ⟨I.ok,I.os,hg,⟨fun b o e n hb hx=>?_,fun b o e n hb hx=>?_,fun b o e n hx=>?_,fun b o e hx=>?_,fun b xs e=>tups b xs (I.base.tups b xs e),fun b o xs e=>frzs b o xs (I.base.frzs b o xs e),fun b ps e=>?_⟩,?_,fun x c e=>?_,?_,fun x c e=>?_,fun p hp=>?_,hok,I.len⟩
  · exact keep b o (neL b o e) hb (neC b o e hx) (I.base.keep b o e n hb hx) (I.base.free b o e n hx)
  · obtain ⟨sl,e1⟩:=I.base.slot b o e n hb hx
    obtain ⟨sl',e2⟩:=slot b _ (neL b o e) hb (neC b o e hx) e1 (I.base.free b o e n hx)
    exact ⟨sl',e2⟩
  · obtain ⟨o',e1⟩:=I.base.there b o e hx
    exact free b o' (neC b o e hx) e1 (I.base.free b o e n hx)
  · obtain ⟨o',e1⟩:=I.base.there b o e hx
    exact there b o' (neC b o e hx) e1
  · obtain ⟨m1,e1⟩:=I.base.tbls b ps e
    obtain ⟨m2,e2⟩:=tbls b _ e1
    exact ⟨m1++m2,by rw [e2,Array.append_assoc]⟩
  · obtain ⟨m,hn,hl⟩:=I.loc
    refine ⟨m,ns m hn,fun i x v e1 e2 e3=>?_⟩
    obtain ⟨u,r,l⟩:=hl i x v e1 e2 e3
    refine ⟨u,r,?_⟩
    rcases l with l | ⟨k,c,e,z⟩
    · exact .inl l
    · exact .inr ⟨k,c,e,cellK x c e _ z⟩
  · obtain ⟨v,z⟩:=I.cell x c e
    exact ⟨v,cellK x c e v z⟩
  · obtain ⟨m,⟨o,_,_,ho,_⟩,_⟩:=I.loc
    exact free _ o (fun z=>(hch _ z).2.1 rfl) ho I.free
  · obtain ⟨v,o,ho,hd⟩:=I.cell x c e
    exact free c o (fun z=>(hch c z).2.2.1 x c e rfl) ho (I.freeC x c e)
  · obtain ⟨e,n,ne,nf,d⟩:=I.pin p hp
    have nch:p.1 ∉ ch:=fun z=>(hch p.1 z).2.2.2 p hp rfl
    exact ⟨keep p.1 p.2 ne nf nch e n,free p.1 p.2 nch e n,ne,nf,d⟩
theorem Inv.un {t':Nat} (I:Inv X pins σ H s) (u:Un X.fs [] H H' s.heap h') (hok:HOk X.prog X.w H' h'):Inv X pins σ H' { s with heap:=h',toks:=t' }:=by
  obtain ⟨m,⟨o,es,ep,ho,r⟩,_⟩:=id I.loc
  obtain ⟨sl,hL⟩:=u.any ho I.free (by simp)
  exact I.step (g':=s.gens) (d':=s.drawn) (ch:=[]) (fun _ z=>nomatch z) (fun b o _ hb _ e n=>u.keep b o e n hb (by simp)) (fun b o _ hb _ e n=>u.slot b o e n hb (by simp)) (fun b o _ e n=>u.free b o e n (by simp)) (fun b o _ e=>u.there b o e (by simp)) u.tups u.frzs u.tbls (fun m' hm=>by
    obtain ⟨o',es',ep',ho',r'⟩:=hm
    rw [ho] at ho'; cases ho'
    exact ⟨_,es',ep',hL,r'⟩) hok I.bare
theorem Inv.call {g':Array GenState} {t':Nat} {d':Drawn} {ch:List Addr} (I:Inv X pins σ H s) (u:Un (frs X.stack) ch H H' s.heap h') (hok:HOk X.prog X.w H' h') (hg:AllBare g')
    (hch:∀ b ∈ ch,(b ∈ X.ex∨X.s₀.heap.objs.size≤b)∧b ≠ X.env.locals∧(∀ x c,X.env.cells.lookup x=some c→c ≠ b)∧∀ p ∈ X.pn++pins,p.1 ≠ b) :
    Inv X pins σ H' { s with heap:=h',gens:=g',drawn:=d',toks:=t' }:=by
  obtain ⟨m,⟨o,es,ep,ho,r⟩,_⟩:=id I.loc
  obtain ⟨sl,hL⟩:=u.any ho I.free fun z=>(hch _ z).2.1 rfl
  exact I.step (ch:=ch) hch (fun b o hL hb hc e n=>u.keep b o e n (fun z=>(List.mem_cons.mp (I.stkSub b z)).elim hL hb) hc) (fun b o _ _ hc e n=>u.any e n hc) (fun b o hc e n=>u.free b o e n hc) (fun b o hc e=>u.there b o e hc) u.tups u.frzs u.tbls (fun m' hm=>by
    obtain ⟨o',es',ep',ho',r'⟩:=hm
    rw [ho] at ho'; cases ho'
    exact ⟨_,es',ep',hL,r'⟩) hok hg
theorem Inv.turned {t':Nat} {it:Addr} (I:Inv X pins σ H s) (k:∀ b o,b ≠ it→s.heap.get? b=some o→h'.get? b=some o) (hn:H it=none) (hL:it ≠ X.env.locals)
    (h1:it ∈ X.ex∨X.s₀.heap.objs.size≤it) (h2:∀ x c,X.env.cells.lookup x=some c→c ≠ it) (h3:∀ p ∈ X.pn++pins,p.1 ≠ it):Inv X pins σ H { s with heap:=h',toks:=t' }:=by
  have nit:∀ b u,H b=some u→b ≠ it:=fun b u e z=>by rw [z,hn] at e; cases e
  refine I.step (g':=s.gens) (d':=s.drawn) (ch:=[it]) (fun b hb=>?_) (fun b o _ _ hc e _=>k b o (fun z=>hc (by simp [z])) e) (fun b o _ _ hc e _=>⟨o.slots,k b o (fun z=>hc (by simp [z])) e⟩) (fun _ _ _ _ n=>n)
    (fun b o hc e=>⟨o,k b o (fun z=>hc (by simp [z])) e⟩) (fun _ _ e=>e) (fun _ _ _ e=>e) (fun b ps e=>⟨#[],by rw [e]; simp⟩) (fun m hm=>?_) (fun b u e=>?_) I.bare
  · have e:b=it:=by simpa using hb
    subst e
    exact ⟨h1,hL,h2,h3⟩
  · obtain ⟨o,es,ep,ho,r⟩:=hm
    exact ⟨o,es,ep,k _ o (Ne.symm hL) ho,r⟩
  · refine (I.hok b u e).stay (fun c v hc q=>k c v ?_ q) (fun _ q=>q) fun _ _ q=>q
    rcases hc with z | z
    · rw [z]; exact nit b u e
    · exact nit c _ z
theorem Inv.tok (I:Inv X pins σ H s) (t:Nat):Inv X pins σ H { s with toks:=t }:=I.un (h':=s.heap) (t':=t) Un.refl I.hok
theorem Inv.kept {t':Nat} (I:Inv X pins σ H s) (k:∀ b u,s.heap.get? b=some u→h'.get? b=some u):Inv X pins σ H { s with heap:=h',toks:=t' }:=I.un (Un.kept k) (I.hok.kept k)
theorem Inv.laid {a:Addr} {o:HO} {t':Nat} (I:Inv X pins σ H s) (k:∀ b u,s.heap.get? b=some u→h'.get? b=some u) (hp:s.heap.objs.size≤a) (new:ObjOk X.prog X.w (upd H a o) h' a o) :
    Inv X pins σ (upd H a o) { s with heap:=h',toks:=t' }:=I.un (Un.laid k hp (I.hok.fresh hp)) (I.hok.laid k hp new)
theorem Inv.write {x e:Addr} {o:HO} {t':Nat} (I:Inv X pins σ H s) (mu:Mut (H x)) (he:e=x∨H e=some (.own x)) (k:∀ b u,b ≠ e→s.heap.get? b=some u→h'.get? b=some u) (heo:∃ u,h'.get? e=some u)
    (new:ObjOk X.prog X.w (upd H x o) h' x o):Inv X pins σ (upd H x o) { s with heap:=h',toks:=t' }:=I.un (Un.write mu he k heo) (I.hok.write mu he k heo new)
theorem Inv.pins_of {pins':List (Addr × Obj)} (I:Inv X pins σ H s) (h:∀ p ∈ pins',s.heap.get? p.1=some p.2∧H p.1=none∧p.1 ≠ X.env.locals∧p.1 ∉ X.fs∧∀ v,p.2.data ≠ .cell v):Inv X pins' σ H s :=
  ⟨I.ok,I.os,I.bare,I.base,I.loc,I.cell,I.free,I.freeC,fun p hp=>(List.mem_append.mp hp).elim (fun z=>I.pin p (List.mem_append_left _ z)) (h p),I.hok,I.len⟩
theorem nodup_ix {N:List Str} (hN:N.Nodup) {i j:Nat} {x:Str} (a:N[i]?=some x) (b:N[j]?=some x):i=j:=by
  obtain ⟨h1,e1⟩:=List.getElem?_eq_some_iff.mp a
  obtain ⟨h2,e2⟩:=List.getElem?_eq_some_iff.mp b
  exact (List.getElem_inj hN).mp (e1.trans e2.symm)
theorem store_ok2 {M:Model} {A:Around} {E:Value→Shared→Prop} {i:Nat} {x:Str} {v:V} {u:Value} {Q:Unit→Shared→Prop} (I:Inv X pins σ H s) (hN:X.N.Nodup) (hi:X.N[i]?=some x) (hx:Loc X.env.scope x) (r:RelV v u)
    (h:∀ s',Inv X pins (σ.set i (some v)) H s'→(∃ a,Heap.SameBut a s.heap s'.heap∧(a=X.env.locals∨X.env.cells.lookup x=some a))→Q () s') (hf:X.fn x=true∨X.env.scope.names.lookup x=some .local:=by first | exact .inl rfl | exact .inr rfl | assumption):wpAny M A (storeName X.env x u) Q E s:=by
  obtain ⟨m,hn,hl⟩:=id I.loc
  have hcls:(X.env.scope.kind == .class || (X.env.scope.kind == .module && X.env.locals != X.env.globals))=false:=by rw [I.ok.kind]; rfl
  have hiσ:i < σ.length:=by rw [I.len]; exact (List.getElem?_eq_some_iff.mp hi).1
  have cne:=I.cne
  have tracked:∀ {a:Addr} {h':Heap},(∃ o,s.heap.get? a=some o∧H a=none)→Heap.SameBut a s.heap h'→HOk X.prog X.w H h':=fun {a h'} ha hs b ob e=>by
    obtain ⟨_,_,hfree⟩:=ha
    refine (I.hok b ob e).stay (fun c w' hc q=>(hs.2 c ?_).trans q) (fun _ q=>q) fun _ _ q=>q
    rintro rfl
    rcases hc with rfl | hc
    · rw [hfree] at e; cases e
    · rw [hfree] at hc; cases hc
  rcases hx with hk | hk
  · refine wpAny_storeName_local hk hn (fun h' hn' hs=>?_) hcls
    obtain ⟨oL,_,_,hoL,_⟩:=id hn
    refine h _ ⟨I.ok,I.os,I.bare,⟨fun b o e n hb hx=>?_,fun b o e n hb hx=>?_,I.base.free,fun b o e hx=>?_,I.base.tups,I.base.frzs,I.base.tbls⟩,⟨_,hn',fun j y v' e1 e2 e3=>?_⟩,fun y c e=>?_,I.free,I.freeC,fun p hp=>?_,tracked ⟨oL,hoL,I.free⟩ hs,by simpa using I.len⟩ ⟨_,hs,.inl rfl⟩
    · exact (hs.2 b (Nat.ne_of_lt (Nat.lt_of_lt_of_le (Heap.lt_size e) I.ok.above))).trans (I.base.keep b o e n hb hx)
    · obtain ⟨sl,e1⟩:=I.base.slot b o e n hb hx
      exact ⟨sl,(hs.2 b (Nat.ne_of_lt (Nat.lt_of_lt_of_le (Heap.lt_size e) I.ok.above))).trans e1⟩
    · obtain ⟨o',e1⟩:=I.base.there b o e hx
      exact ⟨o',(hs.2 b (Nat.ne_of_lt (Nat.lt_of_lt_of_le (Heap.lt_size e) I.ok.above))).trans e1⟩
    · by_cases hj:j=i
      · subst hj
        rw [hi] at e1; cases e1
        rw [List.getElem?_set_self hiσ] at e2
        cases e2
        exact ⟨u,r,.inl ⟨hk,by simp⟩⟩
      · rw [List.getElem?_set_ne (Ne.symm hj)] at e2
        obtain ⟨u',r',q⟩:=hl j y v' e1 e2 e3
        refine ⟨u',r',?_⟩
        rcases q with ⟨k,e⟩ | ⟨k,c,e,z⟩
        · refine .inl ⟨k,?_⟩
          have:y ≠ x:=fun e=>hj (nodup_ix hN e1 (e ▸ hi))
          simp [this,e]
        · exact .inr ⟨k,c,e,z.sameBut hs (cne y c e)⟩
    · obtain ⟨w',z⟩:=I.cell y c e
      exact ⟨w',z.sameBut hs (cne y c e)⟩
    · obtain ⟨e,n,ne,nf,d⟩:=I.pin p hp
      exact ⟨(hs.2 p.1 ne).trans e,n,ne,nf,d⟩
  · have hfn:X.fn x=true:=by
      rcases hf with z | z
      · exact z
      · rw [z] at hk; cases hk
    obtain ⟨c,hc⟩:=I.ok.has x (.inl hk)
    obtain ⟨w',z⟩:=I.cell x c hc
    refine wpAny_storeName_cell I.ok.kind hk hc z (fun h' hc' hs=>?_)
    obtain ⟨oc,hoc,hocd⟩:=id z
    refine h { s with heap:=h' } ⟨I.ok,I.os,I.bare,⟨fun b o e n hb hx=>?_,fun b o e n hb hx=>?_,I.base.free,fun b o e hx=>?_,I.base.tups,I.base.frzs,I.base.tbls⟩,⟨m,hn.sameBut hs (Ne.symm (cne x c hc)),fun j y v' e1 e2 e3=>?_⟩,fun y c' e=>?_,I.free,I.freeC,fun p hp=>?_,tracked ⟨oc,hoc,I.freeC x c hc⟩ hs,by simpa using I.len⟩ ⟨c,hs,.inr hc⟩
    · exact (hs.2 b (Nat.ne_of_lt (Nat.lt_of_lt_of_le (Heap.lt_size e) (I.ok.cab x c hfn hc)))).trans (I.base.keep b o e n hb hx)
    · obtain ⟨sl,e1⟩:=I.base.slot b o e n hb hx
      exact ⟨sl,(hs.2 b (Nat.ne_of_lt (Nat.lt_of_lt_of_le (Heap.lt_size e) (I.ok.cab x c hfn hc)))).trans e1⟩
    · obtain ⟨o',e1⟩:=I.base.there b o e hx
      exact ⟨o',(hs.2 b (Nat.ne_of_lt (Nat.lt_of_lt_of_le (Heap.lt_size e) (I.ok.cab x c hfn hc)))).trans e1⟩
    · by_cases hj:j=i
      · subst hj
        rw [hi] at e1; cases e1
        rw [List.getElem?_set_self hiσ] at e2
        cases e2
        exact ⟨u,r,.inr ⟨.inl hk,c,hc,hc'⟩⟩
      · rw [List.getElem?_set_ne (Ne.symm hj)] at e2
        obtain ⟨u',r',q⟩:=hl j y v' e1 e2 e3
        refine ⟨u',r',?_⟩
        rcases q with q | ⟨k,c',e,z'⟩
        · exact .inl q
        · refine .inr ⟨k,c',e,z'.sameBut hs ?_⟩
          rintro rfl
          exact hj (nodup_ix hN e1 (I.ok.inj _ _ _ e hc ▸ hi))
    · by_cases hcc:c'=c
      · subst hcc; exact ⟨_,hc'⟩
      · obtain ⟨w2,z2⟩:=I.cell y c' e
        exact ⟨w2,z2.sameBut hs hcc⟩
    · obtain ⟨e,n,ne,nf,d⟩:=I.pin p hp
      refine ⟨(hs.2 p.1 ?_).trans e,n,ne,nf,d⟩
      intro q
      rw [q,hoc] at e
      have q':oc=p.2:=Option.some.inj e
      exact d w' (by rw [← q']; exact hocd)
theorem store_ok {M:Model} {A:Around} {E:Value→Shared→Prop} {i:Nat} {x:Str} {v:V} {u:Value} {Q:Unit→Shared→Prop} (I:Inv X pins σ H s) (hN:X.N.Nodup) (hi:X.N[i]?=some x) (hx:Loc X.env.scope x) (r:RelV v u)
    (h:∀ s',Inv X pins (σ.set i (some v)) H s'→Q () s') (hf:X.fn x=true∨X.env.scope.names.lookup x=some .local:=by first | exact .inl rfl | exact .inr rfl | assumption):wpAny M A (storeName X.env x u) Q E s :=
  store_ok2 I hN hi hx r (fun s' I' _=>h s' I') hf
theorem Inv.call' {s':Shared} {ch:List Addr} (I:Inv X pins σ H s) (ho:s'.os=s.os) (u:Un (frs X.stack) ch H H' s.heap s'.heap) (hok:HOk X.prog X.w H' s'.heap) (hg:AllBare s'.gens)
    (hch:∀ b ∈ ch,(b ∈ X.ex∨X.s₀.heap.objs.size≤b)∧b ≠ X.env.locals∧(∀ x c,X.env.cells.lookup x=some c→c ≠ b)∧∀ p ∈ X.pn++pins,p.1 ≠ b):Inv X pins σ H' s':=by
  obtain ⟨h',g',d',t',o'⟩:=s'
  have e:o'=s.os:=ho
  subst e
  exact I.call (g':=g') (t':=t') (d':=d') u hok hg hch
end
abbrev XK:=Value→Option Addr→Hp→Prop
abbrev St:=List (Option V)
abbrev VK:=V→Hp→Prop
abbrev TE:=St→Hp→VK→Prop
abbrev TT:=St→Hp→(Bool→Hp→Prop)→Prop
abbrev TA:=St→Hp→(List V→Hp→Prop)→Prop
structure Ends where
  nx:St→Hp→Prop
  rt:VK
  bk:St→Hp→Prop:=fun _ _=>False
  ct:St→Hp→Prop:=fun _ _=>False
abbrev TS:=Ends→St→Hp→Prop
def EP (X:Cx) (pins:List (Addr × Obj)) (σ:St) (Q:VK) (u:Value) (s':Shared):Prop:=∃ v H',Inv X pins σ H' s'∧RelV v u∧Q v H'
def TP (X:Cx) (pins:List (Addr × Obj)) (σ:St) (Q:Bool→Hp→Prop) (b:Bool) (s':Shared):Prop:=∃ H',Inv X pins σ H' s'∧Q b H'
def AP (X:Cx) (pins:List (Addr × Obj)) (σ:St) (Q:List V→Hp→Prop) (us:List Value) (s':Shared):Prop:=∃ vs H',Inv X pins σ H' s'∧Vals vs us∧Q vs H'
def SP (X:Cx) (pins:List (Addr × Obj)) (D:Ends) (f:Flow) (s':Shared):Prop :=
  match f with
  | .next=>∃ σ' H',Inv X pins σ' H' s'∧D.nx σ' H'
  | .brk=>∃ σ' H',Inv X pins σ' H' s'∧D.bk σ' H'
  | .cont=>∃ σ' H',Inv X pins σ' H' s'∧D.ct σ' H'
  | .ret u=>∃ v σ' H',Inv X pins σ' H' s'∧RelV v u∧D.rt v H'
def PE (X:Cx) (e:Expr) (t:TE):Prop :=
  ∀ (pins:List (Addr × Obj)) (s:Shared) (σ:St) (H:Hp) (Q:VK),Inv X pins σ H s→t σ H Q→wpAny (model X.prog X.w) X.A (eval e X.env) (EP X pins σ Q) X.xe s
def PT (X:Cx) (e:Expr) (t:TT):Prop :=
  ∀ (pins:List (Addr × Obj)) (s:Shared) (σ:St) (H:Hp) (Q:Bool→Hp→Prop),Inv X pins σ H s→t σ H Q→wpAny (model X.prog X.w) X.A (isTrue e X.env (eval e X.env)) (TP X pins σ Q) X.xe s
def PW (X:Cx) (e:Expr) (t:TT):Prop :=
  ∀ (whole:Sem Value) (pins:List (Addr × Obj)) (s:Shared) (σ:St) (H:Hp) (Q:Bool→Hp→Prop),Inv X pins σ H s→t σ H Q→wpAny (model X.prog X.w) X.A (isTrue e X.env whole) (TP X pins σ Q) X.xe s
theorem PW.pt {X:Cx} {e:Expr} {t:TT} (h:PW X e t):PT X e t:=h _
def PA (X:Cx) (es:List Expr) (t:TA):Prop :=
  ∀ (pos:Pos) (pins:List (Addr × Obj)) (s:Shared) (σ:St) (H:Hp) (Q:List V→Hp→Prop),Inv X pins σ H s→t σ H Q→wpAny (model X.prog X.w) X.A (spliced (backTo pos (starEach es X.env))) (AP X pins σ Q) X.xe s
def PS (X:Cx) (st:Stmt) (t:TS):Prop :=
  ∀ (pins:List (Addr × Obj)) (s:Shared) (σ:St) (H:Hp) (D:Ends),Inv X pins σ H s→t D σ H→wpAny (model X.prog X.w) X.A (exec st X.env) (SP X pins D) X.xe s
def PSs (X:Cx) (st:List Stmt) (t:TS):Prop :=
  ∀ (pins:List (Addr × Obj)) (s:Shared) (σ:St) (H:Hp) (D:Ends),Inv X pins σ H s→t D σ H→wpAny (model X.prog X.w) X.A (execs st X.env) (SP X pins D) X.xe s
theorem thn {α:Type} {t:Sem α} {Q Q':α→Shared→Prop} {M:Model} {A:Around} {E:Value→Shared→Prop} {s:Shared} (h:wpAny M A t Q E s) (hQ:∀ a s,Q a s→Q' a s):wpAny M A t Q' E s:=wpAny_mono h hQ fun _ _ x=>x
end L2
namespace L2
open PySem PySem.Spec PyProof.Rows
section
variable {X:Cx}
def tVar (i:Nat):TE:=fun σ H Q=>∃ v,σ[i]?=some (some v)∧Q v H
def tC (v:V):TE:=fun _ H Q=>Q v H
theorem pe_var {i:Nat} {x:Str} {pos:Pos} (hN:X.N[i]?=some x) (hv:Vis X.env.scope x) (hd:(x == ("__debug__" : Str))=false:=by decide) (hcd:(x == ("__classdict__" : Str))=false:=by decide):PE X (.Name x pos) (tVar i):=by
  intro pins s σ H Q I h
  obtain ⟨v,e,h⟩:=h
  obtain ⟨m,hn,hl⟩:=I.loc
  obtain ⟨u,r,l⟩:=hl i x v hN e hv
  have fin:EP X pins σ Q u s:=⟨v,H,I,r,h⟩
  rcases l with ⟨hk,hm⟩ | ⟨hk,c,hc,hcell⟩
  · exact wpAny_Name (wpAny_loadName_local I.ok.kind hk hn hm fin) hd
  · rcases hk with hk | hk
    · exact wpAny_Name (wpAny_loadName_cell I.ok.kind hk hc hcell fin) hd
    · exact wpAny_Name (wpAny_loadName_free I.ok.kind hk hc hcell fin hcd) hd
theorem pe_int {i j pos}:PE X (.Constant (.int i) j pos) (tC (.int i)):=fun _ _ _ H _ I h=>wpAny_Constant_int ⟨.int i,H,I.tok _,⟨_,rfl⟩,h⟩
theorem pe_bl {b j pos}:PE X (.Constant (.bool b) j pos) (tC (.bl b)):=fun _ _ _ H _ I h=>Constant_bool ⟨.bl b,H,I,rfl,h⟩
theorem pe_str {x j pos}:PE X (.Constant (.str x) j pos) (tC (.str x)):=fun _ _ _ H _ I h=>Calls.Constant_str ⟨.str x,H,I.tok _,⟨_,rfl⟩,h⟩
def Gl (X:Cx) (x:Str):Prop:=X.env.kindOf x=some .globalImplicit
theorem ld_glob {E:Value→Shared→Prop} {pins:List (Addr × Obj)} {s:Shared} {σ:St} {H:Hp} {x:Str} {u:Value} {pos:Pos} {Q:Value→Shared→Prop} (I:Inv X pins σ H s) (hg:Gl X x) (hm:X.mg x=some u) (h:Q u s)
    (hd:(x == ("__debug__" : Str))=false:=by decide):wpAny (model X.prog X.w) X.A (eval (.Name x pos) X.env) Q E s :=
  Calls.Name_function_global I.ok.kind hg (Calls.loadGlobal_global (by rw [I.ok.glob]; exact I.mod.glob.keeps I.bk) hm h) hd
theorem ld_blt {E:Value→Shared→Prop} {pins:List (Addr × Obj)} {s:Shared} {σ:St} {H:Hp} {x:Str} {u:Value} {pos:Pos} {Q:Value→Shared→Prop} (I:Inv X pins σ H s) (hg:Gl X x) (hm:X.mg x=none) (hv:bootBuiltins x=some u) (h:Q u s)
    (hn:x ≠ "__name__" := by decide) (hd:(x == ("__debug__" : Str))=false:=by decide):wpAny (model X.prog X.w) X.A (eval (.Name x pos) X.env) Q E s:=by
  obtain ⟨mb,h1,h2⟩:=I.mod.blt
  exact Calls.Name_function_global I.ok.kind hg (Calls.loadGlobal_builtin (by rw [I.ok.glob]; exact I.mod.glob.keeps I.bk) hm (by rw [I.ok.blt]; exact h1.keeps I.bk) ((h2 x hn).trans hv) h) hd
theorem pe_glob {x:Str} {v:V} {u:Value} {pos:Pos} (hg:Gl X x) (hm:X.mg x=some u) (r:RelV v u) (hd:(x == ("__debug__" : Str))=false:=by decide):PE X (.Name x pos) (tC v) :=
  fun _ _ _ H _ I h=>ld_glob I hg hm ⟨v,H,I,r,h⟩ hd
theorem pe_bltn {x:Str} {v:V} {u:Value} {pos:Pos} (hg:Gl X x) (hm:X.mg x=none) (hv:bootBuiltins x=some u) (r:RelV v u) (hn:x ≠ "__name__" := by decide) (hd:(x == ("__debug__" : Str))=false:=by decide):PE X (.Name x pos) (tC v) :=
  fun _ _ _ H _ I h=>ld_blt I hg hm hv ⟨v,H,I,r,h⟩ hn hd
def t2I (ta tb:TE) (k:Int→Int→Hp→Prop):St→Hp→Prop:=fun σ H=>ta σ H fun x H1=>tb σ H1 fun y H2=>∃ i j,x=.int i∧y=.int j∧k i j H2
def tAdd (ta tb:TE):TE:=fun σ H Q=>t2I ta tb (fun i j H2=>Q (.int (i+j)) H2) σ H
def tSub (ta tb:TE):TE:=fun σ H Q=>t2I ta tb (fun i j H2=>Q (.int (i - j)) H2) σ H
def tMul (ta tb:TE):TE:=fun σ H Q=>t2I ta tb (fun i j H2=>(-(2 ^ 64) < i∧i < 2 ^ 64)∧Q (.int (i*j)) H2) σ H
variable {a b:Expr} {ta tb:TE} {pos:Pos}
def PC (X:Cx) (op:CmpOp) (a b:Expr) (t:TE):Prop :=
  ∀ (pins:List (Addr × Obj)) (s:Shared) (σ:St) (H:Hp) (Q:VK),Inv X pins σ H s→t σ H Q →
    wpAny (model X.prog X.w) X.A (eval a X.env) (fun v s₁=>wpAny (model X.prog X.w) X.A (eval b X.env) (fun u s₂=>wpAny (model X.prog X.w) X.A (compareOp op v u) (EP X pins σ Q) X.xe s₂) X.xe s₁) X.xe s
def tCmp (p:Int→Int→Bool) (ta tb:TE):TE:=fun σ H Q=>t2I ta tb (fun i j H2=>Q (.bl (p i j)) H2) σ H
abbrev tLt:TE→TE→TE:=tCmp fun i j=>decide (i < j)
abbrev tLe:TE→TE→TE:=tCmp fun i j=>decide (i≤j)
abbrev tGt:TE→TE→TE:=tCmp fun i j=>decide (j < i)
abbrev tGe:TE→TE→TE:=tCmp fun i j=>decide (j≤i)
abbrev tEqI:TE→TE→TE:=tCmp fun i j=>decide (i=j)
abbrev tNeI:TE→TE→TE:=tCmp fun i j=>!decide (i=j)
def tIsN (ta:TE):TE:=fun σ H Q=>ta σ H fun x H1=>Q (.bl (decide (x=.non))) H1
def tNotN (ta:TE):TE:=fun σ H Q=>ta σ H fun x H1=>Q (.bl (!decide (x=.non))) H1
def tB (t:TE):TT:=fun σ H Q=>t σ H fun x H1=>∃ c,x=.bl c∧Q c H1
theorem pt_val {e:Expr} {t:TE} (h:PE X e t) (he:∀ whole,isTrue e X.env whole=(do let v ← whole; standAt e.pos; holding [v] (truthy v)):=by intro _; rfl):PT X e (tB t):=by
  intro pins s σ H Q I hw
  refine isTrue_plain (thn (h pins s σ H _ I hw) fun v s1 ⟨x,H1,I1,r1,q1⟩=>?_) (he _)
  obtain ⟨d,rfl,q⟩:=q1
  cases r1
  exact wpAny_truthy_bool ⟨H1,I1,q⟩
variable {tA tB':TT} {rest:List Expr}
def tAnd (t u:TT):TT:=fun σ H Q=>t σ H fun c H1=>if c=true then u σ H1 Q else Q false H1
def tOr (t u:TT):TT:=fun σ H Q=>t σ H fun c H1=>if c=true then Q true H1 else u σ H1 Q
def tNot (t:TT):TT:=fun σ H Q=>t σ H fun c H1=>Q (!c) H1
theorem pw_and1 (ha:PT X a tA):PW X (.BoolOp .And [a] pos) tA:=by
  intro wh pins s σ H Q I h
  refine isTrue_and (thn (ha pins s σ H Q I h) fun c s1 e=>?_)
  cases c with
  | true=>exact isTrue_and_nil e
  | false=>exact e
theorem pw_or1 (ha:PT X a tA):PW X (.BoolOp .Or [a] pos) tA:=by
  intro wh pins s σ H Q I h
  refine isTrue_or (thn (ha pins s σ H Q I h) fun c s1 e=>?_)
  cases c with
  | false=>exact isTrue_or_nil e
  | true=>exact e
theorem pw_and (ha:PT X a tA) (hb:PW X (.BoolOp .And (b::rest) pos) tB'):PW X (.BoolOp .And (a::b::rest) pos) (tAnd tA tB'):=by
  intro wh pins s σ H Q I h
  refine isTrue_and (thn (ha pins s σ H _ I h) fun c s1 ⟨H1,I1,q1⟩=>?_)
  cases c with
  | true=>exact hb wh pins s1 σ H1 Q I1 q1
  | false=>exact ⟨H1,I1,q1⟩
theorem pw_or (ha:PT X a tA) (hb:PW X (.BoolOp .Or (b::rest) pos) tB'):PW X (.BoolOp .Or (a::b::rest) pos) (tOr tA tB'):=by
  intro wh pins s σ H Q I h
  refine isTrue_or (thn (ha pins s σ H _ I h) fun c s1 ⟨H1,I1,q1⟩=>?_)
  cases c with
  | true=>exact ⟨H1,I1,q1⟩
  | false=>exact hb wh pins s1 σ H1 Q I1 q1
theorem pt_not (ha:PT X a tA):PT X (.UnaryOp .Not a pos) (tNot tA):=by
  intro pins s σ H Q I h
  exact isTrue_not (ha pins s σ H (fun c H1=>Q (!c) H1) I h)
def tAndV (ta tb:TE):TE:=fun σ H Q=>ta σ H fun x H1=>∃ c,x=.bl c∧if c=true then tb σ H1 Q else Q (.bl false) H1
def tOrV (ta tb:TE):TE:=fun σ H Q=>ta σ H fun x H1=>∃ c,x=.bl c∧if c=true then Q (.bl true) H1 else tb σ H1 Q
def tNotV (ta:TE):TE:=fun σ H Q=>ta σ H fun x H1=>∃ c,x=.bl c∧Q (.bl (!c)) H1
theorem pe_one {op} {t:TE} (h:PE X a t):PE X (.BoolOp op [a] pos) t:=fun pins s σ H Q I hw=>BoolOp_one (h pins s σ H Q I hw)
theorem pe_and (ha:PE X a ta) (hb:PE X (.BoolOp .And (b::rest) pos) tb):PE X (.BoolOp .And (a::b::rest) pos) (tAndV ta tb):=by
  intro pins s σ H Q I h
  refine BoolOp_and (thn (ha pins s σ H _ I h) fun v s1 ⟨x,H1,I1,r1,q1⟩=>?_)
  obtain ⟨c,rfl,q1⟩:=q1
  cases r1
  refine wpAny_truthy_bool ?_
  cases c with
  | true=>exact hb pins s1 σ H1 Q I1 q1
  | false=>exact ⟨.bl false,H1,I1,rfl,q1⟩
def tIf (t:TT) (ta tb:TE):TE:=fun σ H Q=>t σ H fun c H1=>if c=true then ta σ H1 Q else tb σ H1 Q
end
end L2
namespace L2
open PySem PySem.Spec PyProof.Rows
def SqL (K:PySem.W.Frag) (H:Hp) (a:Addr) (xs:List V):Prop :=
  Rd H a (.lst xs) ∨
    ∃ (o:Obj) (its:Array Value) (n:Nat),K.lookup a=some o∧o.cls=.type "list" ∧ o.dict=none∧o.data=.seq its n∧its.size≤sizeLine∧Vals xs its.toList
def SqT (K:PySem.W.Frag) (H:Hp) (a:Addr) (xs:List V):Prop :=
  Rd H a (.tup xs) ∨
    ∃ (o:Obj) (its:Array Value) (n:Nat),K.lookup a=some o∧o.cls=.type "tuple" ∧ o.data=.seq its n∧its.size≤sizeLine∧Vals xs its.toList
def absV:Value→Option V
  | .none=>some .non
  | .bool b=>some (.bl b)
  | .int i _=>some (.int i)
  | .str x _=>some (.str x)
  | .bytes b _=>some (.byt b)
  | .float b _=>some (.flt b)
  | .ref a=>some (.ref a)
  | .type n=>some (.ty n)
  | _=>none
theorem RelV.abs {x:V} {u:Value} (r:RelV x u):absV u=some x:=by
  cases x with
  | non=>cases r; rfl
  | bl _=>cases r; rfl
  | int _=>obtain ⟨t,rfl⟩:=r; rfl
  | str _=>obtain ⟨t,rfl⟩:=r; rfl
  | byt _=>obtain ⟨t,rfl⟩:=r; rfl
  | flt _=>obtain ⟨t,rfl⟩:=r; rfl
  | ref _=>cases r; rfl
  | ty _=>cases r; rfl
theorem RelV.inj {x y:V} {u:Value} (r:RelV x u) (q:RelV y u):x=y:=Option.some.inj (r.abs.symm.trans q.abs)
theorem Vals.inj:∀ {xs ys:List V} {us:List Value},Vals xs us→Vals ys us→xs=ys
  | _,_,_,.nil,.nil=>rfl
  | _,_,_,.cons r t,.cons r' t'=>by rw [r.inj r',Vals.inj t t']
section
variable {X:Cx} {pins:List (Addr × Obj)} {σ:St} {H:Hp} {s:Shared} {a:Addr} {xs ys:List V}
theorem SqL.of {K:PySem.W.Frag} (h:H a=some (.lst xs)):SqL K H a xs:=.inl (.inl h)
theorem SqT.of {K:PySem.W.Frag} (h:H a=some (.tup xs)):SqT K H a xs:=.inl (.inl h)
theorem Inv.list (I:Inv X pins σ H s) (h:SqL X.K H a xs):∃ its:List Value,Vals xs its∧PlainL s.heap a its.toArray∧xs.length≤sizeLine:=by
  rcases h with h | ⟨o,its,n,hk,hc,hd,hs,hz,r⟩
  · obtain ⟨z,its,n,r,e⟩:=h.ok I.hok
    exact ⟨its,r,⟨_,n,e,rfl,rfl,rfl⟩,z⟩
  · refine ⟨its.toList,r,⟨o,n,I.kIn a o hk,hc,hd,by simpa using hs⟩,?_⟩
    have e:=r.length
    simp only [Array.length_toList] at e
    omega
theorem Inv.tuple (I:Inv X pins σ H s) (h:SqT X.K H a xs):∃ its:List Value,Vals xs its∧IsTup s.heap a its.toArray∧xs.length≤sizeLine:=by
  rcases h with h | ⟨o,its,n,hk,hc,hs,hz,r⟩
  · obtain ⟨z,its,r,p,_⟩:=h.ok I.hok
    exact ⟨its,r,p,z⟩
  · refine ⟨its.toList,r,⟨o,I.kIn a o hk,hc,n,by simpa using hs⟩,?_⟩
    have e:=r.length
    simp only [Array.length_toList] at e
    omega
theorem Inv.list_inj (I:Inv X pins σ H s) (h:SqL X.K H a xs) (h':SqL X.K H a ys):xs=ys:=by
  obtain ⟨its,r,⟨o,n,e,_,_,d⟩,_⟩:=I.list h
  obtain ⟨its',r',⟨o',n',e',_,_,d'⟩,_⟩:=I.list h'
  rw [e] at e'; cases e'
  rw [d] at d'
  injection d' with d1 _
  have:its=its':=by simpa using congrArg Array.toList d1
  subst this
  exact r.inj r'
theorem Inv.tuple_inj (I:Inv X pins σ H s) (h:SqT X.K H a xs) (h':SqT X.K H a ys):xs=ys:=by
  obtain ⟨its,r,⟨o,e,_,n,d⟩,_⟩:=I.tuple h
  obtain ⟨its',r',⟨o',e',_,n',d'⟩,_⟩:=I.tuple h'
  rw [e] at e'; cases e'
  rw [d] at d'
  injection d' with d1 _
  have:its=its':=by simpa using congrArg Array.toList d1
  subst this
  exact r.inj r'
end
abbrev Cx.wish (X:Cx) (E:Value→Shared→Prop):Cx:={ X with xe:=E }
abbrev Cx.nox (X:Cx):Cx:=X.wish fun _ _=>False
theorem Cx.Ok.wish {X:Cx} (ok:X.Ok) (E:Value→Shared→Prop):(X.wish E).Ok :=
  ⟨ok.mod,ok.kind,ok.glob,ok.blt,ok.above,ok.inj,ok.has,ok.cab,ok.hd,ok.frames,ok.stk,ok.exf,ok.bs,ok.bsz,ok.noex,ok.exfs,ok.funs,ok.frf⟩
theorem Cx.Ok.unwish {X:Cx} {E:Value→Shared→Prop} (ok:(X.wish E).Ok):X.Ok :=
  ⟨ok.mod,ok.kind,ok.glob,ok.blt,ok.above,ok.inj,ok.has,ok.cab,ok.hd,ok.frames,ok.stk,ok.exf,ok.bs,ok.bsz,ok.noex,ok.exfs,ok.funs,ok.frf⟩
section
variable {X:Cx} {pins:List (Addr × Obj)} {σ:St} {H:Hp} {s:Shared} {E:Value→Shared→Prop}
theorem Inv.wish (I:Inv X pins σ H s) (E:Value→Shared→Prop):Inv (X.wish E) pins σ H s:=⟨I.ok.wish E,I.os,I.bare,I.base,I.loc,I.cell,I.free,I.freeC,I.pin,I.hok,I.len⟩
theorem Inv.unwish (I:Inv (X.wish E) pins σ H s):Inv X pins σ H s:=⟨I.ok.unwish,I.os,I.bare,I.base,I.loc,I.cell,I.free,I.freeC,I.pin,I.hok,I.len⟩
theorem SP.unwish {D:Ends} {f:Flow} {s':Shared} (h:SP (X.wish E) pins D f s'):SP X pins D f s':=by
  cases f with
  | next=>obtain ⟨σ',H',I,q⟩:=h; exact ⟨σ',H',I.unwish,q⟩
  | brk=>obtain ⟨σ',H',I,q⟩:=h; exact ⟨σ',H',I.unwish,q⟩
  | cont=>obtain ⟨σ',H',I,q⟩:=h; exact ⟨σ',H',I.unwish,q⟩
  | ret u=>obtain ⟨v,σ',H',I,r,q⟩:=h; exact ⟨v,σ',H',I.unwish,r,q⟩
theorem PSs.nox {st:List Stmt} {t:TS} (h:PSs X.nox st t):PSs X st t:=fun pins s σ H D I hw =>
  wpAny_mono (h pins s σ H D (I.wish _) hw) (fun _ _ q=>q.unwish) fun _ _ z=>False.elim z
end
section
variable {X:Cx} {st:Stmt} {rest:List Stmt} {t u:TS} {e:Expr} {te:TE} {pos:Pos}
def tNext:TS:=fun D σ H=>D.nx σ H
def tSeq (t u:TS):TS:=fun D σ H=>t { D with nx:=u D } σ H
theorem pss_nil:PSs X [] tNext:=fun _ _ σ H _ I h=>wpAny_execs_nil ⟨σ,H,I,h⟩
theorem pss_cons (h1:PS X st t) (h2:PSs X rest u):PSs X (st::rest) (tSeq t u):=by
  intro pins s σ H D I h
  refine wpAny_execs_cons (thn (h1 pins s σ H { D with nx:=u D } I h) fun f s1 q=>?_)
  cases f with
  | next =>
    obtain ⟨σ',H',I',q⟩:=q
    exact h2 pins s1 σ' H' D I' q
  | ret v=>exact q
  | brk=>exact q
  | cont=>exact q
theorem pss_one (h1:PS X st t):PSs X [st] t:=by
  intro pins s σ H D I h
  refine wpAny_execs_cons (thn (h1 pins s σ H D I h) fun f s1 q=>?_)
  cases f with
  | next=>exact wpAny_execs_nil q
  | ret v=>exact q
  | brk=>exact q
  | cont=>exact q
def tBreak:TS:=fun D σ H=>D.bk σ H
def tCont:TS:=fun D σ H=>D.ct σ H
theorem Inv.quiet {pins:List (Addr × Obj)} {σ:St} {H:Hp} {s:Shared} (I:Inv X pins σ H s):interactive X.env=false:=by simp [interactive,I.ok.kind]
def tDrop (te:TE):TS:=fun D σ H=>te σ H fun _ H1=>D.nx σ H1
theorem ps_expr (he:PE X e te) (hs:swapsWith e none pos.line X.env=pure false:=by rfl):PS X (.Expr e pos) (tDrop te):=by
  intro pins s σ H D I h
  exact wpAny_Expr_any (thn (he pins s σ H _ I h) fun v s1 ⟨x,H1,I1,r1,q1⟩=>⟨σ,H1,I1,q1⟩) I.quiet hs
def tRet (te:TE):TS:=fun D σ H=>te σ H D.rt
theorem ps_ret (he:PE X e te):PS X (.Return (some e) pos) (tRet te):=by
  intro pins s σ H D I h
  exact wpAny_Return_some (thn (he pins s σ H _ I h) fun v s1 ⟨x,H1,I1,r1,q1⟩=>⟨x,σ,H1,I1,r1,q1⟩)
def tRetN:TS:=fun D _ H=>D.rt .non H
def tIfS (c:TT) (t u:TS):TS:=fun D σ H=>c σ H fun b H1=>if b=true then t D σ H1 else u D σ H1
theorem ps_if {c:Expr} {a b:List Stmt} {tc:TT} (hc:PT X c tc) (ha:PSs X a t) (hb:PSs X b u):PS X (.If c a b pos) (tIfS tc t u):=by
  intro pins s σ H D I h
  refine wpAny_If (thn (hc pins s σ H _ I h) fun d s1 ⟨H1,I1,q1⟩=>?_)
  cases d with
  | true=>exact ha pins s1 σ H1 D I1 q1
  | false=>exact hb pins s1 σ H1 D I1 q1
def tNever:TS:=fun _ _ _=>False
end
abbrev TG:=V→St→Hp→(St→Hp→Prop)→Prop
abbrev TGs:=List V→St→Hp→(St→Hp→Prop)→Prop
def PG (X:Cx) (target:Expr) (t:TG):Prop :=
  ∀ (pins:List (Addr × Obj)) (s:Shared) (σ:St) (H:Hp) (v:V) (u:Value) (Q:St→Hp→Prop),Inv X pins σ H s→RelV v u→t v σ H Q →
    wpAny (model X.prog X.w) X.A (assign target X.env u) (fun _ s'=>∃ σ' H',Inv X pins σ' H' s'∧Q σ' H') X.xe s
def PGs (X:Cx) (ts:List Expr) (t:TGs):Prop :=
  ∀ (pins:List (Addr × Obj)) (s:Shared) (σ:St) (H:Hp) (vs:List V) (us:List Value) (Q:St→Hp→Prop),Inv X pins σ H s→Vals vs us→t vs σ H Q →
    wpAny (model X.prog X.w) X.A (assignInOrder ((assignEach ts X.env).map (·.2)) us) (fun _ s'=>∃ σ' H',Inv X pins σ' H' s'∧Q σ' H') X.xe s
abbrev TSet:=V→V→V→Hp→(Hp→Prop)→Prop
def PSet (X:Cx) (t:TSet):Prop :=
  ∀ (pins:List (Addr × Obj)) (s:Shared) (σ:St) (H:Hp) (o i v:V) (ov iv u:Value) (Q:Hp→Prop),Inv X pins σ H s→RelV o ov→RelV i iv→RelV v u→t o i v H Q →
    wpAny (model X.prog X.w) X.A (setItem ov iv u) (fun _ s'=>∃ H',Inv X pins σ H' s'∧Q H') X.xe s
abbrev TIp:=V→V→Hp→VK→Prop
def PIp (X:Cx) (op:Operator) (t:TIp):Prop :=
  ∀ (pins:List (Addr × Obj)) (s:Shared) (σ:St) (H:Hp) (x y:V) (v u:Value) (Q:VK),Inv X pins σ H s→RelV x v→RelV y u→t x y H Q →
    wpAny (model X.prog X.w) X.A (inplaceOp op v u) (EP X pins σ Q) X.xe s
section
variable {X:Cx} {pos:Pos}
def gName (i:Nat):TG:=fun v σ H Q=>Q (σ.set i (some v)) H
theorem pg_name {i:Nat} {x:Str} (hN:X.N.Nodup) (hi:X.N[i]?=some x) (hx:Loc X.env.scope x) (hf:X.fn x=true∨X.env.scope.names.lookup x=some .local:=by first | exact .inl rfl | exact .inr rfl | assumption):PG X (.Name x pos) (gName i):=by
  intro pins s σ H v u Q I r h
  exact wpAny_assign_Name (store_ok I hN hi hx r (fun s' I'=>⟨_,H,I',h⟩) hf)
def gNil:TGs:=fun vs σ H Q=>vs=[]∧Q σ H
def gCons (t:TG) (u:TGs):TGs:=fun vs σ H Q=>∃ v r,vs=v::r∧t v σ H fun σ' H'=>u r σ' H' Q
theorem pgs_nil:PGs X [] gNil:=by
  intro pins s σ H vs us Q I r h
  obtain ⟨e,h⟩:=h
  subst e
  cases r
  exact assignInOrder_nil ⟨σ,H,I,h⟩
theorem pgs_cons {e:Expr} {es:List Expr} {t:TG} {u:TGs} (h1:PG X e t) (h2:PGs X es u)
    (hs:(assignEach (e::es) X.env).map (·.2)=assign e X.env::(assignEach es X.env).map (·.2):=by rfl):PGs X (e::es) (gCons t u):=by
  intro pins s σ H vs us Q I r h
  obtain ⟨v,vr,e1,h⟩:=h
  subst e1
  cases r with
  | cons r rr =>
    rw [hs]
    refine assignInOrder_cons (thn (h1 pins s σ H _ _ _ I r h) fun _ s1 ⟨σ1,H1,I1,q1⟩=>?_)
    exact h2 pins s1 σ1 H1 _ _ Q I1 rr q1
def gTup (K:PySem.W.Frag) (n:Nat) (t:TGs):TG:=fun v σ H Q=>∃ a xs,v=.ref a∧SqT K H a xs∧xs.length=n∧t xs σ H Q
theorem pg_tup {es:List Expr} {k:Nat} {t:TGs} {n:Nat} (hc:X.calm=true) (h:PGs X es t)
    (hn:(assignEach es X.env).length=n:=by rfl) (hst:(assignEach es X.env).findIdx? (·.1)=none:=by rfl):PG X (.Tuple es k pos) (gTup X.K n t):=by
  intro pins s σ H v u Q I r hw
  obtain ⟨a,xs,e1,hq,hl,hw⟩:=hw
  subst e1
  cases r
  obtain ⟨its,rv,ht,hz⟩:=I.tuple hq
  refine assign_Tuple_tuple (I.ok.hd hc) ht (by simp [hn,← hl,rv.length]) hst fun h' hx=>?_
  have I1:Inv X pins σ H { s with heap:=h' }:=I.kept (t':=s.toks) fun b o e=>hx b o (Nat.ne_of_lt (Heap.lt_size e)) e
  exact h pins _ σ H xs _ Q I1 (by simpa using rv) hw
def gSub (to ti:TE) (t:TSet):TG:=fun v σ H Q=>to σ H fun o H1=>ti σ H1 fun i H2=>t o i v H2 fun H3=>Q σ H3
theorem pg_sub {o i:Expr} {to ti:TE} {t:TSet} (ho:PE X o to) (hi:PE X i ti) (hs:PSet X t)
    (ha:∀ v,assign (.Subscript o i pos) X.env v=(do
      let ov ← holding [v] (eval o X.env)
      let iv ← holding [v,ov] (eval i X.env)
      standAt pos
      holding [v,ov,iv] (setItem ov iv v)
      release [v,ov,iv] []):=by intro _; rfl):PG X (.Subscript o i pos) (gSub to ti t):=by
  intro pins s σ H v u Q I r h
  rw [ha]
  refine wpAny_bind (wpAny_holding (thn (ho pins s σ H _ I h) fun ov s1 ⟨x,H1,I1,r1,q1⟩=>?_))
  refine wpAny_bind (wpAny_holding (thn (hi pins s1 σ H1 _ I1 q1) fun iv s2 ⟨y,H2,I2,r2,q2⟩=>?_))
  refine wpAny_bind (wpAny_standAt (wpAny_bind (wpAny_holding (thn (hs pins s2 σ H2 x y v ov iv u _ I2 r1 r2 r q2) fun _ s3 ⟨H3,I3,q3⟩=>?_))))
  exact wpAny_release ⟨σ,H3,I3,q3⟩
def tAsg (te:TE) (g:TG):TS:=fun D σ H=>te σ H fun x H1=>g x σ H1 D.nx
theorem ps_asg {tg e:Expr} {te:TE} {g:TG} (he:PE X e te) (hg:PG X tg g) (hs:swapsWithSole [tg] e pos.line X.env=pure false:=by rfl) (hw:swappedStores [tg] e X.env=pure none:=by rfl)
    (h1:(assignEach [tg] X.env).map (·.2)=[assign tg X.env]:=by rfl):PS X (.Assign [tg] e pos) (tAsg te g):=by
  intro pins s σ H D I h
  refine wpAny_Assign_stores (thn (he pins s σ H _ I h) fun v s1 ⟨x,H1,I1,r1,q1⟩=>?_) hs hw
  rw [h1]
  exact thn (hg pins s1 σ H1 x v _ I1 r1 q1) fun _ s2 q=>q
theorem ps_set {i:Nat} {x:Str} {e:Expr} {te:TE} {pos':Pos} (hN:X.N.Nodup) (hi:X.N[i]?=some x) (hx:Loc X.env.scope x) (he:PE X e te) (hs:swapsWith e (some (.Name x pos')) pos.line X.env=pure false:=by rfl) (hf:X.fn x=true∨X.env.scope.names.lookup x=some .local:=by first | exact .inl rfl | exact .inr rfl | assumption) :
    PS X (.Assign [.Name x pos'] e pos) (tAsg te (gName i)):=by
  intro pins s σ H D I h
  refine wpAny_Assign_Name (thn (he pins s σ H _ I h) fun v s1 ⟨y,H1,I1,r1,q1⟩=>?_) hs
  exact store_ok I1 hN hi hx r1 (fun s2 I2=>⟨_,H1,I2,q1⟩) hf
def tPar (i j:Nat) (ta:TA):TS:=fun D σ H=>ta σ H fun vs H1=>∃ v w,vs=[v,w]∧D.nx ((σ.set i (some v)).set j (some w)) H1
def tAug (i:Nat) (te:TE) (ti:TIp):TS:=fun D σ H=>∃ x,σ[i]?=some (some x)∧te σ H fun y H1=>ti x y H1 fun z H2=>D.nx (σ.set i (some z)) H2
def tAugS (to ti te:TE) (tget:V→V→Hp→VK→Prop) (tip:TIp) (tset:TSet):TS:=fun D σ H=>to σ H fun o H1=>ti σ H1 fun i H2=>tget o i H2 fun x H3=>te σ H3 fun y H4=>tip x y H4 fun z H5=>tset o i z H5 fun H6=>D.nx σ H6
def PGet (X:Cx) (t:V→V→Hp→VK→Prop):Prop :=
  ∀ (pins:List (Addr × Obj)) (s:Shared) (σ:St) (H:Hp) (o i:V) (ov iv:Value) (Q:VK),Inv X pins σ H s→RelV o ov→RelV i iv→t o i H Q →
    wpAny (model X.prog X.w) X.A (getItem ov iv) (EP X pins σ Q) X.xe s
def ipI (f:Int→Int→Int):TIp:=fun x y H Q=>∃ i j,x=.int i∧y=.int j∧Q (.int (f i j)) H
end
section
variable {X:Cx} {pos:Pos}
def tWhile (c:TT) (tb:TS):TS:=fun D σ H=>∃ W:Nat→St→Hp→Prop,(∃ m,W m σ H)∧∀ m σ H,W m σ H →
  c σ H fun b H1=>if b=true then ∃ N:St→Hp→Prop,(∀ σ' H',N σ' H'→∃ m',m' < m∧W m' σ' H')∧tb { D with nx:=N,ct:=N,bk:=D.nx } σ H1 else D.nx σ H1
theorem ps_while {c:Expr} {body:List Stmt} {tc:TT} {tb:TS} (hp:PassesOwn (model X.prog X.w) X.A X.env X.xe) (hc:PT X c tc) (hb:PSs X body tb):PS X (.While c body [] pos) (tWhile tc tb):=by
  intro pins s σ H D I h
  obtain ⟨W,⟨m0,w0⟩,turn⟩:=h
  refine wpAny_While (codeAny_whileLoop (fun n s'=>∃ σ' H',Inv X pins σ' H' s'∧W n σ' H') ?_ m0 ⟨σ,H,I,w0⟩)
  rintro n s1 ⟨σ1,H1,I1,w1⟩
  refine wpAny_passesOwn hp (thn (hc pins s1 σ1 H1 _ I1 (turn n σ1 H1 w1)) fun b s2 ⟨H2,I2,q2⟩=>?_)
  cases b with
  | true =>
    obtain ⟨N,hN,q2⟩:=q2
    rw [if_pos rfl]
    refine wpAny_passesOwn hp (thn (hb pins s2 σ1 H2 _ I2 q2) fun f s3 q3=>?_)
    cases f with
    | next =>
      obtain ⟨σ3,H3,I3,n3⟩:=q3
      obtain ⟨m',hm,w3⟩:=hN σ3 H3 n3
      exact ⟨m',hm,σ3,H3,I3,w3⟩
    | cont =>
      obtain ⟨σ3,H3,I3,n3⟩:=q3
      obtain ⟨m',hm,w3⟩:=hN σ3 H3 n3
      exact ⟨m',hm,σ3,H3,I3,w3⟩
    | brk=>exact q3
    | ret v=>exact q3
  | false =>
    rw [if_neg Bool.false_ne_true]
    exact wpAny_execs_nil ⟨σ1,H2,I2,q2⟩
end
structure It where
  go:Nat→Hp→Prop
  yld:Nat→Hp→V→Hp→Prop
  stop:Nat→Hp→Prop
def FpOk (X:Cx) (pins:List (Addr × Obj)) (H:Hp) (b:Addr):Prop :=
  H b=none∧b ≠ X.env.locals∧b ∉ X.fs∧(b ∈ X.ex∨X.s₀.heap.objs.size≤b)∧(∀ x c,X.env.cells.lookup x=some c→c ≠ b)∧∀ p ∈ X.pn++pins,p.1 ≠ b
theorem Inv.fpOk {X:Cx} {pins:List (Addr × Obj)} {σ:St} {H H':Hp} {s:Shared} {b:Addr} (I:Inv X pins σ H s) (hb:s.heap.objs.size≤b) (hn:H' b=none):FpOk X pins H' b:=by
  refine ⟨hn,Nat.ne_of_gt (Nat.lt_of_lt_of_le I.lt hb),I.nofs hb,.inr (Nat.le_trans I.sz hb),fun x c e z=>?_,fun p hp z=>?_⟩
  · obtain ⟨v,q⟩:=I.cell x c e
    exact absurd (Nat.lt_of_lt_of_le q.lt (by rw [z]; exact hb)) (Nat.lt_irrefl _)
  · exact absurd (Nat.lt_of_lt_of_le (Heap.lt_size (I.pin p hp).1) (by rw [z]; exact hb)) (Nat.lt_irrefl _)
structure Turn (P:Program) (w:World) (K:PySem.W.Frag) (tg:Expr) (J:It) (fp:List Addr) (it:Addr) (tn:Nat→Heap→Prop):Prop where
  mem:it ∈ fp
  obj:∀ i h,tn i h→∀ b ∈ fp,∃ o,h.get? b=some o∧∀ v,o.data ≠ .cell v
  keep:∀ i h h',tn i h→(∀ b ∈ fp,∀ o,h.get? b=some o→h'.get? b=some o)→tn i h'
  item:∀ (X:Cx),X.prog=P→X.w=w→X.K=K→X.calm=true→∀ (i:Nat) (pins:List (Addr × Obj)) (s:Shared) (σ:St) (H:Hp) (E:Value→Shared→Prop),Inv X pins σ H s→(∀ b ∈ fp,FpOk X pins H b)→tn i s.heap→J.go i H →
    wpAny (model P w) X.A (pyNext (.ref it)) (fun r s1=>∃ u,r=some u ∧
      wpAny (model P w) X.A (letOwnedTupleGo tg (.ref it) u) (fun _ s2=>∃ x H',Inv X pins σ H' s2∧RelV x u∧J.yld i H x H'∧tn (i+1) s2.heap∧∀ b ∈ fp,H' b=none) E s1) E s
  done:∀ (X:Cx),X.prog=P→X.w=w→X.K=K→X.calm=true→∀ (i:Nat) (pins:List (Addr × Obj)) (s:Shared) (σ:St) (H:Hp) (E:Value→Shared→Prop),Inv X pins σ H s→(∀ b ∈ fp,FpOk X pins H b)→tn i s.heap→J.stop i H →
    wpAny (model P w) X.A (pyNext (.ref it)) (fun r s1=>r=none∧Inv X pins σ H s1) E s
  self:∀ (A:Around) (i:Nat) (s:Shared) (Q:Value→Shared→Prop) (E:Value→Shared→Prop),tn i s.heap→Q (.ref it) s→wpAny (model P w) A (pyIter (.ref it)) Q E s
abbrev TI:=St→Hp→(It→Hp→Prop)→Prop
def PIE (X:Cx) (pins:List (Addr × Obj)) (σ:St) (tg:Expr) (R:It→Hp→Prop) (itv:Value) (s2:Shared):Prop :=
  ∃ (it:Addr) (fp:List Addr) (tn:Nat→Heap→Prop) (J:It) (H':Hp),itv=.ref it∧Inv X pins σ H' s2∧Turn X.prog X.w X.K tg J fp it tn∧tn 0 s2.heap∧(∀ b ∈ fp,FpOk X pins H' b)∧R J H'
def PI (X:Cx) (tg iter:Expr) (wi:TI):Prop :=
  ∀ (pins:List (Addr × Obj)) (s:Shared) (σ:St) (H:Hp) (R:It→Hp→Prop),Inv X pins σ H s→wi σ H R →
    wpAny (model X.prog X.w) X.A (eval iter X.env) (fun v s1=>wpAny (model X.prog X.w) X.A (pyIter v) (PIE X pins σ tg R) X.xe s1) X.xe s
theorem go_of {M:Model} {A:Around} {E:Value→Shared→Prop} {s:Shared} {tg:Expr} {it:Addr} {u:Value} {o:Obj} {n:String} {vs:Array Value} {Q:Unit→Shared→Prop} (ho:s.heap.get? it=some o) (hc:o.cls=.type n) (hd:o.data=.fields vs)
    (hn:["enumerate", "zip", "dict_itemiterator", "dict_reverseitemiterator", "odict_iterator", "itertools.zip_longest", "itertools.pairwise"].contains n=false) (hQ:Q () s):wpAny M A (letOwnedTupleGo tg (.ref it) u) Q E s:=by
  unfold letOwnedTupleGo
  cases tg <;> first
    | exact wpAny_pure hQ
    | (cases u <;> first
        | exact wpAny_pure hQ
        | (refine wpAny_bind (wpAny_load ho ?_)
           rw [hc,hd]
           show wpAny M A (if (["enumerate", "zip", "dict_itemiterator", "dict_reverseitemiterator", "odict_iterator", "itertools.zip_longest", "itertools.pairwise"].contains n && vs[0]? == some (rawInt _))=true then _ else _) Q E s
           rw [if_neg (by intro h; rw [hn,Bool.false_and] at h; cases h)]
           exact wpAny_pure hQ))
def Itl (K:PySem.W.Frag) (a:Addr):It :=
  ⟨fun i H=>∃ xs x,SqL K H a xs∧xs[i]?=some x,fun i H x H'=>H'=H∧∀ xs,SqL K H a xs→xs[i]?=some x,fun i H=>∃ xs,SqL K H a xs∧xs.length≤i⟩
def Itt (K:PySem.W.Frag) (a:Addr):It :=
  ⟨fun i H=>∃ xs x,SqT K H a xs∧xs[i]?=some x,fun i H x H'=>H'=H∧∀ xs,SqT K H a xs→xs[i]?=some x,fun i H=>∃ xs,SqT K H a xs∧xs.length≤i⟩
def Itr (lo:Int) (n:Nat):It:=⟨fun i _=>i < n,fun i H x H'=>H'=H∧x=.int (lo+i),fun i _=>n≤i⟩
theorem turn_list {P:Program} {w:World} {K:PySem.W.Frag} {tg:Expr} (a it:Addr):Turn P w K tg (Itl K a) [it] it (fun i h=>h.IsListIter it a i) where
  mem:=by simp
  obj:=fun i h st b hb=>by
    have e:b=it:=by simpa using hb
    subst e
    obtain ⟨o,e,c,d⟩:=st
    exact ⟨o,e,fun v z=>by rw [d] at z; cases z⟩
  keep:=fun i h h' st k=>st.at fun o e=>k it (by simp) o e
  item:=by
    intro X hP hw hK hc i pins s σ H E I hf st hg
    subst hP hw hK
    obtain ⟨xs,x,hq,hx⟩:=hg
    obtain ⟨its,rv,p,hz⟩:=I.list hq
    obtain ⟨u,hu,ru⟩:=rv.get hx
    obtain ⟨f0,f1,f2,f3,f4,f5⟩:=hf it (by simp)
    refine wpAny_pyNext_list_item st p.isList (x:=u) (by simpa using hu) fun h' st' sb=>?_
    have I1:Inv X pins σ H { s with heap:=h' }:=I.turned (t':=s.toks) (fun b o hb e=>(sb.2 b hb).trans e) f0 f1 f3 f4 f5
    obtain ⟨o,e,c,d⟩:=id st'
    exact ⟨u,rfl,go_of (s:={ s with heap:=h' }) e c d (by decide) ⟨x,H,I1,ru,⟨rfl,fun ys hy=>by rw [I.list_inj hy hq]; exact hx⟩,st',fun b hb=>(hf b hb).1⟩⟩
  done:=by
    intro X hP hw hK hc i pins s σ H E I hf st hg
    subst hP hw hK
    obtain ⟨xs,hq,hx⟩:=hg
    obtain ⟨its,rv,p,hz⟩:=I.list hq
    obtain ⟨f0,f1,f2,f3,f4,f5⟩:=hf it (by simp)
    have hl:=rv.length
    exact wpAny_pyNext_list_end (I.ok.hd hc) st p.isList (by simp; omega) fun h' eb=>⟨rfl,I.turned (t':=s.toks) (fun b o hb e=>eb b o hb e) f0 f1 f3 f4 f5⟩
  self:=fun _ _ _ _ _ st h=>wpAny_pyIter_listiter st h
theorem turn_tuple {P:Program} {w:World} {K:PySem.W.Frag} {tg:Expr} (a it:Addr):Turn P w K tg (Itt K a) [it] it (fun i h=>h.IsTupleIter it a i) where
  mem:=by simp
  obj:=fun i h st b hb=>by
    have e:b=it:=by simpa using hb
    subst e
    obtain ⟨o,e,c,d⟩:=st
    exact ⟨o,e,fun v z=>by rw [d] at z; cases z⟩
  keep:=fun i h h' st k=>st.at fun o e=>k it (by simp) o e
  item:=by
    intro X hP hw hK hc i pins s σ H E I hf st hg
    subst hP hw hK
    obtain ⟨xs,x,hq,hx⟩:=hg
    obtain ⟨its,rv,p,hz⟩:=I.tuple hq
    obtain ⟨u,hu,ru⟩:=rv.get hx
    obtain ⟨f0,f1,f2,f3,f4,f5⟩:=hf it (by simp)
    refine wpAny_pyNext_tuple_item st (show s.heap.IsTuple a its.toArray from p) (x:=u) (by simpa using hu) fun h' st' sb=>?_
    have I1:Inv X pins σ H { s with heap:=h' }:=I.turned (t':=s.toks) (fun b o hb e=>(sb.2 b hb).trans e) f0 f1 f3 f4 f5
    obtain ⟨o,e,c,d⟩:=id st'
    exact ⟨u,rfl,go_of (s:={ s with heap:=h' }) e c d (by decide) ⟨x,H,I1,ru,⟨rfl,fun ys hy=>by rw [I.tuple_inj hy hq]; exact hx⟩,st',fun b hb=>(hf b hb).1⟩⟩
  done:=by
    intro X hP hw hK hc i pins s σ H E I hf st hg
    subst hP hw hK
    obtain ⟨xs,hq,hx⟩:=hg
    obtain ⟨its,rv,p,hz⟩:=I.tuple hq
    obtain ⟨f0,f1,f2,f3,f4,f5⟩:=hf it (by simp)
    have hl:=rv.length
    exact wpAny_pyNext_tuple_end (I.ok.hd hc) st (show s.heap.IsTuple a its.toArray from p) (by simp; omega) fun h' eb=>⟨rfl,I.turned (t':=s.toks) (fun b o hb e=>eb b o hb e) f0 f1 f3 f4 f5⟩
  self:=fun _ _ _ _ _ st h=>wpAny_pyIter_tupleiter st h
theorem turn_range {P:Program} {w:World} {K:PySem.W.Frag} {tg:Expr} (it:Addr) (lo:Int) (n:Nat):Turn P w K tg (Itr lo n) [it] it (fun i h=>IsRangeIter h it (lo+(i:Nat)*1) ((n:Int) - (i:Nat)) 1) where
  mem:=by simp
  obj:=fun i h st b hb=>by
    have e:b=it:=by simpa using hb
    subst e
    exact ⟨_,st,fun v z=>by
      have z':Data.fields _=Data.cell v:=z
      cases z'⟩
  keep:=fun i h h' st k=>k it (by simp) _ st
  item:=by
    intro X hP hw hK hc i pins s σ H E I hf st hg
    subst hP hw hK
    obtain ⟨f0,f1,f2,f3,f4,f5⟩:=hf it (by simp)
    have W:=Walks.range (prog:=X.prog) (w:=X.w) (I.ok.hd hc) it lo 1 n
    refine W.item i s _ _ hg st fun v h' tk hv st' kk=>?_
    obtain ⟨t,rfl⟩:=hv
    have I1:Inv X pins σ H { s with heap:=h',toks:=tk }:=I.turned (fun b o hb e=>kk b o (by simpa using hb) e) f0 f1 f3 f4 f5
    refine ⟨_,rfl,go_of (s:={ s with heap:=h',toks:=tk }) (n := "range_iterator") st' rfl rfl (by decide) ⟨.int (lo+i),H,I1,⟨t,?_⟩,⟨rfl,rfl⟩,st',fun b hb=>(hf b hb).1⟩⟩
    rw [Int.mul_one]
  done:=by
    intro X hP hw hK hc i pins s σ H E I hf st hg
    subst hP hw hK
    obtain ⟨f0,f1,f2,f3,f4,f5⟩:=hf it (by simp)
    exact wpAny_pyNext_range_end (I.ok.hd hc) st (by have:n≤i:=hg; omega) fun h' eb=>⟨rfl,I.turned (t':=s.toks) (fun b o hb e=>eb b o hb e) f0 f1 f3 f4 f5⟩
  self:=fun _ _ _ _ _ st h=>wpAny_pyIter_rangeiter st h
end L2
namespace L2
open PySem PySem.Spec PyProof.Rows
section
variable {X:Cx} {tg:Expr}
def iList (K:PySem.W.Frag) (tl:TE):TI:=fun σ H R=>tl σ H fun x H1=>∃ a,x=.ref a∧(∃ xs,SqL K H1 a xs)∧R (Itl K a) H1
def iTup (K:PySem.W.Frag) (tl:TE):TI:=fun σ H R=>tl σ H fun x H1=>∃ a,x=.ref a∧(∃ xs,SqT K H1 a xs)∧R (Itt K a) H1
theorem pi_list {l:Expr} {tl:TE} (hl:PE X l tl):PI X tg l (iList X.K tl):=by
  intro pins s σ H R I h
  refine thn (hl pins s σ H _ I h) fun v s1 ⟨x,H1,I1,r1,q1⟩=>?_
  obtain ⟨a,e,⟨xs,hq⟩,q⟩:=q1
  subst e
  cases r1
  obtain ⟨its,rv,p,hz⟩:=I1.list hq
  refine wpAny_pyIter_list p.isList ?_
  refine ⟨s1.heap.objs.size,[s1.heap.objs.size],_,_,H1,rfl,I1.kept (t':=s1.toks) fun b o e=>Heap.get?_push_of_some _ e,turn_list a _,⟨_,Heap.get?_push_size _ rfl,rfl,rfl⟩,fun b hb=>?_,q⟩
  have e:b=s1.heap.objs.size:=by simpa using hb
  subst e
  exact I1.fpOk (Nat.le_refl _) (I1.hok.fresh (Nat.le_refl _))
theorem pi_tup {l:Expr} {tl:TE} (hl:PE X l tl):PI X tg l (iTup X.K tl):=by
  intro pins s σ H R I h
  refine thn (hl pins s σ H _ I h) fun v s1 ⟨x,H1,I1,r1,q1⟩=>?_
  obtain ⟨a,e,⟨xs,hq⟩,q⟩:=q1
  subst e
  cases r1
  obtain ⟨its,rv,p,hz⟩:=I1.tuple hq
  refine wpAny_pyIter_tuple (show s1.heap.IsTuple a its.toArray from p) ?_
  refine ⟨s1.heap.objs.size,[s1.heap.objs.size],_,_,H1,rfl,I1.kept (t':=s1.toks) fun b o e=>Heap.get?_push_of_some _ e,turn_tuple a _,⟨_,Heap.get?_push_size _ rfl,rfl,rfl⟩,fun b hb=>?_,q⟩
  have e:b=s1.heap.objs.size:=by simpa using hb
  subst e
  exact I1.fpOk (Nat.le_refl _) (I1.hok.fresh (Nat.le_refl _))
theorem range_it {pins:List (Addr × Obj)} {σ:St} {H:Hp} {s:Shared} {R:It→Hp→Prop} {E:Value→Shared→Prop} {lo hi:Int} {t u v:Tok} {tk:Nat} (I:Inv X pins σ H s) (h1:-(2 ^ 62)≤lo) (h2:lo < 2 ^ 62) (h3:-(2 ^ 62)≤hi) (h4:hi < 2 ^ 62)
    (q:R (Itr lo (hi - lo).toNat) H):wpAny (model X.prog X.w) X.A (pyIter (.ref s.heap.objs.size)) (PIE X pins σ tg R) E { s with heap:=s.heap.push { cls:=.type "range", data:=.fields #[.int lo t,.int hi u,.int 1 v] },toks:=tk }:=by
  refine wpAny_pyIter_range (IsRange.new ..) (small_one h1 h2 h3 h4) ?_
  have I1:Inv X pins σ H { s with heap:=s.heap.push { cls:=.type "range", data:=.fields #[.int lo t,.int hi u,.int 1 v] },toks:=tk }:=I.kept fun b o e=>Heap.get?_push_of_some _ e
  refine ⟨(s.heap.push { cls:=.type "range", data:=.fields #[.int lo t,.int hi u,.int 1 v] }).objs.size,[(s.heap.push { cls:=.type "range", data:=.fields #[.int lo t,.int hi u,.int 1 v] }).objs.size],_,_,H,rfl,
    I1.kept (t':=tk) fun b o e=>Heap.get?_push_of_some _ e,turn_range _ lo (hi - lo).toNat,?_,fun b hb=>?_,q⟩
  · have e1:lo+((0:Nat):Int)*1=lo:=by simp
    have e2:(((hi - lo).toNat:Nat):Int) - ((0:Nat):Int)=Builtin.Range.rangeSize lo hi 1:=by rw [rangeSize_one]; split <;> omega
    show IsRangeIter _ _ (lo+((0:Nat):Int)*1) ((((hi - lo).toNat:Nat):Int) - ((0:Nat):Int)) 1
    rw [e1,e2]
    exact Heap.get?_push_size _ rfl
  · have e:b=(s.heap.push { cls:=.type "range", data:=.fields #[.int lo t,.int hi u,.int 1 v] }).objs.size:=by simpa using hb
    subst e
    exact I1.fpOk (Nat.le_refl _) (I1.hok.fresh (Nat.le_refl _))
def iRng1 (ta:TA):TI:=fun σ H R=>ta σ H fun vs H1=>∃ j:Int,vs=[.int j]∧-(2 ^ 62)≤j∧j < 2 ^ 62∧R (Itr 0 j.toNat) H1
def iRng2 (ta:TA):TI:=fun σ H R=>ta σ H fun vs H1=>∃ i j:Int,vs=[.int i,.int j]∧(-(2 ^ 62)≤i∧i < 2 ^ 62∧-(2 ^ 62)≤j∧j < 2 ^ 62)∧R (Itr i (j - i).toNat) H1
theorem pi_range1 {a:Expr} {ta:TA} {p pos:Pos} (hg:Gl X "range") (hm:X.mg "range" = none) (ha:PA X [a] ta) (hs:starEach [a] X.env=[(false,eval a X.env)]:=by rfl):PI X tg (.Call (.Name "range" p) [a] [] pos) (iRng1 ta):=by
  intro pins s σ H R I h
  refine Call_ (ld_blt I hg hm boot_range (PyProof.Rows.callWith_type1 (thn (ha pos pins s σ H _ I h) fun us s1 ⟨vs,H1,I1,r1,q1⟩=>?_) hs rfl))
  obtain ⟨j,e,q1,q2,q⟩:=q1
  subst e
  cases r1 with
  | cons r rr =>
    cases rr
    obtain ⟨t,rfl⟩:=r
    exact call_range_1 (range_it I1 (by omega) (by omega) q1 q2 (by simpa using q))
theorem pi_range2 {a b:Expr} {ta:TA} {p pos:Pos} (hg:Gl X "range") (hm:X.mg "range" = none) (ha:PA X [a,b] ta) (hs:starEach [a,b] X.env=[(false,eval a X.env),(false,eval b X.env)]:=by rfl) (hs2:starEach [b] X.env=[(false,eval b X.env)]:=by rfl) :
    PI X tg (.Call (.Name "range" p) [a,b] [] pos) (iRng2 ta):=by
  intro pins s σ H R I h
  refine Call_ (ld_blt I hg hm boot_range (PyProof.Rows.callWith_type1 (thn (ha pos pins s σ H _ I h) fun us s1 ⟨vs,H1,I1,r1,q1⟩=>?_) (by rw [hs,hs2]) (by rw [hs2]; rfl)))
  obtain ⟨i,j,e,⟨q1,q2,q3,q4⟩,q⟩:=q1
  subst e
  cases r1 with
  | cons r rr =>
    cases rr with
    | cons r' rr =>
      cases rr
      obtain ⟨t,rfl⟩:=r
      obtain ⟨t',rfl⟩:=r'
      exact call_range_2 (range_it I1 q1 q2 q3 q4 q)
def tFor (wi:TI) (g:TG) (tb:TS):TS:=fun D σ H=>wi σ H fun J H1=>∃ W:Nat→Nat→St→Hp→Prop,(∃ m,W 0 m σ H1)∧∀ i m σ H,W i m σ H →
  (J.stop i H∧D.nx σ H)∨(J.go i H∧∃ N:St→Hp→Prop,(∀ σ' H',N σ' H'→∃ m',m' < m∧W (i+1) m' σ' H')∧∀ x H',J.yld i H x H'→g x σ H' fun σ2 H2=>tb { D with nx:=N,ct:=N,bk:=D.nx } σ2 H2)
def pinsAt (fp:List Addr) (h:Heap):List (Addr × Obj):=fp.filterMap fun b=>(h.get? b).map fun o=>(b,o)
theorem mem_pinsAt {fp:List Addr} {h:Heap} {b:Addr} {o:Obj} (hb:b ∈ fp) (e:h.get? b=some o):(b,o) ∈ pinsAt fp h:=List.mem_filterMap.mpr ⟨b,hb,by rw [e]; rfl⟩
theorem of_pinsAt {fp:List Addr} {h:Heap} {p:Addr × Obj} (hp:p ∈ pinsAt fp h):p.1 ∈ fp∧h.get? p.1=some p.2:=by
  obtain ⟨b,hb,e⟩:=List.mem_filterMap.mp hp
  cases q:h.get? b with
  | none=>rw [q] at e; cases e
  | some o =>
    rw [q] at e
    have e':(b,o)=p:=Option.some.inj e
    subst e'
    exact ⟨hb,q⟩
theorem Inv.pinned {pins:List (Addr × Obj)} {σ:St} {H:Hp} {s:Shared} {fp:List Addr} (I:Inv X pins σ H s) (hf:∀ b ∈ fp,FpOk X pins H b) (ho:∀ b ∈ fp,∃ o,s.heap.get? b=some o∧∀ v,o.data ≠ .cell v):Inv X (pins++pinsAt fp s.heap) σ H s :=
  I.pins_of fun p hp=>(List.mem_append.mp hp).elim (fun z=>I.pin p (List.mem_append_right _ z)) fun z=>by
    obtain ⟨hb,e⟩:=of_pinsAt z
    obtain ⟨f0,f1,f2,_⟩:=hf p.1 hb
    obtain ⟨o,e',d⟩:=ho p.1 hb
    rw [e] at e'; cases e'
    exact ⟨e,f0,f1,f2,d⟩
theorem Inv.unpinned {pins pl:List (Addr × Obj)} {σ:St} {H:Hp} {s:Shared} (I:Inv X (pins++pl) σ H s):Inv X pins σ H s:=I.pins_of fun p hp=>I.pin p (List.mem_append_right _ (List.mem_append_left _ hp))
theorem ps_for {iter:Expr} {body:List Stmt} {wi:TI} {g:TG} {tb:TS} {pos:Pos} (hp:PassesOwn (model X.prog X.w) X.A X.env X.xe) (hc:X.calm=true) (hi:PI X tg iter wi) (hg:PG X tg g) (hb:PSs X body tb)
    (hs:∀ x,foldedSetIterable iter X.env x=pure x:=by intro _; rfl):PS X (.For tg iter body [] pos) (tFor wi g tb):=by
  intro pins s σ H D I h
  refine wpAny_For (thn (hi pins s σ H _ I h) fun v s1 h1=>thn h1 fun itv s2 h2=>?_) hs
  obtain ⟨it,fp,tn,J,H2,e,I2,T,st2,f2,W,⟨m0,w0⟩,turn⟩:=h2
  subst e
  have stat:∀ {H':Hp},(∀ b ∈ fp,H' b=none)→∀ b ∈ fp,FpOk X pins H' b:=fun hn b hb=>⟨hn b hb,(f2 b hb).2⟩
  refine codeAny_forLoop_any (fun n s'=>∃ i σ' H',Inv X pins σ' H' s'∧tn i s'.heap∧(∀ b ∈ fp,H' b=none)∧W i n σ' H') ?_ m0 ⟨0,σ,H2,I2,st2,fun b hb=>(f2 b hb).1,w0⟩
  rintro n s3 ⟨i,σ3,H3,I3,st3,fr3,w3⟩
  rcases turn i n σ3 H3 w3 with ⟨stop,qn⟩ | ⟨go,N,hN,step⟩
  · refine wpAny_passesOwn hp (thn (T.done X rfl rfl rfl hc i pins s3 σ3 H3 X.xe I3 (stat fr3) st3 stop) fun r s4 ⟨hr,I4⟩=>?_)
    subst hr
    exact wpAny_execs_nil ⟨σ3,H3,I4,qn⟩
  · refine wpAny_passesOwn hp (thn (T.item X rfl rfl rfl hc i pins s3 σ3 H3 X.xe I3 (stat fr3) st3 go) fun r s4 ⟨u,hr,h4⟩=>?_)
    subst hr
    refine wpAny_passesOwn hp (thn h4 fun _ s5 ⟨x,H5,I5,r5,y5,st5,fr5⟩=>?_)
    have I5':=I5.pinned (stat fr5) (T.obj _ _ st5)
    refine wpAny_passesOwn hp (thn (hg _ s5 σ3 H5 x u _ I5' r5 (step x H5 y5)) fun _ s6 ⟨σ6,H6,I6,q6⟩=>?_)
    refine wpAny_passesOwn hp (thn (hb _ s6 σ6 H6 _ I6 q6) fun f s7 q7=>?_)
    have again:∀ {σ7:St} {H7:Hp},Inv X (pins++pinsAt fp s5.heap) σ7 H7 s7→N σ7 H7→∃ m,m < n∧∃ i σ' H',Inv X pins σ' H' s7∧tn i s7.heap∧(∀ b ∈ fp,H' b=none)∧W i m σ' H':=fun {σ7 H7} I7 n7=>by
      obtain ⟨m',hm,w7⟩:=hN σ7 H7 n7
      refine ⟨m',hm,i+1,σ7,H7,I7.unpinned,T.keep _ _ _ st5 fun b hb o e=>(I7.pin (b,o) (List.mem_append_right _ (List.mem_append_right _ (mem_pinsAt hb e)))).1,fun b hb=>?_,w7⟩
      obtain ⟨o,e,d⟩:=T.obj _ _ st5 b hb
      exact (I7.pin (b,o) (List.mem_append_right _ (List.mem_append_right _ (mem_pinsAt hb e)))).2.1
    cases f with
    | next=>obtain ⟨σ7,H7,I7,n7⟩:=q7; exact again I7 n7
    | cont=>obtain ⟨σ7,H7,I7,n7⟩:=q7; exact again I7 n7
    | brk=>obtain ⟨σ7,H7,I7,q7⟩:=q7; exact ⟨σ7,H7,I7.unpinned,q7⟩
    | ret v=>obtain ⟨x7,σ7,H7,I7,r7,q7⟩:=q7; exact ⟨x7,σ7,H7,I7.unpinned,r7,q7⟩
end
theorem for_list {K:PySem.W.Frag} {a:Addr} {xs:List V} {g:TG} {tb:TS} {D:Ends} {σ:St} {H:Hp} (Pv:Nat→St→Hp→Prop) (h0:Pv 0 σ H) (hl:∀ i σ H,i≤xs.length→Pv i σ H→SqL K H a xs)
    (hs:∀ i x σ H,xs[i]?=some x→Pv i σ H→g x σ H fun σ2 H2=>tb { D with nx:=Pv (i+1),ct:=Pv (i+1),bk:=D.nx } σ2 H2) (hd:∀ σ H,Pv xs.length σ H→D.nx σ H) :
    ∃ W:Nat→Nat→St→Hp→Prop,(∃ m,W 0 m σ H)∧∀ i m σ H,W i m σ H →
      ((Itl K a).stop i H∧D.nx σ H)∨((Itl K a).go i H∧∃ N:St→Hp→Prop,(∀ σ' H',N σ' H'→∃ m',m' < m∧W (i+1) m' σ' H')∧∀ x H',(Itl K a).yld i H x H'→g x σ H' fun σ2 H2=>tb { D with nx:=N,ct:=N,bk:=D.nx } σ2 H2):=by
  refine ⟨fun i m σ H=>m=xs.length - i∧i≤xs.length∧Pv i σ H,⟨xs.length,by simp,Nat.zero_le _,h0⟩,?_⟩
  rintro i m σ H ⟨rfl,hi,p⟩
  have q:=hl i σ H hi p
  by_cases hlt:i < xs.length
  · refine .inr ⟨⟨xs,xs[i],q,by simp [hlt]⟩,Pv (i+1),fun σ' H' p'=>⟨xs.length - (i+1),by omega,rfl,hlt,p'⟩,fun x H' y=>?_⟩
    obtain ⟨e,y⟩:=y
    subst e
    exact hs i x σ _ (y xs q) p
  · have e:i=xs.length:=by omega
    subst e
    exact .inl ⟨⟨xs,q,Nat.le_refl _⟩,hd σ H p⟩
theorem for_tup {K:PySem.W.Frag} {a:Addr} {xs:List V} {g:TG} {tb:TS} {D:Ends} {σ:St} {H:Hp} (Pv:Nat→St→Hp→Prop) (h0:Pv 0 σ H) (hl:∀ i σ H,i≤xs.length→Pv i σ H→SqT K H a xs)
    (hs:∀ i x σ H,xs[i]?=some x→Pv i σ H→g x σ H fun σ2 H2=>tb { D with nx:=Pv (i+1),ct:=Pv (i+1),bk:=D.nx } σ2 H2) (hd:∀ σ H,Pv xs.length σ H→D.nx σ H) :
    ∃ W:Nat→Nat→St→Hp→Prop,(∃ m,W 0 m σ H)∧∀ i m σ H,W i m σ H →
      ((Itt K a).stop i H∧D.nx σ H)∨((Itt K a).go i H∧∃ N:St→Hp→Prop,(∀ σ' H',N σ' H'→∃ m',m' < m∧W (i+1) m' σ' H')∧∀ x H',(Itt K a).yld i H x H'→g x σ H' fun σ2 H2=>tb { D with nx:=N,ct:=N,bk:=D.nx } σ2 H2):=by
  refine ⟨fun i m σ H=>m=xs.length - i∧i≤xs.length∧Pv i σ H,⟨xs.length,by simp,Nat.zero_le _,h0⟩,?_⟩
  rintro i m σ H ⟨rfl,hi,p⟩
  have q:=hl i σ H hi p
  by_cases hlt:i < xs.length
  · refine .inr ⟨⟨xs,xs[i],q,by simp [hlt]⟩,Pv (i+1),fun σ' H' p'=>⟨xs.length - (i+1),by omega,rfl,hlt,p'⟩,fun x H' y=>?_⟩
    obtain ⟨e,y⟩:=y
    subst e
    exact hs i x σ _ (y xs q) p
  · have e:i=xs.length:=by omega
    subst e
    exact .inl ⟨⟨xs,q,Nat.le_refl _⟩,hd σ H p⟩
theorem for_range {lo:Int} {n:Nat} {g:TG} {tb:TS} {D:Ends} {σ:St} {H:Hp} (Pv:Nat→St→Hp→Prop) (h0:Pv 0 σ H)
    (hs:∀ i σ H,i < n→Pv i σ H→g (.int (lo+i)) σ H fun σ2 H2=>tb { D with nx:=Pv (i+1),ct:=Pv (i+1),bk:=D.nx } σ2 H2) (hd:∀ σ H,Pv n σ H→D.nx σ H) :
    ∃ W:Nat→Nat→St→Hp→Prop,(∃ m,W 0 m σ H)∧∀ i m σ H,W i m σ H →
      ((Itr lo n).stop i H∧D.nx σ H)∨((Itr lo n).go i H∧∃ N:St→Hp→Prop,(∀ σ' H',N σ' H'→∃ m',m' < m∧W (i+1) m' σ' H')∧∀ x H',(Itr lo n).yld i H x H'→g x σ H' fun σ2 H2=>tb { D with nx:=N,ct:=N,bk:=D.nx } σ2 H2):=by
  refine ⟨fun i m σ H=>m=n - i∧i≤n∧Pv i σ H,⟨n,by simp,Nat.zero_le _,h0⟩,?_⟩
  rintro i m σ H ⟨rfl,hi,p⟩
  by_cases hlt:i < n
  · refine .inr ⟨hlt,Pv (i+1),fun σ' H' p'=>⟨n - (i+1),by omega,rfl,hlt,p'⟩,fun x H' y=>?_⟩
    obtain ⟨e,y⟩:=y
    subst e y
    exact hs i σ _ hlt p
  · have e:i=n:=by omega
    subst e
    exact .inl ⟨Nat.le_refl _,hd σ H p⟩
end L2
namespace L2
open PySem PySem.Spec PyProof.Rows
abbrev R2:=V→V→Hp→VK→Prop
def OpR (X:Cx) (f:Value→Value→Sem Value) (r:R2):Prop :=
  ∀ (pins:List (Addr × Obj)) (s:Shared) (σ:St) (H:Hp) (x y:V) (v u:Value) (Q:VK),Inv X pins σ H s→RelV x v→RelV y u→r x y H Q →
    wpAny (model X.prog X.w) X.A (f v u) (EP X pins σ Q) X.xe s
def UnR (X:Cx) (f:Value→Sem Value) (r:V→Hp→VK→Prop):Prop :=
  ∀ (pins:List (Addr × Obj)) (s:Shared) (σ:St) (H:Hp) (x:V) (v:Value) (Q:VK),Inv X pins σ H s→RelV x v→r x H Q →
    wpAny (model X.prog X.w) X.A (f v) (EP X pins σ Q) X.xe s
def CallR (X:Cx) (f:Value) (r:List V→Hp→VK→Prop):Prop :=
  ∀ (pins:List (Addr × Obj)) (s:Shared) (σ:St) (H:Hp) (xs:List V) (us:List Value) (Q:VK),Inv X pins σ H s→Vals xs us→r xs H Q →
    wpAny (model X.prog X.w) X.A (call f us) (EP X pins σ Q) X.xe s
def TruR (X:Cx) (r:V→Hp→(Bool→Hp→Prop)→Prop):Prop :=
  ∀ (pins:List (Addr × Obj)) (s:Shared) (σ:St) (H:Hp) (x:V) (v:Value) (Q:Bool→Hp→Prop),Inv X pins σ H s→RelV x v→r x H Q →
    wpAny (model X.prog X.w) X.A (truthy v) (TP X pins σ Q) X.xe s
def tOp (r:R2) (ta tb:TE):TE:=fun σ H Q=>ta σ H fun x H1=>tb σ H1 fun y H2=>r x y H2 Q
def tUn (r:V→Hp→VK→Prop) (ta:TE):TE:=fun σ H Q=>ta σ H fun x H1=>r x H1 Q
def rI (C:Int→Int→Prop) (g:Int→Int→V):R2:=fun x y H Q=>∃ i j,x=.int i∧y=.int j∧C i j∧Q (g i j) H
def rI0 (g:Int→Int→V):R2:=fun x y H Q=>∃ i j,x=.int i∧y=.int j∧Q (g i j) H
def rU (g:Int→V):V→Hp→VK→Prop:=fun x H Q=>∃ i,x=.int i∧Q (g i) H
section
variable {X:Cx} {a b c:Expr} {ta tb tc:TE} {pos:Pos}
theorem binT (ha:PE X a ta) (hb:PE X b tb) {pins:List (Addr × Obj)} {s:Shared} {σ:St} {H:Hp} {R:V→V→Hp→Prop} (I:Inv X pins σ H s)
    (h:ta σ H fun x H1=>tb σ H1 fun y H2=>R x y H2) {Q:Value→Shared→Prop} {f:Value→Value→Sem Value}
    (hf:∀ v u s2 x y H2,Inv X pins σ H2 s2→RelV x v→RelV y u→R x y H2→wpAny (model X.prog X.w) X.A (f v u) Q X.xe s2) :
    wpAny (model X.prog X.w) X.A (eval a X.env) (fun v s₁=>wpAny (model X.prog X.w) X.A (eval b X.env) (fun u s₂=>wpAny (model X.prog X.w) X.A (f v u) Q X.xe s₂) X.xe s₁) X.xe s:=by
  refine thn (ha pins s σ H _ I h) fun v s1 ⟨x,H1,I1,r1,q1⟩=>?_
  refine thn (hb pins s1 σ H1 _ I1 q1) fun u s2 ⟨y,H2,I2,r2,q2⟩=>?_
  exact hf v u s2 x y H2 I2 r1 r2 q2
theorem pe_op {op:Operator} {r:R2} (ho:OpR X (binaryOp op) r) (ha:PE X a ta) (hb:PE X b tb):PE X (.BinOp a op b pos) (tOp r ta tb):=by
  intro pins s σ H Q I h
  exact wpAny_BinOp (binT ha hb I h fun v u s2 x y H2 I2 rx ry q=>ho pins s2 σ H2 x y v u Q I2 rx ry q)
theorem pe_un {op:UnaryOp} {r:V→Hp→VK→Prop} (ho:UnR X (unaryOp op) r) (ha:PE X a ta):PE X (.UnaryOp op a pos) (tUn r ta):=by
  intro pins s σ H Q I h
  exact UnaryOp_ (thn (ha pins s σ H _ I h) fun v s1 ⟨x,H1,I1,r1,q1⟩=>ho pins s1 σ H1 x v Q I1 r1 q1)
theorem opI {f:Value→Value→Sem Value} {C:Int→Int→Prop} {g:Int→Int→Int}
    (rule:∀ (i j:Int) (t u:Tok) (s:Shared) (Q:Value→Shared→Prop) (E:Value→Shared→Prop),C i j→Q (.int (g i j) s.toks) { s with toks:=s.toks+1 }→wpAny (model X.prog X.w) X.A (f (.int i t) (.int j u)) Q E s) :
    OpR X f (rI C fun i j=>.int (g i j)):=by
  intro pins s σ H x y v u Q I rx ry h
  obtain ⟨i,j,rfl,rfl,hc,q⟩:=h
  obtain ⟨t,rfl⟩:=rx
  obtain ⟨t',rfl⟩:=ry
  exact rule i j t t' s _ _ hc ⟨.int (g i j),H,I.tok _,⟨_,rfl⟩,q⟩
theorem opI0 {f:Value→Value→Sem Value} {g:Int→Int→Int}
    (rule:∀ (i j:Int) (t u:Tok) (s:Shared) (Q:Value→Shared→Prop) (E:Value→Shared→Prop),Q (.int (g i j) s.toks) { s with toks:=s.toks+1 }→wpAny (model X.prog X.w) X.A (f (.int i t) (.int j u)) Q E s) :
    OpR X f (rI0 fun i j=>.int (g i j)):=by
  intro pins s σ H x y v u Q I rx ry h
  obtain ⟨i,j,rfl,rfl,q⟩:=h
  obtain ⟨t,rfl⟩:=rx
  obtain ⟨t',rfl⟩:=ry
  exact rule i j t t' s _ _ ⟨.int (g i j),H,I.tok _,⟨_,rfl⟩,q⟩
theorem opB0 {f:Value→Value→Sem Value} {g:Int→Int→Bool}
    (rule:∀ (i j:Int) (t u:Tok) (s:Shared) (Q:Value→Shared→Prop) (E:Value→Shared→Prop),Q (.bool (g i j)) s→wpAny (model X.prog X.w) X.A (f (.int i t) (.int j u)) Q E s) :
    OpR X f (rI0 fun i j=>.bl (g i j)):=by
  intro pins s σ H x y v u Q I rx ry h
  obtain ⟨i,j,rfl,rfl,q⟩:=h
  obtain ⟨t,rfl⟩:=rx
  obtain ⟨t',rfl⟩:=ry
  exact rule i j t t' s _ _ ⟨.bl (g i j),H,I,rfl,q⟩
def CDiv (i j:Int):Prop:=0 < j∧j < 1073741824
def CDivN (i j:Int):Prop:=j ≠ 0∧j.natAbs < 1073741824
def CPow (i j:Int):Prop:=0≤j∧j≤1000000∧i.natAbs < 2 ^ 64
def CMul (i j:Int):Prop:=(-(2 ^ 64) < i∧i < 2 ^ 64)∨(-(2 ^ 64) < j∧j < 2 ^ 64)
theorem CMul.ok {i j:Int} (h:CMul i j):IntMulOk i j:=by
  rcases h with ⟨h1,h2⟩ | ⟨h1,h2⟩
  · exact .of_left (intBits_le_64 h1 h2)
  · exact .of_right (intBits_le_64 h1 h2)
theorem op_add:OpR X (binaryOp .Add) (rI0 fun i j=>.int (i+j)):=opI0 fun _ _ _ _ _ _ _ q=>add_int q
theorem op_sub:OpR X (binaryOp .Sub) (rI0 fun i j=>.int (i - j)):=opI0 fun _ _ _ _ _ _ _ q=>sub_int q
theorem op_mul:OpR X (binaryOp .Mult) (rI CMul fun i j=>.int (i*j)):=opI fun _ _ _ _ _ _ _ hc q=>mul_int q hc.ok
theorem op_fdiv:OpR X (binaryOp .FloorDiv) (rI CDiv fun i j=>.int (i / j)):=opI fun i j _ _ _ _ _ hc q=>by
  have h1:(0:Int) < j:=hc.1
  have h2:j < 1073741824:=hc.2
  exact floordiv_int (by omega) (by rw [Int.fdiv_eq_ediv_of_nonneg i (by omega)]; exact q) (.inl (PyProof.noPylong_small (by omega)))
theorem op_mod:OpR X (binaryOp .Mod) (rI (fun _ j=>0 < j) fun i j=>.int (i % j)):=opI fun i j _ _ _ _ _ hc q=>by
  have h1:(0:Int) < j:=hc
  exact mod_int' (by omega) (by rw [Int.fmod_eq_emod_of_nonneg i (by omega)]; exact q)
theorem op_pow:OpR X (binaryOp .Pow) (rI CPow fun i j=>.int (i ^ j.toNat)):=opI fun _ _ _ _ _ _ _ hc q=>pow_int_small hc.1 hc.2.1 hc.2.2 q
theorem unI {f:Value→Sem Value} {g:Int→Int}
    (rule:∀ (i:Int) (t:Tok) (s:Shared) (Q:Value→Shared→Prop) (E:Value→Shared→Prop),Q (.int (g i) s.toks) { s with toks:=s.toks+1 }→wpAny (model X.prog X.w) X.A (f (.int i t)) Q E s) :
    UnR X f (rU fun i=>.int (g i)):=by
  intro pins s σ H x v Q I rx h
  obtain ⟨i,rfl,q⟩:=h
  obtain ⟨t,rfl⟩:=rx
  exact rule i t s _ _ ⟨.int (g i),H,I.tok _,⟨_,rfl⟩,q⟩
theorem un_neg:UnR X (unaryOp .USub) (rU fun i=>.int (-i)):=unI fun _ _ _ _ _ q=>neg_int q
end
def scal:V→V→Bool
  | .non,.non=>true | .non,.int _=>true | .int _,.non=>true | .non,.bl _=>true | .bl _,.non=>true | .non,.str _=>true | .str _,.non=>true
  | .int _,.int _=>true | .bl _,.bl _=>true | .str _,.str _=>true | .byt _,.byt _=>true
  | .int _,.str _=>true | .str _,.int _=>true | .bl _,.str _=>true | .str _,.bl _=>true
  | _,_=>false
def rEq:R2:=fun x y H Q=>scal x y=true∧Q (.bl (decide (x=y))) H
def rNe:R2:=fun x y H Q=>scal x y=true∧Q (.bl (!decide (x=y))) H
theorem dec_int {i j:Int}:decide (V.int i=V.int j)=(i == j):=by
  rw [Bool.eq_iff_iff]
  simp
theorem dec_bl {i j:Bool}:decide (V.bl i=V.bl j)=(i == j):=by
  rw [Bool.eq_iff_iff]
  simp
theorem dec_str {i j:Str}:decide (V.str i=V.str j)=(i == j):=by
  rw [Bool.eq_iff_iff]
  simp
theorem dec_byt {i j:Array UInt8}:decide (V.byt i=V.byt j)=(i.toList == j.toList):=by
  rw [Bool.eq_iff_iff]
  cases i
  cases j
  simp
section
variable {X:Cx} {a b c:Expr} {ta tb tc:TE} {pos:Pos}
theorem fin_bl {pins:List (Addr × Obj)} {σ:St} {H:Hp} {s:Shared} {Q:VK} {k k':Bool} (I:Inv X pins σ H s) (q:Q (.bl k) H) (e:k=k'):EP X pins σ Q (.bool k') s:=by
  subst e
  exact ⟨.bl k,H,I,rfl,q⟩
theorem op_eq:OpR X (compareOp .Eq) rEq:=by
  intro pins s σ H x y v u Q I rx ry h
  obtain ⟨hs,q⟩:=h
  cases x with
  | non =>
    cases rx
    cases y with
    | non=>cases ry; exact PySem.EqNone.eq_none_none (fin_bl I q (by simp))
    | bl j=>cases ry; exact PySem.EqNone.eq_none_bool (fin_bl I q (by simp))
    | int j=>obtain ⟨t',rfl⟩:=ry; exact PySem.EqNone.eq_none_int (fin_bl I q (by simp))
    | str j=>obtain ⟨t',rfl⟩:=ry; exact PySem.EqNone.eq_none_str (fin_bl I q (by simp))
    | _=>exact absurd (show false=true from hs) Bool.false_ne_true
  | bl i =>
    cases rx
    cases y with
    | non=>cases ry; exact PySem.EqNone.eq_bool_none (fin_bl I q (by simp))
    | bl j=>cases ry; exact eq_bool (fin_bl I q dec_bl)
    | str j=>obtain ⟨t',rfl⟩:=ry; exact PySem.EqMixed.eq_bool_str (fin_bl I q (by simp))
    | _=>exact absurd (show false=true from hs) Bool.false_ne_true
  | int i =>
    obtain ⟨t,rfl⟩:=rx
    cases y with
    | non=>cases ry; exact PySem.EqNone.eq_int_none (fin_bl I q (by simp))
    | int j=>obtain ⟨t',rfl⟩:=ry; exact eq_int (fin_bl I q dec_int)
    | str j=>obtain ⟨t',rfl⟩:=ry; exact PySem.EqMixed.eq_int_str (fin_bl I q (by simp))
    | _=>exact absurd (show false=true from hs) Bool.false_ne_true
  | str i =>
    obtain ⟨t,rfl⟩:=rx
    cases y with
    | non=>cases ry; exact PySem.EqNone.eq_str_none (fin_bl I q (by simp))
    | bl j=>cases ry; exact PySem.EqMixed.eq_str_bool (fin_bl I q (by simp))
    | int j=>obtain ⟨t',rfl⟩:=ry; exact PySem.EqMixed.eq_str_int (fin_bl I q (by simp))
    | str j=>obtain ⟨t',rfl⟩:=ry; exact eq_str (fin_bl I q dec_str)
    | _=>exact absurd (show false=true from hs) Bool.false_ne_true
  | byt i =>
    obtain ⟨t,rfl⟩:=rx
    cases y with
    | byt j=>obtain ⟨t',rfl⟩:=ry; exact PySem.W.eq_bytes (fin_bl I q dec_byt)
    | _=>exact absurd (show false=true from hs) Bool.false_ne_true
  | _=>cases y <;> exact absurd (show false=true from hs) Bool.false_ne_true
theorem op_ne:OpR X (compareOp .NotEq) rNe:=by
  intro pins s σ H x y v u Q I rx ry h
  obtain ⟨hs,q⟩:=h
  cases x with
  | non =>
    cases rx
    cases y with
    | non=>cases ry; exact PySem.EqNone.ne_none_none (fin_bl I q (by simp))
    | bl j=>cases ry; exact PySem.EqNone.ne_none_bool (fin_bl I q (by simp))
    | int j=>obtain ⟨t',rfl⟩:=ry; exact PySem.EqNone.ne_none_int (fin_bl I q (by simp))
    | str j=>obtain ⟨t',rfl⟩:=ry; exact PySem.EqNone.ne_none_str (fin_bl I q (by simp))
    | _=>exact absurd (show false=true from hs) Bool.false_ne_true
  | bl i =>
    cases rx
    cases y with
    | non=>cases ry; exact PySem.EqNone.ne_bool_none (fin_bl I q (by simp))
    | bl j=>cases ry; exact ne_bool (fin_bl I q (congrArg not dec_bl))
    | str j=>obtain ⟨t',rfl⟩:=ry; exact PySem.EqMixed.ne_bool_str (fin_bl I q (by simp))
    | _=>exact absurd (show false=true from hs) Bool.false_ne_true
  | int i =>
    obtain ⟨t,rfl⟩:=rx
    cases y with
    | non=>cases ry; exact PySem.EqNone.ne_int_none (fin_bl I q (by simp))
    | int j=>obtain ⟨t',rfl⟩:=ry; exact ne_int (fin_bl I q (congrArg not dec_int))
    | str j=>obtain ⟨t',rfl⟩:=ry; exact PySem.EqMixed.ne_int_str (fin_bl I q (by simp))
    | _=>exact absurd (show false=true from hs) Bool.false_ne_true
  | str i =>
    obtain ⟨t,rfl⟩:=rx
    cases y with
    | non=>cases ry; exact PySem.EqNone.ne_str_none (fin_bl I q (by simp))
    | bl j=>cases ry; exact PySem.EqMixed.ne_str_bool (fin_bl I q (by simp))
    | int j=>obtain ⟨t',rfl⟩:=ry; exact PySem.EqMixed.ne_str_int (fin_bl I q (by simp))
    | str j=>obtain ⟨t',rfl⟩:=ry; exact ne_str (fin_bl I q (congrArg not dec_str))
    | _=>exact absurd (show false=true from hs) Bool.false_ne_true
  | byt i =>
    obtain ⟨t,rfl⟩:=rx
    cases y with
    | byt j=>obtain ⟨t',rfl⟩:=ry; exact PySem.W.ne_bytes (fin_bl I q (congrArg not dec_byt))
    | _=>exact absurd (show false=true from hs) Bool.false_ne_true
  | _=>cases y <;> exact absurd (show false=true from hs) Bool.false_ne_true
theorem op_lt:OpR X (compareOp .Lt) (rI0 fun i j=>.bl (decide (i < j))):=opB0 fun _ _ _ _ _ _ _ q=>lt_int q
theorem op_le:OpR X (compareOp .LtE) (rI0 fun i j=>.bl (decide (i≤j))):=opB0 fun _ _ _ _ _ _ _ q=>le_int q
theorem op_gt:OpR X (compareOp .Gt) (rI0 fun i j=>.bl (decide (j < i))):=opB0 fun _ _ _ _ _ _ _ q=>gt_int q
theorem op_ge:OpR X (compareOp .GtE) (rI0 fun i j=>.bl (decide (j≤i))):=opB0 fun _ _ _ _ _ _ _ q=>ge_int q
def isObj:HO→Bool
  | .lst _=>true
  | .ins _ _ _=>true
  | _=>false
theorem OpR.or {f:Value→Value→Sem Value} {r r':R2} (h:OpR X f r) (h':OpR X f r'):OpR X f (fun x y H Q=>r x y H Q∨r' x y H Q):=by
  intro pins s σ H x y v u Q I rx ry q
  rcases q with q | q
  · exact h pins s σ H x y v u Q I rx ry q
  · exact h' pins s σ H x y v u Q I rx ry q
theorem nomark (b:Expr) {op:CmpOp} (h:op ≠ .In:=by decide) (h2:op ≠ .NotIn:=by decide):behindInMarks op b=false:=by
  have e1:(op == CmpOp.In)=false:=by cases op <;> first | rfl | exact absurd rfl h
  have e2:(op == CmpOp.NotIn)=false:=by cases op <;> first | rfl | exact absurd rfl h2
  cases b <;> simp [behindInMarks,e1,e2]
theorem pe_cmpR {op:CmpOp} {r:R2} (ho:OpR X (compareOp op) r) (ha:PE X a ta) (hb:PE X b tb) (hm:behindInMarks op b=false):PE X (.Compare a [op] [b] pos) (tOp r ta tb):=by
  intro pins s σ H Q I h
  exact wpAny_Compare1 (binT ha hb I h fun v u s2 x y H2 I2 rx ry q=>ho pins s2 σ H2 x y v u Q I2 rx ry q) hm
def tTest (t:TE):TT:=fun σ H Q=>t σ H fun x H'=>∃ k,x=.bl k∧Q k H'
theorem pt_cmpR {op:CmpOp} {r:R2} (ho:OpR X (compareOp op) r) (ha:PE X a ta) (hb:PE X b tb) (hm:behindInMarks op b=false):PT X (.Compare a [op] [b] pos) (tTest (tOp r ta tb)):=by
  intro pins s σ H Q I h
  refine wpAny_isTrue_Compare1 (thn (ha pins s σ H _ I h) fun v s1 ⟨x,H1,I1,r1,q1⟩=>thn (hb pins s1 σ H1 _ I1 q1) fun u s2 ⟨y,H2,I2,r2,q2⟩ =>
    thn (ho pins s2 σ H2 x y v u _ I2 r1 r2 q2) fun c s3 ⟨z,H3,I3,r3,k,e,q3⟩=>?_) hm
  subst e
  cases r3
  exact wpAny_truthy_bool ⟨H3,I3,q3⟩
def tChain (r r':R2) (ta tb tc:TE):TE:=fun σ H Q=>ta σ H fun x H1=>tb σ H1 fun y H2=>r x y H2 fun z H3=>∃ k,z=.bl k ∧
  (if k=true then tc σ H3 fun w' H4=>r' y w' H4 Q else Q (.bl false) H3)
def TruV (K:PySem.W.Frag) (x:V) (H:Hp) (k:Bool):Prop :=
  match x with
  | .non=>k=false
  | .bl b=>k=b
  | .int i=>k=(i != 0)
  | .str y=>y.length≤sizeLine∧k=((y.length:Int) != 0)
  | .byt y=>y.size≤sizeLine∧k=((y.size:Int) != 0)
  | .ref p=>(∃ xs,SqL K H p xs∧k=!xs.isEmpty)∨(∃ xs,SqT K H p xs∧k=!xs.isEmpty)∨∃ kvs,H p=some (.dK kvs)∧k=!kvs.isEmpty
  | _=>False
theorem line63:(sizeLine:Nat) < 2 ^ 63:=by rw [sizeLine_eq]; decide
theorem op_add_str:OpR X (binaryOp .Add) (fun x y H Q=>∃ i j,x=.str i∧y=.str j∧i.length+j.length≤sizeLine∧Q (.str (i++j)) H):=by
  intro pins s σ H x y v u Q I rx ry h
  obtain ⟨i,j,rfl,rfl,hz,q⟩:=h
  obtain ⟨t,rfl⟩:=rx
  obtain ⟨t',rfl⟩:=ry
  exact add_str (fun t' tk=>⟨.str (i++j),H,I.tok _,⟨_,rfl⟩,q⟩) hz
def PlainIxT (b:Expr):Prop:=∀ o i,subscripted b false o i=operate [o,i] (getItem o i)
theorem vals1 {x:V} {us:List Value} (r:Vals [x] us):∃ u,us=[u]∧RelV x u:=by
  cases r with
  | cons r1 r2=>cases r2; exact ⟨_,rfl,r1⟩
theorem vals2 {x y:V} {us:List Value} (r:Vals [x,y] us):∃ u w',us=[u,w']∧RelV x u∧RelV y w':=by
  cases r with
  | cons r1 r2 =>
    cases r2 with
    | cons r3 r4=>cases r4; exact ⟨_,_,rfl,r1,r3⟩
theorem call_max2 (hc:X.calm=true):CallR X (.builtin "max") (fun xs H Q=>∃ i j,xs=[.int i,.int j]∧Q (.int (if j > i then j else i)) H):=by
  intro pins s σ H xs us Q I r h
  obtain ⟨i,j,rfl,q⟩:=h
  obtain ⟨u,w',rfl,⟨t,rfl⟩,⟨t',rfl⟩⟩:=vals2 r
  refine max_two_ints (I.ok.hd hc) fun h' tk k=>⟨_,H,I.kept k,?_,q⟩
  by_cases hj:j > i
  · rw [if_pos hj,if_pos hj]; exact ⟨_,rfl⟩
  · rw [if_neg hj,if_neg hj]; exact ⟨_,rfl⟩
theorem call_min2 (hc:X.calm=true):CallR X (.builtin "min") (fun xs H Q=>∃ i j,xs=[.int i,.int j]∧Q (.int (if j < i then j else i)) H):=by
  intro pins s σ H xs us Q I r h
  obtain ⟨i,j,rfl,q⟩:=h
  obtain ⟨u,w',rfl,⟨t,rfl⟩,⟨t',rfl⟩⟩:=vals2 r
  refine min_two_ints (I.ok.hd hc) fun h' tk k=>⟨_,H,I.kept k,?_,q⟩
  by_cases hj:j < i
  · rw [if_pos hj,if_pos hj]; exact ⟨_,rfl⟩
  · rw [if_neg hj,if_neg hj]; exact ⟨_,rfl⟩
theorem call_int1:CallR X (.type "int") (fun xs H Q=>(∃ i,xs=[.int i]∧Q (.int i) H)∨∃ k,xs=[.bl k]∧Q (.int (if k then 1 else 0)) H):=by
  intro pins s σ H xs us Q I r h
  rcases h with ⟨i,rfl,q⟩ | ⟨k,rfl,q⟩
  · obtain ⟨u,rfl,t,rfl⟩:=vals1 r
    exact call_int_int ⟨.int i,H,I,⟨_,rfl⟩,q⟩
  · obtain ⟨u,rfl,r1⟩:=vals1 r
    cases r1
    exact call_int_bool ⟨.int (if k then 1 else 0),H,I.tok _,⟨_,rfl⟩,q⟩
def LenV (K:PySem.W.Frag) (x:V) (H:Hp) (n:Nat):Prop :=
  match x with
  | .str y=>y.length≤sizeLine∧n=y.length
  | .byt y=>y.size≤sizeLine∧n=y.size
  | .ref p=>(∃ xs,SqL K H p xs∧n=xs.length)∨∃ xs,SqT K H p xs∧n=xs.length
  | _=>False
end
end L2
namespace L2
open PySem PySem.Spec PyProof.Rows
structure ObjM (h:Heap) (x dx C:Addr) (mA:Str→Option Value):Prop where
  obj:h.get? x=some (PySem.W.instObj C dx)
  ns:h.Ns1 dx mA
  ne:dx ≠ x
theorem lookIn_ns {h:Heap} {dx:Addr} {mA:Str→Option Value} (n:h.Ns1 dx mA):∃ od,h.get? dx=some od∧∀ name,PySem.W.lookIn name od=some (mA name):=by
  obtain ⟨o,es,ep,ho,hd,hk,_,hm⟩:=n
  refine ⟨o,ho,fun name=>?_⟩
  have e:=hm name
  unfold nsFind findBy at e
  rw [← Array.find?_toList] at e
  unfold PySem.W.lookIn
  rw [hd]
  dsimp only
  split
  · rename_i y q
    rw [q] at e
    exact congrArg some e
  · rename_i q
    rw [q] at e
    have a:es.toList.any (·.refKey)=false:=by
      rw [List.any_eq_false]
      intro y hy
      obtain ⟨z,t,hkey⟩:=hk y (Array.mem_toList_iff.mp hy)
      simp [DictEntry.refKey,hkey]
    have a':¬ es.toList.any (·.refKey)=true:=by rw [a]; exact Bool.false_ne_true
    rw [if_neg a']
    exact congrArg some e
theorem ObjM.look {h:Heap} {x dx C:Addr} {mA:Str→Option Value} (I:ObjM h x dx C mA):∃ od,PySem.W.InstAt h x (PySem.W.instObj C dx) C (some od)∧∀ name,PySem.W.lookIn name od=some (mA name) :=
  let ⟨od,ho,hl⟩:=lookIn_ns I.ns
  ⟨od,⟨I.obj,rfl,rfl,ho⟩,hl⟩
section
variable {prog:Program} {w:World} {A:Around} {E:Value→Shared→Prop} {s:Shared} {K:PySem.W.Frag} {x dx C f:Addr} {mA:Str→Option Value} {name:Str} {v:Value}
theorem get_map {expr:Bool} {Q:Value→Shared→Prop} (X:K.In s.heap) (I:ObjM s.heap x dx C mA) (hg:PySem.W.plainGet K C name=true) (hh:PySem.W.hasDictIn K C=true)
    (ha:PySem.W.findIn K (.ref C) name=some none) (hv:mA name=some v) (hv':PySem.W.handedIn v=true) (h:Q v { s with toks:=s.toks+1 }) :
    wpAny (model prog w) A (getAttr (.ref x) name expr) Q E s:=by
  obtain ⟨od,J,hl⟩:=I.look
  exact PySem.W.get_value X J (PySem.W.plainGet_of hg).1 (PySem.W.findObj_own hh ha rfl (by rw [hl,hv])) hv' h
theorem get_meth {pl:Sem Bool} {Q:Value × List Value→Shared→Prop} (X:K.In s.heap) (I:ObjM s.heap x dx C mA) (hg:PySem.W.plainGet K C name=true)
    (hf:PySem.W.findIn K (.ref C) name=some (some (.ref f))) (ht:PySem.W.isFn K (.ref f)=true) (hv:mA name=none) (h:Q (.ref f,[.ref x]) s) :
    wpAny (model prog w) A (getMethod (.ref x) name pl) Q E s:=by
  obtain ⟨od,J,hl⟩:=I.look
  exact PySem.W.method_fn X J (PySem.W.plainGet_of hg).1 (PySem.W.plainGet_of hg).2 hf (beq_iff_eq.mp ht) (by show (PySem.W.lookIn name od).map (·.isSome)=some false; rw [hl,hv]; rfl) h
theorem set_map {ns:List Str} {Q:Unit→Shared→Prop} (X:K.In s.heap) (I:ObjM s.heap x dx C mA)
    (hs:PySem.W.findIn K (.ref C) "__setattr__" = some (some (.builtin "object.__setattr__"))) (hp:PySem.W.plainOver K C=true) (ht:PySem.W.takerIn K C name=some none) (hh:PySem.W.hasDictIn K C=true)
    (hw:PySem.Within mA ns) (hsz:ns.length≤sizeLine)
    (h:∀ h',ObjM h' x dx C (fun y=>if y=name then some v else mA y)→Heap.SameBut dx s.heap h'→Q () { s with heap:=h',toks:=s.toks+2 }) :
    wpAny (model prog w) A (setAttr (.ref x) name v) Q E s:=by
  obtain ⟨od,J,hl⟩:=I.look
  refine PySem.W.set_plain X J hs (PySem.W.osa_open (s:={ s with toks:=s.toks+1 }) (r:=none) X J hp ht fun b=>?_)
  obtain ⟨cd,hc,hd'⟩:=PySem.W.any_some hh
  have hx:s.heap.get? x=some ⟨.ref C,some dx,.plain,#[]⟩:=I.obj
  refine wpAny_bind (wpAny_pure (wpAny_bind (wpAny_bind (wpAny_loadPart hx (wpAny_bind (PySem.W.Looks.here (s:={ s with toks:=s.toks+1 }) (PySem.W.looks_clsIn X hc) ?_))))))
  rw [hd']
  refine wpAny_pure (a:=some dx) (wpAny_bind (wpAny_pure (wpAny_bind ?_)))
  refine wpAny_nsSet1 (s:={ s with toks:=s.toks+1 }) I.ns fun h' hn2 hs2=>?_
  obtain ⟨oD,esD,epD,hoD,hdD,hcD⟩:=hn2.count (PySem.Within.cons name v hw)
  refine wpAny_bind (wpAny_lookBehind hoD (by rw [hdD]; exact pastItsLine_dict (Nat.le_trans hcD (by rw [List.length_cons]; omega))) ?_)
  exact wpAny_pure (h _ ⟨(hs2.2 _ (Ne.symm I.ne)).trans I.obj,hn2,I.ne⟩ hs2)
theorem make_map {R:Result→Shared→Prop} {vs:List Value} {kw:List (Str × Value)} (X:K.In s.heap) (hm:PySem.W.makesIn K C=true)
    (hi:PySem.W.findIn K (.ref C) "__init__" = some (some (.ref f))) (hf:PySem.W.typeIn K (.ref f)=some (.type "function"))
    (h:codeAny (model prog w) (A.under (.builtin "type.__call__" ⟨.ref C::vs,kw⟩)) (.call (.ref f) ⟨.ref (s.heap.objs.size+1)::vs,kw⟩) (PySem.W.InitBack (s.heap.objs.size+1) R)
      { s with heap:=(s.heap.push PySem.W.emptyDict).push (PySem.W.instObj C s.heap.objs.size) }) :
    codeAny (model prog w) A (.call (.ref C) ⟨vs,kw⟩) R s:=by
  obtain ⟨hh,g,d,t,os⟩:=s
  exact PySem.W.make_core (PySem.W.makes_of X hm) (PySem.W.looks_findIn X hi) (fun self=>PySem.W.bind_fn X self hf) (.inl rfl) h
end
def putF (f:Str) (v:V):List (Str × V)→List (Str × V)
  | []=>[(f,v)]
  | (g,x)::r=>if g=f then (g,v)::r else (g,x)::putF f v r
theorem lookup_putF (f g:Str) (v:V):∀ fs:List (Str × V),(putF f v fs).lookup g=if g=f then some v else fs.lookup g
  | []=>by
    show List.lookup g [(f,v)]=_
    by_cases h:g=f
    · have hb:(g == f)=true:=beq_iff_eq.mpr h
      simp only [List.lookup,hb,if_pos h]
    · have hb:(g == f)=false:=beq_eq_false_iff_ne.mpr h
      simp only [List.lookup,hb,if_neg h]
  | (k,x)::r=>by
    have ih:=lookup_putF f g v r
    rw [show putF f v ((k,x)::r)=(if k=f then (k,v)::r else (k,x)::putF f v r) from rfl]
    by_cases hk:k=f
    · rw [if_pos hk]
      by_cases h:g=k
      · have hb:(g == k)=true:=beq_iff_eq.mpr h
        simp only [List.lookup,hb,if_pos (h.trans hk)]
      · have hb:(g == k)=false:=beq_eq_false_iff_ne.mpr h
        simp only [List.lookup,hb,if_neg (fun e:g=f=>h (e.trans hk.symm))]
    · rw [if_neg hk]
      by_cases h:g=k
      · have hb:(g == k)=true:=beq_iff_eq.mpr h
        simp only [List.lookup,hb,if_neg (fun e:g=f=>hk (h.symm.trans e))]
      · have hb:(g == k)=false:=beq_eq_false_iff_ne.mpr h
        simp only [List.lookup,hb]
        exact ih
theorem keys_putF (f:Str) (v:V):∀ fs:List (Str × V),f ∈ (putF f v fs).map (·.1)∧∀ g,g ∈ fs.map (·.1)→g ∈ (putF f v fs).map (·.1)
  | []=>⟨by simp [putF],fun g h=>by simp at h⟩
  | (k,x)::r=>by
    obtain ⟨i1,i2⟩:=keys_putF f v r
    rw [show putF f v ((k,x)::r)=(if k=f then (k,v)::r else (k,x)::putF f v r) from rfl]
    by_cases hk:k=f
    · rw [if_pos hk]
      subst hk
      exact ⟨by simp,fun g h=>by simpa using h⟩
    · rw [if_neg hk]
      refine ⟨?_,fun g h=>?_⟩
      · rw [List.map_cons]
        exact List.mem_cons_of_mem _ i1
      · rw [List.map_cons] at h ⊢
        rcases List.mem_cons.mp h with e | e
        · exact List.mem_cons.mpr (.inl e)
        · exact List.mem_cons_of_mem _ (i2 g e)
theorem length_putF (f:Str) (v:V):∀ fs:List (Str × V),(putF f v fs).length≤fs.length+1
  | []=>by simp [putF]
  | (k,x)::r=>by
    have ih:=length_putF f v r
    rw [show putF f v ((k,x)::r)=(if k=f then (k,v)::r else (k,x)::putF f v r) from rfl]
    by_cases hk:k=f
    · rw [if_pos hk,List.length_cons,List.length_cons]; omega
    · rw [if_neg hk,List.length_cons,List.length_cons]; omega
theorem RelO.some_of {v:V} {o:Option Value} (r:RelO (some v) o):∃ u,o=some u∧RelV v u:=by
  cases o with
  | none=>exact (show False from r).elim
  | some u=>exact ⟨u,rfl,r⟩
theorem RelO.none_of {o:Option Value} (r:RelO none o):o=none:=by
  cases o with
  | none=>rfl
  | some u=>exact (show False from r).elim
theorem handed_of {v:V} {u:Value} (r:RelV v u):PySem.W.handedIn u=true:=by
  cases v with
  | non=>cases (show u=Value.none from r); rfl
  | bl b=>cases (show u=Value.bool b from r); rfl
  | int i=>obtain ⟨t,e⟩:=(show ∃ t,u=Value.int i t from r); cases e; rfl
  | str x=>obtain ⟨t,e⟩:=(show ∃ t,u=Value.str x t from r); cases e; rfl
  | byt b=>obtain ⟨t,e⟩:=(show ∃ t,u=Value.bytes b t from r); cases e; rfl
  | flt b=>obtain ⟨t,e⟩:=(show ∃ t,u=Value.float b t from r); cases e; rfl
  | ref a=>cases (show u=Value.ref a from r); rfl
  | ty n=>cases (show u=Value.type n from r); rfl
section
variable {P:Program} {w:World} {H H':Hp} {h h':Heap} {a C dx:Addr} {fs fs':List (Str × V)}
theorem ins_get (hok:HOk P w H h) (e:H a=some (.ins C dx fs)):∃ mA,ObjM h a dx C mA∧(∀ f,RelO (fs.lookup f) (mA f))∧PySem.Within mA (fs.map (·.1))∧fs.length≤1000∧H dx=some (.own a):=by
  obtain ⟨d,z,ne,ob,mA,n,r,q⟩:=(show ObjOk P w H h a (.ins C dx fs) from hok a _ e)
  exact ⟨mA,⟨ob,n,ne⟩,r,q,z,d⟩
end
structure Cls (K:PySem.W.Frag) (C:Addr):Prop where
  pg:PySem.W.plainGet K C Str.empty=true
  hd:PySem.W.hasDictIn K C=true
  po:PySem.W.plainOver K C=true
  sa:PySem.W.findIn K (.ref C) "__setattr__" = some (some (.builtin "object.__setattr__"))
theorem Cls.get {K:PySem.W.Frag} {C:Addr} (c:Cls K C) (f:Str):PySem.W.plainGet K C f=true:=c.pg
def NoAttr (K:PySem.W.Frag) (C:Addr) (f:Str):Prop:=PySem.W.findIn K (.ref C) f=some none
theorem NoAttr.taker {K:PySem.W.Frag} {C:Addr} {f:Str} (n:NoAttr K C f):PySem.W.takerIn K C f=some none:=by
  unfold PySem.W.takerIn
  rw [show PySem.W.findIn K (.ref C) f=some none from n]
  rfl
structure Con (K:PySem.W.Frag) (C:Addr) (f:Str) (v:V) (u:Value):Prop where
  at_:PySem.W.findIn K (.ref C) f=some (some u)
  rel:RelV v u
  get:PySem.W.specialIn K u "__get__" = some none
  cp:PySem.W.copiedNames.contains f=false
structure Meth (K:PySem.W.Frag) (C:Addr) (m:Str) (f:Addr):Prop where
  at_:PySem.W.findIn K (.ref C) m=some (some (.ref f))
  fn:PySem.W.isFn K (.ref f)=true
  kp:PySem.W.keepIn K (.ref f)=true
section
variable {X:Cx} {pins:List (Addr × Obj)} {σ:St} {H:Hp} {s:Shared} {a C dx:Addr} {fs:List (Str × V)} {f:Str} {v:V} {A:Around} {E:Value→Shared→Prop}
theorem getattr_ok {b:Bool} {Q:Value→Shared→Prop} (I:Inv X pins σ H s) (e:H a=some (.ins C dx fs)) (c:Cls X.K C) (n:NoAttr X.K C f) (l:fs.lookup f=some v)
    (h:∀ u s',Inv X pins σ H s'→RelV v u→Q u s'):wpAny (model X.prog X.w) A (getAttr (.ref a) f b) Q E s:=by
  obtain ⟨mA,O,r,_,_,_⟩:=ins_get I.hok e
  obtain ⟨u,hu,ru⟩:=RelO.some_of (v:=v) (o:=mA f) (by rw [← l]; exact r f)
  exact get_map I.kIn O (c.get f) c.hd n hu (handed_of ru) (h u _ (I.tok _) ru)
theorem getmeth_ok {m:Str} {g:Addr} {pl:Sem Bool} {Q:Value × List Value→Shared→Prop} (I:Inv X pins σ H s) (e:H a=some (.ins C dx fs)) (c:Cls X.K C) (k:Meth X.K C m g) (l:fs.lookup m=none)
    (h:Q (.ref g,[.ref a]) s):wpAny (model X.prog X.w) A (getMethod (.ref a) m pl) Q E s:=by
  obtain ⟨mA,O,r,_,_,_⟩:=ins_get I.hok e
  have hn:mA m=none:=RelO.none_of (by rw [← l]; exact r m)
  exact get_meth I.kIn O (c.get m) k.at_ k.fn hn h
theorem setattr_ok {y:V} {u:Value} {Q:Unit→Shared→Prop} (I:Inv X pins σ H s) (e:H a=some (.ins C dx fs)) (c:Cls X.K C) (n:NoAttr X.K C f) (hl:fs.length < 1000) (ry:RelV y u)
    (h:∀ s',Inv X pins σ (upd H a (.ins C dx (putF f y fs))) s'→Q () s'):wpAny (model X.prog X.w) A (setAttr (.ref a) f u) Q E s:=by
  obtain ⟨mA,O,r,wi,_,ho⟩:=ins_get I.hok e
  have hz:(fs.map (·.1)).length≤sizeLine:=by rw [List.length_map,sizeLine_eq]; omega
  refine set_map I.kIn O c.sa c.po n.taker c.hd wi hz fun h' O' sb=>h _ ?_
  have hd:∃ o,h'.get? dx=some o:=let ⟨o,_,_,e',_⟩:=O'.ns; ⟨o,e'⟩
  refine I.write (x:=a) (e:=dx) (by rw [e]; exact True.intro) (.inr ho) (fun b q hb z=>(sb.2 b hb).trans z) hd ?_
  refine ⟨by rw [upd_ne O.ne]; exact ho,?_,O.ne,O'.obj,_,O'.ns,fun g=>?_,fun g hg=>?_⟩
  · have:=length_putF f y fs; omega
  · show RelO ((putF f y fs).lookup g) (if g=f then some u else mA g)
    rw [lookup_putF]
    by_cases q:g=f
    · rw [if_pos q,if_pos q]; exact ry
    · rw [if_neg q,if_neg q]; exact r g
  · by_cases q:g=f
    · rw [q]; exact (keys_putF f y fs).1
    · refine (keys_putF f y fs).2 g (wi g fun z=>hg ?_)
      show (if g=f then some u else mA g)=none
      rw [if_neg q]; exact z
theorem Inv.made (I:Inv X pins σ H s):Inv X pins σ (upd (upd H s.heap.objs.size (.own (s.heap.objs.size+1))) (s.heap.objs.size+1) (.ins C s.heap.objs.size []))
    { s with heap:=(s.heap.push PySem.W.emptyDict).push (PySem.W.instObj C s.heap.objs.size) }:=by
  have e1:(s.heap.push PySem.W.emptyDict).get? s.heap.objs.size=some PySem.W.emptyDict:=Heap.get?_push_size s.heap rfl
  have e2:((s.heap.push PySem.W.emptyDict).push (PySem.W.instObj C s.heap.objs.size)).get? (s.heap.objs.size+1)=some (PySem.W.instObj C s.heap.objs.size):=by
    have:=Heap.get?_push_size (s.heap.push PySem.W.emptyDict) (o:=PySem.W.instObj C s.heap.objs.size) rfl
    rwa [Heap.size_push] at this
  have e3:(s.heap.push PySem.W.emptyDict).Ns s.heap.objs.size (fun _=>none):=⟨PySem.W.emptyDict,#[],_,e1,rfl,(fun e he=>absurd he (by simp)),fun _=>rfl⟩
  have I1:=I.laid (a:=s.heap.objs.size) (o:=.own (s.heap.objs.size+1)) (h':=s.heap.push PySem.W.emptyDict) (t':=s.toks) (fun b u q=>Heap.get?_push_of_some _ q) (Nat.le_refl _) ⟨_,e1⟩
  refine I1.laid (a:=s.heap.objs.size+1) (o:=.ins C s.heap.objs.size []) (t':=s.toks) (fun b u q=>Heap.get?_push_of_some _ q) (Nat.le_of_eq (Heap.size_push _ _)) ?_
  have ne:s.heap.objs.size ≠ s.heap.objs.size+1:=Nat.ne_of_lt (Nat.lt_succ_self _)
  refine ⟨by rw [upd_ne ne,upd_same],Nat.zero_le _,ne,e2,fun _=>none,(Heap.Ns1.of_empty e3).at fun o q=>Heap.get?_push_of_some _ q,fun _=>True.intro,fun y hy=>absurd rfl hy⟩
theorem attr_of {prog:Program} {w:World} {env:Env} {e:Expr} {f:Str} {pos:Pos} {s:Shared} {Q:Value→Shared→Prop} (hb:attributeBase e f env (eval e env)=eval e env)
    (h:wpAny (model prog w) A (eval e env) (fun o s₁=>wpAny (model prog w) A (getAttr o f true) Q E s₁) E s):wpAny (model prog w) A (eval (.Attribute e f pos) env) Q E s :=
  Attribute_any_ h (by rw [arm_eval_Attribute,hb])
end
def tFld (K:PySem.W.Frag) (ta:TE) (f:Str):TE:=fun σ H Q=>ta σ H fun x H1=>∃ a C dx fs v,x=.ref a∧H1 a=some (.ins C dx fs)∧Cls K C∧NoAttr K C f∧fs.lookup f=some v∧Q v H1
def tCon (K:PySem.W.Frag) (ta:TE) (f:Str):TE:=fun σ H Q=>ta σ H fun x H1=>∃ a C dx fs v u,x=.ref a∧H1 a=some (.ins C dx fs)∧Cls K C∧Con K C f v u∧fs.lookup f=none∧Q v H1
def sFld (K:PySem.W.Frag) (ta tv:TE) (f:Str):TS:=fun D σ H=>tv σ H fun y H1=>ta σ H1 fun x H2=>∃ a C dx fs,x=.ref a∧H2 a=some (.ins C dx fs)∧Cls K C∧NoAttr K C f∧fs.length < 1000 ∧
  D.nx σ (upd H2 a (.ins C dx (putF f y fs)))
def InOp (X:Cx) (op:Operator) (rd:V→V→Hp→VK→Prop):Prop :=
  ∀ (pins:List (Addr × Obj)) (s:Shared) (σ:St) (H:Hp) (x y:V) (u v:Value) (Q:VK),Inv X pins σ H s→RelV x u→RelV y v→rd x y H Q→wpAny (model X.prog X.w) X.A (inplaceOp op u v) (EP X pins σ Q) X.xe s
def sFldAug (K:PySem.W.Frag) (ta tv:TE) (rd:V→V→Hp→VK→Prop) (f:Str):TS:=fun D σ H=>ta σ H fun x H1=>∃ a C dx fs v,x=.ref a∧H1 a=some (.ins C dx fs)∧Cls K C∧NoAttr K C f∧fs.lookup f=some v ∧
  tv σ H1 fun y H2=>rd v y H2 fun z H3=>∃ dx' fs',H3 a=some (.ins C dx' fs')∧fs'.length < 1000∧D.nx σ (upd H3 a (.ins C dx' (putF f z fs')))
section
variable {X:Cx} {o e value:Expr} {f:Str} {pos pos' tpos:Pos} {ta tv:TE}
theorem pe_fld (he:PE X e ta) (hb:attributeBase e f X.env (eval e X.env)=eval e X.env):PE X (.Attribute e f pos) (tFld X.K ta f):=by
  intro pins s σ H Q I h
  refine attr_of hb (thn (he pins s σ H _ I h) fun u s1 ⟨x,H1,I1,rx,a,C,dx,fs,v,ex,ea,c,n,l,q⟩=>?_)
  subst ex
  obtain rfl:u=Value.ref a:=rx
  exact getattr_ok I1 ea c n l fun u' s2 I2 ru=>⟨v,H1,I2,ru,q⟩
theorem ps_fld (ha:PE X o ta) (hv:PE X value tv) (hs:swapsWith value (some (.Attribute o f pos')) pos.line X.env=pure false):PS X (.Assign [.Attribute o f pos'] value pos) (sFld X.K ta tv f):=by
  intro pins s σ H D I h
  refine plainObj_wpAny_Assign_Attribute (thn (hv pins s σ H _ I h) fun u s1 ⟨y,H1,I1,ry,q⟩=>thn (ha pins s1 σ H1 _ I1 q) fun ov s2 ⟨x,H2,I2,rx,a,C,dx,fs,ex,ea,c,n,l,q2⟩=>?_) hs
  subst ex
  obtain rfl:ov=Value.ref a:=rx
  exact setattr_ok I2 ea c n l ry fun s3 I3=>⟨σ,_,I3,q2⟩
def rAdd:V→V→Hp→VK→Prop:=fun x y H Q=>∃ i j,x=.int i∧y=.int j∧Q (.int (i+j)) H
def rSub:V→V→Hp→VK→Prop:=fun x y H Q=>∃ i j,x=.int i∧y=.int j∧Q (.int (i - j)) H
end
section
variable {X:Cx} {pins:List (Addr × Obj)} {σ:St} {H:Hp} {s:Shared} {A:Around} {E:Value→Shared→Prop} {Q:Value→Shared→Prop} {c:Value} {b:Bool}
inductive TyOf (K:PySem.W.Frag) (H:Hp):V→Value→Prop where
  | non:TyOf K H .non (.type "NoneType")
  | bl (x:Bool):TyOf K H (.bl x) (.type "bool")
  | int (i:Int):TyOf K H (.int i) (.type "int")
  | str (x:Str):TyOf K H (.str x) (.type "str")
  | flt (x:UInt64):TyOf K H (.flt x) (.type "float")
  | lst {a:Addr} {xs:List V} (e:H a=some (.lst xs)):TyOf K H (.ref a) (.type "list")
  | frz {a:Addr} {o:Obj} {xs:List V} (e:H a=some (.frz o (.lst xs))):TyOf K H (.ref a) (.type "list")
  | tup {a:Addr} {xs:List V} (e:H a=some (.tup xs)):TyOf K H (.ref a) (.type "tuple")
  | dK {a:Addr} {kvs:List (Key × V)} (e:H a=some (.dK kvs)):TyOf K H (.ref a) (.type "dict")
  | dT {a:Addr} {kvs:List (List Key × V)} (e:H a=some (.dT kvs)):TyOf K H (.ref a) (.type "dict")
  | ins {a C dx:Addr} {fs:List (Str × V)} (e:H a=some (.ins C dx fs)) (cl:Cls K C) (ha:PySem.W.findIn K (.ref C) "__class__" = some (some (.builtin "object.__class__")))
      (hn:PySem.W.specialIn K (.builtin "object.__class__") "__get__" = some (some (.builtin "getset_descriptor.__get__"))) (htk:PySem.W.takesIn K (.builtin "object.__class__")=some true)
      (hm:PySem.W.mroIn K C (.type "object")=some true):TyOf K H (.ref a) (.ref C)
end
end L2
namespace L2
open PySem PySem.Spec PyProof.Rows
structure Room (k:Nat) (A:Around):Prop where
  hd:A.handled=none
  dp:A.depth+3*k+5 < recursionLimit
  un:A.units+16*k+200 < cLine
theorem Room.mono {j k:Nat} {A:Around} (r:Room k A) (h:j≤k):Room j A:=⟨r.hd,by have:=r.dp; omega,by have:=r.un; omega⟩
theorem Room.deeper {k:Nat} {A:Around} (r:Room (k+1) A) (env:Env):Room k (A.deeper env) :=
  ⟨r.hd,by have:=r.dp; show A.depth+1+3*k+5 < _; omega,by have:=r.un; show A.units+3+16*k+200 < _; omega⟩
theorem make_depth {A:Around} {C:Addr} {us:List Value} {kw:List (Str × Value)}:(A.under (.builtin "type.__call__" ⟨.ref C::us,kw⟩)).depth=A.depth+1:=by
  first | rfl | simp [Around.under,Code.weight,Code.isCreation,Code.isGuard,Code.isCaller,Code.frames,Code.isFrame,guardIds]
theorem make_units {A:Around} {C:Addr} {us:List Value} {kw:List (Str × Value)}:(A.under (.builtin "type.__call__" ⟨.ref C::us,kw⟩)).units=A.units+1:=by
  first | rfl | simp [Around.under,Code.cUnits,Code.frames,Code.isFrame]
theorem Room.make {k:Nat} {A:Around} (r:Room (k+1) A) (C:Addr) (us:List Value) (kw:List (Str × Value)):Room k (A.under (.builtin "type.__call__" ⟨.ref C::us,kw⟩)) :=
  ⟨r.hd,by have:=r.dp; rw [make_depth]; omega,by have:=r.un; rw [make_units]; omega⟩
theorem Room.depth {k:Nat} {A:Around} (r:Room k A):A.depth < recursionLimit:=by have:=r.dp; omega
theorem Room.units {k:Nat} {A:Around} (r:Room k A):A.units+64 < cLine:=by have:=r.un; omega
def tNil:TA:=fun _ H Q=>Q [] H
def tCons (ta:TE) (tr:TA):TA:=fun σ H Q=>ta σ H fun x H1=>tr σ H1 fun xs H2=>Q (x::xs) H2
section
variable {X:Cx} {e:Expr} {es:List Expr} {te:TE} {t:TA} {pos:Pos}
theorem pa_nil:PA X [] tNil:=fun _ _ _ _ H Q I h=>Calls.spliced_nil ⟨[],H,I,.nil,h⟩
theorem pa_cons (ha:PE X e te) (hr:PA X es t) (hs:starEach (e::es) X.env=(false,eval e X.env)::starEach es X.env:=by rfl):PA X (e::es) (tCons te t):=by
  intro pos pins s σ H Q I h
  rw [hs]
  show wpAny _ _ (spliced ((false,eval e X.env)::backTo pos (starEach es X.env))) _ _ s
  refine Calls.spliced_cons (thn (ha pins s σ H _ I h) fun u s1 ⟨x,H1,I1,r1,q1⟩=>?_)
  exact thn (hr pos pins s1 σ H1 _ I1 q1) fun us s2 ⟨xs,H2,I2,r2,q2⟩=>⟨x::xs,H2,I2,.cons r1 r2,q2⟩
def tTup (t:TA):TE:=fun σ H Q=>t σ H fun xs H1=>xs.length≤sizeLine∧∀ p,H1 p=none→Q (.ref p) (upd H1 p (.tup xs))
def tLst (t:TA):TE:=fun σ H Q=>t σ H fun xs H1=>xs.length≤sizeLine∧∀ p,H1 p=none→Q (.ref p) (upd H1 p (.lst xs))
theorem pe_tup {x1} (h:PA X es t):PE X (.Tuple es x1 pos) (tTup t):=by
  intro pins s σ H Q I hq
  refine wpAny_Tuple_spliced (thn (h pos pins s σ H _ I hq) fun us s1 ⟨xs,H1,I1,r,z,q⟩=>⟨by rw [← r.length]; exact z,?_⟩)
  have hf:H1 s1.heap.objs.size=none:=I1.hok.fresh (Nat.le_refl _)
  refine ⟨.ref s1.heap.objs.size,upd H1 s1.heap.objs.size (.tup xs),I1.laid (t':=s1.toks) (fun b u e=>Heap.get?_push_of_some _ e) (Nat.le_refl _) ?_,rfl,q _ hf⟩
  exact ⟨z,us,r,⟨_,Heap.get?_push_size _ rfl,rfl,_,rfl⟩,_,Heap.get?_push_size _ rfl,rfl⟩
theorem pe_lst (h:PA X es t):PE X (.List es pos) (tLst t):=by
  intro pins s σ H Q I hq
  refine wpAny_List_spliced (thn (h pos pins s σ H _ I hq) fun us s1 ⟨xs,H1,I1,r,z,q⟩=>⟨by rw [← r.length]; exact z,?_⟩)
  have hf:H1 s1.heap.objs.size=none:=I1.hok.fresh (Nat.le_refl _)
  refine ⟨.ref s1.heap.objs.size,upd H1 s1.heap.objs.size (.lst xs),I1.laid (t':=s1.toks) (fun b u e=>Heap.get?_push_of_some _ e) (Nat.le_refl _) ?_,rfl,q _ hf⟩
  exact ⟨z,us,0,r,Heap.get?_push_size _ rfl⟩
end
abbrev Sp:=List V→Hp→VK→XK→Prop
abbrev CXT:=List Env→Hp→Shared→XK→Value→Shared→Prop
structure Env0 (P:Program) (w:World) (K:PySem.W.Frag) (mg:Str→Option Value) (base:Heap) (A:Around) (outer:List Env) (s:Shared) (H:Hp):Prop where
  frames:A.frames=some outer
  mod:Mod K mg base
  bs:∀ b o,base.get? b=some o→s.heap.get? b=some o∧H b=none
  bsz:base.objs.size≤s.heap.objs.size
  funs:s.heap.FunFrames base outer
  frf:∀ b ∈ frs outer,H b=none
  hok:HOk P w H s.heap
  bare:AllBare s.gens
def CE (outer:List Env) (P:Program) (w:World) (H:Hp) (s:Shared) (Q:VK) (u:Value) (s':Shared):Prop :=
  ∃ v H',s'.os=s.os∧AllBare s'.gens∧Un (frs outer) [] H H' s.heap s'.heap∧HOk P w H' s'.heap∧RelV v u∧Q v H'
def CR (CX:CXT) (outer:List Env) (P:Program) (w:World) (H:Hp) (s:Shared) (Q:VK) (E:XK) (r:Result) (s':Shared):Prop :=
  match r with
  | .ok (.ret u)=>CE outer P w H s Q u s'
  | .ok _=>False
  | .error e=>CX outer H s E e s'
structure FnOk (P:Program) (w:World) (K:PySem.W.Frag) (mg:Str→Option Value) (base:Heap) (CX:CXT) (k:Nat) (f:Addr) (fd:FuncData) (ps:List Str) (sp:Sp):Prop where
  len:∀ vs H Q E,sp vs H Q E→vs.length=ps.length
  run:∀ (A:Around) (outer:List Env) (s:Shared) (H:Hp) (args:Args) (us:List Value) (vs:List V) (Q:VK) (E:XK),Room k A→Env0 P w K mg base A outer s H→BindsTo s fd args (ps.zip us)→Vals vs us→sp vs H Q E →
    codeAny (model P w) A (.call (.ref f) args) (CR CX outer P w H s Q E) s
theorem Env0.make {P:Program} {w:World} {K:PySem.W.Frag} {mg:Str→Option Value} {base:Heap} {A:Around} {outer:List Env} {s:Shared} {H:Hp} (e:Env0 P w K mg base A outer s H) (C:Addr) (us:List Value) (kw:List (Str × Value)) :
    Env0 P w K mg base (A.under (.builtin "type.__call__" ⟨.ref C::us,kw⟩)) outer s H:=⟨by first | exact e.frames | (simpa [Around.under,Code.envs,Code.isFrame,pushEnvs] using e.frames),e.mod,e.bs,e.bsz,e.funs,e.frf,e.hok,e.bare⟩
section
variable {X:Cx} {pins:List (Addr × Obj)} {σ:St} {H:Hp} {s s':Shared}
theorem Inv.env0 (I:Inv X pins σ H s):Env0 X.prog X.w X.K X.mg X.base X.A X.stack s H :=
  ⟨I.ok.frames,I.ok.mod,I.bs,Nat.le_trans I.ok.bsz I.sz,I.stack,I.stkFree,I.hok,I.bare⟩
theorem Inv.after {Q:VK} {u:Value} (I:Inv X pins σ H s) (h:CE X.stack X.prog X.w H s Q u s'):EP X pins σ Q u s':=by
  obtain ⟨v,H',os,bare,un,hok,r,q⟩:=h
  obtain ⟨hh,g,d,t,os'⟩:=s'
  obtain rfl:os'=s.os:=os
  exact ⟨v,H',I.call (h':=hh) (g':=g) (d':=d) (t':=t) (ch:=[]) un hok bare (fun b z=>absurd z (by simp)),r,q⟩
end
def tCall (sp:Sp) (dvs:List V) (E:XK) (t:TA):TE:=fun σ H Q=>t σ H fun vs H1=>sp (vs++dvs) H1 Q E
def tMeth (C:Addr) (m:Str) (sp:Sp) (dvs:List V) (E:XK) (ta:TE) (t:TA):TE:=fun σ H Q=>ta σ H fun x H1=>∃ a dx fs,x=.ref a∧H1 a=some (.ins C dx fs)∧fs.lookup m=none ∧
  t σ H1 fun vs H2=>sp (x::(vs++dvs)) H2 Q E
def tMake (C:Addr) (sp:Sp) (dvs:List V) (E:XK) (t:TA):TE:=fun σ H Q=>t σ H fun vs H1=>∀ x dx,H1 x=none→H1 dx=none→dx ≠ x →
  sp (.ref x::(vs++dvs)) (upd (upd H1 dx (.own x)) x (.ins C dx [])) (fun v H2=>v=.non∧Q (.ref x) H2) E
def Binds (K:PySem.W.Frag) (fd:FuncData) (ps:List Str) (ds:List Value):Prop :=
  ∀ (s:Shared) (us:List Value),K.In s.heap→(us++ds).length=ps.length→BindsTo s fd ⟨us,[]⟩ (ps.zip (us++ds))
theorem Binds.all {K:PySem.W.Frag} {fd:FuncData} {ps:List Str} (h:∀ us:List Value,us.length=ps.length→bindArgs fd ⟨us,[]⟩=pure (ps.zip us)):Binds K fd ps []:=fun s us _ hl=>by
  rw [List.append_nil] at hl ⊢
  exact .of_eq (h us hl)
def Passes (CX:CXT) (X:Cx) (E:XK):Prop:=∀ (pins:List (Addr × Obj)) (σ:St) (H:Hp) (s:Shared) (e:Value) (s':Shared),Inv X pins σ H s→CX X.stack H s E e s'→X.xe e s'
section
variable {X:Cx} {CX:CXT} {k:Nat} {f C:Addr} {fd:FuncData} {ps:List Str} {sp:Sp} {dvs:List V} {ds:List Value} {E:XK} {x m:Str} {p pos apos:Pos} {e o:Expr} {es:List Expr} {ta:TE} {t:TA}
theorem run_fn {pins:List (Addr × Obj)} {σ:St} {H:Hp} {s:Shared} {Q:VK} {us:List Value} {vs:List V} (F:FnOk X.prog X.w X.K X.mg X.base CX k f fd ps sp) (hr:Room k X.A) (hb:Binds X.K fd ps ds) (hd:Vals dvs ds) (hx:Passes CX X E)
    (I:Inv X pins σ H s) (r:Vals vs us) (h:sp (vs++dvs) H Q E):wpAny (model X.prog X.w) X.A (call (.ref f) us) (EP X pins σ Q) X.xe s:=by
  have r2:Vals (vs++dvs) (us++ds):=r.append hd
  have hl:(us++ds).length=ps.length:=by rw [← r2.length]; exact F.len _ _ _ _ h
  refine wpAny_call (codeAny_mono (F.run X.A X.stack s H ⟨us,[]⟩ (us++ds) (vs++dvs) Q E hr I.env0 (hb s us I.kIn hl) r2 h) fun r s' hq=>?_)
  cases r with
  | error e=>exact hx pins σ H s e s' I hq
  | ok fl =>
    cases fl with
    | ret u=>exact I.after hq
    | next=>exact False.elim hq
    | brk=>exact False.elim hq
    | cont=>exact False.elim hq
theorem pe_call (F:FnOk X.prog X.w X.K X.mg X.base CX k f fd ps sp) (hr:Room k X.A) (hg:Gl X x) (hm:X.mg x=some (.ref f)) (hk:PySem.W.keepIn X.K (.ref f)=true) (hb:Binds X.K fd ps ds) (hd:Vals dvs ds) (hx:Passes CX X E)
    (ha:PA X (e::es) t) (hdb:(x == ("__debug__" : Str))=false:=by decide) (he:starEach (e::es) X.env=(false,eval e X.env)::starEach es X.env:=by rfl) (hpl:(backTo pos (starEach es X.env)).any (·.1)=false:=by rfl) :
    PE X (.Call (.Name x p) (e::es) [] pos) (tCall sp dvs E t):=by
  intro pins s σ H Q I h
  refine wpAny_Call_Name_kw (ld_glob I hg hm ?_ hdb)
  refine PySem.W.callWith_K (h₀:=X.base) I.ok.mod.kin hk (thn (ha pos pins s σ H _ I h) fun us s1 ⟨vs,H1,I1,r,q⟩=>⟨I1.kIn,?_⟩) he hpl
  exact run_fn F hr hb hd hx I1 r q
theorem pe_meth {pl:Sem Bool} (he:PE X o ta) (c:Cls X.K C) (hm:Meth X.K C m f) (F:FnOk X.prog X.w X.K X.mg X.base CX k f fd ps sp) (hr:Room k X.A) (hb:Binds X.K fd ps ds) (hd:Vals dvs ds) (hx:Passes CX X E) (ha:PA X (e::es) t)
    (hst:starEach (e::es) X.env=(false,eval e X.env)::starEach es X.env:=by rfl) (hpl:(backTo pos (starEach es X.env)).any (·.1)=false:=by rfl)
    (ht:eval (.Call (.Attribute o m apos) (e::es) [] pos) X.env=(do
      let ov ← eval o X.env
      standAt apos.atName
      let (f,first) ← holding [ov] (getMethod ov m pl)
      callWith pos f first (backTo pos (starEach (e::es) X.env)) (backToKw pos (keywordEach [] X.env))):=by rfl) :
    PE X (.Call (.Attribute o m apos) (e::es) [] pos) (tMeth C m sp dvs E ta t):=by
  intro pins s σ H Q I h
  refine PySem.W.methodCall_KW (pl:=pl) (thn (he pins s σ H _ I h) fun u s1 ⟨x,H1,I1,rx,a,dx,fs,ex,ea,l,q⟩=>?_) ht
  subst ex
  obtain rfl:u=Value.ref a:=rx
  refine getmeth_ok I1 ea c hm l ?_
  refine PySem.W.callWith_K (first:=[.ref a]) (h₀:=X.base) I.ok.mod.kin hm.kp (thn (ha pos pins s1 σ H1 _ I1 q) fun us s2 ⟨vs,H2,I2,r,q2⟩=>⟨I2.kIn,?_⟩) hst hpl
  exact run_fn (us:=.ref a::us) (vs:=.ref a::vs) F hr hb hd hx I2 (.cons rfl r) q2
structure Mk (K:PySem.W.Frag) (C f:Addr):Prop where
  makes:PySem.W.makesIn K C=true
  init:PySem.W.findIn K (.ref C) "__init__" = some (some (.ref f))
  fn:PySem.W.isFn K (.ref f)=true
  kp:PySem.W.keepIn K (.ref C)=true
theorem run_make {pins:List (Addr × Obj)} {σ:St} {H:Hp} {s:Shared} {Q:VK} {us:List Value} {vs:List V} (M:Mk X.K C f) (F:FnOk X.prog X.w X.K X.mg X.base CX k f fd ps sp) (hr:Room (k+1) X.A) (hb:Binds X.K fd ps ds) (hd:Vals dvs ds)
    (hx:Passes CX X E) (I:Inv X pins σ H s) (r:Vals vs us)
    (h:∀ x dx,H x=none→H dx=none→dx ≠ x→sp (.ref x::(vs++dvs)) (upd (upd H dx (.own x)) x (.ins C dx [])) (fun v H2=>v=.non∧Q (.ref x) H2) E) :
    wpAny (model X.prog X.w) X.A (call (.ref C) us) (EP X pins σ Q) X.xe s:=by
  have hq:=h (s.heap.objs.size+1) s.heap.objs.size (I.hok.fresh (Nat.le_succ _)) (I.hok.fresh (Nat.le_refl _)) (Nat.ne_of_lt (Nat.lt_succ_self _))
  have I2:=Inv.made (C:=C) I
  have r2:Vals (V.ref (s.heap.objs.size+1)::(vs++dvs)) (Value.ref (s.heap.objs.size+1)::(us++ds)):=.cons rfl (r.append hd)
  have hl:(Value.ref (s.heap.objs.size+1)::us++ds).length=ps.length:=by
    have e:=r2.length
    rw [F.len _ _ _ _ hq] at e
    exact e.symm
  refine wpAny_call (make_map (f:=f) I.kIn M.makes M.init (beq_iff_eq.mp M.fn) (codeAny_mono (F.run _ X.stack _ _ ⟨Value.ref (s.heap.objs.size+1)::us,[]⟩ (Value.ref (s.heap.objs.size+1)::(us++ds)) _ _ E (hr.make C us [])
    (I2.env0.make C us []) (hb _ (Value.ref (s.heap.objs.size+1)::us) I2.kIn hl) r2 hq) fun r s' hq'=>?_))
  cases r with
  | error e=>exact hx pins σ _ _ e s' I2 hq'
  | ok fl =>
    cases fl with
    | ret u =>
      obtain ⟨v,H',I3,rv,ev,q3⟩:=I2.after hq'
      subst ev
      exact ⟨rv,⟨V.ref (s.heap.objs.size+1),H',I3,rfl,q3⟩⟩
    | next=>exact False.elim hq'
    | brk=>exact False.elim hq'
    | cont=>exact False.elim hq'
theorem pe_make (M:Mk X.K C f) (F:FnOk X.prog X.w X.K X.mg X.base CX k f fd ps sp) (hr:Room (k+1) X.A) (hg:Gl X x) (hm:X.mg x=some (.ref C)) (hb:Binds X.K fd ps ds) (hd:Vals dvs ds) (hx:Passes CX X E)
    (ha:PA X (e::es) t) (hdb:(x == ("__debug__" : Str))=false:=by decide) (he:starEach (e::es) X.env=(false,eval e X.env)::starEach es X.env:=by rfl) (hpl:(backTo pos (starEach es X.env)).any (·.1)=false:=by rfl) :
    PE X (.Call (.Name x p) (e::es) [] pos) (tMake C sp dvs E t):=by
  intro pins s σ H Q I h
  refine wpAny_Call_Name_kw (ld_glob I hg hm ?_ hdb)
  refine PySem.W.callWith_K (h₀:=X.base) I.ok.mod.kin M.kp (thn (ha pos pins s σ H _ I h) fun us s1 ⟨vs,H1,I1,r,q⟩=>⟨I1.kIn,?_⟩) he hpl
  exact run_make M F hr hb hd hx I1 r q
end
def PK (X:Cx) (kws:List Keyword) (t:TA):Prop :=
  ∀ (pos:Pos) (pins:List (Addr × Obj)) (s:Shared) (σ:St) (H:Hp) (Q:List V→Hp→Prop),Inv X pins σ H s→t σ H Q→wpAny (model X.prog X.w) X.A (evalAll ((backToKw pos (keywordEach kws X.env)).map (·.2))) (AP X pins σ Q) X.xe s
section
variable {X:Cx} {CX:CXT} {k:Nat} {f C:Addr} {fd:FuncData} {ps ks:List Str} {sp:Sp} {E:XK} {x m:Str} {p pos apos kpos:Pos} {e o:Expr} {es:List Expr} {kws:List Keyword} {te ta:TE} {t tk:TA} {nm:Option Str}
structure KBinds (K:PySem.W.Frag) (fd:FuncData) (ps ks:List Str) (g:List Value→List Value→List Value) (gV:List V→List V→List V):Prop where
  to:∀ (s:Shared) (us ws:List Value),K.In s.heap→(g us ws).length=ps.length→BindsTo s fd ⟨us,ks.zip ws⟩ (ps.zip (g us ws))
  rel:∀ {vs:List V} {us:List Value} {zs:List V} {ws:List Value},Vals vs us→Vals zs ws→Vals (gV vs zs) (g us ws)
def tCallK (sp:Sp) (gV:List V→List V→List V) (E:XK) (t tk:TA):TE:=fun σ H Q=>t σ H fun vs H1=>tk σ H1 fun zs H2=>sp (gV vs zs) H2 Q E
variable {g:List Value→List Value→List Value} {gV:List V→List V→List V}
end
structure FnScope (N P:List Str) (sc:Scope):Prop where
  kind:sc.kind=.function
  co:sc.isCoroutine=false
  gen:sc.isGenerator=false
  nd:N.Nodup
  pre:N.take P.length=P
  par:∀ x ∈ P,sc.names.lookup x=some .local∨sc.names.lookup x=some .cell
  nofree:∀ y ∈ sc.names,y.2 ≠ .free
theorem bindL_out {kindOf:Str→Option NameKind} {x:Str}:∀ {binds:List (Str × Value)} {m:Str→Option Value},(∀ v,(x,v) ∉ binds)→bindL kindOf binds m x=m x
  | [],_,_=>rfl
  | (n,v)::r,m,h=>by
    unfold bindL
    rw [bindL_out fun w hw=>h w (List.mem_cons_of_mem _ hw)]
    split
    · have:x ≠ n:=by rintro rfl; exact h v List.mem_cons_self
      simp [this]
    · rfl
theorem bindC_out {kindOf:Str→Option NameKind} {x:Str}:∀ {binds:List (Str × Value)} {m:Str→Option Value},(∀ v,(x,v) ∉ binds)→bindC kindOf binds m x=m x
  | [],_,_=>rfl
  | (n,v)::r,m,h=>by
    unfold bindC
    rw [bindC_out fun w hw=>h w (List.mem_cons_of_mem _ hw)]
    split
    · rfl
    · have:x ≠ n:=by rintro rfl; exact h v List.mem_cons_self
      simp [this]
theorem bindL_get {kindOf:Str→Option NameKind} {x:Str} {v:Value}:∀ {P:List Str} {vs:List Value} {i:Nat} {m:Str→Option Value},P.Nodup→P[i]?=some x→vs[i]?=some v→kindOf x=some .local →
    bindL kindOf (P.zip vs) m x=some v
  | [],_,_,_,_,h,_,_=>by simp at h
  | _::_,[],_,_,_,_,h,_=>by simp at h
  | p::P,w::vs,0,m,nd,h1,h2,hk=>by
    simp at h1 h2; subst h1; subst h2
    show bindL kindOf ((p,w)::P.zip vs) m p=_
    unfold bindL
    rw [bindL_out fun v hv=>(List.nodup_cons.mp nd).1 (List.of_mem_zip hv).1,if_pos hk]
    simp
  | p::P,w::vs,i+1,m,nd,h1,h2,hk=>by
    show bindL kindOf ((p,w)::P.zip vs) m x=_
    unfold bindL
    exact bindL_get (i:=i) (List.nodup_cons.mp nd).2 (by simpa using h1) (by simpa using h2) hk
theorem bindC_get {kindOf:Str→Option NameKind} {x:Str} {v:Value}:∀ {P:List Str} {vs:List Value} {i:Nat} {m:Str→Option Value},P.Nodup→P[i]?=some x→vs[i]?=some v→kindOf x ≠ some .local →
    bindC kindOf (P.zip vs) m x=some v
  | [],_,_,_,_,h,_,_=>by simp at h
  | _::_,[],_,_,_,_,h,_=>by simp at h
  | p::P,w::vs,0,m,nd,h1,h2,hk=>by
    simp at h1 h2; subst h1; subst h2
    show bindC kindOf ((p,w)::P.zip vs) m p=_
    unfold bindC
    rw [bindC_out fun v hv=>(List.nodup_cons.mp nd).1 (List.of_mem_zip hv).1,if_neg hk]
    simp
  | p::P,w::vs,i+1,m,nd,h1,h2,hk=>by
    show bindC kindOf ((p,w)::P.zip vs) m x=_
    unfold bindC
    exact bindC_get (i:=i) (List.nodup_cons.mp nd).2 (by simpa using h1) (by simpa using h2) hk
def start (N:List Str) (vs:List V):St:=vs.map some++List.replicate (N.length - vs.length) none
def cxOf (CX:CXT) (P:Program) (w:World) (K:PySem.W.Frag) (mg:Str→Option Value) (base:Heap) (N:List Str) (qual:Str) (scope:Scope) (f:Addr) (cd:Value) (A:Around) (outer:List Env) (s:Shared) (H:Hp) (E:XK):Cx where
  prog:=P
  w:=w
  K:=K
  mg:=mg
  base:=base
  A:=A.deeper (envOfC qual scope s.heap.objs.size f cd)
  N:=N
  s₀:=s
  H₀:=H
  env:=envOfC qual scope s.heap.objs.size f cd
  outer:=outer
  stack:=envOfC qual scope s.heap.objs.size f cd::outer
  ex:=[]
  calm:=true
  fn:=fun _=>true
  pn:=[]
  xe:=fun e s'=>wpAny (model P w) (A.deeper (envOfC qual scope s.heap.objs.size f cd)) (leaving (envOfC qual scope s.heap.objs.size f cd) e) (fun _ s''=>CX outer H s E e s'') (fun e' s''=>CX outer H s E e' s'') s'
theorem cell_has {sc:Scope} {n:Nat} {x:Str} (h:sc.names.lookup x=some .cell):∃ c,(cellsFrom n sc.names []).lookup x=some c:=by
  have q:=PySem.W.cellsFrom_some sc.names n [] (.inl h)
  exact Option.isSome_iff_exists.mp q
theorem inv_start {CX:CXT} {P:Program} {w:World} {K:PySem.W.Frag} {mg:Str→Option Value} {base:Heap} {N ps:List Str} {qual:Str} {scope:Scope} {f:Addr} {cd:Value} {A:Around} {outer:List Env} {s s1:Shared} {H:Hp} {E:XK} {us:List Value} {vs:List V}
    (S:FnScope N ps scope) (hd:A.handled=none) (e0:Env0 P w K mg base A outer s H) (hl:vs.length=ps.length) (r:Vals vs us)
    (x:InCallC s s.heap.objs.size (bindL (envOfC qual scope s.heap.objs.size f cd).kindOf (ps.zip us) fun _=>none) (cellsFrom (s.heap.objs.size+1) scope.names []) (bindC (envOfC qual scope s.heap.objs.size f cd).kindOf (ps.zip us) fun _=>none) s1) :
    Inv (cxOf CX P w K mg base N qual scope f cd A outer s H E) [] (start N vs) H s1:=by
  have hpl:ps.length≤N.length:=by have:=congrArg List.length S.pre; rw [List.length_take] at this; omega
  obtain ⟨h1,tk,rfl,hk⟩:=x.done
  have noA:∀ b:Addr,b ∉ (cxOf CX P w K mg base N qual scope f cd A outer s H E).ex:=fun b z=>absurd (show b ∈ ([]:List Addr) from z) (by simp)
  refine ⟨⟨e0.mod,S.kind,rfl,rfl,Nat.le_refl _,fun y z c h1 h2=>?_,fun y hy=>?_,fun y c _ h=>?_,fun _=>hd,Around.frames_deeper e0.frames,.inr ⟨rfl,rfl⟩,fun b z=>absurd z (noA b),e0.bs,e0.bsz,fun b _ _=>noA b,fun b z=>absurd z (noA b),e0.funs,e0.frf⟩,
    rfl,e0.bare,Un.kept hk,⟨_,x.toInCall.ns,fun i y v h1 h2 h3=>?_⟩,fun y c h=>⟨_,x.cell y c h⟩,e0.hok.fresh (Nat.le_refl _),fun y c h=>?_,fun p hp=>absurd (show p ∈ ([]:List (Addr × Obj)) from hp) (by simp),e0.hok.kept hk,?_⟩
  · exact name_of_addr x.apart (PySem.mem_of_lookup h1) (PySem.mem_of_lookup h2)
  · have hy:scope.names.lookup y=some .cell∨scope.names.lookup y=some .free:=hy
    rcases hy with hy | hy
    · exact cell_has hy
    · exact absurd rfl (S.nofree _ (PySem.mem_of_lookup hy))
  · exact Nat.le_of_lt (x.above y c (PySem.mem_of_lookup h))
  · have hi:i < vs.length:=by
      unfold start at h2
      by_cases hi:i < vs.length
      · exact hi
      · rw [List.getElem?_append_right (by simpa using hi)] at h2
        rw [List.getElem?_replicate] at h2
        split at h2 <;> cases h2
    have ha:vs[i]?=some v:=by
      unfold start at h2
      rw [List.getElem?_append_left (by simpa using hi),List.getElem?_map] at h2
      cases e:vs[i]? with
      | none=>rw [e] at h2; cases h2
      | some a=>rw [e] at h2; cases h2; rfl
    obtain ⟨u,hu,rv⟩:=r.get ha
    have hp:ps[i]?=some y:=by
      rw [← S.pre,List.getElem?_take_of_lt (by omega)]; exact h1
    have ndP:ps.Nodup:=by rw [← S.pre]; exact S.nd.sublist (List.take_sublist _ _)
    refine ⟨u,rv,?_⟩
    rcases S.par y (List.mem_of_getElem? hp) with k | k
    · exact .inl ⟨k,bindL_get ndP hp hu k⟩
    · obtain ⟨c,e⟩:=cell_has (n:=s.heap.objs.size+1) k
      refine .inr ⟨.inl k,c,e,?_⟩
      have q:=x.cell y c e
      rw [bindC_get ndP hp hu (by show scope.names.lookup y ≠ _; rw [k]; decide)] at q
      exact q
  · exact e0.hok.fresh (Nat.le_of_lt (x.above y c (PySem.mem_of_lookup h)))
  · unfold start
    show _=N.length
    rw [List.length_append,List.length_map,List.length_replicate]
    omega
theorem fn_of {CX:CXT} {P:Program} {w:World} {K:PySem.W.Frag} {mg:Str→Option Value} {base:Heap} {k:Nat} {f:Addr} {name qual:Str} {params:Arguments} {body:List Stmt} {scope:Scope} {dV kV doc pm cdv ct oc:Value} {an od:Option Addr}
    {osl:Array (Option Value)} {N ps:List Str} {sp:Sp} (lk:K.lookup f=some ⟨oc,od,.func (PySem.W.fnOf name qual params body scope dV kV doc pm an cdv ct),osl⟩) (hcd:PySem.W.codeIn K cdv qual=true) (S:FnScope N ps scope)
    (len:∀ vs H Q E,sp vs H Q E→vs.length=ps.length)
    (hbody:∀ (A:Around) (outer:List Env) (s:Shared) (H:Hp) (vs:List V) (Q:VK) (E:XK),Room k (A.deeper (envOfC qual scope s.heap.objs.size f cdv))→sp vs H Q E →
      ∃ t,PSs (cxOf CX P w K mg base N qual scope f cdv A outer s H E) body t∧t { nx:=fun _ H'=>Q .non H',rt:=Q } (start N vs) H) :
    FnOk P w K mg base CX (k+1) f (PySem.W.fnOf name qual params body scope dV kV doc pm an cdv ct) ps sp:=by
  refine ⟨len,fun A outer s H args us vs Q E hr e0 hb r hsp=>?_⟩
  have hl:=len _ _ _ _ hsp
  have KX:K.In s.heap:=e0.mod.kin.keeps fun b o e=>(e0.bs b o e).1
  have lim:s.heap.NoLimit:=e0.mod.nolimit.keeps fun b o e=>(e0.bs b o e).1
  have hkind:∀ y ∈ ps.zip us,scope.names.lookup y.1=some .local∨(scope.names.lookup y.1=some .cell∧((cellsFrom (s.heap.objs.size+1) scope.names []).lookup y.1).isSome=true):=fun ⟨n,v⟩ hy=>by
    rcases S.par n (List.of_mem_zip hy).1 with q | q
    · exact .inl q
    · exact .inr ⟨q,PySem.W.cellsFrom_some _ _ _ (.inl q)⟩
  refine codeAny_call_function hr.depth (KX _ _ lk) rfl S.co S.gen rfl (PySem.W.codeRec_of KX hcd) (hb _ _ _ _ ?_)
  refine wpAny_newFunctionEnv_cells S.kind hkind fun env he s1 x=>?_
  subst he
  refine ⟨lim.keeps x.toInCall.keep,codeAny_func ?_⟩
  obtain ⟨t,ht,hq⟩:=hbody A outer s H vs Q E (hr.deeper _) hsp
  have I:Inv (cxOf CX P w K mg base N qual scope f cdv A outer s H E) [] (start N vs) H s1:=inv_start S hr.hd e0 hl r x
  refine wpAny_mono (ht [] s1 (start N vs) H _ I hq) (fun fl s' hs=>?_) fun e s' hs=>hs
  have fin:∀ {σ':St} {H':Hp} {v:V} {u:Value},Inv (cxOf CX P w K mg base N qual scope f cdv A outer s H E) [] σ' H' s'→RelV v u→Q v H'→CE outer P w H s Q u s' :=
    fun {σ' H' v u} J rv q=>⟨v,H',J.os,J.bare,J.base,J.hok,rv,q⟩
  cases fl with
  | ret u =>
    obtain ⟨v,σ',H',J,rv,q⟩:=hs
    exact fin J rv q
  | next =>
    obtain ⟨σ',H',J,q⟩:=hs
    exact fin (v:=V.non) (u:=Value.none) J rfl q
  | brk =>
    obtain ⟨_,_,_,q⟩:=hs
    exact False.elim q
  | cont =>
    obtain ⟨_,_,_,q⟩:=hs
    exact False.elim q
end L2
namespace L2
open PySem PySem.Spec PyProof.Rows
section
variable {X:Cx} {x:Str} {p pos:Pos} {e:Expr} {es:List Expr} {t:TA} {id T:String} {r:List V→Hp→VK→Prop}
def tCB (r:List V→Hp→VK→Prop) (t:TA):TE:=fun σ H Q=>t σ H fun vs H1=>r vs H1 Q
theorem pe_callB (hc:CallR X (.builtin id) r) (hg:Gl X x) (hm:X.mg x=none) (hv:bootBuiltins x=some (.builtin id)) (ha:PA X (e::es) t) (hn:x ≠ "__name__" := by decide) (hdb:(x == ("__debug__" : Str))=false:=by decide)
    (he:starEach (e::es) X.env=(false,eval e X.env)::starEach es X.env:=by rfl) (hpl:(backTo pos (starEach es X.env)).any (·.1)=false:=by rfl):PE X (.Call (.Name x p) (e::es) [] pos) (tCB r t):=by
  intro pins s σ H Q I h
  refine wpAny_Call_Name_kw (ld_blt I hg hm hv ?_ hn hdb)
  exact PyProof.Rows.callWith_builtin1 (thn (ha pos pins s σ H _ I h) fun us s1 ⟨vs,H1,I1,r1,q1⟩=>hc pins s1 σ H1 vs us Q I1 r1 q1) he hpl
theorem pe_callTy (hc:CallR X (.type T) r) (hg:Gl X x) (hm:X.mg x=none) (hv:bootBuiltins x=some (.type T)) (ha:PA X (e::es) t) (hn:x ≠ "__name__" := by decide) (hdb:(x == ("__debug__" : Str))=false:=by decide)
    (he:starEach (e::es) X.env=(false,eval e X.env)::starEach es X.env:=by rfl) (hpl:(backTo pos (starEach es X.env)).any (·.1)=false:=by rfl):PE X (.Call (.Name x p) (e::es) [] pos) (tCB r t):=by
  intro pins s σ H Q I h
  refine wpAny_Call_Name_kw (ld_blt I hg hm hv ?_ hn hdb)
  exact PyProof.Rows.callWith_type1 (thn (ha pos pins s σ H _ I h) fun us s1 ⟨vs,H1,I1,r1,q1⟩=>hc pins s1 σ H1 vs us Q I1 r1 q1) he hpl
end
end L2
namespace HT
open PySem PyProof.Rows
def lexLt:List Int→List Int→Bool
  | [],[]=>false
  | [],_::_=>true
  | _::_,[]=>false
  | x::xs,y::ys=>if x=y then lexLt xs ys else decide (x < y)
section
open PySem.SeqAt
open PySem.AutoSeq1 (wpAny_loadPart')
open PySem.MeetsSeq PySem.MeetsSeq2 PySem.MeetsSeq3
end
section
variable {prog:Program} {w:World} {A:Around} {E:Value→Shared→Prop} {s:Shared}
theorem cat_tup {t b:Addr} {vs ws:List Value} {Q:Value→Shared→Prop} (ht:IsTup s.heap t vs.toArray) (hb:IsTup s.heap b ws.toArray) (hv:vs ≠ [])
    (h1:ws=[]→Q (.ref t) s) (h2:ws ≠ []→Q (.ref s.heap.objs.size) { s with heap:=s.heap.push { cls:=.type "tuple", data:=.seq (vs++ws).toArray } })
    (hsz:vs.length+ws.length≤sizeLine):wpAny (model prog w) A (binaryOp .Add (.ref t) (.ref b)) Q E s:=by
  obtain ⟨⟨cls,dd,data,sl⟩,ho,hc,n,hd⟩:=id ht
  obtain ⟨⟨cls2,dd2,data2,sl2⟩,ho2,hc2,n2,hd2⟩:=id hb
  simp only at hc hd hc2 hd2
  subst hc hd hc2 hd2
  have e:vs.toArray++ws.toArray=(vs++ws).toArray:=by simp
  by_cases hw:ws=[]
  · exact concat_meets ⟨_,ho,rfl⟩ ⟨_,ho2,rfl⟩ noFill_tuple_add seq_tuple_add PySem.F.slot_tuple_add PySem.F.entry_tuple_add (PySem.F.args_tuple_add_2 _ _)
      (tuple_addW1 t b vs.toArray ws.toArray n n2 dd dd2 sl sl2 (by simpa using hv) (by simp [hw])) ⟨ho,ho2,h1 hw⟩
  · refine concat_meets ⟨_,ho,rfl⟩ ⟨_,ho2,rfl⟩ noFill_tuple_add seq_tuple_add PySem.F.slot_tuple_add PySem.F.entry_tuple_add (PySem.F.args_tuple_add_2 _ _)
      (tuple_addW2 t b vs.toArray ws.toArray n n2 dd dd2 sl sl2 (by simpa using hv) (by simpa using hw) (by rw [List.size_toArray,List.size_toArray]; exact hsz)) ⟨ho,ho2,?_⟩
    rw [e]
    exact h2 hw
def sIx (n d:Nat):Option Int→Nat
  | none=>d
  | some v=>if v < 0 then (v+(n:Int)).toNat else min v.toNat n
theorem sIx_none (n d:Nat):sIx n d none=d:=rfl
theorem sIx_nat (n d k:Nat):sIx n d (some (k:Int))=min k n:=by
  show (if (k:Int) < 0 then ((k:Int)+(n:Int)).toNat else min (k:Int).toNat n)=min k n
  rw [if_neg (by omega),Int.toNat_natCast]
theorem sIx_le (n d:Nat) (hd:d≤n) (o:Option Int):sIx n d o≤n:=by
  cases o with
  | none=>exact hd
  | some v =>
    show (if v < 0 then (v+(n:Int)).toNat else min v.toNat n)≤n
    by_cases hv:v < 0
    · rw [if_pos hv]; omega
    · rw [if_neg hv]; exact Nat.min_le_right _ _
theorem clip_eq (v:Int) (n d:Nat):(if v < 0 then max (v+(n:Int)) 0 else min v (n:Int))=((sIx n d (some v):Nat):Int):=by
  show (if v < 0 then max (v+(n:Int)) 0 else min v (n:Int))=(((if v < 0 then (v+(n:Int)).toNat else min v.toNat n):Nat):Int)
  by_cases hv:v < 0
  · simp only [if_pos hv]; omega
  · simp only [if_neg hv]; omega
theorem adjust_gen (lo hi:Option Int) (n:Nat):Builtin.Slice.sliceAdjust lo hi 1 (n:Int)=(((sIx n 0 lo:Nat):Int),((sIx n n hi:Nat):Int)):=by
  have h1:¬ ((1:Int) < 0):=by omega
  unfold Builtin.Slice.sliceAdjust
  simp only [h1,if_false]
  refine Prod.ext ?_ ?_
  · cases lo with
    | none=>rfl
    | some v=>exact clip_eq v n 0
  · cases hi with
    | none=>rfl
    | some v=>exact clip_eq v n n
theorem places_gen (i j:Nat):Builtin.Slice.slicePlaces (i:Int) (j:Int) 1=j - i:=by
  unfold Builtin.Slice.slicePlaces
  have h1:(1:Int) > 0:=by omega
  simp only [h1,if_true,Int.ediv_one]
  split <;> omega
theorem slicePart_ {v:Value} {o:Option Int} {Q:Option Int→Shared→Prop} (p:IsPart v o) (h:Q o s):wpAny (model prog w) A (Builtin.Slice.slicePartIndex v) Q E s:=by
  cases p with
  | none=>exact slicePart_none h
  | int i t=>exact slicePart_int h
theorem sliceApplied_gen {sl:Addr} {vl vu:Value} {lo hi:Option Int} {n:Nat} {Q:Int × Int × Nat→Shared→Prop} (hs:s.heap.IsSliceOf sl vl vu .none) (pl:IsPart vl lo) (pu:IsPart vu hi)
    (h:Q (((sIx n 0 lo:Nat):Int),1,sIx n n hi - sIx n 0 lo) s):wpAny (model prog w) A (Builtin.Slice.sliceApplied (.ref sl) (pure (n:Int))) Q E s:=by
  obtain ⟨os,hos,hcs,hds⟩:=id hs
  unfold Builtin.Slice.sliceApplied Builtin.Slice.sliceFields
  refine wpAny_bind (wpAny_bind (wpAny_field hos hds (x:=vl) rfl (wpAny_bind (wpAny_field hos hds (x:=vu) rfl (wpAny_bind (wpAny_field hos hds (x:=.none) rfl (wpAny_pure ?_)))))))
  refine wpAny_bind (slicePart_none ?_)
  show wpAny _ _ (if ((1:Int) == 0)=true then _ else _) _ _ s
  rw [if_neg (by decide)]
  refine wpAny_bind (slicePart_ pl (wpAny_bind (slicePart_ pu (wpAny_bind (wpAny_pure ?_)))))
  show wpAny _ _ (match Builtin.Slice.sliceAdjust lo hi 1 (n:Int) with | (lo,hi)=>pure (lo,(1:Int),Builtin.Slice.slicePlaces lo hi 1)) _ _ s
  rw [adjust_gen lo hi n]
  show wpAny _ _ (pure (((sIx n 0 lo:Nat):Int),(1:Int),Builtin.Slice.slicePlaces ((sIx n 0 lo:Nat):Int) ((sIx n n hi:Nat):Int) 1)) _ _ s
  rw [places_gen]
  exact wpAny_pure h
theorem pick_gen (xs:Array Value) (i k:Nat):((List.range k).filterMap fun (m:Nat)=>xs[((i:Int)+(m:Int)*1).toNat]?).toArray=((xs.toList.drop i).take k).toArray:=by
  have e:(fun (m:Nat)=>xs[((i:Int)+(m:Int)*1).toNat]?)=fun m=>xs[i+m]?:=by
    funext m
    have:((i:Int)+(m:Int)*1).toNat=i+m:=by omega
    rw [this]
  rw [e]
  have:=pick_run xs i k
  rw [List.filterMap_map] at this
  have e2:((fun x=>xs[x]?) ∘ fun x=>i+x)=fun m=>xs[i+m]?:=rfl
  rw [e2] at this
  rw [this]
theorem getItem_tuple_cut {t sl:Addr} {items:Array Value} {vl vu:Value} {lo hi:Option Int} {Q:Value→Shared→Prop} (ht:IsTup s.heap t items) (hs:s.heap.IsSliceOf sl vl vu .none) (pl:IsPart vl lo) (pu:IsPart vu hi)
    (hw:¬ (sIx items.size 0 lo=0∧sIx items.size items.size hi=items.size))
    (h:Q (.ref s.heap.objs.size) { s with heap:=s.heap.push { cls:=.type "tuple", data:=.seq ((items.toList.drop (sIx items.size 0 lo)).take (sIx items.size items.size hi - sIx items.size 0 lo)).toArray } })
    (hsz:items.size≤sizeLine):wpAny (model prog w) A (getItem (.ref t) (.ref sl)) Q E s:=by
  have htake:sizeOk (.seq ((items.toList.drop (sIx items.size 0 lo)).take (sIx items.size items.size hi - sIx items.size 0 lo)).toArray):=by
    show ((items.toList.drop (sIx items.size 0 lo)).take (sIx items.size items.size hi - sIx items.size 0 lo)).toArray.size≤sizeLine
    rw [List.size_toArray,List.length_take,List.length_drop,Array.length_toList]
    omega
  have hj:sIx items.size items.size hi≤items.size:=sIx_le _ _ (Nat.le_refl _) hi
  obtain ⟨os,hos,hcs,hds⟩:=id hs
  have hTs:s.TypeIs (.ref sl) "slice" := ⟨os,hos,hcs⟩
  unfold getItem
  try with_reducible refine wpAny_holding ?_
  first | refine wpAny_bind (wpAny_pure ?_) | skip
  refine wpAny_bind (wpAny_sequenceKey ht.typeIs (by decide) ?_)
  refine wpAny_bind (wpAny_callSpecial?_slot (name:=Str.ofString "__getitem__") ht.typeIs PyProof.Rows.slot_tuple_getitem
    (wpAny_call_entry PyProof.Rows.slot_tuple_getitem ht.typeIs entry_tuple_getitem ?_ (args_tuple_getitem _ _)))
  show wpAny _ _ (Builtin.Tuple.tupleItemsOf (.ref t) >>= _) _ _ s
  refine wpAny_bind (tupleItemsOf_ ht ?_)
  refine wpAny_bind (wpAny_typeOf hTs ?_)
  rw [if_pos (by decide)]
  refine wpAny_bind (sliceApplied_gen hs pl pu ?_)
  have hno:¬ ((((sIx items.size 0 lo:Nat):Int) == 0 && (1:Int) == 1 && (sIx items.size items.size hi - sIx items.size 0 lo) == items.size)=true):=by
    intro q
    rw [Bool.and_eq_true,Bool.and_eq_true] at q
    have q1:((sIx items.size 0 lo:Nat):Int)=0:=eq_of_beq q.1.1
    have q2:sIx items.size items.size hi - sIx items.size 0 lo=items.size:=eq_of_beq q.2
    exact hw ⟨by omega,by omega⟩
  show wpAny _ _ (if (((sIx items.size 0 lo:Nat):Int) == 0 && (1:Int) == 1 && (sIx items.size items.size hi - sIx items.size 0 lo) == items.size)=true then _ else _) _ _ s
  rw [if_neg hno,pick_gen]
  first
    | exact wpAny_bind (m:=Builtin.Tuple.tupleExact _) (wpAny_newObj_type (wpAny_pure ⟨_,rfl,wpAny_pure h⟩) htake)
    | exact wpAny_bind (m:=Builtin.Tuple.tupleExact _) (wpAny_newObj_type (wpAny_bind (wpAny_pure (wpAny_pure ⟨_,rfl,wpAny_pure h⟩))) htake)
    | exact wpAny_bind (wpAny_bind (m:=Builtin.Tuple.tupleExact _) (wpAny_newObj_type (wpAny_pure (wpAny_pure ⟨_,rfl,wpAny_pure h⟩)) htake))
    | exact wpAny_bind (wpAny_bind (m:=Builtin.Tuple.tupleExact _) (wpAny_newObj_type (wpAny_pure ⟨_,rfl,wpAny_pure h⟩) htake))
end
end HT
namespace L2
open PySem PySem.Spec PyProof.Rows
abbrev TO:=St→Hp→(Option Int→Hp→Prop)→Prop
def PO (X:Cx) (e:Option Expr) (t:TO):Prop :=
  ∀ (pins:List (Addr × Obj)) (s:Shared) (σ:St) (H:Hp) (Q:Option Int→Hp→Prop),Inv X pins σ H s→t σ H Q →
    wpAny (model X.prog X.w) X.A (evalPart e X.env) (fun u s'=>∃ o H',Inv X pins σ H' s'∧IsPart u o∧Q o H') X.xe s
def tNoPart:TO:=fun _ H Q=>Q none H
def tPart (t:TE):TO:=fun σ H Q=>t σ H fun x H1=>∃ i,x=.int i∧Q (some i) H1
section
variable {X:Cx} {e:Expr} {te:TE} {lo hi:Option Expr} {tl th:TO} {pos p2:Pos}
theorem po_none:PO X none tNoPart:=by
  intro pins s σ H Q I h
  rw [evalPart_none]
  exact wpAny_pure ⟨none,H,I,.none,h⟩
theorem po_some (h:PE X e te):PO X (some e) (tPart te):=by
  intro pins s σ H Q I hw
  rw [evalPart_some]
  refine thn (h pins s σ H _ I hw) fun u s1 ⟨x,H1,I1,r1,q1⟩=>?_
  obtain ⟨i,rfl,q⟩:=q1
  obtain ⟨t,rfl⟩:=r1
  exact ⟨some i,H1,I1,.int i t,q⟩
def SlR (X:Cx) (r:V→Option Int→Option Int→Hp→VK→Prop):Prop :=
  ∀ (pins:List (Addr × Obj)) (s:Shared) (σ:St) (H:Hp) (x:V) (v vl vu:Value) (lo hi:Option Int) (sl:Addr) (Q:VK),Inv X pins σ H s→RelV x v→s.heap.IsSliceOf sl vl vu .none→IsPart vl lo→IsPart vu hi→r x lo hi H Q →
    ∃ T id,typeLookup (.type T) "__getitem__" = pure (some (.builtin id))∧s.TypeIs v T∧wpAny (model X.prog X.w) X.A (getItem v (.ref sl)) (EP X pins σ Q) X.xe s
def tSl (r:V→Option Int→Option Int→Hp→VK→Prop) (te:TE) (tl th:TO):TE:=fun σ H Q=>te σ H fun x H1=>tl σ H1 fun l H2=>th σ H2 fun u H3=>r x l u H3 Q
theorem pe_slice {r:V→Option Int→Option Int→Hp→VK→Prop} (hr:SlR X r) (he:PE X e te) (hl:PO X lo tl) (hu:PO X hi th):PE X (.Subscript e (.Slice lo hi none p2) pos) (tSl r te tl th):=by
  intro pins s σ H Q I h
  refine Subscript_ (thn (he pins s σ H _ I h) fun v s1 ⟨x,H1,I1,r1,q1⟩=>?_)
  refine wpAny_Slice (thn (hl pins s1 σ H1 _ I1 q1) fun vl s2 ⟨l,H2,I2,pl,q2⟩=>thn (hu pins s2 σ H2 _ I2 q2) fun vu s3 ⟨u,H3,I3,pu,q3⟩=>?_)
  rw [evalPart_none]
  refine wpAny_pure ?_
  have I4:Inv X pins σ H3 { s3 with heap:=s3.heap.push { cls:=.type "slice", data:=.fields #[vl,vu,.none] } }:=I3.kept (t':=s3.toks) fun b ob q=>Heap.get?_push_of_some _ q
  obtain ⟨T,id,hT,ht,hg⟩:=hr pins { s3 with heap:=s3.heap.push { cls:=.type "slice", data:=.fields #[vl,vu,.none] } } σ H3 x v vl vu l u s3.heap.objs.size Q I4 r1 (Heap.IsSliceOf.new ..) pl pu q3
  show wpAny (model X.prog X.w) X.A (subscriptTail e (.Slice lo hi none p2) v (.ref s3.heap.objs.size)) (EP X pins σ Q) X.xe { s3 with heap:=s3.heap.push { cls:=.type "slice", data:=.fields #[vl,vu,.none] } }
  exact tail_any (ops:=[.ref s3.heap.objs.size,v]) ht hT hg (by with_unfolding_all rfl)
def cutV (xs:List V) (lo hi:Option Int):List V:=(xs.drop (HT.sIx xs.length 0 lo)).take (HT.sIx xs.length xs.length hi - HT.sIx xs.length 0 lo)
theorem cutV_length (xs:List V) (lo hi:Option Int):(cutV xs lo hi).length≤xs.length:=by
  unfold cutV
  rw [List.length_take,List.length_drop]
  omega
def rSlT (K:PySem.W.Frag):V→Option Int→Option Int→Hp→VK→Prop:=fun x lo hi H Q=>∃ a xs,x=.ref a∧SqT K H a xs ∧
  ¬ (HT.sIx xs.length 0 lo=0∧HT.sIx xs.length xs.length hi=xs.length)∧∀ p,H p=none→Q (.ref p) (upd H p (.tup (cutV xs lo hi)))
theorem sl_tup:SlR X (rSlT X.K):=by
  intro pins s σ H x v vl vu lo hi sl Q I rx hs pl pu h
  obtain ⟨a,xs,rfl,hx,hw,q⟩:=h
  cases rx
  obtain ⟨its,r,ht,hz⟩:=I.tuple hx
  have hlen:its.toArray.size=xs.length:=by rw [List.size_toArray]; exact r.length.symm
  refine ⟨"tuple", _,PyProof.Rows.slot_tuple_getitem.lookup,ht.typeIs,?_⟩
  refine HT.getItem_tuple_cut ht hs pl pu (by rw [hlen]; exact hw) ?_ (by rw [hlen]; exact hz)
  rw [hlen]
  refine ⟨.ref s.heap.objs.size,_,I.laid (t':=s.toks) (o:=.tup (cutV xs lo hi)) (fun b ob q=>Heap.get?_push_of_some _ q) (Nat.le_refl _) ?_,rfl,q _ (I.hok.fresh (Nat.le_refl _))⟩
  exact ⟨Nat.le_trans (cutV_length xs lo hi) hz,_,(r.drop (HT.sIx xs.length 0 lo)).take (HT.sIx xs.length xs.length hi - HT.sIx xs.length 0 lo),IsTup.new _ _,_,Heap.get?_push_size _ rfl,rfl⟩
def rLtT (K:PySem.W.Frag):R2:=fun x y H Q=>∃ a b ns ms,x=.ref a∧y=.ref b∧SqT K H a (ns.map V.int)∧SqT K H b (ms.map V.int)∧Q (.bl (HT.lexLt ns ms)) H
def rCatT (K:PySem.W.Frag):R2:=fun x y H Q=>∃ a b xs ys,x=.ref a∧y=.ref b∧SqT K H a xs∧SqT K H b ys∧xs ≠ []∧xs.length+ys.length≤sizeLine ∧
  (ys=[]→Q (.ref a) H)∧(ys ≠ []→∀ p,H p=none→Q (.ref p) (upd H p (.tup (xs++ys))))
theorem Vals.nil_iff {xs:List V} {us:List Value} (r:Vals xs us):us=[]↔xs=[]:=by
  cases r with
  | nil=>simp
  | cons _ _=>simp
theorem op_catT:OpR X (binaryOp .Add) (rCatT X.K):=by
  intro pins s σ H x y v u Q I rx ry h
  obtain ⟨a,b,xs,ys,rfl,rfl,ha,hb,hx,hz,q1,q2⟩:=h
  cases rx
  cases ry
  obtain ⟨its,r1,p1,_⟩:=I.tuple ha
  obtain ⟨its2,r2,p2,_⟩:=I.tuple hb
  refine HT.cat_tup p1 p2 (fun z=>hx (r1.nil_iff.mp z)) (fun z=>⟨.ref a,H,I,rfl,q1 (r2.nil_iff.mp z)⟩) (fun z=>?_) (by rw [← r1.length,← r2.length]; exact hz)
  refine ⟨.ref s.heap.objs.size,_,I.laid (t':=s.toks) (o:=.tup (xs++ys)) (fun b ob q=>Heap.get?_push_of_some _ q) (Nat.le_refl _) ?_,rfl,q2 (fun w=>z (r2.nil_iff.mpr w)) _ (I.hok.fresh (Nat.le_refl _))⟩
  exact ⟨by rw [List.length_append]; exact hz,_,r1.append r2,IsTup.new _ _,_,Heap.get?_push_size _ rfl,rfl⟩
end
end L2
namespace L2
open PySem PySem.Spec PyProof.Rows
def ixN (n:Nat) (i:Int):Option Nat:=if 0≤i then (if i < n then some i.toNat else none) else if -(n:Int)≤i then some (i+n).toNat else none
def atI {α:Type} (xs:List α) (i:Int):Option α:=(ixN xs.length i).bind fun j=>xs[j]?
theorem ixN_seq {n:Nat} {i:Int} {j:Nat} (h:ixN n i=some j):seqIndex? i n=some j∧j < n∧-(n:Int)≤i∧i < n:=by
  unfold ixN at h
  by_cases h0:0≤i
  · rw [if_pos h0] at h
    by_cases h1:i < n
    · rw [if_pos h1] at h
      have e:i.toNat=j:=Option.some.inj h
      exact ⟨by rw [seqIndex_of h0 h1,e],by omega,by omega,h1⟩
    · rw [if_neg h1] at h; cases h
  · rw [if_neg h0] at h
    by_cases h1:-(n:Int)≤i
    · rw [if_pos h1] at h
      have e:(i+n).toNat=j:=Option.some.inj h
      exact ⟨by rw [seqIndex_neg (by omega) h1,e],by omega,h1,by omega⟩
    · rw [if_neg h1] at h; cases h
theorem atI_get {α:Type} {xs:List α} {i:Int} {v:α} (h:atI xs i=some v):∃ j,seqIndex? i xs.length=some j∧xs[j]?=some v∧j < xs.length∧-(xs.length:Int)≤i∧i < xs.length:=by
  unfold atI at h
  cases e:ixN xs.length i with
  | none=>rw [e] at h; cases h
  | some j =>
    rw [e] at h
    obtain ⟨h1,h2,h3,h4⟩:=ixN_seq e
    exact ⟨j,h1,h,h2,h3,h4⟩
theorem atI_nat {α:Type} {xs:List α} {j:Nat} {v:α} (h:xs[j]?=some v):atI xs (j:Int)=some v:=by
  have hj:j < xs.length:=(List.getElem?_eq_some_iff.mp h).1
  have e:ixN xs.length (j:Int)=some j:=by
    unfold ixN
    rw [if_pos (by omega),if_pos (by omega)]; simp
  unfold atI; rw [e]; exact h
theorem atI_last {α:Type} (xs:List α) (v:α):atI (xs++[v]) (-1)=some v:=by
  have hl:(xs++[v]).length=xs.length+1:=by simp
  have e:ixN (xs++[v]).length (-1)=some xs.length:=by
    unfold ixN
    rw [hl,if_neg (by decide),if_pos (by omega)]
    congr 1
    omega
  unfold atI
  rw [e]
  show (xs++[v])[xs.length]?=some v
  simp
def PlainIx (b:Expr):Prop:=∀ o i,subscripted b false o i=operate [o,i] (getItem o i)
def IxR (X:Cx) (r:R2):Prop :=
  ∀ (value slice:Expr) (pins:List (Addr × Obj)) (s:Shared) (σ:St) (H:Hp) (x y:V) (v u:Value) (Q:VK),Inv X pins σ H s→RelV x v→RelV y u→r x y H Q →
    subscripted slice false v u=operate [v,u] (getItem v u)→wpAny (model X.prog X.w) X.A (subscriptTail value slice v u) (EP X pins σ Q) X.xe s
def MtR (X:Cx) (id:String) (r:V→List V→Hp→VK→Prop):Prop :=
  ∀ (pins:List (Addr × Obj)) (s:Shared) (σ:St) (H:Hp) (x:V) (xs:List V) (v:Value) (us:List Value) (Q:VK),Inv X pins σ H s→RelV x v→Vals xs us→r x xs H Q →
    wpAny (model X.prog X.w) X.A (call (.builtin id) (v::us)) (EP X pins σ Q) X.xe s
section
variable {X:Cx} {a b:Expr} {ta tb:TE} {pos:Pos}
theorem IxR.or {r r':R2} (h:IxR X r) (h':IxR X r'):IxR X (fun x y H Q=>r x y H Q∨r' x y H Q):=by
  intro value slice pins s σ H x y v u Q I rx ry q hs
  rcases q with q | q
  · exact h value slice pins s σ H x y v u Q I rx ry q hs
  · exact h' value slice pins s σ H x y v u Q I rx ry q hs
theorem pe_ix {r:R2} (hr:IxR X r) (ha:PE X a ta) (hb:PE X b tb) (hs:PlainIx b):PE X (.Subscript a b pos) (tOp r ta tb):=by
  intro pins s σ H Q I h
  exact Subscript_ (binT ha hb I h fun v u s2 x y H2 I2 rx ry q=>hr a b pins s2 σ H2 x y v u Q I2 rx ry q (hs _ _))
def rIxL (K:PySem.W.Frag):R2:=fun x y H Q=>∃ p xs i v,x=.ref p∧y=.int i∧SqL K H p xs∧atI xs i=some v∧Q v H
def rIxT (K:PySem.W.Frag):R2:=fun x y H Q=>∃ p xs i v,x=.ref p∧y=.int i∧SqT K H p xs∧atI xs i=some v∧Q v H
def rIxS:R2:=fun x y H Q=>∃ z i c,x=.str z∧y=.int i∧z.length≤sizeLine∧atI z.cps.toList i=some c∧Q (.str ⟨#[c]⟩) H
theorem ix_list:IxR X (rIxL X.K):=by
  intro value slice pins s σ H x y v u Q I rx ry h hs
  obtain ⟨p,xs,i,z,rfl,rfl,hq,he,q⟩:=h
  cases rx
  obtain ⟨t,rfl⟩:=ry
  obtain ⟨its,r,pl,hz⟩:=I.list hq
  obtain ⟨j,h1,h2,h3,h4,h5⟩:=atI_get he
  obtain ⟨w,ew,rw'⟩:=r.get h2
  have hl:=r.length
  have hn:=line63
  have fin:EP X pins σ Q w s:=⟨z,H,I,rw',q⟩
  by_cases h0:0≤i
  · have hj:i.toNat=j:=by
      rw [seqIndex_of h0 h5] at h1
      exact Option.some.inj h1
    exact item_listR pl.isList h0 (by omega) (by rw [hj]; simpa using ew) fin hs
  · have hj:(i+(its.toArray.size:Int)).toNat=j:=by
      rw [seqIndex_neg (by omega) h4] at h1
      rw [List.size_toArray,← hl]
      exact Option.some.inj h1
    exact subscriptTail_builtinR (x:=w) pl.isList.typeIs slot_list_getitem.lookup
      (wpAny_getItem_list_neg (Q:=fun r s'=>r=w∧EP X pins σ Q r s') pl.isList (by omega) (by rw [List.size_toArray] <;> omega) (by omega) (by rw [hj]; simpa using ew) ⟨rfl,fin⟩) hs
theorem ix_tup:IxR X (rIxT X.K):=by
  intro value slice pins s σ H x y v u Q I rx ry h hs
  obtain ⟨p,xs,i,z,rfl,rfl,hq,he,q⟩:=h
  cases rx
  obtain ⟨t,rfl⟩:=ry
  obtain ⟨its,r,pl,hz⟩:=I.tuple hq
  obtain ⟨j,h1,h2,h3,h4,h5⟩:=atI_get he
  obtain ⟨w,ew,rw'⟩:=r.get h2
  have hl:=r.length
  have hn:=line63
  have fin:EP X pins σ Q w s:=⟨z,H,I,rw',q⟩
  exact subscriptTail_builtinR (x:=w) pl.typeIs slot_tuple_getitem.lookup
    (getItem_tuple (j:=j) (Q:=fun r s'=>r=w∧EP X pins σ Q r s') pl (by omega) (by omega) (by rw [List.size_toArray,← hl]; exact h1) (by simpa using ew) ⟨rfl,fin⟩) hs
theorem ix_str:IxR X rIxS:=by
  intro value slice pins s σ H x y v u Q I rx ry h hs
  obtain ⟨z,i,c,rfl,rfl,hz,he,q⟩:=h
  obtain ⟨t,rfl⟩:=rx
  obtain ⟨t',rfl⟩:=ry
  obtain ⟨j,h1,h2,h3,h4,h5⟩:=atI_get he
  have hl:z.cps.toList.length=z.length:=by simp [Str.length]
  rw [hl] at h1 h4 h5
  have hn:=line63
  exact tail_any (typeIs_str s z t) slot_str_getitem.lookup (getItem_str (c:=c) (by
    have e1:decide (i < -(2 ^ 63:Int))=false:=decide_eq_false (by omega)
    have e2:decide (i ≥ 2 ^ 63)=false:=decide_eq_false (by omega)
    rw [e1,e2,Bool.or_false]) (by rw [h1]; simpa using h2) ⟨.str ⟨#[c]⟩,H,I.tok _,⟨_,rfl⟩,q⟩) hs
def rIx (K:PySem.W.Frag):R2:=fun x y H Q=>rIxL K x y H Q∨rIxT K x y H Q∨rIxS x y H Q
theorem mapSeq_set (its:List Value) (n j:Nat) (u:Value):Obj.mapSeq (·.setIfInBounds j u) { cls:=.type "list", data:=.seq its.toArray n }={ cls:=.type "list", data:=.seq (its.set j u).toArray n }:=by
  simp [Obj.mapSeq]
theorem Inv.lst {pins:List (Addr × Obj)} {σ:St} {H:Hp} {s:Shared} {p:Addr} {xs:List V} (I:Inv X pins σ H s) (h:H p=some (.lst xs)) :
    ∃ (its:List Value) (n:Nat),Vals xs its∧s.heap.get? p=some { cls:=.type "list", data:=.seq its.toArray n }∧xs.length≤sizeLine:=by
  obtain ⟨z,its,n,r,e⟩:=I.hok p _ h
  exact ⟨its,n,r,e,z⟩
theorem Inv.lstUpd {pins:List (Addr × Obj)} {σ:St} {H:Hp} {s:Shared} {p:Addr} {xs ys:List V} {its its':List Value} {n n':Nat} {f:Obj→Obj} (I:Inv X pins σ H s) (h:H p=some (.lst xs))
    (ho:s.heap.get? p=some { cls:=.type "list", data:=.seq its.toArray n }) (hf:f { cls:=.type "list", data:=.seq its.toArray n }={ cls:=.type "list", data:=.seq its'.toArray n' }) (r:Vals ys its') (hz:ys.length≤sizeLine) (t:Nat) :
    Inv X pins σ (upd H p (.lst ys)) { s with heap:=s.heap.update p f,toks:=t }:=by
  have e:(s.heap.update p f).get? p=some { cls:=.type "list", data:=.seq its'.toArray n' }:=by
    rw [Heap.get?_update_self f ho (by rw [hf] <;> rfl),hf]
  refine I.write (x:=p) (e:=p) (by rw [h]; trivial) (.inl rfl) (fun b u hb q=>(Heap.get?_update_other _ _ (Ne.symm hb)).trans q) ⟨_,e⟩ ?_
  exact ⟨hz,its',n',r,e⟩
def rSetL:V→V→V→Hp→(Hp→Prop)→Prop:=fun o i v H Q=>∃ p xs k j,o=.ref p∧i=.int k∧H p=some (.lst xs)∧ixN xs.length k=some j∧Q (upd H p (.lst (xs.set j v)))
theorem set_list:PSet X rSetL:=by
  intro pins s σ H o i v ov iv u Q I ro ri rv h
  obtain ⟨p,xs,k,j,rfl,rfl,hp,hj,q⟩:=h
  cases ro
  obtain ⟨t,rfl⟩:=ri
  obtain ⟨its,n,r,ho,hz⟩:=I.lst hp
  obtain ⟨h1,h2,h3,h4⟩:=ixN_seq hj
  have hl:=r.length
  have hn:=line63
  have I':Inv X pins σ (upd H p (.lst (xs.set j v))) { s with heap:=s.heap.update p (Obj.mapSeq (·.setIfInBounds j u)) } :=
    I.lstUpd hp ho (mapSeq_set its n j u) (r.set rv j) (by rw [List.length_set]; exact hz) s.toks
  by_cases h0:0≤k
  · have hk:k.toNat=j:=by
      rw [seqIndex_of h0 h4] at h1
      exact Option.some.inj h1
    exact PySem.W.ki_setAt ho h0 (by omega) (by rw [List.size_toArray,← hl]; exact h4) (by rw [hk]; exact ⟨_,I',q⟩)
  · have hk:(k+(its.toArray.size:Int)).toNat=j:=by
      rw [seqIndex_neg (by omega) h3] at h1
      rw [List.size_toArray,← hl]
      exact Option.some.inj h1
    exact PySem.W.ki_setBack ho (by omega) (by rw [List.size_toArray,← hl]; exact h3) (by omega) (by rw [hk]; exact ⟨_,I',q⟩)
def rSlL (K:PySem.W.Frag):V→Option Int→Option Int→Hp→VK→Prop:=fun x lo hi H Q=>∃ a xs,x=.ref a∧SqL K H a xs∧∀ p,H p=none→Q (.ref p) (upd H p (.lst (cutV xs lo hi)))
def flatV:V→Bool
  | .non=>true
  | .bl _=>true
  | .int _=>true
  | .str _=>true
  | _=>false
def eqV:V→V→Bool
  | .non,.non=>true
  | .bl a,.bl b=>a == b
  | .bl a,.int b=>(if a then 1 else 0) == b
  | .int a,.bl b=>a == (if b then 1 else 0)
  | .int a,.int b=>a == b
  | .str a,.str b=>a == b
  | _,_=>false
theorem eqAt_V {A:Around} {s:Shared} {y x:V} {u v:Value} (ry:RelV y u) (rx:RelV x v) (fy:flatV y=true) (fx:flatV x=true):SeqAt.EqAt A s u v (eqV y x):=by
  cases y with
  | non =>
    cases ry
    cases x with
    | non=>cases rx; exact SeqAt.EqAt.same _
    | bl b=>cases rx; exact SeqAt.EqAt.none_bool b
    | int b=>obtain ⟨t,rfl⟩:=rx; exact SeqAt.EqAt.none_int b t
    | str b=>obtain ⟨t,rfl⟩:=rx; exact SeqAt.EqAt.none_str b t
    | _=>exact absurd (show false=true from fx) Bool.false_ne_true
  | bl a =>
    cases ry
    cases x with
    | non=>cases rx; exact SeqAt.EqAt.bool_none a
    | bl b=>cases rx; exact SeqAt.EqAt.bool_bool a b
    | int b=>obtain ⟨t,rfl⟩:=rx; exact SeqAt.EqAt.bool_int a b t
    | str b=>obtain ⟨t,rfl⟩:=rx; exact SeqAt.EqAt.bool_str a b t
    | _=>exact absurd (show false=true from fx) Bool.false_ne_true
  | int a =>
    obtain ⟨t',rfl⟩:=ry
    cases x with
    | non=>cases rx; exact SeqAt.EqAt.int_none a t'
    | bl b=>cases rx; exact SeqAt.EqAt.int_bool a t' b
    | int b=>obtain ⟨t,rfl⟩:=rx; exact SeqAt.EqAt.int_int a t' b t
    | str b=>obtain ⟨t,rfl⟩:=rx; exact SeqAt.EqAt.int_str a t' b t
    | _=>exact absurd (show false=true from fx) Bool.false_ne_true
  | str a =>
    obtain ⟨t',rfl⟩:=ry
    cases x with
    | non=>cases rx; exact SeqAt.EqAt.str_none a t'
    | bl b=>cases rx; exact SeqAt.EqAt.str_bool a t' b
    | int b=>obtain ⟨t,rfl⟩:=rx; exact SeqAt.EqAt.str_int a t' b t
    | str b=>obtain ⟨t,rfl⟩:=rx; exact SeqAt.EqAt.str_str a t' b t
    | _=>exact absurd (show false=true from fx) Bool.false_ne_true
  | _=>exact absurd (show false=true from fy) Bool.false_ne_true
def eqU (x:V) (u:Value):Bool:=match u with
  | .none=>eqV .non x
  | .bool b=>eqV (.bl b) x
  | .int i _=>eqV (.int i) x
  | .str z _=>eqV (.str z) x
  | _=>false
theorem eqU_of {x y:V} {u:Value} (r:RelV y u) (f:flatV y=true):eqU x u=eqV y x:=by
  cases y with
  | non=>cases r; rfl
  | bl b=>cases r; rfl
  | int i=>obtain ⟨t,rfl⟩:=r; rfl
  | str z=>obtain ⟨t,rfl⟩:=r; rfl
  | _=>exact absurd (show false=true from f) Bool.false_ne_true
theorem any_eqU {x:V}:∀ {xs:List V} {us:List Value},Vals xs us→xs.all flatV=true→us.any (eqU x)=xs.any fun y=>eqV y x
  | _,_,.nil,_=>rfl
  | y::xs,u::us,.cons r t,f=>by
    rw [List.all_cons,Bool.and_eq_true] at f
    rw [List.any_cons,List.any_cons,eqU_of r f.1,any_eqU t f.2]
theorem mem_eqAt {A:Around} {s:Shared} {x:V} {v:Value} (rx:RelV x v) (fx:flatV x=true):∀ {xs:List V} {us:List Value},Vals xs us→xs.all flatV=true→∀ u ∈ us,SeqAt.EqAt A s u v (eqU x u)
  | _,_,.nil,_=>fun u hu=>by cases hu
  | y::xs,u::us,.cons r t,f=>fun u' hu=>by
    rw [List.all_cons,Bool.and_eq_true] at f
    rcases List.mem_cons.mp hu with rfl | hu
    · rw [eqU_of r f.1]; exact eqAt_V r rx f.1 fx
    · exact mem_eqAt rx fx t f.2 u' hu
def inV (x:V) (xs:List V):Bool:=xs.any fun y=>eqV y x
def rIn (K:PySem.W.Frag) (neg:Bool):R2:=fun x y H Q=>∃ p xs,y=.ref p∧(SqL K H p xs∨SqT K H p xs)∧flatV x=true∧xs.all flatV=true∧Q (.bl (if neg then !inV x xs else inV x xs)) H
theorem op_in_seq:OpR X (compareOp .In) (rIn X.K false):=by
  intro pins s σ H x y v u Q I rx ry h
  obtain ⟨p,xs,rfl,hq,fx,fs,q⟩:=h
  cases ry
  rcases hq with hq | hq
  · obtain ⟨its,r,pl,hz⟩:=I.list hq
    refine SeqAt.in_listAt (eqU x) pl.isList (fun w hw=>mem_eqAt rx fx r fs w (by simpa using hw)) ⟨.bl _,H,I,rfl,?_⟩
    rw [show its.toArray.any (eqU x)=its.any (eqU x) by simp,any_eqU r fs]
    exact q
  · obtain ⟨its,r,pl,hz⟩:=I.tuple hq
    refine SeqAt.in_tupleAt (eqU x) pl (fun w hw=>mem_eqAt rx fx r fs w (by simpa using hw)) ⟨.bl _,H,I,rfl,?_⟩
    rw [show its.toArray.any (eqU x)=its.any (eqU x) by simp,any_eqU r fs]
    exact q
theorem op_notIn_seq:OpR X (compareOp .NotIn) (rIn X.K true):=by
  intro pins s σ H x y v u Q I rx ry h
  obtain ⟨p,xs,rfl,hq,fx,fs,q⟩:=h
  cases ry
  rcases hq with hq | hq
  · obtain ⟨its,r,pl,hz⟩:=I.list hq
    refine SeqAt.notIn_listAt (eqU x) pl.isList (fun w hw=>mem_eqAt rx fx r fs w (by simpa using hw)) ⟨.bl _,H,I,rfl,?_⟩
    rw [show its.toArray.any (eqU x)=its.any (eqU x) by simp,any_eqU r fs]
    exact q
  · obtain ⟨its,r,pl,hz⟩:=I.tuple hq
    refine SeqAt.notIn_tupleAt (eqU x) pl (fun w hw=>mem_eqAt rx fx r fs w (by simpa using hw)) ⟨.bl _,H,I,rfl,?_⟩
    rw [show its.toArray.any (eqU x)=its.any (eqU x) by simp,any_eqU r fs]
    exact q
theorem call_len_seq:CallR X (.builtin "len") (fun xs H Q=>∃ p ys,xs=[.ref p]∧(SqL X.K H p ys∨SqT X.K H p ys)∧Q (.int ys.length) H):=by
  intro pins s σ H xs us Q I r h
  obtain ⟨p,ys,rfl,hq,q⟩:=h
  obtain ⟨u,rfl,rx⟩:=vals1 r
  cases rx
  have hn:=line63
  rcases hq with hq | hq
  · obtain ⟨its,r',pl,hz⟩:=I.list hq
    have hlen:=r'.length
    exact Calls.call_len_list pl.isList (by simp only [List.size_toArray] <;> omega) ⟨.int ys.length,H,I.tok _,⟨s.toks+1,by rw [List.size_toArray,hlen]⟩,q⟩
  · obtain ⟨its,r',pl,hz⟩:=I.tuple hq
    have hlen:=r'.length
    exact len_tuple pl (by simp only [List.size_toArray] <;> omega) ⟨.int ys.length,H,I.tok _,⟨s.toks+1,by rw [List.size_toArray,hlen]⟩,q⟩
theorem call_list_of:CallR X (.type "list") (fun xs H Q=>∃ p ys,xs=[.ref p]∧(SqL X.K H p ys∨SqT X.K H p ys)∧∀ l,H l=none→Q (.ref l) (upd H l (.lst ys))):=by
  intro pins s σ H xs us Q I r h
  obtain ⟨p,ys,rfl,hq,q⟩:=h
  obtain ⟨u,rfl,rx⟩:=vals1 r
  cases rx
  have fin:∀ (its:List Value),Vals ys its→ys.length≤sizeLine→∀ (h':Heap) (c':Nat),(∀ b o',s.heap.get? b=some o'→h'.get? b=some o') →
      h'.get? s.heap.objs.size=some { cls:=.type "list", dict:=none,data:=.seq its.toArray c',slots:=#[] }→EP X pins σ Q (.ref s.heap.objs.size) { s with heap:=h' }:=fun its r' hz h' c' kp e =>
    ⟨.ref s.heap.objs.size,_,I.laid (t':=s.toks) kp (Nat.le_refl _) (show ObjOk X.prog X.w _ h' _ (.lst ys) from ⟨hz,its,c',r',e⟩),rfl,q _ (I.hok.fresh (Nat.le_refl _))⟩
  rcases hq with hq | hq
  · obtain ⟨its,r',pl,hz⟩:=I.list hq
    have hlen:=r'.length
    obtain ⟨o,ho,hc,n,hd⟩:=pl.isList
    exact call_list_seq p (.inl rfl) ho hc hd (fun h' c' kp e=>fin its r' hz h' c' kp e) (by simp only [List.size_toArray] <;> omega)
  · obtain ⟨its,r',pl,hz⟩:=I.tuple hq
    have hlen:=r'.length
    obtain ⟨o,ho,hc,n,hd⟩:=pl
    exact call_list_seq p (.inr rfl) ho hc hd (fun h' c' kp e=>fin its r' hz h' c' kp e) (by simp only [List.size_toArray] <;> omega)
theorem call_tuple_of:CallR X (.type "tuple") (fun xs H Q=>∃ p ys,xs=[.ref p]∧((SqL X.K H p ys∧∀ l,H l=none→Q (.ref l) (upd H l (.tup ys)))∨(SqT X.K H p ys∧Q (.ref p) H))):=by
  intro pins s σ H xs us Q I r h
  obtain ⟨p,ys,rfl,h⟩:=h
  obtain ⟨u,rfl,rx⟩:=vals1 r
  cases rx
  rcases h with ⟨hq,q⟩ | ⟨hq,q⟩
  · obtain ⟨its,r',pl,hz⟩:=I.list hq
    have hlen:=r'.length
    refine call_tuple_list pl.isList (fun h' kp=>?_) (by simp only [List.size_toArray] <;> omega)
    have I1:Inv X pins σ H { s with heap:=h' }:=I.kept (t':=s.toks) kp
    have I2:Inv X pins σ (upd H h'.objs.size (.tup ys)) { s with heap:=h'.push { cls:=.type "tuple", data:=.seq its.toArray } } :=
      I1.laid (t':=s.toks) (fun b o e=>Heap.get?_push_of_some _ e) (Nat.le_refl _) (show ObjOk X.prog X.w _ _ _ (.tup ys) from ⟨hz,its,r',IsTup.new _ _,_,Heap.get?_push_size _ rfl,rfl⟩)
    exact ⟨.ref h'.objs.size,_,I2,rfl,q _ (I1.hok.fresh (Nat.le_refl _))⟩
  · obtain ⟨its,r',pl,hz⟩:=I.tuple hq
    exact call_tuple_same pl ⟨.ref p,H,I,rfl,q⟩
def tyV (K:PySem.W.Frag) (T:String) (x:V) (H:Hp):Prop:=match x with
  | .str _=>T = "str"
  | .int _=>T = "int"
  | .ref p=>(T = "list" ∧ ∃ xs,SqL K H p xs)∨(T = "tuple" ∧ ∃ o,K.lookup p=some o∧o.cls=.type "tuple" ∧ o.dict=none) ∨
      (T = "dict" ∧ ((∃ kvs,H p=some (.dK kvs))∨∃ kvs,H p=some (.dT kvs)))∨(T = "set" ∧ ∃ S n,H p=some (.set S n))
  | _=>False
theorem tyV_is {pins:List (Addr × Obj)} {σ:St} {H:Hp} {s:Shared} {T:String} {x:V} {v:Value} (I:Inv X pins σ H s) (r:RelV x v) (ty:tyV X.K T x H) :
    s.TypeIs v T∧∀ a,v=.ref a→∃ ob,s.heap.get? a=some ob∧ob.dict=none:=by
  cases x with
  | str z =>
    obtain ⟨t,rfl⟩:=r
    cases (show T = "str" from ty)
    exact ⟨typeIs_str s z t,fun _ e=>nomatch e⟩
  | int i =>
    obtain ⟨t,rfl⟩:=r
    cases (show T = "int" from ty)
    exact ⟨typeIs_int s i t,fun _ e=>nomatch e⟩
  | ref p =>
    cases r
    rcases ty with ⟨rfl,xs,hq⟩ | ⟨rfl,o,hk,hc,hd⟩ | ⟨rfl,hk⟩ | ⟨rfl,S,n,hk⟩
    · obtain ⟨its,_,pl,_⟩:=I.list hq
      refine ⟨pl.isList.typeIs,fun a e=>?_⟩
      cases e
      obtain ⟨o,n,e,c,hd,_⟩:=pl
      exact ⟨o,e,hd⟩
    · refine ⟨⟨o,I.kIn p o hk,hc⟩,fun a e=>?_⟩
      cases e
      exact ⟨o,I.kIn _ o hk,hd⟩
    · have z:∃ o,s.heap.get? p=some o∧o.ExactDict:=by
        rcases hk with ⟨kvs,hk⟩ | ⟨kvs,hk⟩
        · obtain ⟨_,_,_,_,o,_,_,e,ex,_⟩:=I.hok p _ hk
          exact ⟨o,e,ex⟩
        · obtain ⟨_,_,_,_,o,_,_,e,ex,_⟩:=I.hok p _ hk
          exact ⟨o,e,ex⟩
      obtain ⟨o,e,ex⟩:=z
      refine ⟨⟨o,e,ex.1⟩,fun a e2=>?_⟩
      cases e2
      exact ⟨o,e,ex.2.1⟩
    · obtain ⟨o,_,_,_,e,ex,_⟩:=I.hok p _ hk
      refine ⟨⟨o,e,ex.1⟩,fun a e2=>?_⟩
      cases e2
      exact ⟨o,e,ex.2.1⟩
  | _=>exact False.elim ty
def tBM0 (K:PySem.W.Frag) (T:String) (r:V→List V→Hp→VK→Prop) (to:TE):TE:=fun σ H Q=>to σ H fun x H1=>tyV K T x H1∧r x [] H1 Q
def tBM (K:PySem.W.Frag) (T:String) (r:V→List V→Hp→VK→Prop) (to:TE) (t:TA):TE:=fun σ H Q=>to σ H fun x H1=>tyV K T x H1∧t σ H1 fun xs H2=>r x xs H2 Q
variable {o e:Expr} {es:List Expr} {to:TE} {t:TA} {name:Str} {apos cpos:Pos} {T id:String} {r:V→List V→Hp→VK→Prop}
theorem pe_bm0 (pa:PlainAttrs T) (slot:Slot T name id) (hty:typeOf (.builtin id)=pure (.type "method_descriptor")) (hm:MtR X id r) (ho:PE X o to)
    (hbase:attributeBase o name X.env (eval o X.env)=eval o X.env:=by rfl) (hline:(apos.endLine == cpos.line)=true:=by rfl):PE X (.Call (.Attribute o name apos) [] [] cpos) (tBM0 X.K T r to):=by
  intro pins s σ H Q I h
  refine wpAny_Call_method0_late hbase hline (thn (ho pins s σ H _ I h) fun v s1 ⟨x,H1,I1,r1,ty,q1⟩=>?_)
  obtain ⟨h1,h2⟩:=tyV_is I1 r1 ty
  exact ⟨T,id,pa,slot,hty,h1,h2,Calls.callWith_builtin rfl (PySem.evalArgs_none (hm pins s1 σ H1 x [] v [] Q I1 r1 .nil q1))⟩
theorem pe_bm (pa:PlainAttrs T) (slot:Slot T name id) (hty:typeOf (.builtin id)=pure (.type "method_descriptor")) (hm:MtR X id r) (ho:PE X o to) (ha:PA X (e::es) t)
    (hbase:attributeBase o name X.env (eval o X.env)=eval o X.env:=by rfl)
    (hfew:((backTo cpos (starEach (e::es) X.env)).all (fun x=>!x.1) && (backToKw cpos (keywordEach [] X.env)).all (fun x=>x.1.isSome)
      && decide ((e::es).length+([]:List Keyword).length+(if ([]:List Keyword).isEmpty then 0 else 1) < 30))=true:=by rfl)
    (hline:(apos.endLine == cpos.line)=true:=by rfl) (hs:starEach (e::es) X.env=(false,eval e X.env)::starEach es X.env:=by rfl) (hplain:(backTo cpos (starEach es X.env)).any (·.1)=false:=by rfl) :
    PE X (.Call (.Attribute o name apos) (e::es) [] cpos) (tBM X.K T r to t):=by
  intro pins s σ H Q I h
  refine wpAny_Call_method_late hbase hfew hline rfl (thn (ho pins s σ H _ I h) fun v s1 ⟨x,H1,I1,r1,ty,q1⟩=>?_)
  obtain ⟨h1,h2⟩:=tyV_is I1 r1 ty
  refine ⟨T,id,pa,slot,hty,h1,h2,?_⟩
  have hA:=ha cpos pins s1 σ H1 _ I1 q1
  rw [hs] at hA ⊢
  refine Calls.callWith_builtin (by show (false || (backTo cpos (starEach es X.env)).any (·.1))=false; rw [hplain] <;> rfl) (Calls.evalArgs_plain ?_)
  exact thn hA fun us s2 ⟨vs,H2,I2,r2,q2⟩=>hm pins s2 σ H2 x vs v us Q I2 r1 r2 q2
/- xs.append(e),list.index on a module's tuple .. are MtR facts of 06m -/
end
end L2
namespace L2
open PySem PySem.Spec PyProof.Rows
def MtM (X:Cx) (id:String) (r:V→List V→Hp→VK→Prop):Prop :=
  ∀ (pins:List (Addr × Obj)) (s:Shared) (σ:St) (H:Hp) (x:V) (xs:List V) (v:Value) (us:List Value) (Q:VK),Inv X pins σ H s→RelV x v→Vals xs us→r x xs H Q →
    wpAny (model X.prog X.w) X.A (call (.builtin id) (v::us)) (EP X pins σ Q) X.xe s
theorem Vals.one:∀ {x:V} {us:List Value},Vals [x] us→∃ u,us=[u]∧RelV x u
  | _,_,.cons r .nil=>⟨_,rfl,r⟩
theorem Vals.zero:∀ {us:List Value},Vals [] us→us=[]
  | _,.nil=>rfl
section
variable {X:Cx} {pins:List (Addr × Obj)} {σ:St} {H:Hp} {s:Shared} {l b:Addr} {xs ys zs:List V}
theorem Inv.lset {its its':List Value} {n:Nat} {f:Array Value→Array Value} {t':Nat} (I:Inv X pins σ H s) (hH:H l=some (.lst xs))
    (e:s.heap.get? l=some { cls:=.type "list", data:=.seq its.toArray n }) (hf:f its.toArray=its'.toArray) (hv:Vals ys its') (hz:ys.length≤sizeLine) :
    Inv X pins σ (upd H l (.lst ys)) { s with heap:=s.heap.update l (Obj.mapSeq f),toks:=t' }:=by
  have q:=PySem.IsL.update e f
  rw [hf] at q
  refine I.write (x:=l) (e:=l) (by rw [hH]; exact trivial) (.inl rfl) (fun b' u hb hu=>(Heap.get?_update_other s.heap (Obj.mapSeq f) (Ne.symm hb)).trans hu) ⟨_,q⟩ ?_
  exact ⟨hz,its',_,hv,q⟩
theorem Inv.lnew {its:List Value} {t':Nat} (I:Inv X pins σ H s) (hv:Vals ys its) (hz:ys.length≤sizeLine) :
    Inv X pins σ (upd H s.heap.objs.size (.lst ys)) { s with heap:=s.heap.push { cls:=.type "list", data:=.seq its.toArray },toks:=t' } :=
  I.laid (fun _ _ q=>Heap.get?_push_of_some _ q) (Nat.le_refl _) ⟨hz,its,0,hv,Heap.get?_push_size _ rfl⟩
theorem Inv.fresh (I:Inv X pins σ H s):H s.heap.objs.size=none:=I.hok.fresh (Nat.le_refl _)
theorem Inv.lstM (I:Inv X pins σ H s) (hH:H l=some (.lst xs)):xs.length≤sizeLine∧∃ (its:List Value) (n:Nat),Vals xs its∧xs.length=its.length∧s.heap.get? l=some { cls:=.type "list", data:=.seq its.toArray n }:=by
  obtain ⟨z,its,n,r,e⟩:=I.hok l _ hH
  exact ⟨z,its,n,r,r.length,e⟩
theorem notLongL {n:Nat} (h:n≤sizeLine):Builtin.List.listTooLong n=false:=by
  unfold Builtin.List.listTooLong
  exact decide_eq_false (by omega)
end
section
variable {X:Cx}
def rAppend:V→List V→Hp→VK→Prop:=fun x vs H Q=>∃ l xs y,x=.ref l∧vs=[y]∧H l=some (.lst xs)∧xs.length < sizeLine∧Q .non (upd H l (.lst (xs++[y])))
theorem mt_append:MtM X "list.append" rAppend:=by
  intro pins s σ H x vs v us Q I rx rv h
  obtain ⟨l,xs,y,rfl,rfl,hH,hz,q⟩:=h
  cases rx
  obtain ⟨u,rfl,ru⟩:=rv.one
  obtain ⟨z,its,n,r,hl,e⟩:=I.lstM hH
  refine call_meets F.slot_list_append ⟨_,e,rfl⟩ F.entry_list_append (F.args_list_append_2 _ _) (PySem.list_append l its.toArray n u (by rw [List.size_toArray]; omega)) ⟨e,?_⟩
  refine ⟨.non,_,I.lset (its':=its++[u]) hH e (by simp) (r.append (.cons ru .nil)) ?_,rfl,q⟩
  rw [List.length_append,List.length_singleton]
  omega
def rExtend:V→List V→Hp→VK→Prop:=fun x vs H Q=>∃ l b xs zs,x=.ref l∧vs=[.ref b]∧H l=some (.lst xs)∧H b=some (.lst zs)∧xs.length+zs.length≤sizeLine∧Q .non (upd H l (.lst (xs++zs)))
theorem mt_extend:MtM X "list.extend" rExtend:=by
  intro pins s σ H x vs v us Q I rx rv h
  obtain ⟨l,b,xs,zs,rfl,rfl,hH,hB,hz,q⟩:=h
  cases rx
  obtain ⟨u,rfl,ru⟩:=rv.one
  cases ru
  obtain ⟨z,its,n,r,hl,e⟩:=I.lstM hH
  obtain ⟨z2,its2,n2,r2,hl2,e2⟩:=I.lstM hB
  have hsz:its.toArray.size+its2.toArray.size≤sizeLine:=by rw [List.size_toArray,List.size_toArray]; omega
  have hlong:¬ (!its.toArray.isEmpty && Builtin.List.listTooLong (its.toArray.size+its2.toArray.size))=true:=by
    rw [notLongL hsz,Bool.and_false]
    exact Bool.false_ne_true
  refine call_meets F.slot_list_extend ⟨_,e,rfl⟩ F.entry_list_extend (F.args_list_extend_2 _ _)
    (AutoSeq1.list_extend_list_list_0 l its.toArray n b its2.toArray n2 hlong (by rw [List.size_toArray]; omega) (by omega)) ⟨e,e2,?_⟩
  refine ⟨.non,_,I.lset (its':=its++its2) hH e (by simp) (r.append r2) ?_,rfl,q⟩
  rw [List.length_append]
  omega
def rPop:V→List V→Hp→VK→Prop:=fun x vs H Q=>∃ l xs y,x=.ref l∧vs=[]∧H l=some (.lst xs)∧xs[xs.length - 1]?=some y∧Q y (upd H l (.lst xs.dropLast))
def rPopAt:V→List V→Hp→VK→Prop:=fun x vs H Q=>∃ l xs i k y,x=.ref l∧vs=[.int i]∧H l=some (.lst xs)∧-(2 ^ 63)≤i∧i < 2 ^ 63∧seqIndex? i xs.length=some k∧xs[k]?=some y∧Q y (upd H l (.lst (xs.eraseIdx k)))
def rReverse:V→List V→Hp→VK→Prop:=fun x vs H Q=>∃ l xs,x=.ref l∧vs=[]∧H l=some (.lst xs)∧Q .non (upd H l (.lst xs.reverse))
def rClear:V→List V→Hp→VK→Prop:=fun x vs H Q=>∃ l xs,x=.ref l∧vs=[]∧H l=some (.lst xs)∧Q .non (upd H l (.lst []))
theorem mt_clear:MtM X "list.clear" rClear:=by
  intro pins s σ H x vs v us Q I rx rv h
  obtain ⟨l,xs,rfl,rfl,hH,q⟩:=h
  cases rx
  have hus:=rv.zero
  subst hus
  obtain ⟨z,its,n,r,hl,e⟩:=I.lstM hH
  refine call_meets F.slot_list_clear ⟨_,e,rfl⟩ F.entry_list_clear (F.args_list_clear_1 _) (AutoSeq1.list_clear_list_0 l its.toArray n (by rw [List.size_toArray]; omega)) ⟨e,?_⟩
  exact ⟨.non,_,I.lset (its':=[]) (ys:=[]) hH e rfl .nil (Nat.zero_le _),rfl,q⟩
def rCat:R2:=fun x y H Q=>∃ l b xs zs,x=.ref l∧y=.ref b∧H l=some (.lst xs)∧H b=some (.lst zs)∧xs.length+zs.length≤sizeLine∧∀ p,H p=none→Q (.ref p) (upd H p (.lst (xs++zs)))
theorem op_cat:OpR X (binaryOp .Add) rCat:=by
  intro pins s σ H x y v u Q I rx ry h
  obtain ⟨l,b,xs,zs,rfl,rfl,hH,hB,hz,q⟩:=h
  cases rx
  cases ry
  obtain ⟨z,its,n,r,hl,e⟩:=I.lstM hH
  obtain ⟨z2,its2,n2,r2,hl2,e2⟩:=I.lstM hB
  refine PySem.P.add_list e e2 ?_ (by rw [List.size_toArray,List.size_toArray]; omega)
  have ea:its.toArray++its2.toArray=(its++its2).toArray:=by simp
  rw [ea]
  exact ⟨.ref _,_,I.lnew (t':=s.toks) (r.append r2) (by rw [List.length_append]; omega),rfl,q _ I.fresh⟩
def rRep:R2:=fun x y H Q=>∃ l k xs,x=.ref l∧y=.int k∧H l=some (.lst xs)∧-(2 ^ 63)≤k∧k < 2 ^ 63∧xs.length*k.toNat≤sizeLine ∧
  ∀ p,H p=none→Q (.ref p) (upd H p (.lst (List.replicate k.toNat xs).flatten))
end
section
variable {prog:Program} {w:World} {A:Around} {E:Value→Shared→Prop} {s:Shared}
end
section
variable {X:Cx}
end
end L2
namespace Att
open PySem PySem.W PySem.Calls PyProof.Rows
theorem ints_of_wellAll {P:Params} {h:Heap}:∀ (ns:List Int) (vs:List Value),WellAll P h vs (ns.map WData.int)→IntsAre vs ns:=by
  intro ns
  induction ns with
  | nil =>
    intro vs w
    rw [List.map_nil] at w
    cases w
    exact .nil
  | cons n ns ih =>
    intro vs w
    rw [List.map_cons] at w
    cases w with
    | cons a b =>
      cases a
      exact .cons _ _ (ih _ b)
theorem script_of {l:OpenLaw} {n:Nat} (hn:l.most=some n) {P:Params} {h:Heap} {args:List WData} {vals:List Value}
    (hpre:l.row.toRowW.claim.pre args=true) (hwl:WellAll P h vals args) :
    ∃ a vs ns,vals=[Value.ref a]∧args=[WData.list (ns.map WData.int)]∧h.get? a=some { cls:=.type "list", data:=.seq vs.toArray }∧IntsAre vs ns∧ns.length≤n:=by
  have hsh:WShape.hasAll [] args [.list .int]=true:=(pre_splitW hpre).1
  have hc:l.pre.holds [] { args:=args }=true:=(pre_splitW hpre).2
  obtain ⟨d,r,rfl,h1,h2⟩:=hasAllW_cons hsh
  obtain rfl:=hasAllW_nil h2
  obtain ⟨xs,rfl,h3⟩:=hasW_list h1
  obtain ⟨ns,rfl⟩:=items_int h3
  have hlen:ns.length≤n:=by
    unfold OpenLaw.pre at hc
    have h4:(WTm.not (.lt (.lit (.int (n:Int))) (.len (.arg 0)))).holds [] { args:=[.list (ns.map .int)] }=true:=by
      have h4:=(holds_andW hc).1
      rw [hn] at h4
      exact h4
    have h5:=condW_of h4 (w_not (w_lt w_lit (w_len_list (w_arg rfl))))
    rw [List.length_map] at h5
    refine Nat.le_of_not_lt fun q=>?_
    have q':(n:Int) < ((ns.length:Nat):Int):=by omega
    first
      | (rw [decide_eq_true q'] at h5; exact absurd h5 (by decide))
      | (simp at h5; omega)
  cases hwl with
  | cons w1 w2 =>
    cases w2
    cases w1 with
    | list ho hall=>exact ⟨_,_,ns,rfl,rfl,ho,ints_of_wellAll ns _ hall,hlen⟩
theorem post_true (l:OpenLaw) (args:List WData):l.row.toRowW.claim.post args (.bool true) args=true :=
  postW_of (r:=l.row.toRowW) (X:=(true == true))
    (show WShape.has [] (.bool true) .bool=true by first | rfl | decide | simp [WShape.has,WShape.arms,WShape.armsAll])
    (show (WTm.eq .res (.lit (.bool true))).value [] { args:=args,res:=some (.bool true),after:=args }=some (.bool (true == true)) from w_eq_bool (w_res rfl) w_lit) rfl
theorem attach_call {l:OpenLaw} {n:Nat} {q:Program} {loose:List Str} {XP:(Str→Option Value)→Heap→Prop} {YP:World→Heap→Prop} {d:DefRec}
    (hn:l.most=some n) (hdf:d.params.defaults=[])
    (call:∀ (w:World) (s₀ s₁:Shared) (mg mb:Str→Option Value) (fa:Addr) (o:Obj) (pm cd doc:Value) (a:Addr) (vs:List Value) (ns:List Int),
      Ground q loose [] XP w s₀ mg mb s₁.heap→YP w s₁.heap →
      s₁.heap.get? fa=some o→o.data=.func (docDef d.name d.params d.body d.scope pm cd doc)→s₁.heap.CodeRec cd d.name→mg d.name=some (.ref fa) →
      s₁.heap.get? a=some { cls:=.type "list", data:=.seq vs.toArray }→IntsAre vs ns→ns.length≤n→s₁.gens=#[] →
      codeAny (model l.prog w) callerA (.call (.ref fa) ⟨[.ref a],[]⟩) (fun r s'=>r=.ok (.ret (.bool true))∧OldK s₁.heap s'.heap∧s'.os=s₁.os∧AllBare s'.gens) s₁) :
    WalkO q loose XP YP l.row.toRowW d [] (fun f vs=>PySem.call f vs):=by
  intro w s₀ s₁ mg mb G Y fa o pm cd doc dV kV ho hd hcd hD hmg hg args vals as hpre hlay hrd hwl hlo
  obtain rfl:dV=.none:=Dflts.none hD hdf
  obtain rfl:kV=.none:=Dflts.noKw hD
  obtain ⟨a,vs,ns,rfl,rfl,hobj,hints,hlen⟩:=script_of hn hpre hwl
  refine enter_call (codeAny_mono (call w s₀ s₁ mg mb fa o pm cd doc a vs ns G Y ho (fd_plain hd) hcd hmg hobj hints hlen hg) fun r s' hq=>?_)
  obtain ⟨rfl,h2,h3,h4⟩:=hq
  exact ⟨.inl ⟨.bool true,.bool true,[],rfl,fun _=>rfl,.bool true,post_true l _,fun _=>⟨List.Pairwise.nil,fun _ hm=>(nomatch hm)⟩⟩,h2,h3,h4⟩
section
variable {prog:Program} {w:World} {A:Around} {E:Value→Shared→Prop} {s:Shared} {K:Frag}
def noObjs (h:Heap):Heap:={ h with objs:=#[] }
def ledger (h:Heap) (L d:Addr):List (Addr × Obj):=(List.range h.objs.size).filterMap fun a=>if a=L∨a=d then none else (h.get? a).map fun o=>(a,o)
end
end Att
namespace L2
open PySem PySem.Spec PyProof.Rows
theorem vals_ints:∀ {vs:List Value} {ns:List Int},IntsAre vs ns→Vals (ns.map V.int) vs
  | _,_,.nil=>.nil
  | _,_,.cons n t h=>.cons ⟨t,rfl⟩ (vals_ints h)
def Only (H:Hp):Prop:=∀ b,H b=none∨∃ o xs,H b=some (.frz o (.lst xs))
theorem law_call {P:Program} {w:World} {K:PySem.W.Frag} {mg mb:Str→Option Value} {CX:CXT} {k:Nat} {fa a:Addr} {fd:FuncData} {x:Str} {sp:Sp} {s₁:Shared} {vs:List Value} {ns:List Int}
    (KX:K.In s₁.heap) (hns:s₁.heap.Ns mainGlobals mg) (hb:s₁.heap.Ns builtinsNs mb) (hbb:∀ x:Str,x ≠ "__name__" → mb x=bootBuiltins x) (hlim:s₁.heap.NoLimit) (hg:s₁.gens=#[])
    (ha:s₁.heap.get? a=some { cls:=.type "list", data:=.seq vs.toArray }) (hi:IntsAre vs ns) (hl:ns.length≤sizeLine) (hr:Room k callerA)
    (F:∀ base:Heap,K.In base→base.Ns mainGlobals mg→FnOk P w K mg base CX k fa fd [x] sp) (hbind:∀ (s:Shared) (u:Value),BindsTo s fd ⟨[u],[]⟩ [(x,u)])
    (hsp:∀ H:Hp,Only H→SqL K H a (ns.map V.int)→sp [.ref a] H (fun v _=>v=.bl true) fun _ _ _=>False)
    (hCX:∀ H e s',CX [] H s₁ (fun _ _ _=>False) e s'→False) :
    codeAny (model P w) callerA (.call (.ref fa) ⟨[.ref a],[]⟩) (fun r s'=>r=.ok (.ret (.bool true))∧OldK s₁.heap s'.heap∧s'.os=s₁.os∧AllBare s'.gens) s₁:=by
  have rv:=vals_ints hi
  have lenV:=hi.length
  have core:∀ H:Hp,Only H→SqL K H a (ns.map V.int)→HOk P w H s₁.heap→(∀ b,H b ≠ none→b=a)→(H a ≠ none→K.lookup a=none) →
      codeAny (model P w) callerA (.call (.ref fa) ⟨[.ref a],[]⟩) (fun r s'=>r=.ok (.ret (.bool true))∧OldK s₁.heap s'.heap∧s'.os=s₁.os∧AllBare s'.gens) s₁:=by
    intro H hO hS hok hA hK
    have base_of:∀ {b:Addr} {o:Obj},s₁.heap.get? b=some o→H b=none→(hidT s₁.heap H).get? b=some o:=fun e n=>hidT_get e n
    have noA:∀ {b:Addr} {o:Obj} {es:Array DictEntry} {ep:Nat},s₁.heap.get? b=some o→o.data=.dict es ep→H b=none:=fun {b o es ep} e d=>by
      cases q:H b with
      | none=>rfl
      | some u =>
        have e':b=a:=hA b (by rw [q]; simp)
        subst e'
        rw [ha] at e; cases e
        have d':Data.seq vs.toArray _=Data.dict es ep:=d
        cases d'
    have nsK:∀ {b:Addr} {m:Str→Option Value},s₁.heap.Ns b m→(hidT s₁.heap H).Ns b m:=fun {b m} ⟨o,es,ep,e,d,r⟩=>⟨o,es,ep,base_of e (noA e d),d,r⟩
    have hKb:K.In (hidT s₁.heap H):=fun b o e=>base_of (KX b o e) (by
      cases q:H b with
      | none=>rfl
      | some u =>
        have e':b=a:=hA b (by rw [q]; simp)
        subst e'
        rw [hK (by rw [q]; simp)] at e; cases e)
    have hM:Mod K mg (hidT s₁.heap H):=⟨hKb,nsK hns,⟨mb,nsK hb,hbb⟩,let ⟨mc,h1,h2⟩:=hlim; ⟨mc,nsK h1,h2⟩⟩
    have e0:Env0 P w K mg (hidT s₁.heap H) callerA [] s₁ H:=⟨rfl,hM,fun b o e=>of_hidT e,Nat.le_of_eq (hidT_size _ _),trivial,fun b hb=>absurd (show b ∈ ([]:List Addr) from hb) (by simp),hok,.of_eq hg⟩
    refine codeAny_mono ((F _ hKb (nsK hns)).run callerA [] s₁ H ⟨[.ref a],[]⟩ [.ref a] [.ref a] _ _ hr e0 (hbind s₁ (.ref a)) (.cons rfl .nil) (hsp H hO hS)) fun r s' h=>?_
    cases r with
    | error e=>exact (hCX H e s' h).elim
    | ok fl =>
      cases fl with
      | next=>exact False.elim h
      | brk=>exact False.elim h
      | cont=>exact False.elim h
      | ret u =>
        obtain ⟨v,H',os,bare,un,hok',r',q⟩:=h
        have q':v=.bl true:=q
        subst q'
        obtain rfl:u=Value.bool true:=r'
        refine ⟨rfl,OldK.of_keep fun b o e=>?_,os,bare⟩
        cases q:H b with
        | none=>exact un.keep b o e q (by intro z; exact absurd (show b ∈ ([]:List Addr) from z) (by simp)) (by simp)
        | some u =>
          rcases hO b with z | ⟨ob,xs,z⟩
          · rw [q] at z; cases z
          · have z2:=un.frzs b ob _ z
            obtain ⟨e1,_⟩:=hok b _ z
            obtain ⟨e2,_⟩:=hok' b _ z2
            rw [e] at e1; cases e1
            exact e2
  cases hk:K.lookup a with
  | some o =>
    have e:=KX a o hk
    rw [ha] at e
    cases e
    refine core (fun _=>none) (fun _=>.inl rfl) (.inr ⟨_,vs.toArray,_,hk,rfl,rfl,rfl,by rw [List.size_toArray,lenV]; exact hl,by simpa using rv⟩) (fun b u z=>by have z':(none:Option HO)=some u:=z; cases z') (fun b z=>absurd rfl z) fun z=>absurd rfl z
  | none =>
    refine core (fun b=>if b=a then some (.frz { cls:=.type "list", data:=.seq vs.toArray } (.lst (ns.map V.int))) else none) (fun b=>?_) (.inl (.inr ⟨{ cls:=.type "list", data:=.seq vs.toArray },if_pos rfl⟩)) (fun b u z=>?_) (fun b z=>?_) fun _=>hk
    · by_cases hb:b=a
      · exact .inr ⟨_,_,if_pos hb⟩
      · exact .inl (if_neg hb)
    · by_cases hb:b=a
      · have z':=(if_pos hb).symm.trans z
        cases z'
        subst hb
        exact ⟨ha,by rw [List.length_map]; exact hl,vs,_,rv,ha⟩
      · have z':=(if_neg hb).symm.trans z
        cases z'
    · by_cases hb:b=a
      · exact hb
      · exact absurd (if_neg hb) z
end L2
namespace L2
open PySem PySem.Spec PyProof.Rows
abbrev KOf {K:PySem.W.Frag} {h:Heap} (_:K.In h):PySem.W.Frag:=K
theorem walk_of {l:PySem.W.OpenLaw} {n k:Nat} {q:Program} {loose:List Str} {XP:(Str→Option Value)→Heap→Prop} {YP:World→Heap→Prop} {d:DefRec} {K:Params→PySem.W.Frag} {CX:World→CXT} {sp:World→Sp} {x:Str}
    (hn:l.most=some n) (hn2:n≤sizeLine) (hdf:d.params.defaults=[]) (hr:Room k callerA)
    (hY:∀ (w:World) (h:Heap),YP w h→(K w.params).In h)
    (F:∀ (w:World) (mg:Str→Option Value) (fa:Addr) (h:Heap),(K w.params).In h→h.Ns mainGlobals mg→mg d.name=some (.ref fa) →
      ∃ fd:FuncData,(∀ (s:Shared) (u:Value),BindsTo s fd ⟨[u],[]⟩ [(x,u)]) ∧
        ∀ base:Heap,(K w.params).In base→base.Ns mainGlobals mg→FnOk l.prog w (K w.params) mg base (CX w) k fa fd [x] (sp w))
    (hsp:∀ (w:World) (H:Hp) (a:Addr) (ns:List Int),ns.length≤n→Only H→SqL (K w.params) H a (ns.map V.int)→sp w [.ref a] H (fun v _=>v=.bl true) fun _ _ _=>False)
    (hCX:∀ (w:World) (H:Hp) (s:Shared) (e:Value) (s':Shared),CX w [] H s (fun _ _ _=>False) e s'→False) :
    PySem.W.WalkO q loose XP YP l.row.toRowW d [] (fun f vs=>PySem.call f vs):=by
  refine Att.attach_call hn hdf fun w s₀ s₁ mg mb fa o pm cd doc a vs ns G Y ho hd hcd hmg hobj hints hlen hg=>?_
  have KX:=hY w _ Y
  obtain ⟨fd,hb,hF⟩:=F w mg fa _ KX G.T.g hmg
  exact law_call KX G.T.g G.T.b G.T.builtins G.T.nolimit hg hobj hints (Nat.le_trans hlen hn2) hr hF hb (fun H hO hS=>hsp w H a ns hlen hO hS) fun H e s'=>hCX w H s₁ e s'
end L2
/- THE LAST THEOREM (shape; LID,My.* are yours):
   My.Adr: a structure of the addresses that your layer names (classes,functions); My.Txt K t: a structure (Prop) of the equations over K;
   My.txt_mk:{K} {implicit addresses ..} (e1:nsIn K mainGlobals "law" = some (some (.ref f))) (e2:K.lookup f=some ⟨oc,od,.func (fnOf "law" "law" params body scope dV kV doc pm an cdv ct),sl⟩) (e3:codeIn K cdv "law" = true) ..:∃ t,My.Txt K t
set_option maxRecDepth 100000 in
set_option maxHeartbeats 0 in
theorem PySem.Challenge.cw_LID_holds : PySem.Challenge.rw_LID.Holds := by
  w_on; o_law; k_head; (case hw=>w_witness2)
  k_fill
  refine L2.walk_of (l:=PySem.Challenge.rw_LID) (n:=63) (k:=40) (x := "script") (CX:=fun w=>..) (sp:=fun _=>My.sp_law) rfl (by decide) rfl ⟨rfl,by decide,by decide⟩ (fun w h Y=>PySem.W.kIn_of Y) ?F ?S ?C
  case F =>
    intro w mg fa h KX G hmg
    have T:∃ t,My.Txt (L2.KOf KX) t:=by
      dsimp only [L2.KOf]                          -- K must stand as «<heap const> w.params» for k_is
      refine' My.txt_mk ?e1 ?e2 ?e3 ..
      (case e1=>PySem.W.k_is)                    -- in the order: a name -> its address -> its object -> its parts
      (case e2=>PySem.W.k_is)
      ..
    obtain ⟨t,T⟩:=T
    have e0:=hmg.symm.trans (PySem.W.mg_of KX G T.law)
    cases e0                                       -- fa is the law's own address
    exact ⟨_,fun s u=>.of_eq rfl,fun base kb nb=>My.law_fn T kb nb⟩     -- if «.of_eq rfl» comes too early: refine' ⟨_,?b,fun base kb nb=>My.law_fn T kb nb⟩; exact fun s u=>.of_eq rfl
  case S=>exact fun w H a ns hl hO hS=>..
  case C=>exact ..
(the tactic k_is has no namespace: write k_is) -/
namespace L2
open PySem PySem.Spec PyProof.Rows
def inClass (s:Stmt) (j:Nat):Stmt:=match s with
  | .ClassDef _ _ _ body _ _ _ _ _ _ _=>body.getD j (.Pass ⟨0,0,0,0⟩)
  | _=>.Pass ⟨0,0,0,0⟩
def defArgs (s:Stmt):Arguments:=match s with
  | .FunctionDef _ a _ _ _ _ _ _ _ _=>a
  | _=>{ posonlyargs:=[],args:=[],vararg:=none,kwonlyargs:=[],kw_defaults:=[],kwarg:=none,defaults:=[] }
def defBody (s:Stmt):List Stmt:=match s with
  | .FunctionDef _ _ b _ _ _ _ _ _ _=>b
  | _=>[]
def defScope (s:Stmt):Scope:=match s with
  | .FunctionDef _ _ _ _ _ _ sc _ _ _=>sc
  | _=>{ kind:=.function,names:=[],isGenerator:=false,isCoroutine:=false }
abbrev CX0:CXT:=fun _ _ _ _ _ _=>False
abbrev E0:XK:=fun _ _ _=>False
theorem pass0 {X:Cx}:Passes CX0 X E0:=fun _ _ _ _ _ _ _ h=>h.elim
structure Fun (K:PySem.W.Frag) (x qual:Str) (st:Stmt) (f:Addr) (fd:FuncData):Prop where
  ex:∃ (oc:Value) (od:Option Addr) (kV doc pm:Value) (an:Option Addr) (cdv ct:Value) (osl:Array (Option Value)),
    fd=PySem.W.fnOf x qual (defArgs st) (defBody st) (defScope st) .none kV doc pm an cdv ct∧K.lookup f=some ⟨oc,od,.func fd,osl⟩∧PySem.W.codeIn K cdv qual=true
  kp:PySem.W.keepIn K (.ref f)=true
section
variable {P:Program} {w:World} {K:PySem.W.Frag} {mg:Str→Option Value} {base:Heap}
theorem Fun.ok {x qual:Str} {st:Stmt} {f:Addr} {fd:FuncData} {N ps:List Str} {k:Nat} {sp:Sp} (F:Fun K x qual st f fd) (S:FnScope N ps (defScope st)) (len:∀ vs H Q E,sp vs H Q E→vs.length=ps.length)
    (hbody:∀ (cdv:Value) (A:Around) (outer:List Env) (s:Shared) (H:Hp) (vs:List V) (Q:VK) (E:XK),Room k (A.deeper (envOfC qual (defScope st) s.heap.objs.size f cdv))→sp vs H Q E →
      ∃ t,PSs (cxOf CX0 P w K mg base N qual (defScope st) f cdv A outer s H E).nox (defBody st) t∧t { nx:=fun _ H'=>Q .non H',rt:=Q } (start N vs) H):FnOk P w K mg base CX0 (k+1) f fd ps sp:=by
  obtain ⟨oc,od,kV,doc,pm,an,cdv,ct,osl,rfl,lk,hcd⟩:=F.ex
  refine fn_of lk hcd S len fun A outer s H vs Q E hr hsp=>?_
  obtain ⟨t,h,q⟩:=hbody cdv A outer s H vs Q E hr hsp
  exact ⟨t,h.nox,q⟩
theorem Fun.binds {x qual:Str} {st:Stmt} {f:Addr} {fd:FuncData} {ps:List Str} (F:Fun K x qual st f fd)
    (h:∀ (kV doc pm:Value) (an:Option Addr) (cdv ct:Value) (us:List Value),us.length=ps.length→bindArgs (PySem.W.fnOf x qual (defArgs st) (defBody st) (defScope st) .none kV doc pm an cdv ct) ⟨us,[]⟩=pure (ps.zip us)):Binds K fd ps []:=by
  obtain ⟨oc,od,kV,doc,pm,an,cdv,ct,osl,rfl,lk,hcd⟩:=F.ex
  exact .all (h kV doc pm an cdv ct)
theorem fun_mk {x qual:Str} {st:Stmt} {f:Addr} {oc:Value} {od an:Option Addr} {osl:Array (Option Value)} {kV doc pm cdv ct:Value} (l:K.lookup f=some ⟨oc,od,.func (PySem.W.fnOf x qual (defArgs st) (defBody st) (defScope st) .none kV doc pm an cdv ct),osl⟩)
    (c:PySem.W.codeIn K cdv qual=true) (k:PySem.W.keepIn K (.ref f)=true):Fun K x qual st f (PySem.W.fnOf x qual (defArgs st) (defBody st) (defScope st) .none kV doc pm an cdv ct):=⟨⟨oc,od,kV,doc,pm,an,cdv,ct,osl,rfl,l,c⟩,k⟩
end
theorem small1000 {n:Nat} (h:n≤1000):n < sizeLine:=Nat.lt_of_le_of_lt h (by decide)
section
variable {X:Cx}
theorem pv (i:Nat) {x:Str} {pos:Pos} (hN:X.N[i]?=some x:=by rfl) (hv:Vis X.env.scope x:=by first | exact Or.inl rfl | exact Or.inr (Or.inl rfl) | exact Or.inr (Or.inr rfl)) (hd:(x == ("__debug__" : Str))=false:=by decide)
    (hcd:(x == ("__classdict__" : Str))=false:=by decide):PE X (.Name x pos) (tVar i):=pe_var hN hv hd hcd
end
theorem iteF {A B:Prop} (h:B):if false=true then A else B:=by
  rw [if_neg Bool.false_ne_true]
  exact h
theorem iteT {A B:Prop} (h:A):if true=true then A else B:=by
  rw [if_pos rfl]
  exact h
theorem ite2 {c A B:Prop} [Decidable c] (h1:c→A) (h2:¬ c→B):if c then A else B:=by
  by_cases h:c
  · rw [if_pos h]
    exact h1 h
  · rw [if_neg h]
    exact h2 h
def Same (H H':Hp):Prop:=∀ b o,H b=some o→H' b=some o
theorem Same.refl (H:Hp):Same H H:=fun _ _ h=>h
theorem Same.trans {H H1 H2:Hp} (a:Same H H1) (b:Same H1 H2):Same H H2:=fun c o h=>b c o (a c o h)
theorem Same.free {H H':Hp} (e:Same H H') {l:Addr} (h:H' l=Option.none):H l=Option.none:=by
  cases q:H l with
  | none=>rfl
  | some o =>
    rw [e l o q] at h
    cases h
theorem Same.seq {K:PySem.W.Frag} {H H':Hp} {a:Addr} {xs:List V} (e:Same H H') (h:SqL K H a xs):SqL K H' a xs:=by
  rcases h with (h | ⟨o,h⟩) | h
  · exact .inl (.inl (e _ _ h))
  · exact .inl (.inr ⟨o,e _ _ h⟩)
  · exact .inr h
end L2
set_option maxHeartbeats 4000000
namespace L2
open PySem PySem.Spec PyProof.Rows
section
variable {X:Cx}
def CDivL (_ j:Int):Prop:=0 < j∧j < 2 ^ 63
theorem op_fdivL:OpR X (binaryOp .FloorDiv) (rI CDivL fun i j=>.int (i / j)):=opI fun i j _ _ _ _ _ hc q=>by
  have e:Int.fdiv i j=i / j:=Int.fdiv_eq_ediv_of_nonneg i (Int.le_of_lt hc.1)
  rw [← e] at q
  refine floordiv_int (by have:=hc.1; omega) q (.inl (PyProof.noPylong_of_log2 ?_))
  have h1:=hc.1
  have h2:=hc.2
  have h3:j.natAbs < 2 ^ 63:=by omega
  have h4:=(Nat.log2_lt (n:=j.natAbs) (k:=63) (by omega)).mpr h3
  omega
end
theorem boot_int':bootBuiltins "int" = some (.type "int"):=by decide +kernel
theorem boot_list':bootBuiltins "list" = some (.type "list"):=by decide +kernel
theorem boot_tuple':bootBuiltins "tuple" = some (.type "tuple"):=by decide +kernel
theorem boot_reversed':bootBuiltins "reversed" = some (.type "reversed"):=by decide +kernel
structure Cal (P:Program) (w:World) (K:PySem.W.Frag) (mg:Str→Option Value) (base:Heap) (n:Nat) (x:Str) (ps:List Str) (sp:Sp):Prop where
  ex:∃ (f:Addr) (fd:FuncData),FnOk P w K mg base CX0 n f fd ps sp∧Binds K fd ps []∧PySem.W.keepIn K (.ref f)=true∧mg x=some (.ref f)
theorem pe_cal {X:Cx} {n k:Nat} {x:Str} {ps:List Str} {sp:Sp} {e:Expr} {es:List Expr} {t:TA} {p pos:Pos} (C:Cal X.prog X.w X.K X.mg X.base n x ps sp) (hr:Room k X.A) (hk:n≤k) (hg:Gl X x)
    (ha:PA X (e::es) t) (hdb:(x == ("__debug__" : Str))=false:=by decide) (he:starEach (e::es) X.env=(false,eval e X.env)::starEach es X.env:=by rfl) (hpl:(backTo pos (starEach es X.env)).any (·.1)=false:=by rfl) :
    PE X (.Call (.Name x p) (e::es) [] pos) (tCall sp [] E0 t):=by
  obtain ⟨f,fd,F,b,kp,m⟩:=C.ex
  exact pe_call F (hr.mono hk) hg m kp b .nil pass0 ha hdb he hpl
theorem Cal.of {P:Program} {w:World} {K:PySem.W.Frag} {mg:Str→Option Value} {base:Heap} {n:Nat} {x qual:Str} {ps:List Str} {sp:Sp} {st:Stmt} {f:Addr} {fd:FuncData} (F:Fun K x qual st f fd) (O:FnOk P w K mg base CX0 n f fd ps sp) (m:mg x=some (.ref f))
    (h:∀ (kV doc pm:Value) (an:Option Addr) (cdv ct:Value) (us:List Value),us.length=ps.length→bindArgs (PySem.W.fnOf x qual (defArgs st) (defBody st) (defScope st) .none kV doc pm an cdv ct) ⟨us,[]⟩=pure (ps.zip us)):Cal P w K mg base n x ps sp :=
  ⟨f,fd,O,F.binds h,F.kp,m⟩
theorem iteD {c A B:Prop} [Decidable c] (hc:c) (h:A):if decide c=true then A else B:=by
  rw [decide_eq_true hc]
  exact iteT h
theorem iteDF {c A B:Prop} [Decidable c] (hc:¬ c) (h:B):if decide c=true then A else B:=by
  rw [decide_eq_false hc]
  exact iteF h
def SameBut (f:Addr) (H H':Hp):Prop:=∀ b o,b ≠ f→H b=some o→H' b=some o
theorem SameBut.trans {f:Addr} {H H1 H2:Hp} (a:SameBut f H H1) (b:SameBut f H1 H2):SameBut f H H2:=fun c o h e=>b c o h (a c o h e)
theorem SameBut.refl (f:Addr) (H:Hp):SameBut f H H:=fun _ _ _ h=>h
theorem SameBut.of {f:Addr} {H H':Hp} (h:Same H H'):SameBut f H H':=fun b o _ e=>h b o e
theorem SameBut.upd {f:Addr} {H:Hp} (o:HO):SameBut f H (upd H f o):=fun b u h e=>by rw [upd_ne h]; exact e
theorem Same.new {H:Hp} {p:Addr} (h:H p=none) (o:HO):Same H (upd H p o):=fun b u q=>by rw [upd_ne (ne_of_none q h)]; exact q
theorem Same.but {f:Addr} {H0 H H':Hp} (a:Same H0 H) (n:H0 f=none) (b:SameBut f H H'):Same H0 H':=fun c o e=>b c o (ne_of_none e n) (a c o e)
def FeedAt (H:Hp) (f:Addr):Prop:=∃ own st:Int,H f=some (.lst [.int own,.int st])∧0≤own∧0≤st∧st≤2147483646
theorem FeedAt.ne {H:Hp} {f b:Addr} (F:FeedAt H f) (h:H b=none):b ≠ f:=by
  obtain ⟨o,s,e,_⟩:=F
  intro z
  subst z
  rw [h] at e
  cases e
theorem FeedAt.same {H H':Hp} {f:Addr} (F:FeedAt H f) (s:Same H H'):FeedAt H' f:=by
  obtain ⟨o,t,e,h⟩:=F
  exact ⟨o,t,s _ _ e,h⟩
def spTake:Sp:=fun vs H Q _=>∃ (f:Addr) (m:Int),vs=[.ref f,.int m]∧FeedAt H f∧0 < m∧m < 2 ^ 63∧∀ (d:Int) (H':Hp),0≤d→d < m→FeedAt H' f→SameBut f H H'→Q (.int d) H'
def spFeed (K:PySem.W.Frag):Sp:=fun vs H Q _=>∃ (a:Addr) (ns:List Int) (k:Int),vs=[.ref a,.int k]∧SqL K H a (ns.map V.int)∧ns.length≤63∧0≤k∧k < 1000000∧∀ (p:Addr) (H':Hp),H p=none→Same H H'→FeedAt H' p→Q (.ref p) H'
def spLaw (K:PySem.W.Frag):Sp:=fun vs H Q _=>∃ (a:Addr) (ns:List Int),vs=[.ref a]∧SqL K H a (ns.map V.int)∧ns.length≤63∧∀ H',Q (.bl true) H'
theorem small {n:Nat} (h:n≤1000):n≤sizeLine:=Nat.le_of_lt (small1000 h)
theorem at_int {ns:List Int} {k:Int} (h0:0≤k) (h:k < (ns.length:Int)):∃ v:Int,atI (ns.map V.int) k=some (.int v):=by
  have hk:k.toNat < ns.length:=by omega
  have q:atI (ns.map V.int) ((k.toNat:Nat):Int)=some (.int ns[k.toNat]):=atI_nat (by rw [List.getElem?_map,List.getElem?_eq_getElem hk] <;> rfl)
  have ek:((k.toNat:Nat):Int)=k:=by omega
  rw [ek] at q
  exact ⟨_,q⟩
end L2
namespace L2
open PySem PySem.Spec PyProof.Rows
@[reducible] def cxComp (X:Cx) (N:List Str) (scope:Scope) (cl:List (Str × Addr)) (s:Shared) (H:Hp) (fp:List Addr):Cx where
  prog:=X.prog
  w:=X.w
  K:=X.K
  mg:=X.mg
  base:=X.base
  A:=X.A
  N:=N
  s₀:=s
  H₀:=H
  env:=compEnvC scope cl s.heap.objs.size X.env
  outer:=X.stack
  stack:=X.stack
  ex:=fp
  fn:=fun _=>false
  calm:=X.calm
  pn:=[]
  xe:=fun _ _=>False
structure CompScope (X:Cx) (x:Str) (N:List Str) (ix:List Nat) (scope:Scope) (cl:List (Str × Addr)):Prop where
  clos:closureFor scope X.env=pure cl
  nocell:∀ y ∈ scope.names,y.2 ≠ .cell
  kind:scope.kind=.function
  names:∀ y ∈ scope.names,y.2=.local→scope.names.lookup y.1=some .local
  own:scope.names.lookup x=some .local
  nd:(x::N).Nodup
  sub:∀ p ∈ cl,X.env.cells.lookup p.1=some p.2
  has:((relabel scope X.env).names.all fun p=>!(p.2 == .cell || p.2 == .free) || (cl.lookup p.1).isSome)=true
  outs:∀ (j:Nat) (y:Str),N[j]?=some y→(relabel scope X.env).names.lookup y=some .cell∧∃ k c,ix[j]?=some k∧X.N[k]?=some y∧cl.lookup y=some c∧X.env.scope.names.lookup y=some .cell
def outs (ix:List Nat) (σ:St):St:=ix.map fun k=>(σ[k]?).join
section
variable {X:Cx} {pins:List (Addr × Obj)} {σ:St} {x:Str} {N:List Str} {ix:List Nat} {scope:Scope} {cl:List (Str × Addr)} {fp:List Addr} {H3:Hp} {s3:Shared}
theorem CompScope.cells (S:CompScope X x N ix scope cl) {y:Str} {c:Addr} (h:cl.lookup y=some c):X.env.cells.lookup y=some c:=S.sub _ (PySem.mem_of_lookup h)
theorem comp_cx (S:CompScope X x N ix scope cl) (I3:Inv X pins σ H3 s3) (hf:∀ b ∈ fp,FpOk X pins H3 b) (hlt:∀ b ∈ fp,b < s3.heap.objs.size):(cxComp X (x::N) scope cl s3 H3 fp).Ok where
  mod:=I3.ok.mod
  kind:=S.kind
  glob:=I3.ok.glob
  blt:=I3.ok.blt
  above:=Nat.le_refl _
  inj:=fun y z c h1 h2=>I3.ok.inj y z c (S.cells h1) (S.cells h2)
  has:=fun y hy=>by
    have q:=List.all_eq_true.mp S.has
    have hy:(relabel scope X.env).names.lookup y=some .cell∨(relabel scope X.env).names.lookup y=some .free:=hy
    have z:∀ k:NameKind,(k == .cell || k == .free)=true→(relabel scope X.env).names.lookup y=some k→∃ c,cl.lookup y=some c:=fun k hk e=>by
      have r:=q _ (PySem.mem_of_lookup e)
      rw [hk] at r
      exact Option.isSome_iff_exists.mp (by simpa using r)
    rcases hy with e | e
    · exact z _ (by rfl) e
    · exact z _ (by rfl) e
  cab:=fun _ _ h _=>nomatch h
  hd:=I3.ok.hd
  frames:=I3.ok.frames
  stk:=.inl rfl
  exf:=fun b hb=>⟨Nat.ne_of_lt (hlt b hb),fun y c e=>(hf b hb).2.2.2.2.1 y c (S.cells e)⟩
  bs:=fun b o e=>I3.bs b o e
  bsz:=Nat.le_trans I3.ok.bsz I3.sz
  noex:=fun b o e hb=>by
    rcases (hf b hb).2.2.2.1 with z | z
    · exact I3.ok.noex b o e z
    · exact absurd (Nat.lt_of_lt_of_le (Heap.lt_size e) (Nat.le_trans I3.ok.bsz z)) (Nat.lt_irrefl _)
  exfs:=fun b hb z=>by
    rcases List.mem_cons.mp (I3.stkSub b z) with e | e
    · exact (hf b hb).2.1 e
    · exact (hf b hb).2.2.1 e
  funs:=I3.stack
  frf:=I3.stkFree
theorem comp_start (S:CompScope X x N ix scope cl) (I3:Inv X pins σ H3 s3) (hf:∀ b ∈ fp,FpOk X pins H3 b) (hlt:∀ b ∈ fp,b < s3.heap.objs.size) (hix:ix.length=N.length) {h1:Heap} {t':Nat} {m:Str→Option Value}
    (hn:h1.Ns s3.heap.objs.size m) (hk:∀ b o,s3.heap.get? b=some o→h1.get? b=some o):Inv (cxComp X (x::N) scope cl s3 H3 fp) [] (none::outs ix σ) H3 { s3 with heap:=h1,toks:=t' } where
  ok:=comp_cx S I3 hf hlt
  os:=rfl
  bare:=I3.bare
  base:=Un.kept hk
  loc:=by
    refine ⟨m,hn,fun i y v h1' h2 h3=>?_⟩
    cases i with
    | zero =>
      have h2':(some (none:Option V))=some (some v):=h2
      cases h2'
    | succ j =>
      have h1'':N[j]?=some y:=h1'
      have h2':(outs ix σ)[j]?=some (some v):=h2
      obtain ⟨hr,k,c,e1,e2,e3,e4⟩:=S.outs j y h1''
      unfold outs at h2'
      rw [List.getElem?_map,e1] at h2'
      have h2'':(σ[k]?).join=some v:=Option.some.inj h2'
      have e5:σ[k]?=some (some v):=by
        cases q:σ[k]? with
        | none=>rw [q] at h2''; cases h2''
        | some o=>rw [q] at h2''; exact congrArg some h2''
      obtain ⟨m0,_,hl⟩:=I3.loc
      obtain ⟨u,r,l⟩:=hl k y v e2 e5 (.inr (.inl e4))
      refine ⟨u,r,.inr ⟨.inl hr,c,e3,?_⟩⟩
      rcases l with ⟨kk,_⟩ | ⟨_,c',ec,z⟩
      · have kk':X.env.scope.names.lookup y=some .local:=kk
        rw [e4] at kk'; cases kk'
      · rw [S.cells e3] at ec
        cases ec
        obtain ⟨o,ho,hd⟩:=z
        exact ⟨o,hk _ _ ho,hd⟩
  cell:=fun y c e=>by
    obtain ⟨v,o,ho,hd⟩:=I3.cell y c (S.cells e)
    exact ⟨v,o,hk _ _ ho,hd⟩
  free:=I3.hok.fresh (Nat.le_refl _)
  freeC:=fun y c e=>I3.freeC y c (S.cells e)
  pin:=fun p hp=>absurd (show p ∈ ([]:List (Addr × Obj)) from hp) (by simp)
  hok:=I3.hok.kept hk
  len:=by
    show (none::outs ix σ).length=(x::N).length
    rw [List.length_cons,List.length_cons]
    unfold outs
    rw [List.length_map,hix]
theorem comp_back (I3:Inv X pins σ H3 s3) (hf:∀ b ∈ fp,FpOk X pins H3 b) {σ':St} {H':Hp} {s':Shared} {h'':Heap} {N':List Str} (J:Inv (cxComp X N' scope cl s3 H3 fp) [] σ' H' s') (hb:Heap.SameBut s3.heap.objs.size s'.heap h'') :
    Inv X pins σ H' { s' with heap:=h'' }:=by
  have ne:∀ b o,s3.heap.get? b=some o→b ≠ s3.heap.objs.size:=fun b o e=>Nat.ne_of_lt (Heap.lt_size e)
  have B:Un (frs X.stack) fp H3 H' s3.heap s'.heap:=J.base
  refine I3.call' (s':={ s' with heap:=h'' }) (ch:=fp) J.os ⟨fun b o e n h1 h2=>(hb.2 b (ne b o e)).trans (B.keep b o e n h1 h2),fun b o e n h1 h2=>?_,B.free,fun b o e h2=>?_,B.tups,B.frzs,B.tbls⟩ (fun b ob e=>?_) J.bare (fun b z=>?_)
  · obtain ⟨sl,q⟩:=B.slot b o e n h1 h2
    exact ⟨sl,(hb.2 b (ne b o e)).trans q⟩
  · obtain ⟨o',q⟩:=B.there b o e h2
    exact ⟨o',(hb.2 b (ne b o e)).trans q⟩
  · have fr:H' s3.heap.objs.size=none:=J.free
    refine (J.hok b ob e).stay (fun c w' hc q=>(hb.2 c ?_).trans q) (fun _ q=>q) fun _ _ q=>q
    rintro rfl
    rcases hc with rfl | hc
    · rw [fr] at e; cases e
    · rw [fr] at hc; cases hc
  · obtain ⟨_,h2,_,h4,h5,h6⟩:=hf b z
    exact ⟨h4,h2,h5,h6⟩
end
abbrev TBl:=St→Hp→(Hp→Prop)→VK→Prop
def PB (X:Cx) (ifs:List Expr) (elt:Expr) (tb:TBl):Prop :=
  ∀ (pins:List (Addr × Obj)) (s:Shared) (σ:St) (H:Hp) (skip:Hp→Prop) (keep:VK),Inv X pins σ H s→tb σ H skip keep →
    wpAny (model X.prog X.w) X.A (forIn ifs true fun c r=>if r=true then do let ok ← isTrue c X.env (eval c X.env); pure (ForInStep.yield ok) else pure (ForInStep.yield r))
      (fun ok s3=>if ok=true then wpAny (model X.prog X.w) X.A (eval elt X.env) (EP X pins σ keep) X.xe s3 else ∃ H',Inv X pins σ H' s3∧skip H') X.xe s
def tB0 (te:TE):TBl:=fun σ H _ keep=>te σ H keep
def tB1 (tc:TT) (te:TE):TBl:=fun σ H skip keep=>tc σ H fun b H1=>if b=true then te σ H1 keep else skip H1
theorem pb_all {X:Cx} {elt:Expr} {te:TE} (he:PE X elt te):PB X [] elt (tB0 te):=by
  intro pins s σ H skip keep I h
  refine wpAny_tests_nil ?_
  rw [if_pos rfl]
  exact he pins s σ H keep I h
theorem pb_if {X:Cx} {c elt:Expr} {tc:TT} {te:TE} (hc:PT X c tc) (he:PE X elt te):PB X [c] elt (tB1 tc te):=by
  intro pins s σ H skip keep I h
  refine wpAny_tests_one (thn (hc pins s σ H _ I h) fun b s1 ⟨H1,I1,q1⟩=>?_)
  cases b with
  | true =>
    rw [if_pos rfl] at q1 ⊢
    exact he pins s1 σ H1 keep I1 q1
  | false =>
    rw [if_neg (by decide)] at q1 ⊢
    exact ⟨H1,I1,q1⟩
def CompEx (J:It) (D:Addr) (ix:List Nat) (tb:TBl) (σ:St) (H:Hp) (Q:VK):Prop:=∃ W:Nat→Nat→Hp→Prop,(∃ m,W 0 m (upd H D (.lst [])))∧∀ i m H2,W i m H2 →
  (J.stop i H2∧Q (.ref D) H2)∨(J.go i H2∧∀ y H3,J.yld i H2 y H3→tb (some y::outs ix σ) H3 (fun H4=>∃ m',m' < m∧W (i+1) m' H4)
    fun z H4=>∃ ys,H4 D=some (.lst ys)∧ys.length < sizeLine∧∃ m',m' < m∧W (i+1) m' (upd H4 D (.lst (ys++[z]))))
def tCompR (wi:TI) (ix:List Nat) (tb:TBl):TE:=fun σ H Q=>wi σ H fun J H1=>∀ D,H1 D=none→CompEx J D ix tb σ H1 Q
section
variable {prog:Program} {w:World} {A:Around} {E:Value→Shared→Prop} {R:Result→Shared→Prop} {s:Shared}
theorem compLoop_go {elt target iter:Expr} {ifs:List Expr} {scope:Scope} {pos:Pos} {it acc:Value} {env:Env} (I:Nat→Shared→Prop)
    (turn:∀ n s,I n s→wpAny (model prog w) A (pyNext it) (fun r s1=>match r with
      | none=>R (.ok .next) s1
      | some v=>wpAny (model prog w) A (letOwnedTupleGo target it v) (fun _ s1'=>wpAny (model prog w) A (assign target env v) (fun _ s2 =>
          wpAny (model prog w) A (forIn ifs true fun c r=>if r=true then do let ok ← isTrue c env (eval c env); pure (ForInStep.yield ok) else pure (ForInStep.yield r)) (fun ok s3 =>
            if ok=true then wpAny (model prog w) A (eval elt env) (fun x s4 =>
              wpAny (model prog w) A (call (.builtin "list.append") [acc,x]) (fun _ s5=>∃ m,m < n∧I m s5) (fun _ _=>False) s4) (fun _ _=>False) s3
            else ∃ m,m < n∧I m s3) (fun _ _=>False) s2) (fun _ _=>False) s1') (fun _ _=>False) s1) (fun _ _=>False) s)
    (n:Nat) (h:I n s) :
    codeAny (model prog w) A (.compLoop (.ListComp elt [⟨target,iter,ifs,0⟩] scope pos) 0 it acc env) R s:=by
  have up:∀ {α:Type} {t:Sem α} {Q Q':α→Shared→Prop} {E':Value→Shared→Prop} {s:Shared},wpAny (model prog w) A t Q (fun _ _=>False) s→(∀ a s,Q a s→Q' a s)→wpAny (model prog w) A t Q' E' s :=
    fun h q=>wpAny_mono h q fun _ _ f=>f.elim
  refine codeAny_loop rfl I (fun n s hI=>?_) n h
  show wpAny _ A ((compTurn (.ListComp elt [⟨target,iter,ifs,0⟩] scope pos) 0 it acc env).onRaise (fun x=>do noteFrame x env; theTreesLotGoes x)) _ _ s
  refine wpAny_noted ?_
  rw [compTurn_list]
  refine wpAny_bind (wpAny_standAt (wpAny_bind (up (turn n s hI) fun r s1 h1=>?_)))
  cases r with
  | none=>exact wpAny_pure h1
  | some v =>
    refine wpAny_bind (up h1 fun _ s1' h1'=>?_)
    refine wpAny_bind (up h1' fun _ s2 h2=>wpAny_bind (up h2 fun ok s3 h3=>?_))
    cases ok with
    | false=>exact wpAny_pure ⟨rfl,h3⟩
    | true =>
      exact wpAny_bind (wpAny_bind (up h3 fun x s4 h4=>wpAny_bind (up h4 fun _ s5 h5=>wpAny_pure (wpAny_pure ⟨rfl,h5⟩))))
end
structure Apart (X:Cx) (pins:List (Addr × Obj)) (H:Hp) (C:Addr):Prop where
  fr:H C=none
  lo:C ≠ X.env.locals
  sz:X.s₀.heap.objs.size≤C
  ce:∀ y c,X.env.cells.lookup y=some c→c ≠ C
  pi:∀ p ∈ X.pn++pins,p.1 ≠ C
theorem Apart.turn {X:Cx} {pins:List (Addr × Obj)} {σ:St} {H:Hp} {C:Addr} {s:Shared} {h':Heap} (a:Apart X pins H C) (I:Inv X pins σ H s) (hs:Heap.SameBut C s.heap h'):Inv X pins σ H { s with heap:=h' } :=
  I.turned (t':=s.toks) (fun b o ne e=>(hs.2 b ne).trans e) a.fr a.lo (.inr a.sz) a.ce a.pi
section
variable {X:Cx} {x:Str} {N:List Str} {ix:List Nat} {scope:Scope} {cl:List (Str × Addr)} {elt iter:Expr} {ifs:List Expr} {px pos:Pos} {wi:TI} {tb:TBl}
theorem comp_run (hc:X.calm=true) (S:CompScope X x N ix scope cl) (hix:ix.length=N.length) (hb:∀ s3 H3 fp,PB (cxComp X (x::N) scope cl s3 H3 fp) ifs elt tb)
    {pins:List (Addr × Obj)} {s2:Shared} {σ:St} {H2:Hp} {Q:VK} {it:Addr} {fp:List Addr} {tn:Nat→Heap→Prop} {J:It} {RR:Value→Addr→Result→Shared→Prop} {E:Value→Shared→Prop}
    (I2:Inv X pins σ H2 s2) (T:Turn X.prog X.w X.K (.Name x px) J fp it tn) (st2:tn 0 s2.heap) (f2:∀ b ∈ fp,FpOk X pins H2 b)
    (h:∀ D,H2 D=none→∃ W:Nat→Nat→Hp→Prop,(∃ m,W 0 m (upd H2 D (.lst [])))∧∀ i m H3,W i m H3 →
      (J.stop i H3∧Q (.ref D) H3)∨(J.go i H3∧∀ y H4,J.yld i H3 y H4→tb (some y::outs ix σ) H4 (fun H5=>∃ m',m' < m∧W (i+1) m' H5)
        fun z H5=>∃ ys,H5 D=some (.lst ys)∧ys.length < sizeLine∧∃ m',m' < m∧W (i+1) m' (upd H5 D (.lst (ys++[z])))))
    (hRR:∀ (D C:Addr) (H':Hp) (s':Shared) (m:Str→Option Value),s'.heap.Ns C m→Apart X pins H' C→Inv X pins σ H' s'→Q (.ref D) H'→RR (.ref D) C (.ok .next) s') :
    wpAny (model X.prog X.w) X.A (newList []) (fun acc s3=>wpAny (model X.prog X.w) X.A (newFunctionEnv scope X.env.globals cl [] X.env.qual none .none (some X.env)) (fun cenv s4 =>
      codeAny (model X.prog X.w) X.A (.compStart (.ListComp elt [⟨.Name x px,iter,ifs,0⟩] scope pos) 0 (.ref it) acc { cenv with scope:=relabel scope X.env }) (RR acc cenv.locals) s4) E s3) E s2:=by
  refine wpAny_newObj_type (wpAny_newFunctionEnv S.nocell (by intro y hy; simp at hy) (fun h1 hns1 hsb1=>?_) S.kind)
  dsimp only at hns1 hsb1 ⊢
  have I3:Inv X pins σ (upd H2 s2.heap.objs.size (.lst [])) { s2 with heap:=s2.heap.push { cls:=.type "list", dict:=none,data:=.seq ([]:List Value).toArray } }:=I2.lnew (its:=[]) (ys:=[]) (t':=s2.toks) .nil (Nat.zero_le _)
  have hD:H2 s2.heap.objs.size=none:=I2.fresh
  obtain ⟨W,⟨m0,w0⟩,turn⟩:=h s2.heap.objs.size hD
  have hltF:∀ b ∈ fp,b < s2.heap.objs.size:=fun b hb=>by
    obtain ⟨o,e,_⟩:=T.obj 0 _ st2 b hb
    exact Heap.lt_size e
  generalize hs3:({ s2 with heap:=s2.heap.push { cls:=.type "list", dict:=none,data:=.seq ([]:List Value).toArray } }:Shared)=s3 at I3
  have eh:s2.heap.push { cls:=.type "list", dict:=none,data:=.seq ([]:List Value).toArray }=s3.heap:=by rw [← hs3]
  have et:s2.toks=s3.toks:=by rw [← hs3]
  rw [eh] at hns1 hsb1 ⊢
  have sz3:s3.heap.objs.size=s2.heap.objs.size+1:=by rw [← eh,Heap.size_push]
  have hlt3:∀ b ∈ fp,b < s3.heap.objs.size:=fun b hb=>Nat.lt_of_lt_of_le (hltF b hb) (by rw [sz3]; exact Nat.le_succ _)
  have f3:∀ b ∈ fp,FpOk X pins (upd H2 s2.heap.objs.size (.lst [])) b:=fun b hb=>by
    obtain ⟨q1,q2⟩:=f2 b hb
    exact ⟨by rw [upd_ne (Nat.ne_of_lt (hltF b hb))]; exact q1,q2⟩
  have up:∀ b o,s3.heap.get? b=some o→h1.get? b=some o:=fun b o e=>hsb1.extBut b o (Nat.ne_of_lt (Heap.lt_size e)) (Heap.get?_push_of_some _ e)
  have old:∀ b o,s2.heap.get? b=some o→h1.get? b=some o:=fun b o e=>up b o (by rw [← eh]; exact Heap.get?_push_of_some _ e)
  have es:({ s2 with heap:=h1,toks:=s2.toks+([]:List (Str × Value)).length }:Shared)={ s3 with heap:=h1,toks:=s2.toks+([]:List (Str × Value)).length }:=by rw [← hs3]
  rw [es]
  have I4:Inv (cxComp X (x::N) scope cl s3 (upd H2 s2.heap.objs.size (.lst [])) fp) [] (none::outs ix σ) (upd H2 s2.heap.objs.size (.lst [])) { s3 with heap:=h1,toks:=s2.toks+([]:List (Str × Value)).length } :=
    comp_start S I3 f3 hlt3 hix hns1 up
  have st4:tn 0 h1:=T.keep 0 _ _ st2 fun b _ o e=>old b o e
  have loop:codeAny (model X.prog X.w) X.A (.compLoop (.ListComp elt [⟨.Name x px,iter,ifs,0⟩] scope pos) 0 (.ref it) (.ref s2.heap.objs.size) (compEnvC scope cl s3.heap.objs.size X.env)) (RR (.ref s2.heap.objs.size) s3.heap.objs.size)
      { s3 with heap:=h1,toks:=s2.toks+([]:List (Str × Value)).length }:=by
    refine compLoop_go (fun n s'=>∃ i v0 H',Inv (cxComp X (x::N) scope cl s3 (upd H2 s2.heap.objs.size (.lst [])) fp) [] (v0::outs ix σ) H' s'∧tn i s'.heap∧(∀ b ∈ fp,H' b=none)∧W i n H') ?_ m0 ⟨0,none,_,I4,st4,fun b hb=>(f3 b hb).1,w0⟩
    rintro n s5 ⟨i,v0,H5,I5,st5,fr5,w5⟩
    have stat:∀ {H':Hp},(∀ b ∈ fp,H' b=none)→∀ b ∈ fp,FpOk (cxComp X (x::N) scope cl s3 (upd H2 s2.heap.objs.size (.lst [])) fp) [] H' b:=fun hn b hb =>
      ⟨hn b hb,((comp_cx S I3 f3 hlt3).exf b hb).1,(comp_cx S I3 f3 hlt3).exfs b hb,.inl hb,((comp_cx S I3 f3 hlt3).exf b hb).2,fun p hp=>absurd (show p ∈ ([]:List (Addr × Obj)) from hp) (by simp)⟩
    rcases turn i n H5 w5 with ⟨stop,qn⟩ | ⟨go,step⟩
    · refine thn (T.done (cxComp X (x::N) scope cl s3 (upd H2 s2.heap.objs.size (.lst [])) fp) rfl rfl rfl hc i [] s5 _ H5 _ I5 (stat fr5) st5 stop) fun r s6 ⟨hr,I6⟩=>?_
      subst hr
      obtain ⟨m6,hn6,_⟩:=I6.loc
      exact hRR _ _ H5 s6 m6 hn6 ⟨I6.free,Ne.symm (Nat.ne_of_lt I3.lt),I3.sz,fun y c e z=>by
        obtain ⟨v,q⟩:=I3.cell y c e
        exact absurd q.lt (by rw [z]; exact Nat.lt_irrefl _),fun p hp z=>absurd (Heap.lt_size (I3.pin p hp).1) (by rw [z]; exact Nat.lt_irrefl _)⟩ (comp_back I3 f3 I6 (Heap.SameBut.refl _ _)) qn
    · refine thn (T.item (cxComp X (x::N) scope cl s3 (upd H2 s2.heap.objs.size (.lst [])) fp) rfl rfl rfl hc i [] s5 _ H5 _ I5 (stat fr5) st5 go) fun r s6 ⟨u,hr,h6⟩=>?_
      subst hr
      refine thn h6 fun _ s7 ⟨y,H7,I7,r7,y7,st7,fr7⟩=>?_
      have I7':=I7.pinned (stat fr7) (T.obj _ _ st7)
      refine wpAny_assign_Name (store_ok (i:=0) I7' S.nd rfl (.inl (lookup_relabel_local S.own)) r7 (fun s8 I8=>?_) (.inr (lookup_relabel_local S.own)))
      have I8':Inv (cxComp X (x::N) scope cl s3 (upd H2 s2.heap.objs.size (.lst [])) fp) ([]++pinsAt fp s7.heap) (some y::outs ix σ) H7 s8:=I8
      have again:∀ {v9:Option V} {H9:Hp} {s9:Shared},Inv (cxComp X (x::N) scope cl s3 (upd H2 s2.heap.objs.size (.lst [])) fp) ([]++pinsAt fp s7.heap) (v9::outs ix σ) H9 s9→(∃ m',m' < n∧W (i+1) m' H9) →
          ∃ m,m < n∧∃ i v0 H',Inv (cxComp X (x::N) scope cl s3 (upd H2 s2.heap.objs.size (.lst [])) fp) [] (v0::outs ix σ) H' s9∧tn i s9.heap∧(∀ b ∈ fp,H' b=none)∧W i m H':=fun {v9 H9 s9} I9 ⟨m',hm,w9⟩=>by
        refine ⟨m',hm,i+1,v9,H9,I9.unpinned,T.keep _ _ _ st7 fun b hb o e=>(I9.pin (b,o) (List.mem_append_right _ (List.mem_append_right _ (mem_pinsAt hb e)))).1,fun b hb=>?_,w9⟩
        obtain ⟨o,e,d⟩:=T.obj _ _ st7 b hb
        exact (I9.pin (b,o) (List.mem_append_right _ (List.mem_append_right _ (mem_pinsAt hb e)))).2.1
      refine thn (hb s3 (upd H2 s2.heap.objs.size (.lst [])) fp _ s8 _ H7 _ _ I8' (step y H7 y7)) fun ok s9 q9=>?_
      cases ok with
      | false =>
        rw [if_neg (by decide)] at q9 ⊢
        obtain ⟨H9,I9,q9⟩:=q9
        exact again I9 q9
      | true =>
        rw [if_pos rfl] at q9 ⊢
        refine thn q9 fun u s10 ⟨z,H10,I10,r10,ys,hy,hz,q10⟩=>?_
        refine thn (mt_append _ s10 _ H10 (.ref s2.heap.objs.size) [z] (.ref s2.heap.objs.size) [u] (fun _ H'=>∃ m',m' < n∧W (i+1) m' H') I10 rfl (.cons r10 .nil) ⟨_,ys,z,rfl,rfl,hy,hz,q10⟩) fun _ s11 ⟨_,H11,I11,_,q11⟩=>?_
        exact again I11 q11
  exact codeAny_compStart_list loop (T.self _ 0 _ _ _ st4 loop)
theorem pe_comp (hc:X.calm=true) (S:CompScope X x N ix scope cl) (hix:ix.length=N.length) (hi:PI X (.Name x px) iter wi) (hb:∀ s3 H3 fp,PB (cxComp X (x::N) scope cl s3 H3 fp) ifs elt tb)
    (hs:∀ x,foldedSetIterable iter X.env x=pure x:=by intro _; rfl):PE X (.ListComp elt [⟨.Name x px,iter,ifs,0⟩] scope pos) (tCompR wi ix tb):=by
  intro pins s σ H Q I h
  rw [eval_ListComp]
  refine wpAny_comprehension_free (use:=none) rfl hs S.clos S.kind S.names (thn (hi pins s σ H _ I h) fun xv s1 h1=>thn h1 fun itv s2 h2=>?_)
  obtain ⟨it,fp,tn,J,H2,rfl,I2,T,st2,f2,R⟩:=h2
  refine comp_run hc S hix hb (RR:=fun acc C=>compPost (model X.prog X.w) X.A X.xe none (EP X pins σ Q) acc C) I2 T st2 f2 R ?_
  intro D C H' s' m hn ap I' q
  exact ⟨m,hn,fun h'' hb''=>⟨.ref D,H',ap.turn I' hb'',rfl,q⟩⟩
theorem ps_comp {i:Nat} {y:Str} {py spos:Pos} (hN:X.N.Nodup) (hi0:X.N[i]?=some y) (hx:Loc X.env.scope y) (hc:X.calm=true) (S:CompScope X x N ix scope cl) (hix:ix.length=N.length) (hi:PI X (.Name x px) iter wi) (hb:∀ s3 H3 fp,PB (cxComp X (x::N) scope cl s3 H3 fp) ifs elt tb)
    (hsw:swapsWith (.ListComp elt [⟨.Name x px,iter,ifs,0⟩] scope pos) (some (.Name y py)) spos.line X.env=pure true:=by with_unfolding_all rfl)
    (hs:∀ x,foldedSetIterable iter X.env x=pure x:=by intro _; rfl) (hf:X.fn y=true∨X.env.scope.names.lookup y=some .local:=by first | exact .inl rfl | exact .inr rfl | assumption) :
    PS X (.Assign [.Name y py] (.ListComp elt [⟨.Name x px,iter,ifs,0⟩] scope pos) spos) (fun D σ H=>tCompR wi ix tb σ H fun v H'=>D.nx (σ.set i (some v)) H'):=by
  intro pins s σ H Dn I h
  rw [exec_Assign_Name_used _ _ _ _ hsw]
  refine wpAny_bind (wpAny_standAt (wpAny_bind ?_))
  show wpAny _ X.A (do let _ ← comprehension (.ListComp elt [⟨.Name x px,iter,ifs,0⟩] scope pos) scope X.env _ (newList []) false (eval iter X.env) (some (assign (.Name y py) X.env))) _ _ s
  refine wpAny_bind (wpAny_mono (wpAny_comprehension_free (use:=some (assign (.Name y py) X.env)) (Q:=fun _ s'=>SP X pins Dn .next s') rfl hs S.clos S.kind S.names
    (thn (hi pins s σ H _ I h) fun xv s1 h1=>thn h1 fun itv s2 h2=>?_)) (fun _ s' hq=>wpAny_pure (wpAny_pure hq)) fun _ _ e=>e)
  obtain ⟨it,fp,tn,J,H2,rfl,I2,T,st2,f2,R⟩:=h2
  refine comp_run hc S hix hb (RR:=fun acc C=>compPost (model X.prog X.w) X.A X.xe (some (assign (.Name y py) X.env)) (fun _ s'=>SP X pins Dn .next s') acc C) (Q:=fun v H'=>Dn.nx (σ.set i (some v)) H') I2 T st2 f2 R ?_
  intro D C H' s' m hn ap I' q
  show wpAny _ X.A (assign (.Name y py) X.env (.ref D)) _ _ _
  refine wpAny_assign_Name (store_ok2 I' hN hi0 hx (v:=.ref D) rfl (fun s'' I'' hsb=>?_) hf)
  obtain ⟨a,hsb,ha⟩:=hsb
  have ne:C ≠ a:=by
    rcases ha with z | z
    · rw [z]; exact ap.lo
    · exact Ne.symm (ap.ce y a z)
  exact ⟨m,hn.sameBut hsb ne,fun h'' hb''=>⟨_,H',ap.turn I'' hb'',q⟩⟩
end
end L2
namespace L2
open PySem PySem.Spec PyProof.Rows
section
variable {X:Cx} {pins:List (Addr × Obj)} {σ:St} {H:Hp} {s:Shared} {h':Heap}
theorem Inv.turnedNew {t':Nat} {ch:List Addr} {T:Addr} {o:HO} (I:Inv X pins σ H s) (k:∀ b u,b ∉ ch→s.heap.get? b=some u→h'.get? b=some u) (hf:∀ b ∈ ch,FpOk X pins H b) (hT:s.heap.objs.size≤T)
    (new:ObjOk X.prog X.w (upd H T o) h' T o):Inv X pins σ (upd H T o) { s with heap:=h',toks:=t' }:=by
  have nit:∀ b u,H b=some u→b ∉ ch:=fun b u e z=>by rw [(hf b z).1] at e; cases e
  have hn:H T=none:=I.hok.fresh hT
  have lt:∀ b u,s.heap.get? b=some u→b ≠ T:=fun b u e=>Nat.ne_of_lt (Nat.lt_of_lt_of_le (Heap.lt_size e) hT)
  refine I.step (g':=s.gens) (d':=s.drawn) (ch:=ch) (fun b hb=>?_) (fun b u _ _ hc e _=>k b u hc e) (fun b u _ _ hc e _=>⟨u.slots,k b u hc e⟩) (fun b u _ e n=>by rw [upd_ne (lt b u e)]; exact n) (fun b u hc e=>⟨u,k b u hc e⟩)
    (fun b xs e=>by rw [upd_ne (ne_of_none e hn)]; exact e) (fun b ob u e=>by rw [upd_ne (ne_of_none e hn)]; exact e) (fun b ps e=>⟨#[],by rw [upd_ne (ne_of_none e hn),e]; simp⟩) (fun m hm=>?_) (fun b u e=>?_) I.bare
  · obtain ⟨_,h2,_,h4,h5,h6⟩:=hf b hb
    exact ⟨h4,h2,h5,h6⟩
  · obtain ⟨ob,es,ep,ho,r⟩:=hm
    exact ⟨ob,es,ep,k _ ob (fun z=>(hf _ z).2.1 rfl) ho,r⟩
  · by_cases hb:b=T
    · subst hb
      rw [upd_same] at e
      cases e
      exact new
    · rw [upd_ne hb] at e
      refine (I.hok b u e).stay (fun c v hc q=>k c v ?_ q) (fun c q=>by rw [upd_ne (ne_of_none q hn)]; exact q) fun c xs q=>by rw [upd_ne (ne_of_none q hn)]; exact q
      rcases hc with z | z
      · rw [z]; exact nit b u e
      · exact nit c _ z
theorem Inv.turnedL {t':Nat} {ch:List Addr} (I:Inv X pins σ H s) (k:∀ b u,b ∉ ch→s.heap.get? b=some u→h'.get? b=some u) (hf:∀ b ∈ ch,FpOk X pins H b):Inv X pins σ H { s with heap:=h',toks:=t' }:=by
  have nit:∀ b u,H b=some u→b ∉ ch:=fun b u e z=>by rw [(hf b z).1] at e; cases e
  refine I.step (g':=s.gens) (d':=s.drawn) (ch:=ch) (fun b hb=>?_) (fun b u _ _ hc e _=>k b u hc e) (fun b u _ _ hc e _=>⟨u.slots,k b u hc e⟩) (fun _ _ _ _ n=>n) (fun b u hc e=>⟨u,k b u hc e⟩)
    (fun _ _ e=>e) (fun _ _ _ e=>e) (fun b ps e=>⟨#[],by rw [e]; simp⟩) (fun m hm=>?_) (fun b u e=>?_) I.bare
  · obtain ⟨_,h2,_,h4,h5,h6⟩:=hf b hb
    exact ⟨h4,h2,h5,h6⟩
  · obtain ⟨ob,es,ep,ho,r⟩:=hm
    exact ⟨ob,es,ep,k _ ob (fun z=>(hf _ z).2.1 rfl) ho,r⟩
  · refine (I.hok b u e).stay (fun c v hc q=>k c v ?_ q) (fun _ q=>q) fun _ _ q=>q
    rcases hc with z | z
    · rw [z]; exact nit b u e
    · exact nit c _ z
end
def Ite (K:PySem.W.Frag) (a:Addr):It :=
  ⟨fun i H=>∃ xs x,SqL K H a xs∧xs[i]?=some x,fun i H y H'=>∃ t,y=.ref t∧H t=none∧∀ xs x,SqL K H a xs→xs[i]?=some x→H'=upd H t (.tup [.int i,x]),fun i H=>∃ xs,SqL K H a xs∧xs.length≤i⟩
section
variable {X:Cx} {elts:List Expr} {k:Nat} {tpos:Pos}
def iEnum (K:PySem.W.Frag) (tl:TE):TI:=fun σ H R=>tl σ H fun x H1=>∃ a,x=.ref a∧(∃ xs,SqL K H1 a xs)∧R (Ite K a) H1
end
end L2
namespace L2
open PySem PySem.Spec PyProof.Rows
mutual
inductive Rep (K:PySem.W.Frag) (H:Hp):V→PyData→Prop
  | non:Rep K H .non .none
  | bl (b:Bool):Rep K H (.bl b) (.bool b)
  | int (i:Int):Rep K H (.int i) (.int i)
  | str (x:Str):Rep K H (.str x) (.str x)
  | tup {a:Addr} {xs:List V} {ds:List PyData}:SqT K H a xs→RepAll K H xs ds→Rep K H (.ref a) (.tuple ds)
  | lst {a:Addr} {xs:List V} {ds:List PyData}:SqL K H a xs→RepAll K H xs ds→Rep K H (.ref a) (.list ds)
inductive RepAll (K:PySem.W.Frag) (H:Hp):List V→List PyData→Prop
  | nil:RepAll K H [] []
  | cons {x:V} {d:PyData} {xs:List V} {ds:List PyData}:Rep K H x d→RepAll K H xs ds→RepAll K H (x::xs) (d::ds)
end
section
variable {X:Cx} {pins:List (Addr × Obj)} {σ:St} {H:Hp} {s:Shared}
mutual
theorem Rep.reads (I:Inv X pins σ H s):∀ {x:V} {d:PyData} {v:Value},Rep X.K H x d→RelV x v→∃ as,Reads s.heap v d as
  | _,_,v,.non,r=>by cases (show v=Value.none from r); exact ⟨_,Reads.none⟩
  | _,_,v,.bl b,r=>by cases (show v=Value.bool b from r); exact ⟨_,Reads.bool b⟩
  | _,_,v,.int i,r=>by obtain ⟨t,e⟩:=(show ∃ t,v=Value.int i t from r); cases e; exact ⟨_,Reads.int i t⟩
  | _,_,v,.str x,r=>by obtain ⟨t,e⟩:=(show ∃ t,v=Value.str x t from r); cases e; exact ⟨_,Reads.str x t⟩
  | _,_,v,.tup (a:=a) h q,r=>by
    cases (show v=Value.ref a from r)
    obtain ⟨its,rv,⟨o,ho,hc,n,hd⟩,_⟩:=I.tuple h
    obtain ⟨as,z⟩:=RepAll.reads I q rv
    exact ⟨_,reads_tuple_at ho hc hd (by simpa using z)⟩
  | _,_,v,.lst (a:=a) h q,r=>by
    cases (show v=Value.ref a from r)
    obtain ⟨its,rv,⟨o,n,ho,hc,_,hd⟩,_⟩:=I.list h
    obtain ⟨as,z⟩:=RepAll.reads I q rv
    exact ⟨_,reads_list_at ho hc hd (by simpa using z)⟩
theorem RepAll.reads (I:Inv X pins σ H s):∀ {xs:List V} {ds:List PyData} {vs:List Value},RepAll X.K H xs ds→Vals xs vs→∃ as,ReadsAll s.heap vs ds as
  | _,_,_,.nil,.nil=>⟨_,ReadsAll.nil⟩
  | _,_,_,.cons h q,.cons r rs=>by
    obtain ⟨as,z⟩:=Rep.reads I h r
    obtain ⟨bs,y⟩:=RepAll.reads I q rs
    exact ⟨_,ReadsAll.cons z y⟩
end
end
section
variable {X:Cx}
def rEqD (K:PySem.W.Frag):R2:=fun x y H Q=>∃ d e,Rep K H x d∧Rep K H y e∧SeqAt.shaped d=true∧SeqAt.shaped e=true∧Q (.bl (PyData.eqv d e)) H
def rNeD (K:PySem.W.Frag):R2:=fun x y H Q=>∃ d e,Rep K H x d∧Rep K H y e∧SeqAt.shaped d=true∧SeqAt.shaped e=true∧Q (.bl (!PyData.eqv d e)) H
theorem op_eqD (hu:X.A.units+64 < cLine):OpR X (compareOp .Eq) (rEqD X.K):=by
  intro pins s σ H x y v u Q I rx ry h
  obtain ⟨d,e,hd,he,sd,se,q⟩:=h
  obtain ⟨as,r1⟩:=Rep.reads I hd rx
  obtain ⟨bs,r2⟩:=Rep.reads I he ry
  exact eq_dataH r1 r2 sd se hu ⟨.bl _,H,I,rfl,q⟩
theorem op_neD (hu:X.A.units+64 < cLine):OpR X (compareOp .NotEq) (rNeD X.K):=by
  intro pins s σ H x y v u Q I rx ry h
  obtain ⟨d,e,hd,he,sd,se,q⟩:=h
  obtain ⟨as,r1⟩:=Rep.reads I hd rx
  obtain ⟨bs,r2⟩:=Rep.reads I he ry
  exact ne_dataH r1 r2 sd se hu ⟨.bl _,H,I,rfl,q⟩
def rCatT0 (K:PySem.W.Frag):R2:=fun x y H Q=>∃ a b ys,x=.ref a∧y=.ref b∧SqT K H a []∧SqT K H b ys∧Q (.ref b) H
theorem op_catT0:OpR X (binaryOp .Add) (rCatT0 X.K):=by
  intro pins s σ H x y v u Q I rx ry h
  obtain ⟨a,b,ys,rfl,rfl,ha,hb,q⟩:=h
  cases rx
  cases ry
  obtain ⟨its,r1,p1,_⟩:=I.tuple ha
  obtain ⟨its2,r2,p2,_⟩:=I.tuple hb
  obtain ⟨⟨cls,dd,data,sl⟩,ho,hc,n,hd⟩:=id p1
  obtain ⟨⟨cls2,dd2,data2,sl2⟩,ho2,hc2,n2,hd2⟩:=id p2
  simp only at hc hd hc2 hd2
  subst hc hd hc2 hd2
  have e:its=[]:=r1.nil_iff.mpr rfl
  exact concat_meets ⟨_,ho,rfl⟩ ⟨_,ho2,rfl⟩ noFill_tuple_add seq_tuple_add PySem.F.slot_tuple_add PySem.F.entry_tuple_add (PySem.F.args_tuple_add_2 _ _)
    (tuple_addW0 a b its.toArray its2.toArray n n2 dd dd2 sl sl2 (by simp [e])) ⟨ho,ho2,⟨.ref b,H,I,rfl,q⟩⟩
end
end L2
namespace L2
open PySem PySem.Spec PyProof.Rows
section
variable {prog:Program} {w:World} {A:Around} {E:Value→Shared→Prop} {s:Shared} {R:Result→Shared→Prop}
end
section
variable {X:Cx}
def tListRev (K:PySem.W.Frag) (te:TE):TE:=fun σ H Q=>te σ H fun x H1=>∃ l ys,x=.ref l∧SqL K H1 l ys∧∀ p,H1 p=none→Q (.ref p) (upd H1 p (.lst ys.reverse))
end
end L2
namespace L2
open PySem PySem.Spec PyProof.Rows
def Nx (n i:Nat) (Pv:Nat→Hp→Prop) (H:Hp):Prop:=∃ m',m' < n - i∧(m'=n - (i+1)∧i+1≤n∧Pv (i+1) H)
theorem Nx.of {n i:Nat} {Pv:Nat→Hp→Prop} {H:Hp} (h:i < n) (p:Pv (i+1) H):Nx n i Pv H:=⟨n - (i+1),by omega,rfl,h,p⟩
theorem comp_tup {K:PySem.W.Frag} {a D:Addr} {xs:List V} {ix:List Nat} {tb:TBl} {σ:St} {H:Hp} {Q:VK} (Pv:Nat→Hp→Prop) (h0:Pv 0 (upd H D (.lst []))) (hl:∀ i H,i≤xs.length→Pv i H→SqT K H a xs)
    (hs:∀ i x H,xs[i]?=some x→Pv i H→tb (some x::outs ix σ) H (Nx xs.length i Pv) fun z H'=>∃ ys,H' D=some (.lst ys)∧ys.length < sizeLine∧Nx xs.length i Pv (upd H' D (.lst (ys++[z])))) (hd:∀ H,Pv xs.length H→Q (.ref D) H) :
    CompEx (Itt K a) D ix tb σ H Q:=by
  refine ⟨fun i m H=>m=xs.length - i∧i≤xs.length∧Pv i H,⟨xs.length,by simp,Nat.zero_le _,h0⟩,?_⟩
  rintro i m H ⟨rfl,hi,p⟩
  have q:=hl i H hi p
  by_cases hlt:i < xs.length
  · refine .inr ⟨⟨xs,xs[i],q,by simp [hlt]⟩,fun x H' y=>?_⟩
    obtain ⟨e,y⟩:=y
    subst e
    exact hs i x _ (y xs q) p
  · have e:i=xs.length:=by omega
    subst e
    exact .inl ⟨⟨xs,q,Nat.le_refl _⟩,hd H p⟩
theorem comp_range {lo:Int} {n:Nat} {D:Addr} {ix:List Nat} {tb:TBl} {σ:St} {H:Hp} {Q:VK} (Pv:Nat→Hp→Prop) (h0:Pv 0 (upd H D (.lst [])))
    (hs:∀ i H,i < n→Pv i H→tb (some (.int (lo+i))::outs ix σ) H (Nx n i Pv) fun z H'=>∃ ys,H' D=some (.lst ys)∧ys.length < sizeLine∧Nx n i Pv (upd H' D (.lst (ys++[z])))) (hd:∀ H,Pv n H→Q (.ref D) H) :
    CompEx (Itr lo n) D ix tb σ H Q:=by
  refine ⟨fun i m H=>m=n - i∧i≤n∧Pv i H,⟨n,by simp,Nat.zero_le _,h0⟩,?_⟩
  rintro i m H ⟨rfl,hi,p⟩
  by_cases hlt:i < n
  · refine .inr ⟨hlt,fun x H' y=>?_⟩
    obtain ⟨e,y⟩:=y
    subst e y
    exact hs i _ hlt p
  · have e:i=n:=by omega
    subst e
    exact .inl ⟨Nat.le_refl _,hd H p⟩
theorem CompScope.closed {X:Cx} {x:Str} {scope:Scope} (c1:closureFor scope X.env=pure []) (c2:∀ y ∈ scope.names,y.2 ≠ .cell) (c3:scope.kind=.function) (c4:∀ y ∈ scope.names,y.2=.local→scope.names.lookup y.1=some .local)
    (c5:scope.names.lookup x=some .local) (c6:((relabel scope X.env).names.all fun p=>!(p.2 == .cell || p.2 == .free) || ((([]:List (Str × Addr))).lookup p.1).isSome)=true):CompScope X x [] [] scope [] where
  clos:=c1
  nocell:=c2
  kind:=c3
  names:=c4
  own:=c5
  nd:=by simp
  sub:=fun p hp=>absurd hp (by simp)
  has:=c6
  outs:=fun j y h=>by simp at h
end L2
namespace L2
open PySem PySem.Spec PyProof.Rows
section
variable {X:Cx}
def rIsi (K:PySem.W.Frag):List V→Hp→VK→Prop:=fun xs H Q=>∃ x t n b,xs=[x,.ty n]∧TyOf K H x t∧PySem.W.kitOne K t (.type n)=some b∧Q (.bl b) H
def rLen (K:PySem.W.Frag):List V→Hp→VK→Prop:=fun xs H Q=>∃ p ys,xs=[.ref p]∧(SqL K H p ys∨SqT K H p ys)∧Q (.int ys.length) H
theorem ix_tupK (K:PySem.W.Frag) (hK:X.K=K:=by rfl):IxR X (rIxT K):=by subst hK; exact ix_tup
end
end L2
namespace L2
open PySem PySem.Spec PyProof.Rows
def Its (z:Str):It:=⟨fun i _=>i < z.cps.size,fun i H x H'=>H'=H∧∃ c,z.cps[i]?=some c∧x=.str ⟨#[c]⟩,fun i _=>z.cps.size≤i⟩
section
variable {X:Cx} {y:Str} {py:Pos}
def iStr (tl:TE):TI:=fun σ H R=>tl σ H fun x H1=>∃ z,x=.str z∧R (Its z) H1
end
section
variable {X:Cx}
def rSlS:V→Option Int→Option Int→Hp→VK→Prop:=fun x lo hi H Q=>∃ z,x=.str z∧z.length≤sizeLine∧Q (.str (Txt.slice z lo hi)) H
theorem sl_str:SlR X rSlS:=by
  intro pins s σ H x v vl vu lo hi sl Q I rx hs pl pu h
  obtain ⟨z,rfl,hz,q⟩:=h
  obtain ⟨t,rfl⟩:=rx
  refine ⟨"str", _,F.slot_str_getitem.lookup,typeIs_str _ _ _,?_⟩
  have fin:∀ t' k,EP X pins σ Q (.str (Txt.slice z lo hi) t') { s with toks:=k }:=fun t' k=>⟨.str _,H,I.tok k,⟨_,rfl⟩,q⟩
  obtain ⟨o,ho,hc,hd⟩:=hs
  cases pl with
  | none =>
    cases pu with
    | none=>exact wpAny_getItem_str_slice (l:=none) (u:=none) (st:=none) ⟨o,ho,hc,hd⟩ rfl (post_val_or_str ⟨Nat.le_trans (Txt.slice_le z _ _) hz,fin⟩)
    | int j u=>exact wpAny_getItem_str_slice (l:=none) (u:=some (j,u)) (st:=none) ⟨o,ho,hc,hd⟩ rfl (post_val_or_str ⟨Nat.le_trans (Txt.slice_le z _ _) hz,fin⟩)
  | int i u' =>
    cases pu with
    | none=>exact wpAny_getItem_str_slice (l:=some (i,u')) (u:=none) (st:=none) ⟨o,ho,hc,hd⟩ rfl (post_val_or_str ⟨Nat.le_trans (Txt.slice_le z _ _) hz,fin⟩)
    | int j u=>exact wpAny_getItem_str_slice (l:=some (i,u')) (u:=some (j,u)) (st:=none) ⟨o,ho,hc,hd⟩ rfl (post_val_or_str ⟨Nat.le_trans (Txt.slice_le z _ _) hz,fin⟩)
def rStarts:V→List V→Hp→VK→Prop:=fun x vs H Q=>∃ z u,x=.str z∧vs=[.str u]∧Q (.bl (Txt.startswith z u)) H
theorem strsAre_of:∀ {zs:List Str} {us:List Value},Vals (zs.map V.str) us→StrsAre us zs
  | [],_,.nil=>.nil
  | _::_,_,.cons ⟨t,e⟩ r=>by subst e; exact .cons _ t (strsAre_of r)
def rJoin (K:PySem.W.Frag):V→List V→Hp→VK→Prop:=fun x vs H Q=>∃ z a ys,x=.str z∧vs=[.ref a]∧SqL K H a (ys.map V.str)∧z.length≤16∧(ys.map (·.length)).sum+ys.length≤1048576∧Q (.str (Txt.join z ys)) H
theorem mt_join:MtR X "str.join" (rJoin X.K):=by
  intro pins s σ H x vs v us Q I rx rv h
  obtain ⟨z,a,ys,rfl,rfl,hq,hz,hw,q⟩:=h
  obtain ⟨t,rfl⟩:=rx
  obtain ⟨w',rfl,ra⟩:=rv.one
  cases ra
  obtain ⟨its,r',p,_⟩:=I.list hq
  exact join_listW p.isList (by simpa using strsAre_of r') hz hw fun t' k=>⟨.str _,H,I.tok k,⟨_,rfl⟩,q⟩
def rMulS:R2:=fun x y H Q=>∃ z n,x=.str z∧y=.int n∧MulOk z n∧Q (.str (Txt.mul z n)) H
def rAll (K:PySem.W.Frag):List V→Hp→VK→Prop:=fun xs H Q=>∃ (a:Addr) (bs:List Bool),xs=[.ref a]∧SqL K H a (bs.map V.bl)∧Q (.bl (bs.all id)) H
end
end L2
namespace L2
open PySem PySem.Spec PyProof.Rows
inductive Consts:List Expr→List Str→Prop
  | nil:Consts [] []
  | cons {x:Str} {j:Nat} {pos:Pos} {es:List Expr} {zs:List Str}:Consts es zs→Consts (.Constant (.str x) j pos::es) (x::zs)
theorem pa_consts {X:Cx}:∀ {es:List Expr} {zs:List Str},Consts es zs→PA X es (fun _ H Q=>Q (zs.map V.str) H)
  | _,_,.nil=>pa_nil
  | _,_,.cons h=>fun pos pins s σ H Q I q=>pa_cons pe_str (pa_consts h) (by rfl) pos pins s σ H Q I q
theorem CompScope.one {X:Cx} {x y:Str} {scope:Scope} {k:Nat} {c:Addr} (c1:closureFor scope X.env=pure [(y,c)]) (c2:∀ y ∈ scope.names,y.2 ≠ .cell) (c3:scope.kind=.function) (c4:∀ y ∈ scope.names,y.2=.local→scope.names.lookup y.1=some .local)
    (c5:scope.names.lookup x=some .local) (nd:[x,y].Nodup) (hc:X.env.cells.lookup y=some c) (c6:((relabel scope X.env).names.all fun p=>!(p.2 == .cell || p.2 == .free) || (([(y,c)]:List (Str × Addr)).lookup p.1).isSome)=true)
    (hr:(relabel scope X.env).names.lookup y=some .cell) (hk:X.N[k]?=some y) (hs:X.env.scope.names.lookup y=some .cell):CompScope X x [y] [k] scope [(y,c)] where
  clos:=c1
  nocell:=c2
  kind:=c3
  names:=c4
  own:=c5
  nd:=nd
  sub:=fun p hp=>by
    rw [List.mem_singleton.mp hp]
    exact hc
  has:=c6
  outs:=fun j z h=>by
    cases j with
    | zero =>
      have e:y=z:=Option.some.inj h
      subst e
      exact ⟨hr,k,c,rfl,hk,by simp [List.lookup],hs⟩
    | succ j=>simp at h
theorem CompScope.two {X:Cx} {x y z:Str} {scope:Scope} {k l:Nat} {c d:Addr} {cl:List (Str × Addr)} (c1:closureFor scope X.env=pure cl) (c2:∀ y ∈ scope.names,y.2 ≠ .cell) (c3:scope.kind=.function) (c4:∀ y ∈ scope.names,y.2=.local→scope.names.lookup y.1=some .local)
    (c5:scope.names.lookup x=some .local) (nd:[x,y,z].Nodup) (hcl:cl=[(z,d),(y,c)]∨cl=[(y,c),(z,d)]) (hc:X.env.cells.lookup y=some c) (hd:X.env.cells.lookup z=some d) (c6:((relabel scope X.env).names.all fun p=>!(p.2 == .cell || p.2 == .free) || (cl.lookup p.1).isSome)=true)
    (hr:(relabel scope X.env).names.lookup y=some .cell) (hk:X.N[k]?=some y) (hs:X.env.scope.names.lookup y=some .cell)
    (hr2:(relabel scope X.env).names.lookup z=some .cell) (hk2:X.N[l]?=some z) (hs2:X.env.scope.names.lookup z=some .cell):CompScope X x [y,z] [k,l] scope cl where
  clos:=c1
  nocell:=c2
  kind:=c3
  names:=c4
  own:=c5
  nd:=nd
  sub:=fun p hp=>by
    rcases hcl with rfl | rfl
    all_goals
      rcases List.mem_cons.mp hp with e | e
      · rw [e]; assumption
      · rw [List.mem_singleton.mp e]; assumption
  has:=c6
  outs:=fun j w h=>by
    have nyz:y ≠ z:=fun e=>by simp [e] at nd
    match j,h with
    | 0,h =>
      have e:y=w:=Option.some.inj h
      subst e
      refine ⟨hr,k,c,rfl,hk,?_,hs⟩
      rcases hcl with rfl | rfl
      · have:(y == z)=false:=by simpa using nyz
        simp [List.lookup,this]
      · simp [List.lookup]
    | 1,h =>
      have e:z=w:=Option.some.inj h
      subst e
      refine ⟨hr2,l,d,rfl,hk2,?_,hs2⟩
      rcases hcl with rfl | rfl
      · simp [List.lookup]
      · have:(z == y)=false:=by simpa using Ne.symm nyz
        simp [List.lookup,this]
    | j+2,h=>simp at h
end L2
namespace Mine
open PySem L2
def NmOk (x:Str):Prop:=x.length≤20∧(∀ c ∈ x.cps.toList,97≤c∧c≤122)∧x ≠ "aa"
theorem mem_slice {x:Str} {l u:Option Int} {c:Nat} (h:c ∈ (Txt.slice x l u).cps.toList):c ∈ x.cps.toList:=by
  have e:Txt.slice x l u=StrLaws.sliceText x l u:=rfl
  rw [e] at h
  unfold StrLaws.sliceText at h
  split at h
  · exact h
  · obtain ⟨i,_,hi⟩:=List.mem_filterMap.mp (show c ∈ (List.filterMap _ _) by simpa using h)
    have:=Array.mem_of_getElem? hi
    simpa using this
theorem mem_append {x y:Str} {c:Nat} (h:c ∈ (x++y).cps.toList):c ∈ x.cps.toList∨c ∈ y.cps.toList:=by
  have e:(x++y).cps.toList=x.cps.toList++y.cps.toList:=by simp [Str.cps_append]
  rw [e] at h
  exact List.mem_append.mp h
theorem mem_join0 {zs:List Str} {c:Nat} (h:c ∈ (Txt.join "" zs).cps.toList):∃ z ∈ zs,c ∈ z.cps.toList:=by
  have e:Txt.join "" zs=Str.join "" zs:=by
    cases zs with
    | nil=>rfl
    | cons a r=>exact StrLaws.glued_cons "" r a
  rw [e] at h
  rcases (PyProof.Rows.mem_join "" c zs).mp h with h | ⟨_,h⟩
  · exact h
  · have e0:(("" : Str)).cps.toList=[]:=by decide +kernel
    rw [e0] at h
    cases h
inductive Tr where
  | is (x:Str) | yes | no | not (a:Tr) | bin (w:Str) (a b:Tr)
def Tr.size:Tr→Nat
  | .is _=>1 | .yes=>1 | .no=>1 | .not a=>a.size+1 | .bin _ a b=>a.size+b.size+1
def Tr.depth:Tr→Nat
  | .is _=>1 | .yes=>1 | .no=>1 | .not a=>a.depth+1 | .bin _ a b=>max a.depth b.depth+1
def Tr.names:Tr→List Str
  | .is x=>[x] | .yes=>[] | .no=>[] | .not a=>a.names | .bin _ a b=>a.names++b.names
def joinW:List Str:=["and", "or", "odd", "same"]
def Tr.ok (ns:List Str):Tr→Prop
  | .is x=>x ∈ ns | .yes=>True | .no=>True | .not a=>a.ok ns | .bin w a b=>w ∈ joinW∧a.ok ns∧b.ok ns
inductive TreeAt (H:Hp):V→Tr→Prop
  | is {a:Addr} {x:Str}:H a=some (.tup [.str "is", .str x])→TreeAt H (.ref a) (.is x)
  | yes {a:Addr}:H a=some (.tup [.str "yes"])→TreeAt H (.ref a) .yes
  | no {a:Addr}:H a=some (.tup [.str "no"])→TreeAt H (.ref a) .no
  | not {a:Addr} {v:V} {t:Tr}:H a=some (.tup [.str "not", v])→TreeAt H v t→TreeAt H (.ref a) (.not t)
  | bin {a:Addr} {w:Str} {v u:V} {t r:Tr}:H a=some (.tup [.str w,v,u])→TreeAt H v t→TreeAt H u r→TreeAt H (.ref a) (.bin w t r)
abbrev KeepT (H H':Hp):Prop:=∀ a xs,H a=some (.tup xs)→H' a=some (.tup xs)
theorem TreeAt.mono {H H':Hp} (k:KeepT H H') {v:V} {t:Tr} (h:TreeAt H v t):TreeAt H' v t:=by
  induction h with
  | is e=>exact .is (k _ _ e)
  | yes e=>exact .yes (k _ _ e)
  | no e=>exact .no (k _ _ e)
  | not e _ ih=>exact .not (k _ _ e) ih
  | bin e _ _ i1 i2=>exact .bin (k _ _ e) i1 i2
theorem keepT_same {H H':Hp} (s:Same H H'):KeepT H H':=fun a _ h=>s a _ h
theorem keepT_feed {H H':Hp} {f:Addr} (F:FeedAt H f) (s:SameBut f H H'):KeepT H H':=fun a xs h=>s a _ (fun z=>by
  obtain ⟨o,t,e,_⟩:=F
  rw [z,e] at h
  cases h) h
def NamesAt (H:Hp) (a:Addr) (ns:List Str):Prop:=H a=some (.lst (ns.map V.str))∨H a=some (.tup (ns.map V.str))
theorem NamesAt.ne {H:Hp} {f a:Addr} {ns:List Str} (F:FeedAt H f) (h:NamesAt H a ns):a ≠ f:=fun z=>by
  obtain ⟨o,t,e,_⟩:=F
  subst z
  rcases h with h | h
  · rw [e] at h
    have h':=HO.lst.inj (Option.some.inj h)
    cases ns with
    | nil=>cases h'
    | cons x r=>simp at h'
  · rw [e] at h
    cases h
theorem NamesAt.feed {H H':Hp} {f a:Addr} {ns:List Str} (F:FeedAt H f) (s:SameBut f H H') (h:NamesAt H a ns):NamesAt H' a ns:=by
  have ne:=h.ne F
  rcases h with h | h
  · exact .inl (s _ _ ne h)
  · exact .inr (s _ _ ne h)
theorem NamesAt.same {H H':Hp} {a:Addr} {ns:List Str} (s:Same H H') (h:NamesAt H a ns):NamesAt H' a ns:=by
  rcases h with h | h
  · exact .inl (s _ _ h)
  · exact .inr (s _ _ h)
theorem NamesAt.seq {K:PySem.W.Frag} {H:Hp} {a:Addr} {ns:List Str} (h:NamesAt H a ns):SqL K H a (ns.map V.str)∨SqT K H a (ns.map V.str):=by
  rcases h with h | h
  · exact .inl (SqL.of h)
  · exact .inr (SqT.of h)
theorem NamesAt.ix {K:PySem.W.Frag} {H:Hp} {a:Addr} {ns:List Str} {i:Int} {x:V} {Q:VK} (h:NamesAt H a ns) (hx:atI (ns.map V.str) i=some x) (q:Q x H):rIxL K (.ref a) (.int i) H Q∨rIxT K (.ref a) (.int i) H Q:=by
  rcases h with h | h
  · exact .inl ⟨a,_,i,x,rfl,rfl,SqL.of h,hx,q⟩
  · exact .inr ⟨a,_,i,x,rfl,rfl,SqT.of h,hx,q⟩
def spNames:Sp:=fun vs H Q _=>∃ (f:Addr) (m:Int),vs=[.ref f,.int m]∧FeedAt H f∧0≤m∧m≤6∧∀ (l:Addr) (ns:List Str) (H':Hp),H l=none→l ≠ f→H' l=some (.lst (ns.map V.str))→ns.length=m.toNat→(∀ x ∈ ns,NmOk x)→FeedAt H' f→SameBut f H H'→Q (.ref l) H'
def spTree (n:Nat):Sp:=fun vs H Q _=>∃ (f a:Addr) (room deep:Int) (ns:List Str),vs=[.ref f,.ref a,.int room,.int deep]∧FeedAt H f∧NamesAt H a ns∧ns.length≤6∧1≤room∧room≤100∧1≤deep∧deep+1≤(n:Int)+1 ∧
  ∀ (v:V) (t:Tr) (H':Hp),FeedAt H' f→SameBut f H H'→TreeAt H' v t→t.ok ns→(t.size:Int)≤room→(t.depth:Int)≤deep→Q v H'
theorem at_in {α:Type} {l:List α} {i:Int} (h0:0≤i) (h:i < (l.length:Int)):∃ v,atI l i=some v∧v ∈ l:=by
  have hk:i.toNat < l.length:=by omega
  have q:atI l ((i.toNat:Nat):Int)=some l[i.toNat]:=atI_nat (List.getElem?_eq_getElem hk)
  have ek:((i.toNat:Nat):Int)=i:=by omega
  rw [ek] at q
  exact ⟨_,q,List.getElem_mem hk⟩
end Mine
namespace L2
open PySem PySem.Spec PyProof.Rows
section
variable {X:Cx}
def rngV (lo:Int) (n:Nat):List Int:=(List.range n).map fun i:Nat=>lo+(i:Int)
def tListRng (ta:TA):TE:=fun σ H Q=>ta σ H fun vs H1=>∃ i j:Int,vs=[.int i,.int j]∧(-(2 ^ 62)≤i∧i < 2 ^ 62∧-(2 ^ 62)≤j∧j < 2 ^ 62)∧j - i≤1000∧∀ p,H1 p=none→Q (.ref p) (upd H1 p (.lst ((rngV i (j - i).toNat).map V.int)))
def rSum (K:PySem.W.Frag):List V→Hp→VK→Prop:=fun xs H Q=>∃ (a:Addr) (ns:List Int),xs=[.ref a]∧SqL K H a (ns.map V.int)∧(∀ n ∈ ns,0≤n)∧ns.sum < 2 ^ 63∧Q (.int ns.sum) H
theorem ints_get:∀ {bs:List Int} {us:List Value} {i:Nat} {v:Value},Vals (bs.map V.int) us→us[i]?=some v→∃ b t,bs[i]?=some b∧v=.int b t
  | [],_,_,_,.nil,h=>by simp at h
  | b::_,_,0,_,.cons r _,h=>by
    simp at h
    subst h
    obtain ⟨t,e⟩:=r
    exact ⟨b,t,rfl,e⟩
  | _::_,_,i+1,_,.cons _ t,h=>by
    obtain ⟨b,t,h1,h2⟩:=ints_get (i:=i) t (by simpa using h)
    exact ⟨b,t,by simpa using h1,h2⟩
end
end L2
namespace L2
open PySem PySem.Spec PyProof.Rows
def RevT (h:Heap) (it t:Addr) (i:Int):Prop:=h.get? it=some { cls:=.type "reversed", data:=.fields #[.ref t,rawInt i] }
section
variable {prog:Program} {w:World} {A:Around} {E:Value→Shared→Prop} {s:Shared} {R:Result→Shared→Prop} {it t:Addr}
end
section
variable {X:Cx}
def tListRevT (K:PySem.W.Frag) (te:TE):TE:=fun σ H Q=>te σ H fun x H1=>∃ l ys,x=.ref l∧SqT K H1 l ys∧∀ p,H1 p=none→Q (.ref p) (upd H1 p (.lst ys.reverse))
end
end L2
namespace Mine
open PySem L2
def Tr.wf:Tr→Prop
  | .is x=>NmOk x | .yes=>True | .no=>True | .not a=>a.wf | .bin w a b=>w ∈ joinW∧a.wf∧b.wf
def Tr.parts:Tr→List Tr
  | .is _=>[] | .yes=>[] | .no=>[] | .not a=>[a] | .bin _ a b=>[a,b]
theorem Tr.ok_wf {ns:List Str} (hn:∀ x ∈ ns,NmOk x):∀ t:Tr,t.ok ns→t.wf
  | .is _,h=>hn _ h
  | .yes,_=>trivial
  | .no,_=>trivial
  | .not a,h=>Tr.ok_wf hn a h
  | .bin _ a b,⟨h,h1,h2⟩=>⟨h,Tr.ok_wf hn a h1,Tr.ok_wf hn b h2⟩
theorem Tr.depth_pos:∀ t:Tr,1≤t.depth
  | .is _=>Nat.le_refl _ | .yes=>Nat.le_refl _ | .no=>Nat.le_refl _ | .not a=>Nat.le_add_left .. | .bin _ a b=>Nat.le_add_left ..
def sizes (ts:List Tr):Nat:=(ts.map Tr.size).sum
def namesL (ts:List Tr):List Str:=(ts.map Tr.names).flatten
theorem Tr.size_parts (t:Tr):t.size=sizes t.parts+1:=by
  cases t <;> simp [Tr.size,Tr.parts,sizes]
theorem Tr.names_parts (t:Tr) (h:∀ x,t ≠ .is x):t.names=namesL t.parts:=by
  cases t with
  | is x=>exact absurd rfl (h x)
  | _=>simp [Tr.names,Tr.parts,namesL]
theorem Tr.parts_mem {t u:Tr} (h:u ∈ t.parts) (w:t.wf):u.wf∧u.depth+1≤t.depth∧u.size+1≤t.size:=by
  cases t with
  | is x=>simp [Tr.parts] at h
  | yes=>simp [Tr.parts] at h
  | no=>simp [Tr.parts] at h
  | not a =>
    rw [List.mem_singleton.mp h]
    exact ⟨w,Nat.le_refl _,Nat.le_refl _⟩
  | bin o a b =>
    obtain ⟨_,w1,w2⟩:=w
    rcases List.mem_cons.mp h with e | e
    · rw [e]
      refine ⟨w1,?_,?_⟩
      · show a.depth+1≤max a.depth b.depth+1
        omega
      · show a.size+1≤a.size+b.size+1
        omega
    · rw [List.mem_singleton.mp e]
      refine ⟨w2,?_,?_⟩
      · show b.depth+1≤max a.depth b.depth+1
        omega
      · show b.size+1≤a.size+b.size+1
        omega
inductive TreesAt (H:Hp):List V→List Tr→Prop
  | nil:TreesAt H [] []
  | cons {v:V} {t:Tr} {vs:List V} {ts:List Tr}:TreeAt H v t→TreesAt H vs ts→TreesAt H (v::vs) (t::ts)
theorem TreesAt.mono {H H':Hp} (k:KeepT H H') {vs:List V} {ts:List Tr} (h:TreesAt H vs ts):TreesAt H' vs ts:=by
  induction h with
  | nil=>exact .nil
  | cons a _ ih=>exact .cons (a.mono k) ih
theorem TreesAt.append {H:Hp} {vs us:List V} {ts rs:List Tr} (h:TreesAt H vs ts) (g:TreesAt H us rs):TreesAt H (vs++us) (ts++rs):=by
  induction h with
  | nil=>exact g
  | cons a _ ih=>exact .cons a ih
theorem TreesAt.length {H:Hp} {vs:List V} {ts:List Tr} (h:TreesAt H vs ts):vs.length=ts.length:=by
  induction h with
  | nil=>rfl
  | cons _ _ ih=>rw [List.length_cons,List.length_cons,ih]
theorem TreesAt.get {H:Hp} {vs:List V} {ts:List Tr} (h:TreesAt H vs ts):∀ {i:Nat} {v:V},vs[i]?=some v→∃ t,ts[i]?=some t∧TreeAt H v t:=by
  induction h with
  | nil=>intro i v e; simp at e
  | cons a _ ih =>
    intro i v e
    cases i with
    | zero=>cases (Option.some.inj e); exact ⟨_,rfl,a⟩
    | succ i=>exact ih (i:=i) (by simpa using e)
theorem join_ne_is {w:Str} (h:w ∈ joinW):w ≠ "is" := (by decide +kernel:∀ w ∈ joinW,w ≠ ("is" : Str)) w h
theorem TreeAt.view {H:Hp} {v:V} {t:Tr} (h:TreeAt H v t) (w:t.wf):(∃ (a:Addr) (x:Str),v=.ref a∧t=.is x∧NmOk x∧H a=some (.tup [.str "is", .str x])) ∨
    ∃ (a:Addr) (o:Str) (xs:List V),v=.ref a∧o ≠ "is" ∧ xs.length≤2∧H a=some (.tup (.str o::xs))∧TreesAt H xs t.parts∧(∀ x,t ≠ .is x):=by
  cases h with
  | is e=>exact .inl ⟨_,_,rfl,rfl,w,e⟩
  | yes e=>exact .inr ⟨_,_,[],rfl,by decide +kernel,by simp,e,.nil,fun x z=>by cases z⟩
  | no e=>exact .inr ⟨_,_,[],rfl,by decide +kernel,by simp,e,.nil,fun x z=>by cases z⟩
  | not e g=>exact .inr ⟨_,_,[_],rfl,by decide +kernel,by simp,e,.cons g .nil,fun x z=>by cases z⟩
  | bin e g g2=>exact .inr ⟨_,_,[_,_],rfl,join_ne_is w.1,by simp,e,.cons g (.cons g2 .nil),fun x z=>by cases z⟩
theorem cut1 (o:V):∀ xs:List V,xs.length≤2→cutV (o::xs) (some 1) none=xs∧¬ (HT.sIx (o::xs).length 0 (some 1)=0∧HT.sIx (o::xs).length (o::xs).length none=(o::xs).length)
  | [],_=>⟨rfl,fun h=>absurd h.1 (show ¬ HT.sIx 1 0 (some 1)=0 by decide)⟩
  | [_],_=>⟨rfl,fun h=>absurd h.1 (show ¬ HT.sIx 2 0 (some 1)=0 by decide)⟩
  | [_,_],_=>⟨rfl,fun h=>absurd h.1 (show ¬ HT.sIx 3 0 (some 1)=0 by decide)⟩
  | _::_::_::_,h=>absurd h (by simp)
def Tr.data:Tr→PyData
  | .is x=>.tuple [.str "is", .str x] | .yes=>.tuple [.str "yes"] | .no=>.tuple [.str "no"] | .not a=>.tuple [.str "not", a.data] | .bin w a b=>.tuple [.str w,a.data,b.data]
theorem rep_tree {K:PySem.W.Frag} {H:Hp} {v:V} {t:Tr} (h:TreeAt H v t):Rep K H v t.data:=by
  induction h with
  | is e=>exact .tup (SqT.of e) (.cons (.str _) (.cons (.str _) .nil))
  | yes e=>exact .tup (SqT.of e) (.cons (.str _) .nil)
  | no e=>exact .tup (SqT.of e) (.cons (.str _) .nil)
  | not e _ ih=>exact .tup (SqT.of e) (.cons (.str _) (.cons ih .nil))
  | bin e _ _ i1 i2=>exact .tup (SqT.of e) (.cons (.str _) (.cons i1 (.cons i2 .nil)))
theorem rep_trees {K:PySem.W.Frag} {H:Hp} {vs:List V} {ts:List Tr} (h:TreesAt H vs ts):RepAll K H vs (ts.map Tr.data):=by
  induction h with
  | nil=>exact .nil
  | cons a _ ih=>exact .cons (rep_tree a) ih
theorem rep_strs {K:PySem.W.Frag} {H:Hp}:∀ ns:List Str,RepAll K H (ns.map V.str) (ns.map PyData.str)
  | []=>.nil
  | n::r=>.cons (.str n) (rep_strs r)
theorem strOk_nm {x:Str} (h:NmOk x):PyData.strOk x=true:=by
  unfold PyData.strOk
  rw [← Array.all_toList,List.all_eq_true]
  intro c hc
  have:=h.2.1 c hc
  exact decide_eq_true (by omega)
theorem data_ok:∀ t:Tr,t.wf→PyData.canLay0 t.data=true∧PyData.depth t.data≤t.depth+1
  | .is x,h=>by
    have:=strOk_nm h
    simp [Tr.data,PyData.canLay0,PyData.canLayAll0,PyData.depth,PyData.depthAll,Tr.depth,this]
    decide +kernel
  | .yes,_=>by
    simp [Tr.data,PyData.canLay0,PyData.canLayAll0,PyData.depth,PyData.depthAll,Tr.depth]
    decide +kernel
  | .no,_=>by
    simp [Tr.data,PyData.canLay0,PyData.canLayAll0,PyData.depth,PyData.depthAll,Tr.depth]
    decide +kernel
  | .not a,h=>by
    have ih:=data_ok a h
    have w0:PyData.strOk "not" = true:=by decide +kernel
    simp [Tr.data,PyData.canLay0,PyData.canLayAll0,PyData.depth,PyData.depthAll,Tr.depth,ih.1,w0]
    omega
  | .bin w a b,⟨hw,h1,h2⟩=>by
    have i1:=data_ok a h1
    have i2:=data_ok b h2
    have w0:PyData.strOk w=true:=(by decide +kernel:∀ w ∈ joinW,PyData.strOk w=true) w hw
    simp [Tr.data,PyData.canLay0,PyData.canLayAll0,PyData.depth,PyData.depthAll,Tr.depth,i1.1,i2.1,w0]
    omega
theorem shaped_strs {ns:List Str} (h:∀ x ∈ ns,NmOk x):PyData.canLayAll0 (ns.map PyData.str)=true∧PyData.depthAll (ns.map PyData.str)=0:=by
  induction ns with
  | nil=>simp [PyData.canLayAll0,PyData.depthAll]
  | cons a r ih =>
    have i1:=ih fun t ht=>h t (List.mem_cons_of_mem _ ht)
    rw [List.map_cons,PyData.canLayAll0,PyData.depthAll,i1.1,i1.2]
    refine ⟨?_,?_⟩
    · rw [PyData.canLay0,strOk_nm (h a List.mem_cons_self)]
      rfl
    · simp [PyData.depth]
theorem Tr.names_ok:∀ t:Tr,t.wf→∀ x ∈ t.names,NmOk x
  | .is y,h,x,hx=>by rw [List.mem_singleton.mp hx]; exact h
  | .yes,_,x,hx=>by simp [Tr.names] at hx
  | .no,_,x,hx=>by simp [Tr.names] at hx
  | .not a,h,x,hx=>Tr.names_ok a h x hx
  | .bin _ a b,⟨_,h1,h2⟩,x,hx=>by
    rcases List.mem_append.mp hx with h | h
    · exact Tr.names_ok a h1 x h
    · exact Tr.names_ok b h2 x h
theorem Tr.names_len:∀ t:Tr,t.names.length≤t.size
  | .is _=>Nat.le_refl _
  | .yes=>Nat.zero_le _
  | .no=>Nat.zero_le _
  | .not a=>Nat.le_succ_of_le (Tr.names_len a)
  | .bin _ a b=>by
    have:=Tr.names_len a
    have:=Tr.names_len b
    show (a.names++b.names).length≤a.size+b.size+1
    rw [List.length_append]
    omega
end Mine
namespace L2
open PySem PySem.Spec PyProof.Rows
section
variable {prog:Program} {w:World} {A:Around} {E:Value→Shared→Prop} {s:Shared}
def idxF (xs:Array Value) (x:Value):Nat→Option PySem.Fin × Unit→Sem (ForInStep (Option PySem.Fin × Unit)):=fun i _=>match xs[i]? with
  | some y=>do
    let b ← eqBool y x
    if b=true then do
        let r ← retInt (i:Int)
        pure (ForInStep.done (some r,()))
      else pure (ForInStep.yield (none,()))
  | _=>pure (ForInStep.yield (none,()))
theorem idx_loop {xs:Array Value} {x:Value} {e:Value→Bool} (he:∀ y ∈ xs,SeqAt.EqAt A s y x (e y)) {j:Nat} (hj:j < xs.size) (ej:e xs[j]=true) (bf:∀ (m:Nat) (hm:m < xs.size),m < j→e xs[m]=false) {Q:Option PySem.Fin × Unit→Shared→Prop}
    (q:Q (some (.done (.ret (.int (j:Int) s.toks))),()) { s with toks:=s.toks+1 }):∀ (n k:Nat),k≤j→j < k+n→k+n≤xs.size→wpAny (model prog w) A (forIn (List.range' k n 1) ((none:Option PySem.Fin),()) (idxF xs x)) Q E s
  | 0,k,h1,h2,_=>absurd h2 (by omega)
  | n+1,k,h1,h2,h3=>by
    have hk:k < xs.size:=by omega
    rw [List.range'_succ,List.forIn_cons]
    refine wpAny_bind ?_
    have e1:idxF xs x k ((none:Option PySem.Fin),())=(do
        let b ← eqBool xs[k] x
        if b=true then do
            let r ← retInt (k:Int)
            pure (ForInStep.done (some r,()))
          else pure (ForInStep.yield (none,()))):=by
      unfold idxF
      rw [Array.getElem?_eq_getElem hk]
    rw [e1]
    refine wpAny_bind (he _ (Array.getElem_mem hk) prog w _ _ ?_)
    by_cases c:k=j
    · subst c
      rw [ej]
      refine wpAny_ite_split (fun _=>?_) (fun hab=>absurd rfl hab)
      refine wpAny_bind ?_
      refine wpAny_bind (wpAny_mkInt ?_)
      refine wpAny_pure ?_
      refine wpAny_pure ?_
      exact wpAny_pure q
    · rw [bf k hk (by omega)]
      refine wpAny_ite_split (fun hab=>absurd hab (by decide)) (fun _=>?_)
      refine wpAny_pure ?_
      exact idx_loop he hj ej bf q n (k+1) (by omega) (by omega) (by omega)
theorem meets_tupIndex (l:Addr) (items:Array Value) (n:Nat) (dd:Option Addr) (sl:Array (Option Value)) (x:Value) (e:Value→Bool) (j:Nat) (hj:j < items.size) (ej:e items[j]=true) (bf:∀ (m:Nat) (hm:m < items.size),m < j→e items[m]=false) :
    Meets (Builtin.«tuple.index» { pos:=[.ref l,x] }) fun A R s=>s.heap.get? l=some { cls:=.type "tuple", dict:=dd,data:=.seq items n,slots:=sl }∧(∀ y ∈ items,SeqAt.EqAt A.in1 s y x (e y))∧R (.ok (.ret (.int (j:Int) s.toks))) { s with toks:=s.toks+1 }:=by
  intro prog w A R s ⟨hl,he,q⟩
  unfold Builtin.«tuple.index»
  refine wpAny_bind (wpAny_of_eq (a:=(Value.ref l,[x])) rfl ?_)
  refine wpAny_bind (wpAny_tupleItemsOf hl rfl ?_)
  refine wpAny_bind (wpAny_pure ?_)
  refine wpAny_bind (wpAny_pure ?_)
  refine wpAny_bind ?_
  rw [Std.Legacy.Range.forIn_eq_forIn_range']
  have e1:Std.Legacy.Range.size [0:min items.size items.size]=items.size:=by simp [Std.Legacy.Range.size]
  rw [e1]
  refine idx_loop he hj ej bf ?_ items.size 0 (Nat.zero_le _) (by omega) (by omega)
  exact wpAny_pure q
end
section
variable {X:Cx}
def posOf (z:Str):List Str→Option Nat
  | []=>none
  | a::r=>if a=z then some 0 else (posOf z r).map (·+1)
theorem posOf_lt {z:Str}:∀ {ns:List Str} {j:Nat},posOf z ns=some j→ns[j]?=some z∧∀ m,m < j→∀ y,ns[m]?=some y→y ≠ z
  | [],_,h=>by simp [posOf] at h
  | a::r,j,h=>by
    unfold posOf at h
    by_cases c:a=z
    · rw [if_pos c] at h
      cases h
      exact ⟨by simp [c],fun m hm=>absurd hm (by omega)⟩
    · rw [if_neg c] at h
      obtain ⟨i,hi,rfl⟩:=Option.map_eq_some_iff.mp h
      obtain ⟨h1,h2⟩:=posOf_lt hi
      refine ⟨by simpa using h1,fun m hm y hy=>?_⟩
      cases m with
      | zero=>cases (Option.some.inj hy); exact c
      | succ m=>exact h2 m (by omega) y (by simpa using hy)
theorem strs_get:∀ {bs:List Str} {us:List Value} {i:Nat} {v:Value},Vals (bs.map V.str) us→us[i]?=some v→∃ b t,bs[i]?=some b∧v=.str b t
  | [],_,_,_,.nil,h=>by simp at h
  | b::_,_,0,_,.cons r _,h=>by
    simp at h
    subst h
    obtain ⟨t,e⟩:=r
    exact ⟨b,t,rfl,e⟩
  | _::_,_,i+1,_,.cons _ t,h=>by
    obtain ⟨b,t,h1,h2⟩:=strs_get (i:=i) t (by simpa using h)
    exact ⟨b,t,by simpa using h1,h2⟩
theorem flat_strs (ns:List Str):(ns.map V.str).all flatV=true:=by
  induction ns with
  | nil=>rfl
  | cons a r ih=>rw [List.map_cons,List.all_cons,ih]; rfl
theorem index_facts {ns:List Str} {its:List Value} {z:Str} {j:Nat} (r:Vals (ns.map V.str) its) (h:posOf z ns=some j) :
    ∃ hj:j < its.toArray.size,eqU (.str z) its.toArray[j]=true∧∀ (m:Nat) (hm:m < its.toArray.size),m < j→eqU (.str z) its.toArray[m]=false:=by
  obtain ⟨h1,h2⟩:=posOf_lt h
  have hl:=r.length
  rw [List.length_map] at hl
  have jl:j < ns.length:=(List.getElem?_eq_some_iff.mp h1).1
  have hj:j < its.toArray.size:=by rw [List.size_toArray,← hl]; exact jl
  refine ⟨hj,?_,fun m hm mj=>?_⟩
  · obtain ⟨b,t,e1,e2⟩:=strs_get r (i:=j) (v:=its.toArray[j]) (by simp)
    rw [e2]
    rw [h1] at e1
    cases e1
    show (z == z)=true
    simp
  · obtain ⟨b,t,e1,e2⟩:=strs_get r (i:=m) (v:=its.toArray[m]) (by simp)
    rw [e2]
    show (b == z)=false
    have:=h2 m mj b e1
    simpa using this
def rIndexT (K:PySem.W.Frag):V→List V→Hp→VK→Prop:=fun x vs H Q=>∃ (a:Addr) (ns:List Str) (z:Str) (j:Nat),x=.ref a∧vs=[.str z]∧SqT K H a (ns.map V.str)∧posOf z ns=some j∧Q (.int (j:Int)) H
theorem mt_indexT:MtR X "tuple.index" (rIndexT X.K):=by
  intro pins s σ H x vs v us Q I rx rv h
  obtain ⟨a,ns,z,j,rfl,rfl,hq,hp,q⟩:=h
  cases rx
  obtain ⟨u,rfl,ru⟩:=rv.one
  obtain ⟨its,r,⟨⟨cls,dd,data,sl⟩,ho,hc,n,hd⟩,hz⟩:=I.tuple hq
  simp only at hc hd
  subst hc hd
  obtain ⟨hj,e1,e2⟩:=index_facts r hp
  refine call_meets F.slot_tuple_index ⟨_,ho,rfl⟩ F.entry_tuple_index (F.args_tuple_index_2 _ _) (meets_tupIndex a its.toArray n dd sl u (eqU (.str z)) j hj e1 e2) ⟨ho,fun y hy=>?_,?_⟩
  · exact mem_eqAt ru rfl r (flat_strs ns) y (by simpa using hy)
  · exact ⟨.int (j:Int),H,I.tok _,⟨_,rfl⟩,q⟩
def rIndexL (K:PySem.W.Frag):V→List V→Hp→VK→Prop:=fun x vs H Q=>∃ (a:Addr) (ns:List Str) (z:Str) (j:Nat),x=.ref a∧vs=[.str z]∧SqL K H a (ns.map V.str)∧posOf z ns=some j∧Q (.int (j:Int)) H
theorem mt_indexL:MtR X "list.index" (rIndexL X.K):=by
  intro pins s σ H x vs v us Q I rx rv h
  obtain ⟨a,ns,z,j,rfl,rfl,hq,hp,q⟩:=h
  cases rx
  obtain ⟨u,rfl,ru⟩:=rv.one
  obtain ⟨its,r,⟨⟨cls,dd,data,sl⟩,n,ho,hc,hdd,hd⟩,hz⟩:=I.list hq
  simp only at hc hd
  subst hc hd
  obtain ⟨hj,e1,e2⟩:=index_facts r hp
  have h63:=line63
  have hl:=r.length
  refine call_meets F.slot_list_index ⟨_,ho,rfl⟩ F.entry_list_index (F.args_list_index_2 _ _) (SeqAt.list_indexAt a its.toArray n dd sl u (eqU (.str z)) j hj (by rw [List.size_toArray] at hj; omega) e1 e2) ⟨ho,fun y hy=>?_,?_⟩
  · exact mem_eqAt ru rfl r (flat_strs ns) y (by simpa using hy)
  · exact ⟨.int (j:Int),H,I.tok _,⟨_,rfl⟩,q⟩
end
end L2
namespace L2
open PySem PySem.Spec PyProof.Rows
section
variable {κ:Type} [DecidableEq κ]
def valV (kvs:List (κ × V)) (k:κ):Option V:=(kvs.find? fun kv=>decide (kv.1=k)).map (·.2)
def putK (kvs:List (κ × V)) (k:κ) (v:V):List (κ × V) :=
  if (kvs.any fun kv=>decide (kv.1=k))=true then kvs.map (fun kv=>if kv.1=k then (kv.1,v) else kv) else kvs++[(k,v)]
def dropK (kvs:List (κ × V)) (k:κ):List (κ × V):=kvs.filter fun kv=>decide (kv.1 ≠ k)
end
abbrev KT (H:Hp):List (List Key × V)→List (List Key × Addr × Value)→Prop:=Paired fun p q=>p.1=q.1∧H q.2.1=some (.tup (p.1.map kV))∧RelV p.2 q.2.2
section
variable {P:Program} {w:World} {H:Hp} {h:Heap} {a:Addr}
end
def DGet (H:Hp) (a:Addr) (y:V) (r:Option V):Prop :=
  (∃ kvs k,Rd H a (.dK kvs)∧y=kV k∧r=valV kvs k)∨∃ kvs k b,Rd H a (.dT kvs)∧y=.ref b∧H b=some (.tup (k.map kV))∧r=valV kvs k
def DPut (H:Hp) (a:Addr) (y v:V) (H':Hp):Prop :=
  (∃ kvs k,H a=some (.dK kvs)∧y=kV k∧kvs.length < sizeLine∧H'=upd H a (.dK (putK kvs k v))) ∨
  ∃ kvs k b,H a=some (.dT kvs)∧y=.ref b∧H b=some (.tup (k.map kV))∧kvs.length < sizeLine∧H'=upd H a (.dT (putK kvs k v))
section
variable {X:Cx} {pins:List (Addr × Obj)} {σ:St} {H:Hp} {s:Shared} {a:Addr} {y v:V} {u r:Value} {o:Option V} {A:Around} {E:Value→Shared→Prop}
end
section
variable {X:Cx} {pins:List (Addr × Obj)} {σ:St} {H:Hp} {s:Shared} {a:Addr} {kvs:List (Key × V)} {k:Key} {u:Value} {A:Around} {E:Value→Shared→Prop}
end
def NoSl (i:Expr):Prop:=∀ ov iv,subscripted i false ov iv=operate [ov,iv] (getItem ov iv)
def tDGet (td ty:TE):TE:=fun σ H Q=>td σ H fun x H1=>ty σ H1 fun y H2=>∃ a v,x=.ref a∧DGet H2 a y (some v)∧Q v H2
def tDIn (ty td:TE):TE:=fun σ H Q=>ty σ H fun y H1=>td σ H1 fun x H2=>∃ a o,x=.ref a∧DGet H2 a y o∧Q (.bl o.isSome) H2
def tDNotIn (ty td:TE):TE:=fun σ H Q=>ty σ H fun y H1=>td σ H1 fun x H2=>∃ a o,x=.ref a∧DGet H2 a y o∧Q (.bl (!o.isSome)) H2
def sDPut (td ty tv:TE):TS:=fun D σ H=>tv σ H fun v H1=>td σ H1 fun x H2=>ty σ H2 fun y H3=>∃ a H4,x=.ref a∧DPut H3 a y v H4∧D.nx σ H4
def sDAug (td ty tv:TE) (rd:V→V→Hp→VK→Prop):TS:=fun D σ H=>td σ H fun x H1=>ty σ H1 fun y H2=>∃ a v,x=.ref a∧DGet H2 a y (some v) ∧
  tv σ H2 fun y2 H3=>rd v y2 H3 fun z H4=>∃ H5,DPut H4 a y z H5∧D.nx σ H5
def sDDel (td ty:TE):TS:=fun D σ H=>td σ H fun x H1=>ty σ H1 fun y H2=>∃ a kvs k,x=.ref a∧H2 a=some (.dK kvs)∧y=kV k∧(valV kvs k).isSome=true∧D.nx σ (upd H2 a (.dK (dropK kvs k)))
section
variable {X:Cx} {o i e value:Expr} {pos pos' tpos:Pos} {td ty tv:TE}
end
def tDNewK:TE:=fun _ H Q=>∀ p,H p=none→Q (.ref p) (upd H p (.dK []))
def tDNewT:TE:=fun _ H Q=>∀ p,H p=none→Q (.ref p) (upd H p (.dT []))
section
variable {X:Cx} {pos:Pos}
end
def tPairs:List (TE × TE)→St→Hp→(List (V × V)→Hp→Prop)→Prop
  | [],_,H,Q=>Q [] H
  | (tk,tv)::r,σ,H,Q=>tk σ H fun x H1=>tv σ H1 fun y H2=>tPairs r σ H2 fun ps H3=>Q ((x,y)::ps) H3
abbrev VV:List (V × V)→List (Value × Value)→Prop:=Paired fun p q=>RelV p.1 q.1∧RelV p.2 q.2
def PPs (X:Cx) (pos:Pos) (keys:List (Option Expr)) (values:List Expr) (trs:List (TE × TE)):Prop :=
  ∀ (pins:List (Addr × Obj)) (s:Shared) (σ:St) (H:Hp) (Q:List (V × V)→Hp→Prop),Inv X pins σ H s→tPairs trs σ H Q →
    wpAny (model X.prog X.w) X.A (evalPairs (pairTrees keys values X.env pos)) (fun vs s'=>∃ ps H',Inv X pins σ H' s'∧VV ps vs∧Q ps H') X.xe s
def mergeK (kvs more:List (Key × V)):List (Key × V):=more.foldl (fun acc kv=>putK acc kv.1 kv.2) kvs
def tDisp (trs:List (TE × TE)):TE:=fun σ H Q=>∀ p,H p=none→tPairs trs σ (upd H p (.dK [])) fun ps H2=>H2 p=some (.dK [])∧∃ kvs:List (Key × V),ps=kvs.map (fun kv=>(kV kv.1,kv.2))∧kvs.length≤15∧Q (.ref p) (upd H2 p (.dK (mergeK [] kvs)))
structure M1 (X:Cx) (o:Expr) (m:Str) (apos:Pos) (e:Expr) (cpos:Pos):Prop where
  base:attributeBase o m X.env (eval o X.env)=eval o X.env
  few:((backTo cpos (starEach [e] X.env)).all (fun x=>!x.1) && (backToKw cpos (keywordEach [] X.env)).all (fun x=>x.1.isSome)
    && decide (([e]:List Expr).length+([]:List Keyword).length+(if ([]:List Keyword).isEmpty then 0 else 1) < 30))=true
  line:(apos.endLine == cpos.line)=true
  trees:backTo cpos (starEach [e] X.env)=[(false,eval e X.env)]
structure M2 (X:Cx) (o:Expr) (m:Str) (apos:Pos) (e f:Expr) (cpos:Pos):Prop where
  base:attributeBase o m X.env (eval o X.env)=eval o X.env
  few:((backTo cpos (starEach [e,f] X.env)).all (fun x=>!x.1) && (backToKw cpos (keywordEach [] X.env)).all (fun x=>x.1.isSome)
    && decide (([e,f]:List Expr).length+([]:List Keyword).length+(if ([]:List Keyword).isEmpty then 0 else 1) < 30))=true
  line:(apos.endLine == cpos.line)=true
  trees:backTo cpos (starEach [e,f] X.env)=[(false,eval e X.env),(false,eval f X.env)]
def IsD (H:Hp) (a:Addr):Prop:=(∃ kvs,Rd H a (.dK kvs))∨∃ kvs,Rd H a (.dT kvs)
section
variable {X:Cx} {pins:List (Addr × Obj)} {σ:St} {H:Hp} {s:Shared} {a:Addr} {y d:V} {u r:Value} {o:Option V} {A:Around} {E:Value→Shared→Prop}
end
def tDGet1 (td ty:TE):TE:=fun σ H Q=>td σ H fun x H1=>∃ a,x=.ref a∧IsD H1 a∧ty σ H1 fun y H2=>∃ o,DGet H2 a y o∧Q (o.getD .non) H2
def tDGet2 (td ty tx:TE):TE:=fun σ H Q=>td σ H fun x H1=>∃ a,x=.ref a∧IsD H1 a∧ty σ H1 fun y H2=>tx σ H2 fun z H3=>∃ o,DGet H3 a y o∧Q (o.getD z) H3
def tDPop1 (td ty:TE):TE:=fun σ H Q=>td σ H fun x H1=>∃ a,x=.ref a∧IsD H1 a∧ty σ H1 fun y H2=>∃ kvs k v,H2 a=some (.dK kvs)∧y=kV k∧valV kvs k=some v∧Q v (upd H2 a (.dK (dropK kvs k)))
def tDPop2 (td ty tx:TE):TE:=fun σ H Q=>td σ H fun x H1=>∃ a,x=.ref a∧IsD H1 a∧ty σ H1 fun y H2=>tx σ H2 fun z H3=>∃ kvs k,H3 a=some (.dK kvs)∧y=kV k ∧
  (∀ v,valV kvs k=some v→Q v (upd H3 a (.dK (dropK kvs k))))∧(valV kvs k=none→Q z H3)
section
variable {X:Cx} {o e f:Expr} {apos cpos:Pos} {td ty tx:TE}
end
section
variable {X:Cx} {pins:List (Addr × Obj)} {σ:St} {H:Hp} {s:Shared} {a:Addr} {kvs:List (Key × V)} {A:Around} {E:Value→Shared→Prop}
end
section
variable {X:Cx} {pins:List (Addr × Obj)} {σ:St} {H:Hp} {s:Shared} {a:Addr} {y:V} {u:Value} {A:Around} {E:Value→Shared→Prop}
end
end L2
namespace L2
open PySem PySem.Spec PyProof.Rows
section
variable {X:Cx}
theorem Inv.tupD {pins:List (Addr × Obj)} {σ:St} {H:Hp} {s:Shared} {a:Addr} {xs:List V} (I:Inv X pins σ H s) (h:H a=some (.tup xs)):∃ ob,s.heap.get? a=some ob∧ob.dict=none:=by
  obtain ⟨_,_,_,_,o,e,d⟩:=(show ObjOk X.prog X.w H s.heap a (.tup xs) from I.hok a _ h)
  exact ⟨o,e,d⟩
def tIndex (K:PySem.W.Frag) (to:TE) (t:TA):TE:=fun σ H Q=>to σ H fun x H1=>∃ (a:Addr) (ns:List Str),x=.ref a∧(H1 a=some (.lst (ns.map V.str))∨H1 a=some (.tup (ns.map V.str)))∧t σ H1 fun vs H2=>(H2 a=H1 a)∧∃ (z:Str) (j:Nat),vs=[.str z]∧posOf z ns=some j∧Q (.int (j:Int)) H2
variable {o e:Expr} {es:List Expr} {to:TE} {t:TA} {apos cpos:Pos}
theorem pe_index (pl:PlainAttrs "list") (pt:PlainAttrs "tuple") (ho:PE X o to) (ha:PA X (e::es) t)
    (hbase:attributeBase o "index" X.env (eval o X.env)=eval o X.env:=by rfl)
    (hfew:((backTo cpos (starEach (e::es) X.env)).all (fun x=>!x.1) && (backToKw cpos (keywordEach [] X.env)).all (fun x=>x.1.isSome)
      && decide ((e::es).length+([]:List Keyword).length+(if ([]:List Keyword).isEmpty then 0 else 1) < 30))=true:=by rfl)
    (hline:(apos.endLine == cpos.line)=true:=by rfl) (hs:starEach (e::es) X.env=(false,eval e X.env)::starEach es X.env:=by rfl) (hplain:(backTo cpos (starEach es X.env)).any (·.1)=false:=by rfl) :
    PE X (.Call (.Attribute o "index" apos) (e::es) [] cpos) (tIndex X.K to t):=by
  intro pins s σ H Q I h
  refine wpAny_Call_method_late hbase hfew hline rfl (thn (ho pins s σ H _ I h) fun v s1 ⟨x,H1,I1,r1,a,ns,ex,hh,q1⟩=>?_)
  subst ex
  cases r1
  have hA:=ha cpos pins s1 σ H1 _ I1 q1
  rw [hs] at hA ⊢
  rcases hh with hh | hh
  · obtain ⟨its,_,p,_⟩:=I1.list (SqL.of hh)
    obtain ⟨ob,n,e1,c,d,_⟩:=id p
    refine ⟨"list", "list.index", pl,F.slot_list_index,F.type_list_index,p.isList.typeIs,fun b eb=>?_,?_⟩
    · cases eb
      exact ⟨ob,e1,d⟩
    · refine Calls.callWith_builtin (by show (false || (backTo cpos (starEach es X.env)).any (·.1))=false; rw [hplain] <;> rfl) (Calls.evalArgs_plain ?_)
      exact thn hA fun us s2 ⟨vs,H2,I2,r2,ek,z,j,ez,hp,q2⟩=>mt_indexL pins s2 σ H2 (.ref a) vs (.ref a) us Q I2 rfl r2 ⟨a,ns,z,j,rfl,ez,SqL.of (ek.trans hh),hp,q2⟩
  · obtain ⟨its,_,p,_⟩:=I1.tuple (SqT.of hh)
    refine ⟨"tuple", "tuple.index", pt,F.slot_tuple_index,F.type_tuple_index,p.typeIs,fun b eb=>?_,?_⟩
    · cases eb
      exact I1.tupD hh
    · refine Calls.callWith_builtin (by show (false || (backTo cpos (starEach es X.env)).any (·.1))=false; rw [hplain] <;> rfl) (Calls.evalArgs_plain ?_)
      exact thn hA fun us s2 ⟨vs,H2,I2,r2,ek,z,j,ez,hp,q2⟩=>mt_indexT pins s2 σ H2 (.ref a) vs (.ref a) us Q I2 rfl r2 ⟨a,ns,z,j,rfl,ez,SqT.of (ek.trans hh),hp,q2⟩
end
end L2
namespace L2
open PySem PySem.Spec PyProof.Rows
theorem CompScope.three {X:Cx} {x y z u:Str} {scope:Scope} {k l m:Nat} {c d e:Addr} {cl:List (Str × Addr)} (c1:closureFor scope X.env=pure cl) (c2:∀ y ∈ scope.names,y.2 ≠ .cell) (c3:scope.kind=.function) (c4:∀ y ∈ scope.names,y.2=.local→scope.names.lookup y.1=some .local)
    (c5:scope.names.lookup x=some .local) (nd:[x,y,z,u].Nodup) (hcl:cl=[(y,c),(z,d),(u,e)]) (hc:X.env.cells.lookup y=some c) (hd:X.env.cells.lookup z=some d) (he:X.env.cells.lookup u=some e) (c6:((relabel scope X.env).names.all fun p=>!(p.2 == .cell || p.2 == .free) || (cl.lookup p.1).isSome)=true)
    (hr:(relabel scope X.env).names.lookup y=some .cell) (hk:X.N[k]?=some y) (hs:X.env.scope.names.lookup y=some .cell)
    (hr2:(relabel scope X.env).names.lookup z=some .cell) (hk2:X.N[l]?=some z) (hs2:X.env.scope.names.lookup z=some .cell)
    (hr3:(relabel scope X.env).names.lookup u=some .cell) (hk3:X.N[m]?=some u) (hs3:X.env.scope.names.lookup u=some .cell):CompScope X x [y,z,u] [k,l,m] scope cl where
  clos:=c1
  nocell:=c2
  kind:=c3
  names:=c4
  own:=c5
  nd:=nd
  sub:=fun p hp=>by
    subst hcl
    rcases List.mem_cons.mp hp with h | h
    · rw [h]; assumption
    · rcases List.mem_cons.mp h with h | h
      · rw [h]; assumption
      · rw [List.mem_singleton.mp h]; assumption
  has:=c6
  outs:=fun j w h=>by
    have nyz:y ≠ z:=fun e=>by simp [e] at nd
    have nyu:y ≠ u:=fun e=>by simp [e] at nd
    have nzu:z ≠ u:=fun e=>by simp [e] at nd
    subst hcl
    match j,h with
    | 0,h =>
      have e:y=w:=Option.some.inj h
      subst e
      exact ⟨hr,k,c,rfl,hk,by simp [List.lookup],hs⟩
    | 1,h =>
      have e:z=w:=Option.some.inj h
      subst e
      have:(z == y)=false:=by simpa using Ne.symm nyz
      exact ⟨hr2,l,d,rfl,hk2,by simp [List.lookup,this],hs2⟩
    | 2,h =>
      have ew:u=w:=Option.some.inj h
      subst ew
      have h1:(u == y)=false:=by simpa using Ne.symm nyu
      have h2:(u == z)=false:=by simpa using Ne.symm nzu
      exact ⟨hr3,m,e,rfl,hk3,by simp [List.lookup,h1,h2],hs3⟩
    | j+3,h=>simp at h
end L2
namespace L2
open PySem PySem.Spec PyProof.Rows
section
variable {X:Cx}
theorem count_eqU {x:V}:∀ {xs:List V} {us:List Value},Vals xs us→xs.all flatV=true→us.countP (eqU x)=xs.countP fun y=>eqV y x
  | _,_,.nil,_=>rfl
  | y::xs,u::us,.cons r t,f=>by
    rw [List.all_cons,Bool.and_eq_true] at f
    rw [List.countP_cons,List.countP_cons,eqU_of r f.1,count_eqU t f.2]
def rCountL (K:PySem.W.Frag):V→List V→Hp→VK→Prop:=fun x vs H Q=>∃ (a:Addr) (xs:List V) (z:V),x=.ref a∧vs=[z]∧SqL K H a xs∧xs.all flatV=true∧flatV z=true∧Q (.int ((xs.countP fun y=>eqV y z:Nat):Int)) H
theorem mt_count:MtR X "list.count" (rCountL X.K):=by
  intro pins s σ H x vs v us Q I rx rv h
  obtain ⟨a,xs,z,rfl,rfl,hq,fs,fz,q⟩:=h
  cases rx
  obtain ⟨u,rfl,ru⟩:=rv.one
  obtain ⟨its,r,⟨⟨cls,dd,data,sl⟩,n,ho,hc,hdd,hd⟩,hz⟩:=I.list hq
  simp only at hc hd
  subst hc hd
  refine call_meets F.slot_list_count ⟨_,ho,rfl⟩ F.entry_list_count (F.args_list_count_2 _ _) (SeqAt.list_countAt a its.toArray n dd sl u (eqU z)) ⟨ho,fun y hy=>?_,?_⟩
  · exact mem_eqAt ru fz r fs y (by simpa using hy)
  · rw [show its.toArray.toList=its from rfl,count_eqU r fs]
    exact ⟨.int ((xs.countP fun y=>eqV y z:Nat):Int),H,I.tok _,⟨_,rfl⟩,q⟩
end
section
variable {prog:Program} {w:World} {A:Around} {E:Value→Shared→Prop} {s:Shared}
end
section
variable {X:Cx} {e k:Expr} {te tk:TE} {pos p2:Pos}
def tRev (K:PySem.W.Frag) (te tk:TE):TE:=fun σ H Q=>te σ H fun x H1=>tk σ H1 fun y H2=>y=.int (-1)∧∃ a xs,x=.ref a ∧
  ((SqL K H2 a xs∧∀ p,H2 p=none→Q (.ref p) (upd H2 p (.lst xs.reverse)))∨(SqT K H2 a xs∧∀ p,H2 p=none→Q (.ref p) (upd H2 p (.tup xs.reverse))))
end
def bestI (g:Nat→Int):Nat→Int
  | 0=>g 0
  | k+1=>if bestI g k < g (k+1) then g (k+1) else bestI g k
theorem bestI_ge (g:Nat→Int):∀ n k,k≤n→g k≤bestI g n
  | 0,k,h=>by
    have e:k=0:=by omega
    subst e
    exact Int.le_refl _
  | n+1,k,h=>by
    unfold bestI
    by_cases c:k=n+1
    · subst c
      split <;> omega
    · have:=bestI_ge g n k (by omega)
      split <;> omega
def maxD (ns:List Int) (d:Int):Int:=match ns with | []=>d | _::_=>bestI (fun i=>ns[i]?.getD 0) (ns.length - 1)
theorem maxD_ge {ns:List Int} {d x:Int} (h:x ∈ ns):x≤maxD ns d:=by
  obtain ⟨i,hi,e⟩:=List.getElem_of_mem h
  cases ns with
  | nil=>cases h
  | cons a r =>
    have:=bestI_ge (fun i=>(a::r)[i]?.getD 0) ((a::r).length - 1) i (by omega)
    simp only [List.getElem?_eq_getElem hi,Option.getD_some,e] at this
    exact this
section
variable {prog:Program} {w:World} {A:Around} {R:Result→Shared→Prop} {I S:Addr} {fp wr:List Addr} {n:Nat} {P:Nat→Value→Prop} {St:Nat→Heap→Prop} {g:Nat→Int} {kw:List (Str × Value)}
theorem mx_name:(toString "max" ++ toString ".loop" : String) = "max.loop" := by decide
theorem mx_turns (W:Walks prog w A.in1 I fp wr n P St) (gv:∀ i v,P i v→∃ t,v=Value.int (g i) t) (nS:S ∉ fp):∀ (k j:Nat) (s:Shared) (t:Tok) (c:Nat),j+1+k=n→St (j+1) s.heap →
    s.heap.get? S=some { cls:=.type "list", dict:=none,data:=.seq #[.int (bestI g j) t,.int (bestI g j) t] c,slots:=#[] } →
    (∀ t' h' tk,(∀ b o,b ∉ wr→b ≠ S→s.heap.get? b=some o→h'.get? b=some o)→R (.ok (.ret (.int (bestI g (n - 1)) t'))) { s with heap:=h',toks:=tk }) →
    codeAny (model prog w) A (.builtin "max.loop" ⟨[.ref I,.none,.ref S],kw⟩) R s:=by
  have nw:S ∉ wr:=fun z=>nS (W.sub _ z)
  intro k
  induction k with
  | zero =>
    intro j s t c ek st eS q
    refine codeAny_builtin F.entry_max_loop ?_; rw [Around.under_plainId F.plain_max_loop _]
    show wpAny _ A.in1 (seqItems? (.ref S) >>= _) _ _ s; refine wpAny_bind (wpAny_seqItems eS rfl ?_)
    show wpAny _ A.in1 (tryCatch (pyNext (.ref I)) _ >>= _) _ _ s; refine wpAny_bind (wpAny_tryCatch (W.done s _ _ (by rw [← ek]; exact st) fun h' tk kp=>?_))
    show wpAny _ A.in1 (updateSeq S (fun _=>#[]) >>= _) _ _ _; refine wpAny_bind ?_
    refine wpAny_updateSeq (kp S _ nw eS) rfl (wpAny_bind (wpAny_letGo (wpAny_pure ?_)))
    have e:n - 1=j:=by omega
    rw [e] at q
    exact q t _ tk fun b o h1 h2 eb=>(Heap.get?_update_other _ _ (Ne.symm h2)).trans (kp b o h1 eb)
  | succ k ih =>
    intro j s t c ek st eS q
    refine codeAny_builtin F.entry_max_loop ?_; rw [Around.under_plainId F.plain_max_loop _]
    show wpAny _ A.in1 (seqItems? (.ref S) >>= _) _ _ s; refine wpAny_bind (wpAny_seqItems eS rfl ?_)
    show wpAny _ A.in1 (tryCatch (pyNext (.ref I)) _ >>= _) _ _ s; refine wpAny_bind (wpAny_tryCatch (W.item (j+1) s _ _ (by omega) st fun v h' tk pv st' kp=>?_))
    obtain ⟨tv,rfl⟩:=gv _ _ pv
    have eS':=kp S _ nw eS
    show wpAny _ A.in1 (tryCatch (holding [Value.int (g (j+1)) tv,Value.int (g (j+1)) tv] (richCompare .Gt (Value.int (g (j+1)) tv) (Value.int (bestI g j) t) >>= _)) _ >>= _) _ _ _
    refine wpAny_bind (wpAny_tryCatch (wpAny_holding (wpAny_bind (CmpOf.ints_gt (prog:=prog) (w:=w) (A:=A.in1) (P:=fun i v=>∃ t,v=Value.int (if i=0 then bestI g j else g (j+1)) t) (fun i=>if i=0 then bestI g j else g (j+1)) (fun i v h=>h) 1 0 _ _ _ _ _ ⟨tv,rfl⟩ ⟨t,rfl⟩ ?_))))
    refine wpAny_bind (wpAny_holding (wpAny_truthy_bool ?_)); refine wpAny_bind (wpAny_letGo (wpAny_pure ?_))
    by_cases c1:bestI g j < g (j+1)
    · have e1:bestI g (j+1)=g (j+1):=by unfold bestI; rw [if_pos c1]
      refine wpAny_ite_split (fun _=>?_) (fun hab=>absurd (decide_eq_true c1) hab)
      refine wpAny_bind ?_
      refine wpAny_updateSeq eS' rfl (wpAny_bind (wpAny_letGo ?_)); rw [mx_name]
      refine wpAny_pure ⟨plainId_quiet F.plain_max_loop _,ih (j+1) _ tv _ (by omega) (W.frame _ _ _ st' fun b hb o eb=>?_) (by rw [e1]; exact Heap.get?_update_self _ eS' rfl) fun t' h2 tk2 kp2=>?_⟩
      · exact (Heap.get?_update_other _ _ (fun z:S=b=>nS (by rw [z]; exact hb))).trans eb
      · exact q t' h2 tk2 fun b o h1 h3 eb=>kp2 b o h1 h3 ((Heap.get?_update_other _ _ (Ne.symm h3)).trans (kp b o h1 eb))
    · have e1:bestI g (j+1)=bestI g j:=by unfold bestI; rw [if_neg c1]; cases j <;> rfl
      refine wpAny_ite_split (fun hab=>absurd (of_decide_eq_true hab) c1) (fun _=>?_)
      refine wpAny_bind (wpAny_letGo ?_); rw [mx_name]
      refine wpAny_pure ⟨plainId_quiet F.plain_max_loop _,ih (j+1) _ t c (by omega) st' (by rw [e1]; exact eS') fun t' h2 tk2 kp2=>?_⟩
      exact q t' h2 tk2 fun b o h1 h3 eb=>kp2 b o h1 h3 (kp b o h1 eb)
theorem mx_first (W:Walks prog w A.in1 I fp wr n P St) (gv:∀ i v,P i v→∃ t,v=Value.int (g i) t) (nS:S ∉ fp) (hn:0 < n) {s:Shared} {c:Nat} (st:St 0 s.heap) (eS:s.heap.get? S=some { cls:=.type "list", dict:=none,data:=.seq #[] c,slots:=#[] })
    (q:∀ t' h' tk,(∀ b o,b ∉ wr→b ≠ S→s.heap.get? b=some o→h'.get? b=some o)→R (.ok (.ret (.int (bestI g (n - 1)) t'))) { s with heap:=h',toks:=tk }) :
    codeAny (model prog w) A (.builtin "max.loop" ⟨[.ref I,.none,.ref S],kw⟩) R s:=by
  have nw:S ∉ wr:=fun z=>nS (W.sub _ z)
  refine codeAny_builtin F.entry_max_loop ?_; rw [Around.under_plainId F.plain_max_loop _]
  show wpAny _ A.in1 (seqItems? (.ref S) >>= _) _ _ s; refine wpAny_bind (wpAny_seqItems eS rfl ?_)
  show wpAny _ A.in1 (tryCatch (pyNext (.ref I)) _ >>= _) _ _ s; refine wpAny_bind (wpAny_tryCatch (W.item 0 s _ _ hn st fun v h' tk pv st' kp=>?_))
  obtain ⟨tv,rfl⟩:=gv _ _ pv
  have eS':=kp S _ nw eS
  show wpAny _ A.in1 (updateSeq S (fun _=>#[Value.int (g 0) tv,Value.int (g 0) tv]) >>= _) _ _ _; refine wpAny_bind ?_
  refine wpAny_updateSeq eS' rfl ?_; rw [mx_name]
  refine wpAny_pure ⟨plainId_quiet F.plain_max_loop _,mx_turns W gv nS (n - 1) 0 _ tv _ (by omega) (W.frame _ _ _ st' fun b hb o eb=>?_) (Heap.get?_update_self _ eS' rfl) fun t' h2 tk2 kp2=>?_⟩
  · exact (Heap.get?_update_other _ _ (fun z:S=b=>nS (by rw [z]; exact hb))).trans eb
  · exact q t' h2 tk2 fun b o h1 h3 eb=>kp2 b o h1 h3 ((Heap.get?_update_other _ _ (Ne.symm h3)).trans (kp b o h1 eb))
end
section
variable {X:Cx} {e k:Expr} {te tk:TE} {pos p1 kp:Pos}
def tMaxD (K:PySem.W.Frag) (te tk:TE):TE:=fun σ H Q=>te σ H fun x H1=>tk σ H1 fun y H2=>∃ a ns d,x=.ref a∧y=.int d∧SqT K H2 a (ns.map V.int)∧Q (.int (maxD ns d)) H2
def rMax1 (K:PySem.W.Frag):List V→Hp→VK→Prop:=fun xs H Q=>∃ a ns,xs=[.ref a]∧SqL K H a (ns.map V.int)∧ns ≠ []∧Q (.int (maxD ns 0)) H
theorem call_max1 (hc:X.calm=true):CallR X (.builtin "max") (rMax1 X.K):=by
  intro pins s2 σ H2 xs us Q I2 r h
  obtain ⟨a,ns,rfl,hq,hn,q⟩:=h
  obtain ⟨u,rfl,ru⟩:=vals1 r
  cases ru
  obtain ⟨its,r',p,hz⟩:=I2.list hq
  have hl:=r'.length
  rw [List.length_map] at hl
  have hlt:a < s2.heap.objs.size:=by obtain ⟨o,n,e,_⟩:=p; exact Heap.lt_size e
  refine call_function_tree F.kind_max F.plain_max F.entry_max (F.args_max1 _) ?_
  show wpAny _ X.A.in1 (Builtin.Builtins.bindParams "max" ["key", "default"] 0 ⟨[],[]⟩ >>= fun _=>_) _ _ s2
  refine wpAny_bind (wpAny_of_eq (a:=[none,none]) rfl ?_)
  refine wpAny_bind (wpAny_pure ?_)
  refine wpAny_bind (wpAny_pyIter_list p.isList ?_)
  refine wpAny_bind (wpAny_newObj_type ?_); rw [mx_name]
  have hne:a ≠ s2.heap.objs.size:=Nat.ne_of_lt hlt
  have W:=Walks.list (prog:=X.prog) (w:=X.w) (A:=X.A.in1) (I2.ok.hd hc) s2.heap.objs.size a hne its.toArray
  have I3:Inv X pins σ H2 { s2 with heap:=s2.heap.push { cls:=.type "list_iterator", data:=.fields #[.ref a,.int 0 0] } }:=I2.kept (t':=s2.toks) fun b o eb=>Heap.get?_push_of_some _ eb
  have I4:Inv X pins σ H2 { s2 with heap:=(s2.heap.push { cls:=.type "list_iterator", data:=.fields #[.ref a,.int 0 0] }).push { cls:=.type "list", data:=.seq #[] } }:=I3.kept (t':=s2.toks) fun b o eb=>Heap.get?_push_of_some _ eb
  have hz1:∀ o:Obj,(s2.heap.push o).objs.size=s2.heap.objs.size+1:=fun o=>by simp [Heap.push]
  have nS:(s2.heap.push { cls:=.type "list_iterator", data:=.fields #[.ref a,.int 0 0] }).objs.size ∉ [s2.heap.objs.size,a]:=by
    intro hm
    rcases List.mem_cons.mp hm with z | z
    · rw [hz1] at z
      exact absurd z (Nat.succ_ne_self _)
    · have z:=List.mem_singleton.mp z
      rw [hz1] at z
      exact absurd z (Nat.ne_of_gt (Nat.lt_succ_of_lt hlt))
  have gv:∀ i v,its.toArray[i]?=some v→∃ t,v=Value.int (ns[i]?.getD 0) t:=fun i v hv=>by
    obtain ⟨b,t,hb,rfl⟩:=ints_get r' (i:=i) (v:=v) (by first | exact hv | simpa using hv | (rw [List.getElem?_toArray] at hv; exact hv))
    exact ⟨t,by rw [hb]; rfl⟩
  have n0:0 < ns.length:=List.length_pos_iff.mpr hn
  refine wpAny_pure ⟨plainId_quiet F.plain_max_loop _,mx_first (g:=fun i=>ns[i]?.getD 0) W gv nS (by rw [List.size_toArray,← hl]; exact n0) ⟨⟨_,Heap.get?_push_of_some _ (Heap.get?_push_size _ rfl),rfl,rfl⟩,(p.isList.push _).push _⟩ (Heap.get?_push_size _ rfl) fun t' h' tk kp=>?_⟩
  rw [List.size_toArray,← hl]
  have em:bestI (fun i=>ns[i]?.getD 0) (ns.length - 1)=maxD ns 0:=by
    cases ns with
    | nil=>exact absurd rfl hn
    | cons _ _=>rfl
  rw [em]
  refine ⟨.int _,H2,?_,⟨_,rfl⟩,q⟩
  have J:=Inv.turnedL (h':=h') (t':=tk) (ch:=[s2.heap.objs.size,s2.heap.objs.size+1]) I4 (fun b o hb eb=>kp b o (fun z=>hb (by rw [List.mem_singleton.mp z]; exact List.mem_cons_self)) (fun z=>hb (by rw [z,hz1]; exact List.mem_cons_of_mem _ List.mem_cons_self)) eb)
  refine J fun b hb=>?_
  rcases List.mem_cons.mp hb with h | h
  · rw [h]
    exact I2.fpOk (Nat.le_refl _) (I2.hok.fresh (Nat.le_refl _))
  · rw [List.mem_singleton.mp h]
    exact I2.fpOk (Nat.le_succ _) (I2.hok.fresh (Nat.le_succ _))
end
end L2
namespace L2
open PySem PySem.Spec PyProof.Rows
section
variable {prog:Program} {w:World} {A:Around} {E:Value→Shared→Prop} {s:Shared}
theorem tn_item {it t:Addr} {i:Nat} {items:Array Value} {x:Value} {Q:Value→Shared→Prop} (hit:s.heap.IsTupleIter it t i) (ht:s.heap.IsTuple t items) (hx:items[i]?=some x)
    (q:∀ h',h'.IsTupleIter it t (i+1)→Heap.SameBut it s.heap h'→Q x { s with heap:=h' }):wpAny (model prog w) A (Builtin.SmallTypes.nextOf (.ref it)) Q E s:=by
  obtain ⟨o,ho,hc,hd⟩:=id hit; obtain ⟨ol,hol,_,nl,hdl⟩:=ht
  unfold Builtin.SmallTypes.nextOf
  refine wpAny_bind (wpAny_callSpecial?_slot (name:=Str.ofString "__next__") hit.typeIs F.slot_tuple_iterator_next (wpAny_call_entry F.slot_tuple_iterator_next hit.typeIs F.entry_tuple_iterator_next ?_ (F.args_tuple_iterator_next_1 _)))
  show wpAny _ _ (field (.ref it) 0 >>= _) _ _ s; refine wpAny_bind (wpAny_field ho hd (x:=.ref t) rfl ?_)
  show wpAny _ _ (if (Value.ref t == Value.none)=true then _ else _) _ _ s; rw [if_neg (show ¬ ((Value.ref t == Value.none)=true) from Bool.false_ne_true)]
  show wpAny _ _ (field (.ref it) 1 >>= _) _ _ s; refine wpAny_bind (wpAny_field ho hd (x:=.int i 0) rfl ?_)
  show wpAny _ _ (seqItems? (.ref t) >>= _) _ _ s; refine wpAny_bind (wpAny_seqItems hol hdl ?_)
  simp only [Int.toNat_natCast,hx]
  refine wpAny_bind (wpAny_setField ho hd (by simp) (wpAny_pure ⟨x,rfl,wpAny_pure (q _ ?_ (Heap.SameBut.update ..))⟩))
  exact ⟨_,Heap.get?_update_self _ ho (Obj.isFreed_of_fields (Obj.data_mapFields hd _)),(Obj.cls_mapFields ..).trans hc,by rw [Obj.data_mapFields hd]; simp [rawInt]⟩
theorem tn_end {it t:Addr} {i:Nat} {items:Array Value} {Q:Value→Shared→Prop} (hh:A.handled=none) (hit:s.heap.IsTupleIter it t i) (ht:s.heap.IsTuple t items) (hx:items[i]?=none)
    (q:∀ h' e,Heap.ExtBut it s.heap h'→(∃ o,h'.get? e=some o∧o.cls=.type "StopIteration")→E (.ref e) { s with heap:=h' }):wpAny (model prog w) A (Builtin.SmallTypes.nextOf (.ref it)) Q E s:=by
  obtain ⟨o,ho,hc,hd⟩:=id hit; obtain ⟨ol,hol,_,nl,hdl⟩:=ht
  unfold Builtin.SmallTypes.nextOf
  refine wpAny_bind (wpAny_callSpecial?_slot (name:=Str.ofString "__next__") hit.typeIs F.slot_tuple_iterator_next (wpAny_call_entry F.slot_tuple_iterator_next hit.typeIs F.entry_tuple_iterator_next ?_ (F.args_tuple_iterator_next_1 _)))
  show wpAny _ _ (field (.ref it) 0 >>= _) _ _ s; refine wpAny_bind (wpAny_field ho hd (x:=.ref t) rfl ?_)
  show wpAny _ _ (if (Value.ref t == Value.none)=true then _ else _) _ _ s; rw [if_neg (show ¬ ((Value.ref t == Value.none)=true) from Bool.false_ne_true)]
  show wpAny _ _ (field (.ref it) 1 >>= _) _ _ s; refine wpAny_bind (wpAny_field ho hd (x:=.int i 0) rfl ?_)
  show wpAny _ _ (seqItems? (.ref t) >>= _) _ _ s; refine wpAny_bind (wpAny_seqItems hol hdl ?_)
  simp only [Int.toNat_natCast,hx]
  first
    | refine wpAny_bind (wpAny_rule (wpAny_bind (wpAny_setField ho hd (by simp) (wpAny_bind (wpAny_letGo ?_)))))
    | refine wpAny_bind (wpAny_rule (wpAny_bind (wpAny_setField ho hd (by simp) ?_)))
  show wpAny _ _ (newExc (.type "StopIteration") [] >>= _) _ _ _; refine wpAny_bind ?_
  simp only [newExc,newTuple]; refine wpAny_bind (wpAny_newObj_type ?_ (by size_fits))
  refine wpAny_bind (m:=firstArgMember _ _) (wpAny_of_eq (a:=Value.none) (by first | rfl | (simp only [firstArgMember]; rfl)) ?_); refine wpAny_newObj_type ?_ (by size_fits)
  simp only [raiseNew]; refine wpAny_bind (wpAny_handled ?_)
  first | rw [show A.in1.handled=none from hh] | rw [hh]
  refine wpAny_bind (wpAny_pure (wpAny_throw ?_)); exact q _ _ (((Heap.SameBut.update ..).extBut.push _).push _) ⟨_,Heap.get?_push_size _ rfl,rfl⟩
theorem enumT_end {e it t:Addr} {j:Nat} {i:Int} {old:Value} {items:Array Value} {Q:Option Value→Shared→Prop} (hh:A.handled=none) (he:IsEnum s.heap e it i old) (hit:s.heap.IsTupleIter it t j) (ht:s.heap.IsTuple t items) (hx:items[j]?=none)
    (q:∀ h',Heap.ExtBut it s.heap h'→Q none { s with heap:=h' }):wpAny (model prog w) A (pyNext (.ref e)) Q E s:=by
  have hT:s.TypeIs (.ref e) "enumerate" := ⟨_,he,rfl⟩
  unfold pyNext
  refine wpAny_bind (wpAny_attempt (wpAny_callSpecial?_slot (name:=Str.ofString "__next__") hT F.slot_enumerate_next (wpAny_call_entry F.slot_enumerate_next hT F.entry_enumerate_next ?_ (F.args_enumerate_next_1 _))))
  show wpAny _ _ (field (.ref e) 2 >>= _) _ _ _; refine wpAny_bind (wpAny_field he rfl (x:=.ref it) rfl ?_)
  refine wpAny_bind (tn_end hh hit ht hx fun h' x he' hx'=>?_)
  obtain ⟨o,ho,hc⟩:=hx'
  refine wpAny_bind (wpAny_isInstance (T := "StopIteration") (b:=true) ⟨o,ho,hc⟩ isSubtype_stop ?_); exact wpAny_pure (q h' he')
end
theorem draws_tup {prog:Program} {w:World} {A:Around} (hh:A.handled=none) (it l:Addr) (hne:l ≠ it) (items:Array Value):Draws prog w A it [it,l] items.size (fun i v=>items[i]?=some v) (fun i h=>h.IsTupleIter it l i∧h.IsTuple l items) where
  live:=fun _ _ st=>let ⟨o,ho,_⟩:=st.1; ⟨o,ho⟩
  frame:=fun _ _ _ st k=>⟨st.1.at fun o e=>k it (by simp) o e,st.2.at fun o e=>k l (by simp) o e⟩
  item:=fun i s Q E hi st q=>by
    refine tn_item st.1 st.2 (x:=items[i]) (by simp [hi]) fun h' a b=>?_
    exact q _ h' s.toks (by simp [hi]) ⟨a,st.2.extBut b.extBut hne⟩ b
  done:=fun s Q E st q=>tn_end hh st.1 st.2 (by simp) q
open AutoSeq1 (wpAny_loadPart') in
set_option maxHeartbeats 1000000 in
theorem meets_enumT (l:Addr) (items:Array Value) (n:Nat) (dct:Option Addr) (sl:Array (Option Value)) :
    Meets (Builtin.«enumerate.__new__» ⟨[.type "enumerate", .ref l],[]⟩) (fun _ R s=>s.heap.get? l=some { cls:=.type "tuple", dict:=dct,data:=.seq items n,slots:=sl } ∧
      R (.ok (.ret (.ref (s.heap.push { cls:=.type "tuple_iterator", data:=.fields #[.ref l,.int 0 0] }).objs.size)))
        { s with heap:=(s.heap.push { cls:=.type "tuple_iterator", data:=.fields #[.ref l,.int 0 0] }).push { cls:=.type "enumerate", data:=.fields #[.none,.bool false,.ref s.heap.objs.size,rawInt 0,.none,.none] } }) :=
  .of_wp fun prog w A R s h=>by
    obtain ⟨hp,g,d,tk,os⟩:=s; obtain ⟨hl,h⟩:=h
    have hsub:=sub_enumerate; have hL:Heap.IsTuple (Shared.heap ⟨hp,g,d,tk,os⟩) l items:=⟨_,hl,rfl,n,rfl⟩
    wp_walk using wpAny_loadPart' hl
    refine wpAny_stack_any fun st=>wpAny_pure ?_
    split
    · rename_i c _ _ _ _ _
      cases (c == Value.type "enumerate")
      · wp_walk using wpAny_loadPart' hl,wpAny_pyIter_tuple hL
        exact ⟨_,rfl,h⟩
      · wp_walk using wpAny_loadPart' hl,wpAny_pyIter_tuple hL
        exact ⟨_,rfl,h⟩
    · wp_walk using wpAny_loadPart' hl,wpAny_pyIter_tuple hL
      exact ⟨_,rfl,h⟩
section
variable {prog:Program} {w:World} {A:Around} {E:Value→Shared→Prop} {s:Shared}
theorem call_enumT {l:Addr} {items:Array Value} {Q:Value→Shared→Prop} (hL:s.heap.IsTuple l items)
    (q:∀ h',IsEnum h' (s.heap.objs.size+1) s.heap.objs.size 0 .none→h'.IsTupleIter s.heap.objs.size l 0→(∀ b o,s.heap.get? b=some o→h'.get? b=some o)→Q (.ref (s.heap.objs.size+1)) { s with heap:=h' }) :
    wpAny (model prog w) A (call (.type "enumerate") [.ref l]) Q E s:=by
  obtain ⟨⟨c,dct,dt,sl⟩,hl,hc,n,hd⟩:=hL
  replace hc:c=.type "tuple" := hc
  replace hd:dt=.seq items n:=hd
  subst hc hd
  refine callType_new F.called_enumerate (by decide) (F.typeCall_enumerate_1 _) (F.newCall_enumerate_1 _) (fun obj=>F.args_object_init_2 obj _) F.entry_enumerate_new (meets_enumT l items n dct sl) ⟨hl,?_⟩
  have hz:(s.heap.push { cls:=.type "tuple_iterator", data:=.fields #[.ref l,.int 0 0] }).objs.size=s.heap.objs.size+1:=Heap.size_push ..
  show _∧_
  rw [hz]
  have he:IsEnum ((s.heap.push { cls:=.type "tuple_iterator", data:=.fields #[.ref l,.int 0 0] }).push { cls:=.type "enumerate", data:=.fields #[.none,.bool false,.ref s.heap.objs.size,rawInt 0,.none,.none] }) (s.heap.objs.size+1) s.heap.objs.size 0 .none:=by
    have:=Heap.get?_push_size (s.heap.push { cls:=.type "tuple_iterator", data:=.fields #[.ref l,.int 0 0] }) (o:={ cls:=.type "enumerate", data:=.fields #[.none,.bool false,.ref s.heap.objs.size,rawInt 0,.none,.none] }) rfl
    rw [hz] at this; exact this
  exact ⟨⟨_,he,rfl⟩,q _ he ⟨_,Heap.get?_push_of_some _ (Heap.get?_push_size _ rfl),rfl,rfl⟩ fun b o x=>Heap.get?_push_of_some _ (Heap.get?_push_of_some _ x)⟩
end
def IteT (K:PySem.W.Frag) (a:Addr):It :=
  ⟨fun i H=>∃ xs x,SqT K H a xs∧xs[i]?=some x,fun i H y H'=>∃ t,y=.ref t∧H t=none∧∀ xs x,SqT K H a xs→xs[i]?=some x→H'=upd H t (.tup [.int i,x]),fun i H=>∃ xs,SqT K H a xs∧xs.length≤i⟩
theorem turn_enumT {P:Program} {w:World} {K:PySem.W.Frag} {elts:List Expr} {k:Nat} {pos:Pos} (a e it:Addr) (hei:e ≠ it) (hai:a ≠ it) (hae:a ≠ e) :
    Turn P w K (.Tuple elts k pos) (IteT K a) [e,it] e (fun i h=>(∃ old,IsEnum h e it i old)∧h.IsTupleIter it a i) where
  mem:=by simp
  obj:=fun i h st b hb=>by
    obtain ⟨⟨old,he⟩,o,e2,c,d⟩:=st
    rcases List.mem_cons.mp hb with z | z
    · subst z
      exact ⟨_,he,fun v z=>nomatch z⟩
    · have z':=List.mem_singleton.mp z
      subst z'
      exact ⟨o,e2,fun v z=>by rw [d] at z; cases z⟩
  keep:=fun i h h' st k=>by
    obtain ⟨⟨old,he⟩,hit⟩:=st
    exact ⟨⟨old,k e (by simp) _ he⟩,hit.at fun o x=>k it (by simp) o x⟩
  item:=by
    intro X hP hw hK hc i pins s σ H E I hf st hg
    subst hP hw hK
    obtain ⟨xs,x,hq,hx⟩:=hg
    obtain ⟨its,rv,p,hz⟩:=I.tuple hq
    obtain ⟨u,hu,ru⟩:=rv.get hx
    obtain ⟨⟨old,he⟩,hit⟩:=st
    have hi:i < its.toArray.size:=by
      rw [List.size_toArray]
      exact (List.getElem?_eq_some_iff.mp hu).1
    refine wpAny_pyNext_enum_itemD (draws_tup (prog:=X.prog) (w:=X.w) (A:=X.A.in1) (I.ok.hd hc) it a hai its.toArray) he ⟨hit,p⟩ hi hei (by simp [hei,Ne.symm hae]) fun y h1 tk hy ho hst1 hT hsz hk=>?_
    have ey:y=u:=by
      have h1:its.toArray[i]?=some u:=by simpa using hu
      rw [h1] at hy
      exact (Option.some.inj hy).symm
    subst ey
    refine ⟨_,rfl,wpAny_letOwnedTupleGo_enum ho fun h2 he2 hs2=>?_⟩
    have elt:e < s.heap.objs.size:=Heap.lt_size he
    have hT2:h2.get? s.heap.objs.size=some { cls:=.type "tuple", data:=.seq #[.int i tk,y] }:=(hs2.2 _ (Ne.symm (Nat.ne_of_lt elt))).trans hT
    have I2:Inv X pins σ (upd H s.heap.objs.size (.tup [.int i,x])) { s with heap:=h2,toks:=tk+1 }:=by
      refine I.turnedNew (ch:=[e,it]) (fun b ob hb eb=>?_) hf (Nat.le_refl _) ⟨by show 2≤sizeLine; decide,[.int i tk,y],.cons ⟨_,rfl⟩ (.cons ru .nil),⟨_,hT2,rfl,_,rfl⟩,_,hT2,rfl⟩
      have b1:b ≠ e:=fun z=>hb (by simp [z])
      have b2:b ≠ it:=fun z=>hb (by simp [z])
      exact (hs2.2 b b1).trans (hk b ob b1 b2 eb)
    refine ⟨.ref s.heap.objs.size,_,I2,rfl,⟨_,rfl,I.hok.fresh (Nat.le_refl _),fun ys z hy hyi=>?_⟩,⟨⟨y,by simpa using he2⟩,hst1.1.at fun o z=>(hs2.2 it (Ne.symm hei)).trans z⟩,fun b hb=>?_⟩
    · have e1:=I.tuple_inj hy hq
      subst e1
      rw [hx] at hyi
      cases hyi
      rfl
    · have z:=hf b hb
      have hlt:b < s.heap.objs.size:=by
        rcases List.mem_cons.mp hb with y | y
        · rw [y]; exact elt
        · rw [List.mem_singleton.mp y]
          obtain ⟨o,e2,_⟩:=hit
          exact Heap.lt_size e2
      rw [upd_ne (Nat.ne_of_lt hlt)]
      exact z.1
  done:=by
    intro X hP hw hK hc i pins s σ H E I hf st hg
    subst hP hw hK
    obtain ⟨xs,hq,hx⟩:=hg
    obtain ⟨its,rv,p,hz⟩:=I.tuple hq
    obtain ⟨⟨old,he⟩,hit⟩:=st
    have hl:=rv.length
    exact enumT_end (I.ok.hd hc) he hit p (Array.getElem?_eq_none (by simp; omega)) fun h' eb=>⟨rfl,I.turnedL (t':=s.toks) (ch:=[e,it]) (fun b o hb eo=>eb b o (fun z=>hb (by simp [z])) eo) hf⟩
  self:=fun _ _ _ _ _ st h=>by
    obtain ⟨⟨old,he⟩,_⟩:=st
    exact wpAny_pyIter_enum he h
section
variable {X:Cx} {elts:List Expr} {k:Nat} {tpos:Pos}
def iEnumT (K:PySem.W.Frag) (tl:TE):TI:=fun σ H R=>tl σ H fun x H1=>∃ a,x=.ref a∧(∃ xs,SqT K H1 a xs)∧R (IteT K a) H1
theorem pi_enumT {l:Expr} {tl:TE} {p pos:Pos} (hg:Gl X "enumerate") (hm:X.mg "enumerate" = none) (hl:PE X l tl) (hs:starEach [l] X.env=[(false,eval l X.env)]:=by rfl) :
    PI X (.Tuple elts k tpos) (.Call (.Name "enumerate" p) [l] [] pos) (iEnumT X.K tl):=by
  intro pins s σ H R I h
  refine Call_ (ld_blt I hg hm boot_enumerate (PyProof.Rows.callWith_type1 ?_ hs rfl))
  rw [hs]
  show wpAny _ _ (spliced ((false,eval l X.env)::backTo pos (starEach [] X.env))) _ _ s
  refine Calls.spliced_cons (thn (hl pins s σ H _ I h) fun u s1 ⟨x,H1,I1,r1,a,ex,⟨xs,hq⟩,q⟩=>?_)
  subst ex
  cases r1
  obtain ⟨its,rv,p,hz⟩:=I1.tuple hq
  have alt:=p.lt
  refine Calls.spliced_nil ?_
  refine call_enumT p fun h' he hit hk=>?_
  refine wpAny_pyIter_enum he ?_
  have I2:Inv X pins σ H1 { s1 with heap:=h' }:=I1.kept (t':=s1.toks) hk
  refine ⟨s1.heap.objs.size+1,[s1.heap.objs.size+1,s1.heap.objs.size],_,_,H1,rfl,I2,turn_enumT a _ _ (Nat.ne_of_gt (Nat.lt_succ_self _)) (Nat.ne_of_lt alt) (Nat.ne_of_lt (Nat.lt_succ_of_lt alt)),⟨⟨_,he⟩,hit⟩,fun b hb=>?_,q⟩
  rcases List.mem_cons.mp hb with z | z
  · rw [z]
    exact I1.fpOk (Nat.le_succ _) (I1.hok.fresh (Nat.le_succ _))
  · rw [List.mem_singleton.mp z]
    exact I1.fpOk (Nat.le_refl _) (I1.hok.fresh (Nat.le_refl _))
end
theorem for_enumT {K:PySem.W.Frag} {a:Addr} {xs:List V} {g:TG} {tb:TS} {D:Ends} {σ:St} {H:Hp} (Pv:Nat→St→Hp→Prop) (h0:Pv 0 σ H) (hl:∀ i σ H,i≤xs.length→Pv i σ H→SqT K H a xs)
    (hs:∀ i x σ H t,xs[i]?=some x→Pv i σ H→H t=none→g (.ref t) σ (upd H t (.tup [.int i,x])) fun σ2 H2=>tb { D with nx:=Pv (i+1),ct:=Pv (i+1),bk:=D.nx } σ2 H2) (hd:∀ σ H,Pv xs.length σ H→D.nx σ H) :
    ∃ W:Nat→Nat→St→Hp→Prop,(∃ m,W 0 m σ H)∧∀ i m σ H,W i m σ H →
      ((IteT K a).stop i H∧D.nx σ H)∨((IteT K a).go i H∧∃ N:St→Hp→Prop,(∀ σ' H',N σ' H'→∃ m',m' < m∧W (i+1) m' σ' H')∧∀ x H',(IteT K a).yld i H x H'→g x σ H' fun σ2 H2=>tb { D with nx:=N,ct:=N,bk:=D.nx } σ2 H2):=by
  refine ⟨fun i m σ H=>m=xs.length - i∧i≤xs.length∧Pv i σ H,⟨xs.length,by simp,Nat.zero_le _,h0⟩,?_⟩
  rintro i m σ H ⟨rfl,hi,p⟩
  have q:=hl i σ H hi p
  by_cases hlt:i < xs.length
  · refine .inr ⟨⟨xs,xs[i],q,by simp [hlt]⟩,Pv (i+1),fun σ' H' p'=>⟨xs.length - (i+1),by omega,rfl,hlt,p'⟩,fun x H' y=>?_⟩
    obtain ⟨t,rfl,ht,e⟩:=y
    have e':=e xs xs[i] q (by simp [hlt])
    subst e'
    exact hs i xs[i] σ H t (by simp [hlt]) p ht
  · have e:i=xs.length:=by omega
    subst e
    exact .inl ⟨⟨xs,q,Nat.le_refl _⟩,hd σ H p⟩
end L2
namespace L2
open PySem PySem.Spec PyProof.Rows
def ItV (K:PySem.W.Frag) (a:Addr) (xs:List V):It:=⟨fun i H=>SqL K H a xs∧i < xs.length,fun i H y H'=>H'=H∧xs.reverse[i]?=some y,fun i _=>xs.length≤i⟩
theorem turn_revl {P:Program} {w:World} {K:PySem.W.Frag} {tg:Expr} (a it:Addr) (xs:List V):Turn P w K tg (ItV K a xs) [it] it (fun i h=>i≤xs.length∧h.IsRevIter it a ((xs.length:Int) - 1 - (i:Int))) where
  mem:=by simp
  obj:=fun i h st b hb=>by
    have e:b=it:=by simpa using hb
    subst e
    obtain ⟨_,o,e,c,d⟩:=st
    exact ⟨o,e,fun v z=>by rw [d] at z; cases z⟩
  keep:=fun i h h' st k=>⟨st.1,st.2.at fun o e=>k it (by simp) o e⟩
  item:=by
    intro X hP hw hK hc i pins s σ H E I hf st hg
    subst hP hw hK
    obtain ⟨hq,hi⟩:=hg
    obtain ⟨its,rv,p,hz⟩:=I.list hq
    have hj:xs.length - 1 - i < xs.length:=by omega
    have hx:xs[xs.length - 1 - i]?=some xs[xs.length - 1 - i]:=List.getElem?_eq_getElem hj
    obtain ⟨u,hu,ru⟩:=rv.get hx
    obtain ⟨f0,f1,f2,f3,f4,f5⟩:=hf it (by simp)
    obtain ⟨_,hit⟩:=st
    have e1:((xs.length:Int) - 1 - (i:Int))=((xs.length - 1 - i:Nat):Int):=by omega
    rw [e1] at hit
    refine wpAny_pyNext_rev_item hit p.isList (x:=u) (by simpa using hu) fun h' st' sb=>?_
    have I1:Inv X pins σ H { s with heap:=h' }:=I.turned (t':=s.toks) (fun b o hb e=>(sb.2 b hb).trans e) f0 f1 f3 f4 f5
    have e2:((xs.length - 1 - i:Nat):Int) - 1=(xs.length:Int) - 1 - ((i+1:Nat):Int):=by omega
    rw [e2] at st'
    obtain ⟨o,e,c,d⟩:=id st'
    refine ⟨u,rfl,go_of (s:={ s with heap:=h' }) e c d (by decide) ⟨xs[xs.length - 1 - i],H,I1,ru,⟨rfl,?_⟩,⟨by omega,st'⟩,fun b hb=>(hf b hb).1⟩⟩
    rw [List.getElem?_reverse hi,hx]
  done:=by
    intro X hP hw hK hc i pins s σ H E I hf st hg
    subst hP hw hK
    have hg:xs.length≤i:=hg
    obtain ⟨f0,f1,f2,f3,f4,f5⟩:=hf it (by simp)
    obtain ⟨hi,hit⟩:=st
    have e1:(xs.length:Int) - 1 - (i:Int)=-1:=by omega
    rw [e1] at hit
    exact wpAny_pyNext_rev_end (I.ok.hd hc) hit fun h' eb=>⟨rfl,I.turned (t':=s.toks) (fun b o hb e=>eb b o hb e) f0 f1 f3 f4 f5⟩
  self:=fun _ _ _ _ _ st h=>wpAny_pyIter_revIter st.2 h
section
variable {X:Cx} {tg:Expr}
def iRevL (K:PySem.W.Frag) (tl:TE):TI:=fun σ H R=>tl σ H fun x H1=>∃ a xs,x=.ref a∧SqL K H1 a xs∧R (ItV K a xs) H1
theorem pi_revl {l:Expr} {tl:TE} {p pos:Pos} (hg:Gl X "reversed") (hm:X.mg "reversed" = none) (hl:PE X l tl) (hs:starEach [l] X.env=[(false,eval l X.env)]:=by rfl) :
    PI X tg (.Call (.Name "reversed" p) [l] [] pos) (iRevL X.K tl):=by
  intro pins s σ H R I h
  refine wpAny_Call_Name_kw (ld_blt I hg hm boot_reversed' ?_)
  refine PyProof.Rows.callWith_type1 ?_ hs rfl
  rw [hs]
  show wpAny _ _ (spliced ((false,eval l X.env)::backTo pos (starEach [] X.env))) _ _ s
  refine Calls.spliced_cons (thn (hl pins s σ H _ I h) fun u s1 ⟨x,H1,I1,r1,a,xs,ex,hq,q⟩=>?_)
  subst ex
  cases r1
  obtain ⟨its,rv,p,hz⟩:=I1.list hq
  have hlen:=rv.length
  refine Calls.spliced_nil ?_
  refine call_reversed_list p.isList ?_
  have hr:(s1.heap.push (revObj a ((its.toArray.size:Int) - 1))).IsRevIter s1.heap.objs.size a ((xs.length:Int) - 1 - ((0:Nat):Int)):=by
    have e:(xs.length:Int) - 1 - ((0:Nat):Int)=(its.toArray.size:Int) - 1:=by rw [List.size_toArray]; omega
    rw [e]
    exact ⟨_,Heap.get?_push_size _ rfl,rfl,rfl⟩
  refine wpAny_pyIter_revIter hr ?_
  refine ⟨s1.heap.objs.size,[s1.heap.objs.size],_,_,H1,rfl,I1.kept (t':=s1.toks) fun b o e=>Heap.get?_push_of_some _ e,turn_revl a _ xs,⟨Nat.zero_le _,hr⟩,fun b hb=>?_,q⟩
  have e:b=s1.heap.objs.size:=by simpa using hb
  subst e
  exact I1.fpOk (Nat.le_refl _) (I1.hok.fresh (Nat.le_refl _))
end
theorem for_revl {K:PySem.W.Frag} {a:Addr} {xs:List V} {g:TG} {tb:TS} {D:Ends} {σ:St} {H:Hp} (Pv:Nat→St→Hp→Prop) (h0:Pv 0 σ H) (hl:∀ i σ H,i≤xs.length→Pv i σ H→SqL K H a xs)
    (hs:∀ i x σ H,i < xs.length→xs.reverse[i]?=some x→Pv i σ H→g x σ H fun σ2 H2=>tb { D with nx:=Pv (i+1),ct:=Pv (i+1),bk:=D.nx } σ2 H2) (hd:∀ σ H,Pv xs.length σ H→D.nx σ H) :
    ∃ W:Nat→Nat→St→Hp→Prop,(∃ m,W 0 m σ H)∧∀ i m σ H,W i m σ H →
      ((ItV K a xs).stop i H∧D.nx σ H)∨((ItV K a xs).go i H∧∃ N:St→Hp→Prop,(∀ σ' H',N σ' H'→∃ m',m' < m∧W (i+1) m' σ' H')∧∀ x H',(ItV K a xs).yld i H x H'→g x σ H' fun σ2 H2=>tb { D with nx:=N,ct:=N,bk:=D.nx } σ2 H2):=by
  refine ⟨fun i m σ H=>m=xs.length - i∧i≤xs.length∧Pv i σ H,⟨xs.length,by simp,Nat.zero_le _,h0⟩,?_⟩
  rintro i m σ H ⟨rfl,hi,p⟩
  have q:=hl i σ H hi p
  by_cases hlt:i < xs.length
  · refine .inr ⟨⟨q,hlt⟩,Pv (i+1),fun σ' H' p'=>⟨xs.length - (i+1),by omega,rfl,hlt,p'⟩,fun x H' y=>?_⟩
    obtain ⟨e,ex⟩:=y
    subst e
    exact hs i x σ _ hlt ex p
  · have e:i=xs.length:=by omega
    subst e
    exact .inl ⟨Nat.le_refl _,hd σ H p⟩
end L2
namespace L2
open PySem PySem.Spec PyProof.Rows
theorem mt_countK {X:Cx} (K:PySem.W.Frag) (h:X.K=K:=by rfl):MtR X "list.count" (rCountL K):=by subst h; exact mt_count
section
variable {X:Cx} {o e:Expr} {es:List Expr} {to ta:TE} {t:TA} {T id:String} {name f:Str} {r:V→List V→Hp→VK→Prop} {apos cpos pos:Pos}
theorem pe_bmK (K:PySem.W.Frag) (pa:PlainAttrs T) (slot:Slot T name id) (hty:typeOf (.builtin id)=pure (.type "method_descriptor")) (hm:MtR X id r) (ho:PE X o to) (ha:PA X (e::es) t) (hK:X.K=K:=by rfl)
    (hbase:attributeBase o name X.env (eval o X.env)=eval o X.env:=by rfl)
    (hfew:((backTo cpos (starEach (e::es) X.env)).all (fun x=>!x.1) && (backToKw cpos (keywordEach [] X.env)).all (fun x=>x.1.isSome) && decide ((e::es).length+([]:List Keyword).length+(if ([]:List Keyword).isEmpty then 0 else 1) < 30))=true:=by rfl)
    (hline:(apos.endLine == cpos.line)=true:=by rfl) (hs:starEach (e::es) X.env=(false,eval e X.env)::starEach es X.env:=by rfl) (hplain:(backTo cpos (starEach es X.env)).any (·.1)=false:=by rfl) :
    PE X (.Call (.Attribute o name apos) (e::es) [] cpos) (tBM K T r to t):=by subst hK; exact pe_bm pa slot hty hm ho ha hbase hfew hline hs hplain
theorem pe_fldK (K:PySem.W.Frag) (he:PE X e ta) (hK:X.K=K:=by rfl) (hb:attributeBase e f X.env (eval e X.env)=eval e X.env:=by rfl):PE X (.Attribute e f pos) (tFld K ta f):=by subst hK; exact pe_fld he hb
end
end L2
namespace L2
open PySem PySem.Spec PyProof.Rows
@[reducible] def cxCompO (X:Cx) (x:Str) (N:List Str) (scope:Scope) (cl:List (Str × Addr)) (s:Shared) (H:Hp) (fp:List Addr):Cx where
  prog:=X.prog
  w:=X.w
  K:=X.K
  mg:=X.mg
  base:=X.base
  A:=X.A
  N:=x::N
  s₀:=s
  H₀:=H
  env:=compEnvC scope ((x,s.heap.objs.size+1)::cl) s.heap.objs.size X.env
  outer:=X.stack
  stack:=X.stack
  ex:=fp
  fn:=fun y=>y == x
  calm:=X.calm
  pn:=[]
  xe:=fun _ _=>False
structure CompScopeO (X:Cx) (x:Str) (N:List Str) (ix:List Nat) (scope:Scope) (cl:List (Str × Addr)):Prop where
  clos:closureFor scope X.env=pure cl
  lay:∀ (n:Addr) (h:Heap),cellsFrom n scope.names cl=(x,n)::cl∧pushCells h scope.names=h.push { cls:=.type "cell", data:=.cell none }
  kind:scope.kind=.function
  names:∀ y ∈ scope.names,y.2=.local→scope.names.lookup y.1=some .local
  own:(relabel scope X.env).names.lookup x=some .cell
  nd:(x::N).Nodup
  sub:∀ p ∈ cl,X.env.cells.lookup p.1=some p.2
  has:((relabel scope X.env).names.all fun p=>!(p.2 == .cell || p.2 == .free) || (p.1 == x || (cl.lookup p.1).isSome))=true
  outs:∀ (j:Nat) (y:Str),N[j]?=some y→(relabel scope X.env).names.lookup y=some .cell∧∃ k c,ix[j]?=some k∧X.N[k]?=some y∧cl.lookup y=some c∧X.env.scope.names.lookup y=some .cell
section
variable {X:Cx} {pins:List (Addr × Obj)} {σ:St} {x:Str} {N:List Str} {ix:List Nat} {scope:Scope} {cl:List (Str × Addr)} {fp:List Addr} {H3:Hp} {s3:Shared}
end
section
variable {M:Model} {A:Around} {E:Value→Shared→Prop} {s:Shared}
end
section
variable {X:Cx} {x:Str} {N:List Str} {ix:List Nat} {scope:Scope} {cl:List (Str × Addr)} {elt iter:Expr} {ifs:List Expr} {px pos:Pos} {wi:TI} {tb:TBl}
end
end L2
namespace L2
open PySem PySem.Spec PyProof.Rows
end L2
namespace L2
open PySem PySem.Spec PyProof.Rows
def ItrS (lo c:Int) (n:Nat):It:=⟨fun i _=>i < n,fun i H x H'=>H'=H∧x=.int (lo+i*c),fun i _=>n≤i⟩
section
variable {X:Cx} {tg:Expr}
def iRng3 (ta:TA):TI:=fun σ H R=>ta σ H fun vs H1=>∃ i j c:Int,vs=[.int i,.int j,.int c]∧0 < c∧c < 1000000∧Builtin.Range.small i j c=true∧R (ItrS i c (Builtin.Range.rangeSize i j c).toNat) H1
end
end L2
namespace L2
open PySem PySem.Spec PyProof.Rows
section
variable {X:Cx}
def tListRng1 (ta:TA):TE:=fun σ H Q=>ta σ H fun vs H1=>∃ j:Int,vs=[.int j]∧0≤j∧j≤1000∧∀ p,H1 p=none→Q (.ref p) (upd H1 p (.lst ((rngV 0 j.toNat).map V.int)))
def rSorted (K:PySem.W.Frag):List V→Hp→VK→Prop:=fun xs H Q=>∃ a ns,xs=[.ref a]∧SqL K H a (ns.map V.int)∧ns.length < 64∧∀ p ms,H p=none→List.Perm ms ns→ms.Pairwise (·≤·)→Q (.ref p) (upd H p (.lst (ms.map V.int)))
end
end L2
namespace L2
open PySem PySem.Spec PyProof.Rows PySem.Builtin PySem.Builtin.Str
section
variable {prog:Program} {w:World} {A:Around} {E:Value→Shared→Prop} {s:Shared} {Q:Value→Shared→Prop} {x:PySem.Str} {t:Tok}
end
section
variable {X:Cx}
def rSplit:V→List V→Hp→VK→Prop:=fun x vs H Q=>∃ z u,x=.str z∧vs=[.str u]∧0 < u.length∧z.length≤100000∧(Txt.split z u).length≤100000∧∀ p,H p=none→Q (.ref p) (upd H p (.lst ((Txt.split z u).map V.str)))
end
end L2
namespace L2
open PySem PySem.Spec PyProof.Rows
section
variable {X:Cx} {e:Expr} {te:TE} {p pos pos1:Pos}
def tIsiT (te:TE):TE:=fun σ H Q=>te σ H fun x H1=>∃ a xs,x=.ref a∧(H1 a=some (.lst xs)∨H1 a=some (.tup xs))∧Q (.bl true) H1
end
end L2
namespace HT
open PySem PyProof.Rows
section
variable {prog:Program} {w:World} {A:Around} {E:Value→Shared→Prop} {s:Shared}
theorem getItem_tuple_whole {t sl:Addr} {items:Array Value} {vl vu:Value} {lo hi:Option Int} {Q:Value→Shared→Prop} (ht:IsTup s.heap t items) (hs:s.heap.IsSliceOf sl vl vu .none) (pl:IsPart vl lo) (pu:IsPart vu hi)
    (hw:sIx items.size 0 lo=0∧sIx items.size items.size hi=items.size) (h:Q (.ref t) s):wpAny (model prog w) A (getItem (.ref t) (.ref sl)) Q E s:=by
  obtain ⟨os,hos,hcs,hds⟩:=id hs
  have hTs:s.TypeIs (.ref sl) "slice" := ⟨os,hos,hcs⟩
  unfold getItem
  try with_reducible refine wpAny_holding ?_
  first | refine wpAny_bind (wpAny_pure ?_) | skip
  refine wpAny_bind (wpAny_sequenceKey ht.typeIs (by decide) ?_)
  refine wpAny_bind (wpAny_callSpecial?_slot (name:=Str.ofString "__getitem__") ht.typeIs PyProof.Rows.slot_tuple_getitem
    (wpAny_call_entry PyProof.Rows.slot_tuple_getitem ht.typeIs entry_tuple_getitem ?_ (args_tuple_getitem _ _)))
  show wpAny _ _ (Builtin.Tuple.tupleItemsOf (.ref t) >>= _) _ _ s
  refine wpAny_bind (tupleItemsOf_ ht ?_)
  refine wpAny_bind (wpAny_typeOf hTs ?_)
  rw [if_pos (by decide)]
  refine wpAny_bind (sliceApplied_gen hs pl pu ?_)
  have hyes:(((sIx items.size 0 lo:Nat):Int) == 0 && (1:Int) == 1 && (sIx items.size items.size hi - sIx items.size 0 lo) == items.size)=true:=by
    rw [hw.1,hw.2,Nat.sub_zero]
    simp
  show wpAny _ _ (if (((sIx items.size 0 lo:Nat):Int) == 0 && (1:Int) == 1 && (sIx items.size items.size hi - sIx items.size 0 lo) == items.size)=true then _ else _) _ _ s
  rw [if_pos hyes]
  refine wpAny_bind ?_
  unfold Builtin.Tuple.tupleIsExact
  refine wpAny_bind (wpAny_typeOf ht.typeIs (wpAny_pure ?_))
  rw [if_pos (by decide)]
  first
    | exact wpAny_bind (wpAny_rule (wpAny_pure ⟨_,rfl,wpAny_pure h⟩))
    | (refine wpAny_pure ?_; exact ⟨_,rfl,wpAny_pure h⟩)
    | (refine wpAny_bind (wpAny_pure ?_); refine wpAny_pure ?_; exact ⟨_,rfl,wpAny_pure h⟩)
    | (refine wpAny_bind (wpAny_pure ?_); refine wpAny_bind (wpAny_pure ?_); refine wpAny_pure ?_; exact ⟨_,rfl,wpAny_pure h⟩)
    | (refine wpAny_bind (wpAny_bind (wpAny_pure ?_)); refine wpAny_pure ?_; exact ⟨_,rfl,wpAny_pure h⟩)
end
end HT
namespace L2
open PySem PySem.Spec PyProof.Rows
section
variable {X:Cx}
def rSlTW (K:PySem.W.Frag):V→Option Int→Option Int→Hp→VK→Prop:=fun x lo hi H Q=>∃ a xs,x=.ref a∧SqT K H a xs ∧
  (HT.sIx xs.length 0 lo=0∧HT.sIx xs.length xs.length hi=xs.length)∧Q (.ref a) H
theorem sl_tupW:SlR X (rSlTW X.K):=by
  intro pins s σ H x v vl vu lo hi sl Q I rx hs pl pu h
  obtain ⟨a,xs,rfl,hx,hw,q⟩:=h
  cases rx
  obtain ⟨its,r,ht,hz⟩:=I.tuple hx
  have hlen:its.toArray.size=xs.length:=by rw [List.size_toArray]; exact r.length.symm
  refine ⟨"tuple", _,PyProof.Rows.slot_tuple_getitem.lookup,ht.typeIs,?_⟩
  exact HT.getItem_tuple_whole ht hs pl pu (by rw [hlen]; exact hw) ⟨.ref a,H,I,rfl,q⟩
theorem cutV_whole {xs:List V} {lo hi:Option Int} (hw:HT.sIx xs.length 0 lo=0∧HT.sIx xs.length xs.length hi=xs.length):cutV xs lo hi=xs:=by
  unfold cutV
  rw [hw.1,hw.2,List.drop_zero,Nat.sub_zero,List.take_length]
def rSlTA (K:PySem.W.Frag):V→Option Int→Option Int→Hp→VK→Prop:=fun x lo hi H Q=>∃ a xs,x=.ref a∧SqT K H a xs∧H a=some (.tup xs)∧∀ p H',Same H H'→H' p=some (.tup (cutV xs lo hi))→Q (.ref p) H'
theorem sl_tupA:SlR X (rSlTA X.K):=by
  intro pins s σ H x v vl vu lo hi sl Q I rx hs pl pu h
  obtain ⟨a,xs,rfl,hx,ha,q⟩:=h
  by_cases hw:HT.sIx xs.length 0 lo=0∧HT.sIx xs.length xs.length hi=xs.length
  · exact sl_tupW pins s σ H _ v vl vu lo hi sl Q I rx hs pl pu ⟨a,xs,rfl,hx,hw,q a H (Same.refl _) (by rw [cutV_whole hw]; exact ha)⟩
  · exact sl_tup pins s σ H _ v vl vu lo hi sl Q I rx hs pl pu ⟨a,xs,rfl,hx,hw,fun p hp=>q p _ (Same.new hp _) upd_same⟩
theorem sl_tupAK (K:PySem.W.Frag) (h:X.K=K:=by rfl):SlR X (rSlTA K):=by subst h; exact sl_tupA
end
end L2
namespace L2
open PySem PySem.Spec PyProof.Rows
def SqIt (h:Heap) (i l:Addr) (k:Nat) (xs:Array Value):Prop:=(h.IsListIter i l k∧h.IsList l xs)∨(h.IsTupleIter i l k∧h.IsTuple l xs)
section
variable {prog:Program} {w:World} {A:Around} {E:Value→Shared→Prop} {s:Shared}
end
def itO (b:Bool) (l:Addr):Obj:={ cls:=.type (if b=true then "list_iterator" else "tuple_iterator"),data:=.fields #[.ref l,.int 0 0] }
def SqO (b:Bool) (h:Heap) (l:Addr) (xs:Array Value):Prop:=if b=true then h.IsList l xs else h.IsTuple l xs
abbrev zqH (h:Heap) (b1 b2:Bool) (l1 l2:Addr):Heap:=((((h.push (itO b1 l1)).push (itO b2 l2)).push { cls:=.type "tuple", data:=.seq #[.ref h.objs.size,.ref (h.push (itO b1 l1)).objs.size] }).push { cls:=.type "tuple", data:=.seq #[.none,.none] }).push
  { cls:=.type "zip", data:=.fields #[.none,.bool false,.bool false,.ref ((h.push (itO b1 l1)).push (itO b2 l2)).objs.size,.ref (((h.push (itO b1 l1)).push (itO b2 l2)).push { cls:=.type "tuple", data:=.seq #[.ref h.objs.size,.ref (h.push (itO b1 l1)).objs.size] }).objs.size] }
abbrev zqA (h:Heap) (b1 b2:Bool) (l1 l2:Addr):Addr:=((((h.push (itO b1 l1)).push (itO b2 l2)).push { cls:=.type "tuple", data:=.seq #[.ref h.objs.size,.ref (h.push (itO b1 l1)).objs.size] }).push { cls:=.type "tuple", data:=.seq #[.none,.none] }).objs.size
end L2
namespace L2
open PySem PySem.Spec PyProof.Rows
section
variable {prog:Program} {w:World} {A:Around} {E:Value→Shared→Prop} {s:Shared}
end
def SqB (K:PySem.W.Frag) (b:Bool) (H:Hp) (a:Addr) (xs:List V):Prop:=if b=true then SqL K H a xs else SqT K H a xs
def Itz (K:PySem.W.Frag) (c d:Bool) (a b:Addr):It :=
  ⟨fun i H=>∃ xs ys x y,SqB K c H a xs∧SqB K d H b ys∧xs[i]?=some x∧ys[i]?=some y,fun i H v H'=>∃ t,v=.ref t∧H t=none∧∀ xs ys x y,SqB K c H a xs→SqB K d H b ys→xs[i]?=some x→ys[i]?=some y→H'=upd H t (.tup [x,y]),
    fun i H=>∃ xs ys,SqB K c H a xs∧SqB K d H b ys∧(xs.length≤i∨ys.length≤i)⟩
end L2
namespace L2
open PySem PySem.Spec PyProof.Rows
section
variable {X:Cx} {elts:List Expr} {k:Nat} {tpos:Pos}
def iZip (K:PySem.W.Frag) (tl:TA):TI:=fun σ H R=>tl σ H fun vs H1=>∃ a b c d,vs=[.ref a,.ref b]∧(∃ xs,SqB K c H1 a xs)∧(∃ ys,SqB K d H1 b ys)∧R (Itz K c d a b) H1
end
end L2
namespace L2
open PySem PySem.Spec PyProof.Rows
section
variable {X:Cx} {pins:List (Addr × Obj)} {σ:St} {x y2:Str} {N:List Str} {ix:List Nat} {scope:Scope} {cl:List (Str × Addr)} {fp:List Addr} {H3:Hp} {s3:Shared}
end
section
variable {X:Cx} {x y2:Str} {N:List Str} {ix:List Nat} {scope:Scope} {cl:List (Str × Addr)} {elt iter:Expr} {ifs:List Expr} {px py pt pos:Pos} {kt:Nat} {wi:TI} {tb:TBl}
def CompEx2 (K:PySem.W.Frag) (J:It) (D:Addr) (ix:List Nat) (tb:TBl) (σ:St) (H:Hp) (Q:VK):Prop:=∃ W:Nat→Nat→Hp→Prop,(∃ m,W 0 m (upd H D (.lst [])))∧∀ i m H2,W i m H2 →
  (J.stop i H2∧Q (.ref D) H2)∨(J.go i H2∧∀ y H3,J.yld i H2 y H3→∃ t v1 v2,y=.ref t∧SqT K H3 t [v1,v2]∧tb (some v1::some v2::outs ix σ) H3 (fun H4=>∃ m',m' < m∧W (i+1) m' H4)
    fun z H4=>∃ ys,H4 D=some (.lst ys)∧ys.length < sizeLine∧∃ m',m' < m∧W (i+1) m' (upd H4 D (.lst (ys++[z]))))
def tCompR2 (K:PySem.W.Frag) (wi:TI) (ix:List Nat) (tb:TBl):TE:=fun σ H Q=>wi σ H fun J H1=>∀ D,H1 D=none→CompEx2 K J D ix tb σ H1 Q
end
end L2
namespace L2
open PySem PyProof.Rows HT
section
variable {X:Cx}
def rAny (K:PySem.W.Frag):List V→Hp→VK→Prop:=fun xs H Q=>∃ (a:Addr) (bs:List Bool),xs=[.ref a]∧SqL K H a (bs.map V.bl)∧Q (.bl (bs.any id)) H
end
end L2
namespace L2
open PySem PySem.Spec PyProof.Rows
section
variable {X:Cx}
def startsAt (z u:Str) (i:Int):Bool:=decide (PySem.fromIndex z.length i+u.length≤z.length) && Builtin.Str.subAt z u (PySem.fromIndex z.length i)
def rStartsAt:V→List V→Hp→VK→Prop:=fun x vs H Q=>∃ z u i,x=.str z∧vs=[.str u,.int i]∧Q (.bl (startsAt z u i)) H
abbrev TJ:=St→Hp→Str→VK→Prop
def PJ (X:Cx) (es:List Expr) (t:TJ):Prop :=
  ∀ (pins:List (Addr × Obj)) (s:Shared) (σ:St) (H:Hp) (out:Str) (Q:VK),Inv X pins σ H s→t σ H out Q→wpAny (model X.prog X.w) X.A (joinParts out (evalEach es X.env)) (EP X pins σ Q) X.xe s
theorem pj_nil:PJ X [] (fun _ H out Q=>out.length≤sizeLine∧Q (.str out) H):=by
  intro pins s σ H out Q I h
  exact joinParts_nil ⟨.str out,H,I.tok _,⟨_,rfl⟩,h.2⟩ h.1
theorem pj_cons {e:Expr} {es:List Expr} {te:TE} {t:TJ} (he:PE X e te) (ht:PJ X es t):PJ X (e::es) (fun σ H out Q=>te σ H fun v H1=>∃ y,v=.str y∧(out++y).length≤sizeLine∧t σ H1 (out++y) Q):=by
  intro pins s σ H out Q I h
  show wpAny _ _ (joinParts out (eval e X.env::evalEach es X.env)) _ _ s
  refine joinParts_cons (thn (he pins s σ H _ I h) fun v s1 ⟨x,H1,I1,r1,y,ex,hz,q⟩=>?_)
  subst ex
  obtain ⟨t',rfl⟩:=r1
  exact ⟨hz,ht pins s1 σ H1 _ Q I1 q⟩
theorem pe_fstr {e1 e2:Expr} {es:List Expr} {t:TJ} {pos:Pos} (h:PJ X (e1::e2::es) t):PE X (.JoinedStr (e1::e2::es) pos) (fun σ H Q=>t σ H Str.empty Q) :=
  fun pins s σ H Q I k=>JoinedStr_many (h pins s σ H Str.empty Q I k)
end
end L2
namespace L2
open PySem PySem.Spec PyProof.Rows
section
variable {X:Cx}
end
end L2
namespace L2
open PySem PySem.Spec PyProof.Rows
abbrev IsZipB (h:Heap) (z TI TO:Addr) (f0:Value) (b:Bool):Prop :=
  h.get? z=some { cls:=.type "zip", dict:=none,data:=.fields #[f0,.bool b,.bool false,.ref TI,.ref TO],slots:=#[] }
section
variable {prog:Program} {w:World} {A:Around} {E:Value→Shared→Prop} {s:Shared}
end
end L2
namespace L2
open PySem PySem.Spec PyProof.Rows
def ItK (c:Bool) (h:Heap) (i1 a:Addr) (k:Nat):Prop:=∃ o,h.get? i1=some o∧o.cls=.type (if c=true then "list_iterator" else "tuple_iterator")∧o.data=.fields #[.ref a,.int k 0]
def ZSt (c d:Bool) (a b z TI TO i1 i2:Addr) (cs:List Addr) (i:Nat) (h:Heap):Prop :=
  ((i=0∧IsZip h z TI TO .none)∨∃ (t:Addr) (f:Bool),cs[0]?=some t∧IsZipB h z TI TO (rawInt t) f)∧IsPair h TI (.ref i1) (.ref i2)∧(∃ p q,IsPair h TO p q)∧ItK c h i1 a i∧ItK d h i2 b i
def PairsAt (H:Hp) (cs:List Addr) (xs ys:List V):Prop:=∀ (j:Nat) (t:Addr) (x y:V),cs[j]?=some t→xs[j]?=some x→ys[j]?=some y→H t=some (.tup [x,y])
section
variable {X:Cx} {pins:List (Addr × Obj)} {σ:St}
end
end L2
namespace L2
open PySem PySem.Spec PyProof.Rows
section
variable {X:Cx} {pins:List (Addr × Obj)} {σ:St}
def tListZip (K:PySem.W.Frag) (t:TA):TE:=fun σ H Q=>t σ H fun vs H1=>∃ a b c d xs ys,vs=[.ref a,.ref b]∧SqB K c H1 a xs∧SqB K d H1 b ys∧xs.length=ys.length∧xs.length≤sizeLine ∧
  ∀ S cs H2,H1 S=none→H2 S=some (.lst (cs.map V.ref))→cs.length=xs.length→PairsAt H2 cs xs ys→(∀ t ∈ cs,H1 t=none∧t ≠ S)→Same H1 H2→Q (.ref S) H2
def rNeNil (K:PySem.W.Frag):R2:=fun x y H Q=>∃ a b xs,x=.ref a∧y=.ref b∧SqL K H a xs∧SqL K H b []∧Q (.bl (!xs.isEmpty)) H
end
end L2
namespace L2
open PySem PySem.Spec PyProof.Rows
section
variable {X:Cx}
end
end L2
namespace L2
open PySem
section
variable {M:Model} {A:Around} {E:Value→Shared→Prop} {h:Heap} {g:Array GenState} {d:Drawn} {t:Nat} {os:OsState}
variable {nm q:Str} {C N:Addr} {bs bm:List Value} {hdct:Bool} {sn:List Str} {sub:List Value} {ab:Bool} {col:Option Bool} {dd:Option Addr} {k0 k1 k2 k3 k5:Option Value} {Bn newId inN:String} {bmN:List Value}
theorem check_newX (Fn:ExcBaseFacts Bn newId inN bmN) (hcont:(Value.ref C::bm).contains (.type Bn)=true) {rest:List Value} {Q:Unit→Shared→Prop} (hC:h.get? C=some (excClassObj nm q C N bs bm hdct sn sub ab col dd k0 k1 k2 k3 k5 newId))
    (hq:Q () ⟨h,g,d,t,os⟩):wpAny M A (checkBuiltinCall newId ⟨.ref C::rest,[]⟩) Q E ⟨h,g,d,t,os⟩:=by
  have hstar:=Fn.noStar
  simp only [checkBuiltinCall,Fn.newKind,Fn.newSplit,Fn.newRow]
  repeat (first | refine wpAny_loadPart_at hC ?_ | (refine wpAny_isSubtype_exc hC ?_; rw [hcont]) | refine wpAny_staticBase_exc hC ?_ | refine wpAny_madeBy_exc hC ?_ | simp only [bne_self_eq_false,Bool.false_eq_true,if_false] | wp_step)
  exact hq
end
section
variable {prog:Program} {w:World} {A:Around} {R:Result→Shared→Prop} {h:Heap} {g:Array GenState} {d:Drawn} {t:Nat} {os:OsState}
variable {nm q:Str} {C N:Addr} {bs bm:List Value} {hdct:Bool} {sn:List Str} {sub:List Value} {ab:Bool} {col:Option Bool} {dd:Option Addr} {k0 k1 k2 k3 k5:Option Value} {Bn newId inN:String} {bmN:List Value}
theorem exc_newX (Fn:ExcBaseFacts Bn newId inN bmN) (hcB:(Value.ref C::bm).contains (.type Bn)=true) (hcA:(Value.ref C::bm).contains (.type "AttributeError")=false) (hcN:(Value.ref C::bm).contains (.type "NameError")=false) {rest:List Value} (hC:h.get? C=some (excClassObj nm q C N bs bm hdct sn sub ab col dd k0 k1 k2 k3 k5 newId))
    (hq:R (.ok (.ret (.ref (h.objs.size+1)))) ⟨(h.push { cls:=.type "tuple", data:=.seq rest.toArray }).push
      { cls:=.ref C,data:=.fields #[.ref h.objs.size,.none,.none,.none,.bool false,.none] },g,d,t,os⟩) (hrest:rest.length≤sizeLine:=by size_fits) :
    codeAny (model prog w) A (.builtin newId ⟨.ref C::rest,[]⟩) R ⟨h,g,d,t,os⟩:=by
  have hends:=Fn.ends
  refine codeAny_builtinAt Fn.entry ?_
  unfold Builtin.«BaseException.__new__»
  refine wpAt_bind ?_
  show wpAt _ _ _ (stack >>= _) _ _ _
  refine wpAt_bind (wpAt_stack fun p below=>wpAt_of_wpAny ?_)
  wp_walk
  refine wpAt_of_wpAny ?_
  rw [Fn.owner]
  repeat (first | with_reducible refine wpAny_madeHere_exc Fn.canon hC ?_ | with_reducible refine wpAny_loadPart_at hC ?_ | (with_reducible refine wpAny_isSubtype_exc hC ?_; first | rw [hcB] | rw [hcA] | rw [hcN]) | wp_step)
  show R _ _
  rw [Heap.size_push]
  exact hq
end
section
variable {prog:Program} {w:World} {A:Around} {E:Value→Shared→Prop} {h:Heap} {g:Array GenState} {d:Drawn} {t:Nat} {os:OsState}
variable {nm q:Str} {C N:Addr} {bs bm:List Value} {hdct:Bool} {sn:List Str} {sub:List Value} {ab:Bool} {col:Option Bool} {dd:Option Addr} {k0 k1 k2 k3 k5:Option Value} {Bn newId inN:String} {bmN:List Value}
abbrev excObj (C:Addr) (dx:Option Addr) (vs:Array Value):Obj:={ cls:=.ref C,dict:=dx,data:=.fields vs }
abbrev excNew (C a:Addr):Obj:=excObj C none #[.ref a,.none,.none,.none,.bool false,.none]
theorem type_call_initX (Fn:ExcBaseFacts Bn newId inN bmN) (hcB:(Value.ref C::bm).contains (.type Bn)=true) (hcA:(Value.ref C::bm).contains (.type "AttributeError")=false) (hcN:(Value.ref C::bm).contains (.type "NameError")=false) {rest:List Value} {fI:Addr} {oI:Obj} {Q:Fin→Shared→Prop}
    (hC:h.get? C=some (excClassObj nm q C N bs bm hdct sn sub ab col dd k0 k1 k2 k3 k5 newId)) (hi:PySem.W.Looks (model prog w) h (typeLookup (.ref C) "__init__") (some (.ref fI)))
    (hfI:h.get? fI=some oI) (hfc:oI.cls=.type "function")
    (hq:wpAny (model prog w) A (call (.ref fI) (.ref (h.objs.size+1)::rest)) (fun r s'=>r=.none∧Q (.done (.ret (.ref (h.objs.size+1)))) s') E ⟨(h.push { cls:=.type "tuple", data:=.seq rest.toArray }).push (excNew C h.objs.size),g,d,t,os⟩) (hrest:rest.length≤sizeLine:=by size_fits) :
    wpAny (model prog w) A (Builtin.«type.__call__» ⟨.ref C::rest,[]⟩) Q E ⟨h,g,d,t,os⟩:=by
  repeat (first | with_reducible refine wpAny_loadPart_at hC ?_ | with_reducible refine wpAny_madeBy_exc hC ?_ | wp_step)
  refine codeAny_call_builtin_code (Code.quiet_builtin _ Fn.quiet) (check_newX Fn hcB hC ?_)
  refine exc_newX Fn hcB hcA hcN hC ?_ hrest
  show wpAny _ _ _ _ _ _
  have hC₁:=Heap.get?_push_of_some (excNew C h.objs.size) (Heap.get?_push_of_some { cls:=.type "tuple", data:=.seq rest.toArray } hC)
  have hfI₁:=Heap.get?_push_of_some (excNew C h.objs.size) (Heap.get?_push_of_some { cls:=.type "tuple", data:=.seq rest.toArray } hfI)
  have hget:((h.push { cls:=.type "tuple", data:=.seq rest.toArray }).push (excNew C h.objs.size)).get? (h.objs.size+1)=some (excNew C h.objs.size):=by heap_get
  have hcC:(Value.ref C::bm).contains (.ref C)=true:=by simp
  unfold isInstance
  repeat (first | with_reducible refine wpAny_loadPart_at hget ?_ | (with_reducible refine wpAny_isSubtype_exc hC₁ ?_; rw [hcC]) | wp_step)
  show wpAny _ _ (typeLookup (.ref C) _) _ _ _
  refine hi _ _ _ _ (fun b o e=>Heap.get?_push_of_some _ (Heap.get?_push_of_some _ e)) ?_
  refine wpAny_holding (wpAny_bind ?_)
  unfold bindSpecial
  refine wpAny_bind (wpAny_typeOf (T := "function") ⟨_,hfI₁,hfc⟩ ?_)
  rw [if_pos (by decide)]
  refine wpAny_pure (wpAny_bind (wpAny_mono hq (fun r s' hr=>?_) fun _ _ x=>x))
  obtain ⟨rfl,hQ⟩:=hr
  wp_walk
  exact hQ
theorem call_exc_initX (Fn:ExcBaseFacts Bn newId inN bmN) (hcB:(Value.ref C::bm).contains (.type Bn)=true) (hcA:(Value.ref C::bm).contains (.type "AttributeError")=false) (hcN:(Value.ref C::bm).contains (.type "NameError")=false) {rest:List Value} {fI:Addr} {oI:Obj} {Q:Value→Shared→Prop}
    (hC:h.get? C=some (excClassObj nm q C N bs bm hdct sn sub ab col dd k0 k1 k2 k3 k5 newId)) (hi:PySem.W.Looks (model prog w) h (typeLookup (.ref C) "__init__") (some (.ref fI)))
    (hfI:h.get? fI=some oI) (hfc:oI.cls=.type "function")
    (hq:wpAny (model prog w) (A.under (.builtin "type.__call__" ⟨.ref C::rest,[]⟩)) (call (.ref fI) (.ref (h.objs.size+1)::rest)) (fun r s'=>r=.none∧Q (.ref (h.objs.size+1)) s') E ⟨(h.push { cls:=.type "tuple", data:=.seq rest.toArray }).push (excNew C h.objs.size),g,d,t,os⟩) (hrest:rest.length≤sizeLine:=by size_fits) :
    wpAny (model prog w) A (call (.ref C) rest) Q E ⟨h,g,d,t,os⟩:=by
  have f1:=tc_lookup
  have f2:=tc_bind (.ref C)
  have hT:(⟨h,g,d,t,os⟩:Shared).TypeIs (.ref C) "type" := ⟨_,hC,rfl⟩
  refine wpAny_call (codeAny_of_tree ?_)
  show wpAny _ _ (callAny (.ref C) _) _ _ _
  repeat (any_goals (first | assumption | with_reducible refine wpAny_loadPart_at hC ?_ | wp_step))
  refine ⟨rfl,?_⟩
  refine codeAny_call_builtin_at (Code.quiet_builtin _ (by decide +kernel)) entry_typeCall (wpAny_check_type_call_sub hC (type_call_initX (hrest:=hrest) Fn hcB hcA hcN hC hi hfI hfc ?_))
  exact hq
end
end L2
namespace L2
open PySem PySem.Spec PyProof.Rows
def ObP (e:Addr) (p:Obj→Prop):HO:=.ext fun h=>∃ o,h.get? e=some o∧p o
theorem ObP.ok {P:Program} {w:World} {H:Hp} {h:Heap} {e:Addr} {p:Obj→Prop} {o:Obj} (ho:h.get? e=some o) (hp:p o):ObjOk P w H h e (ObP e p) :=
  ⟨⟨o,ho,hp⟩,⟨o,ho⟩,fun _ _ ⟨o,ho,hp⟩ k=>⟨o,k o ho,hp⟩⟩
theorem ObP.get {P:Program} {w:World} {H:Hp} {h:Heap} {e:Addr} {p:Obj→Prop} (x:HOk P w H h) (he:H e=some (ObP e p)):∃ o,h.get? e=some o∧p o:=(x e _ he).1
abbrev vs6 (a:Addr):Array Value:=#[.ref a,.none,.none,.none,.bool false,.none]
def ExcN (C e:Addr):HO:=ObP e fun o=>∃ a,o=excObj C none (vs6 a)
def ExcD (C e dx:Addr):HO:=ObP e fun o=>∃ a,o=excObj C (some dx) (vs6 a)
def ExcT (C e dx:Addr):HO:=ObP e fun o=>∃ vs,o=excObj C (some dx) vs∧vs.size=6∧vs[2]?=some Value.none
structure MkX (K:PySem.W.Frag) (C f:Addr):Prop where
  obj:∃ (nm q:Str) (N:Addr) (bs bm:List Value) (hdct:Bool) (sn:List Str) (sub:List Value) (ab:Bool) (col:Option Bool) (dd:Option Addr) (k0 k1 k2 k3 k5:Option Value),K.lookup C=some (excClassObj nm q C N bs bm hdct sn sub ab col dd k0 k1 k2 k3 k5 "ValueError.__new__") ∧
    (Value.ref C::bm).contains (.type "ValueError")=true∧(Value.ref C::bm).contains (.type "AttributeError")=false∧(Value.ref C::bm).contains (.type "NameError")=false
  init:PySem.W.findIn K (.ref C) "__init__" = some (some (.ref f))
  fn:∃ o,K.lookup f=some o∧o.cls=.type "function"
  kp:PySem.W.keepIn K (.ref C)=true
section
variable {X:Cx} {CX:CXT} {k:Nat} {f C:Addr} {fd:FuncData} {ps:List Str} {sp:Sp} {dvs:List V} {ds:List Value} {E:XK} {x m:Str} {p pos apos:Pos} {e o:Expr} {es:List Expr} {ta:TE} {t:TA}
theorem run_makeX {pins:List (Addr × Obj)} {σ:St} {H:Hp} {s:Shared} {Q:VK} {us:List Value} {vs:List V} (M:MkX X.K C f) (Fo:FnOk X.prog X.w X.K X.mg X.base CX k f fd ps sp) (hr:Room (k+1) X.A) (hb:Binds X.K fd ps ds) (hd:Vals dvs ds)
    (hx:Passes CX X E) (I:Inv X pins σ H s) (r:Vals vs us) (hz:vs.length≤sizeLine)
    (h:∀ e,H e=none→sp (.ref e::(vs++dvs)) (upd H e (ExcN C e)) (fun v H2=>v=.non∧Q (.ref e) H2) E) :
    wpAny (model X.prog X.w) X.A (call (.ref C) us) (EP X pins σ Q) X.xe s:=by
  have hf:H (s.heap.objs.size+1)=none:=I.hok.fresh (Nat.le_succ _)
  have hq:=h (s.heap.objs.size+1) hf
  obtain ⟨nm,q,N,bs,bm,hdct,sn,sub,ab,col,dd,k0,k1,k2,k3,k5,lk,c1,c2,c3⟩:=M.obj
  obtain ⟨oI,lf,hfc⟩:=M.fn
  obtain ⟨hh,g,d,tk,os⟩:=s
  have I1:Inv X pins σ H { heap:=hh.push { cls:=.type "tuple", data:=.seq us.toArray },gens:=g,drawn:=d,toks:=tk,os:=os }:=I.kept (t':=tk) fun b o e=>Heap.get?_push_of_some _ e
  have sz1:(hh.push { cls:=.type "tuple", data:=.seq us.toArray }).objs.size=hh.objs.size+1:=Heap.size_push ..
  have I2:Inv X pins σ (upd H (hh.objs.size+1) (ExcN C (hh.objs.size+1))) { heap:=(hh.push { cls:=.type "tuple", data:=.seq us.toArray }).push (excNew C hh.objs.size),gens:=g,drawn:=d,toks:=tk,os:=os } :=
    I1.laid (t':=tk) (fun b o e=>Heap.get?_push_of_some _ e) (Nat.le_of_eq sz1) (ObP.ok (o:=excNew C hh.objs.size) (by rw [← sz1]; exact Heap.get?_push_size _ rfl) ⟨_,rfl⟩)
  have r2:Vals (V.ref (hh.objs.size+1)::(vs++dvs)) (Value.ref (hh.objs.size+1)::(us++ds)):=.cons rfl (r.append hd)
  have hl:(Value.ref (hh.objs.size+1)::us++ds).length=ps.length:=by
    have e:=r2.length
    rw [Fo.len _ _ _ _ hq] at e
    exact e.symm
  refine call_exc_initX PySem.F.excBase_ValueError c1 c2 c3 (I.kIn _ _ lk) (PySem.W.looks_findIn I.kIn M.init) (I.kIn _ _ lf) hfc ?_ (by rw [← r.length]; exact hz)
  refine wpAny_call (codeAny_mono (Fo.run _ X.stack _ _ ⟨Value.ref (hh.objs.size+1)::us,[]⟩ (Value.ref (hh.objs.size+1)::(us++ds)) _ _ E (hr.make C us []) (I2.env0.make C us []) (hb _ (Value.ref (hh.objs.size+1)::us) I2.kIn hl) r2 hq) fun r s' hq'=>?_)
  cases r with
  | error e=>exact hx pins σ _ _ e s' I2 hq'
  | ok fl =>
    cases fl with
    | ret u =>
      obtain ⟨v,H',I3,rv,ev,q3⟩:=I2.after hq'
      subst ev
      exact ⟨rv,⟨V.ref (hh.objs.size+1),H',I3,rfl,q3⟩⟩
    | next=>exact False.elim hq'
    | brk=>exact False.elim hq'
    | cont=>exact False.elim hq'
def tMakeX (C:Addr) (sp:Sp) (dvs:List V) (E:XK) (t:TA):TE:=fun σ H Q=>t σ H fun vs H1=>vs.length≤sizeLine∧∀ e,H1 e=none →
  sp (.ref e::(vs++dvs)) (upd H1 e (ExcN C e)) (fun v H2=>v=.non∧Q (.ref e) H2) E
theorem pe_makeX (M:MkX X.K C f) (F:FnOk X.prog X.w X.K X.mg X.base CX k f fd ps sp) (hr:Room (k+1) X.A) (hg:Gl X x) (hm:X.mg x=some (.ref C)) (hb:Binds X.K fd ps ds) (hd:Vals dvs ds) (hx:Passes CX X E)
    (ha:PA X (e::es) t) (hdb:(x == ("__debug__" : Str))=false:=by decide) (he:starEach (e::es) X.env=(false,eval e X.env)::starEach es X.env:=by rfl) (hpl:(backTo pos (starEach es X.env)).any (·.1)=false:=by rfl) :
    PE X (.Call (.Name x p) (e::es) [] pos) (tMakeX C sp dvs E t):=by
  intro pins s σ H Q I h
  refine wpAny_Call_Name_kw (ld_glob I hg hm ?_ hdb)
  refine PySem.W.callWith_K (h₀:=X.base) I.ok.mod.kin M.kp (thn (ha pos pins s σ H _ I h) fun us s1 ⟨vs,H1,I1,r,z,q⟩=>⟨I1.kIn,?_⟩) he hpl
  exact run_makeX M F hr hb hd hx I1 r z q
end
end L2
namespace L2
open PySem PySem.Spec PyProof.Rows
structure ClsFn (K:PySem.W.Frag) (C f:Addr) (name:Str):Prop where
  ga:PySem.W.specialIn K (.ref C) "__getattribute__" = some (some (.builtin "type.__getattribute__"))
  rd:PySem.W.readsIn K C (.type "type")=true
  fc:(match PySem.W.findCls K (.ref C) (.type "type") name with | some (.val v)=>some v | _=>none)=some (.ref f)
  kp:PySem.W.keepIn K (.ref f)=true
theorem ClsFn.find {K:PySem.W.Frag} {C f:Addr} {name:Str} (c:ClsFn K C f name):PySem.W.findCls K (.ref C) (.type "type") name=some (.val (.ref f)):=by
  have h:=c.fc
  split at h
  · rename_i v e
    cases h
    exact e
  · cases h
section
variable {X:Cx} {CX:CXT} {k:Nat} {f C:Addr} {fd:FuncData} {ps:List Str} {sp:Sp} {dvs:List V} {ds:List Value} {E:XK} {x m:Str} {p pos apos:Pos} {e o:Expr} {es:List Expr} {ta:TE} {t:TA}
theorem pe_clscall {pl:Sem Bool} (hg:Gl X x) (hm:X.mg x=some (.ref C)) (c:ClsFn X.K C f m) (Fo:FnOk X.prog X.w X.K X.mg X.base CX k f fd ps sp) (hr:Room k X.A) (hb:Binds X.K fd ps ds) (hd:Vals dvs ds) (hx:Passes CX X E) (ha:PA X (e::es) t) (hdb:(x == ("__debug__" : Str))=false:=by decide)
    (hst:starEach (e::es) X.env=(false,eval e X.env)::starEach es X.env:=by rfl) (hpl:(backTo pos (starEach es X.env)).any (·.1)=false:=by rfl)
    (ht:eval (.Call (.Attribute (.Name x p) m apos) (e::es) [] pos) X.env=(do
      let ov ← eval (.Name x p) X.env
      standAt apos.atName
      let (f,first) ← holding [ov] (getMethod ov m pl)
      callWith pos f first (backTo pos (starEach (e::es) X.env)) (backToKw pos (keywordEach [] X.env))):=by rfl) :
    PE X (.Call (.Attribute (.Name x p) m apos) (e::es) [] pos) (tCall sp dvs E t):=by
  intro pins s σ H Q I h
  refine PySem.W.methodCall_KW (pl:=pl) ?_ ht
  refine thn (pe_glob (v:=.ref C) hg hm rfl hdb pins s σ H (fun v H'=>v=.ref C∧H'=H) I ⟨rfl,rfl⟩) fun u s1 ⟨v,H1,I1,r1,ev,eH⟩=>?_
  subst ev eH
  cases r1
  refine PySem.W.method_cls I1.kIn c.ga (PySem.W.cls_value I1.kIn c.rd c.find rfl ?_)
  have I2:=I1.tok (s1.toks+1)
  refine PySem.W.callWith_K (first:=[]) (h₀:=X.base) I2.ok.mod.kin c.kp (thn (ha pos pins _ σ H1 _ I2 h) fun us s2 ⟨vs,H2,I3,r,q⟩=>⟨I3.kIn,?_⟩) hst hpl
  exact run_fn Fo hr hb hd hx I3 r q
end
section
variable {prog:Program} {w:World} {A:Around} {E:Value→Shared→Prop} {h:Heap} {g:Array GenState} {d:Drawn} {t:Nat} {os:OsState}
variable {nm q:Str} {C N:Addr} {bs bm:List Value} {hdct:Bool} {sn:List Str} {sub:List Value} {ab:Bool} {col:Option Bool} {dd:Option Addr} {k0 k1 k2 k3 k5:Option Value} {B newId nid initId inN:String} {bmN bmB:List Value}
theorem check_initX (Fb:ExcBaseFacts B nid initId bmB) (hcB:(Value.ref C::bm).contains (.type B)=true) {M:Model} {e:Addr} {oe:Obj} {rest:List Value} {Q:Unit→Shared→Prop}
    (hC:h.get? C=some (excClassObj nm q C N bs bm hdct sn sub ab col dd k0 k1 k2 k3 k5 newId)) (he:h.get? e=some oe) (hcls:oe.cls=.ref C) (hq:Q () ⟨h,g,d,t,os⟩) :
    wpAny M A (checkBuiltinCall initId ⟨.ref e::rest,[]⟩) Q E ⟨h,g,d,t,os⟩:=by
  have hshort:=Fb.noStar
  simp only [checkBuiltinCall,Fb.initKind,Fb.initSplit,Fb.initRow]
  repeat (first | (with_reducible refine wpAny_loadPart_at he ?_; rw [hcls]) | with_reducible refine wpAny_loadPart_at hC ?_ | (with_reducible refine wpAny_isSubtype_exc hC ?_; rw [hcB]) | wp_step)
  refine wpAny_onRaise ?_
  rw [show ∀ (a b:String) (n:Nat),Bind.check ⟨.positional, "*", B,.self,[⟨"args", .varPos,false⟩]⟩ a b n (List.map (fun x=>x.fst) ({ pos:=Value.ref e::rest }:Args).kw)=pure () from
    fun a b n=>check_star_args _ _ _ _ _ _]
  exact wpAny_pure hq
theorem exc_initX (Fb:ExcBaseFacts B nid initId bmB) (hcB:(Value.ref C::bm).contains (.type B)=true) {e a:Addr} {dx:Option Addr} {rest:List Value} {Q:Value→Shared→Prop}
    (hC:h.get? C=some (excClassObj nm q C N bs bm hdct sn sub ab col dd k0 k1 k2 k3 k5 newId)) (he:h.get? e=some (excObj C dx (vs6 a))) (hrest:rest.length≤sizeLine)
    (hq:Q .none ⟨(h.push { cls:=.type "tuple", data:=.seq rest.toArray }).update e (Obj.mapFields (·.setIfInBounds 0 (.ref h.objs.size))),g,d,t,os⟩) :
    wpAny (model prog w) A (call (.builtin initId) (.ref e::rest)) Q E ⟨h,g,d,t,os⟩:=by
  refine wpAny_call (codeAny_call_builtin Fb.init.plain Fb.initEntry (check_initX Fb hcB hC he rfl ?_))
  wp_walk
  exact hq
end
end L2
namespace L2
open PySem PySem.Spec PyProof.Rows
theorem val_find {K:PySem.W.Frag}:PySem.W.findCls K (.type "ValueError") (.type "type") "__init__" = some (.val (.builtin "ValueError.__init__")):=by
  with_unfolding_all rfl
theorem val_type:typeOf (.type "ValueError")=pure (.type "type"):=by
  kernel_rfl
theorem upd_id {H:Hp} {e:Addr} {o:HO} (h:H e=some o):upd H e o=H:=by
  funext b
  unfold upd
  split
  · rename_i z
    rw [z,h]
  · rfl
section
variable {prog:Program} {w:World} {A:Around} {E:Value→Shared→Prop} {s:Shared} {K:PySem.W.Frag} {name:Str}
theorem method_typeX {T:String} {v:Value} {pl:Sem Bool} {Q:Value × List Value→Shared→Prop} (X:K.In s.heap) (ht:typeOf (.type T)=pure (.type "type")) (hs:Manifest.isStub T=false)
    (e:PySem.W.findCls K (.type T) (.type "type") name=some (.val v)) (hh:PySem.W.handedIn v=true) (h:Q (v,[]) { s with toks:=s.toks+1 }):wpAny (model prog w) A (getMethod (.type T) name pl) Q E s:=by
  have hstub:opaqueClassAbove (.type T)=pure none:=by unfold opaqueClassAbove; dsimp only; rw [hs]; rfl
  have L0:PySem.W.Looks (model prog w) s.heap (typeOf (.type T)) (.type "type"):=PySem.W.Looks.of_pure ht
  have hg:PySem.W.findIn K (.type "type") "__getattribute__" = some (some (.builtin "type.__getattribute__")):=PySem.W.type_tga
  unfold getMethod specialOf
  refine wpAny_bind (wpAny_bind (L0.here ((PySem.W.looks_findIn X hg).here ?_)))
  dsimp only
  rw [if_pos PySem.W.canon_tga]
  refine wpAny_bind (wpAny_mono (Q:=fun v=>Q (v,[])) (E:=E) ?_ (fun _ _ z=>wpAny_pure z) fun _ _ z=>z)
  have LO:PySem.W.Looks (model prog w) s.heap (opaqueClassAbove (.type T)) none:=PySem.W.Looks.of_pure hstub
  refine PySem.W.cls_open X LO L0 hg (PySem.W.looks_hook X (r:=none) (by rfl)) (by show PySem.W.subIn K _ _=_; rfl) e
    (wpAny_pure (by show wpAny _ _ (PySem.handedOut v) _ _ _; rw [PySem.W.handedOut_of hh]; exact wpAny_pure h))
end
section
variable {X:Cx} {p pos apos:Pos} {e1 e2:Expr} {t:TA}
theorem boot_val:bootBuiltins ("ValueError" : Str)=some (.type "ValueError"):=by decide +kernel
theorem pe_valinit {pl:Sem Bool} (hg:Gl X "ValueError") (hm:X.mg "ValueError" = none) (ha:PA X [e1,e2] t)
    (hst:starEach [e1,e2] X.env=(false,eval e1 X.env)::starEach [e2] X.env:=by rfl) (hpl:(backTo pos (starEach [e2] X.env)).any (·.1)=false:=by rfl)
    (ht:eval (.Call (.Attribute (.Name "ValueError" p) "__init__" apos) [e1,e2] [] pos) X.env=(do
      let ov ← eval (.Name "ValueError" p) X.env
      standAt apos.atName
      let (f,first) ← holding [ov] (getMethod ov "__init__" pl)
      callWith pos f first (backTo pos (starEach [e1,e2] X.env)) (backToKw pos (keywordEach [] X.env))):=by rfl) :
    PE X (.Call (.Attribute (.Name "ValueError" p) "__init__" apos) [e1,e2] [] pos) (fun σ H Q=>t σ H fun vs H1=>∃ e C f x,vs=[.ref e,x]∧H1 e=some (ExcN C e)∧MkX X.K C f∧Q .non H1):=by
  intro pins s σ H Q I h
  refine PySem.W.methodCall_KW (pl:=pl) ?_ ht
  have hP:PE X (.Name "ValueError" p) (tC (V.ty "ValueError")):=pe_bltn hg hm boot_val rfl
  refine thn (hP pins s σ H (fun v H'=>v=.ty "ValueError" ∧ H'=H) I ⟨rfl,rfl⟩) fun u s1 ⟨v,H1,I1,r1,ev,eH⟩=>?_
  subst ev eH
  cases r1
  refine method_typeX I1.kIn val_type (by decide +kernel) val_find rfl ?_
  have I2:=I1.tok (s1.toks+1)
  have hA:=ha pos pins _ σ H1 _ I2 h
  rw [hst] at hA ⊢
  refine Calls.callWith_builtin (by show (false || (backTo pos (starEach [e2] X.env)).any (·.1))=false; rw [hpl] <;> rfl) (Calls.evalArgs_plain ?_)
  refine thn hA fun us s2 ⟨vs,H2,I3,r2,e,C,f,x,ev,he,M,q⟩=>?_
  subst ev
  cases r2 with
  | cons r rr =>
    cases rr with
    | @cons _ u2 _ _ r' rr =>
      cases rr
      cases r
      obtain ⟨nm,qn,N,bs,bm,hdct,sn,sub,ab,col,dd,k0,k1,k2,k3,k5,lk,c1,c2,c3⟩:=M.obj
      obtain ⟨o,ho,a,rfl⟩:=ObP.get I3.hok he
      obtain ⟨hh,g,d,tk,os⟩:=s2
      show wpAny _ _ (call (.builtin "ValueError.__init__") (.ref e::[u2])) _ _ _
      refine exc_initX PySem.F.excBase_ValueError c1 (I3.kIn _ _ lk) ho (by show 1≤sizeLine; decide) ?_
      have I4:Inv X pins σ H2 { heap:=hh.push { cls:=.type "tuple", data:=.seq [u2].toArray },gens:=g,drawn:=d,toks:=tk,os:=os }:=I3.kept (t':=tk) fun b o e=>Heap.get?_push_of_some _ e
      have ho4:=Heap.get?_push_of_some { cls:=.type "tuple", data:=.seq [u2].toArray } ho
      have hu:=Heap.get?_update_self (Obj.mapFields (·.setIfInBounds 0 (Value.ref hh.objs.size))) ho4 rfl
      have I5:Inv X pins σ (upd H2 e (ExcN C e)) { heap:=(hh.push { cls:=.type "tuple", data:=.seq [u2].toArray }).update e (Obj.mapFields (·.setIfInBounds 0 (Value.ref hh.objs.size))),gens:=g,drawn:=d,toks:=tk,os:=os } :=
        I4.write (x:=e) (e:=e) (t':=tk) (by rw [he]; exact trivial) (.inl rfl) (fun b u hb hu=>(Heap.get?_update_other _ _ (Ne.symm hb)).trans hu) ⟨_,hu⟩ (ObP.ok hu ⟨hh.objs.size,rfl⟩)
      rw [upd_id he] at I5
      exact ⟨.non,H2,I5,rfl,q⟩
end
end L2
namespace L2
open PySem Builtin Builtin.ObjectAttr
section
variable {prog:Program} {w:World} {A:Around} {E:Value→Shared→Prop} {h:Heap} {g:Array GenState} {d:Drawn} {t:Nat} {os:OsState}
variable {nm q:Str} {C N x:Addr} {bs bm:List Value} {sn:List Str} {sub:List Value} {ab:Bool} {col:Option Bool} {dd:Option Addr} {k0 k1 k2 k3 k5:Option Value} {newId:String} {name:Str} {v:Value} {vs:Array Value}
theorem check_saX {M:Model} {B sa owner:String} {bmB:List Value} {o:Obj} {nameV:Value} {Q:Unit→Shared→Prop} (SF:StoreFacts B bmB sa owner) (hcB:(Value.ref C::bm).contains (.type owner)=true)
    (hC:h.get? C=some (excClassObj nm q C N bs bm true sn sub ab col dd k0 k1 k2 k3 k5 newId)) (hx:h.get? x=some o) (hc:o.cls=.ref C) (hq:Q () ⟨h,g,d,t,os⟩) :
    wpAny M A (checkBuiltinCall sa ⟨[.ref x,nameV,v],[]⟩) Q E ⟨h,g,d,t,os⟩:=by
  have ha:=SF.args (.ref x) nameV v
  simp only [checkBuiltinCall,SF.kind,SF.split]
  refine wpAny_bind ?_
  · unfold isInstance
    repeat (first | (with_reducible refine wpAny_loadPart_at hx ?_; rw [hc]) | (with_reducible refine wpAny_isSubtype_exc hC ?_; rw [hcB]) | wp_step)
    cases hsig:Manifest.signature? sa with
    | none=>exact wpAny_pure hq
    | some sig =>
      simp only [argsOk,hsig] at ha
      have h2:Bind.checkArgs sa sig ⟨[.ref x,nameV,v],[]⟩=pure ():=ha
      show wpAny M A (Bind.checkArgs sa sig ⟨[.ref x,nameV,v],[]⟩) Q E _
      rw [h2]; exact wpAny_pure hq
theorem store_entryX {tk:Tok} {Q:Fin→Shared→Prop} (hpass:refuseLoop (.ref x) "__setattr__" (.ref C::bm)=pure ())
    (hC:h.get? C=some (excClassObj nm q C N bs bm true sn sub ab col dd k0 k1 k2 k3 k5 newId)) (hL:PySem.W.Looks (model prog w) h (typeLookup (.ref C) name) none) {o:Obj} (hx:h.get? x=some o) (hc:o.cls=.ref C) (hdn:o.dict=none) (hnc:∀ c,o.data ≠ .cls c)
    (hq:∀ h' tk',h'.get? x=some { cls:=o.cls,dict:=some h.objs.size,data:=o.data,slots:=o.slots }→h'.Ns1 h.objs.size (fun y=>if y=name then some v else none)→(∀ b o,b ≠ x→h.get? b=some o→h'.get? b=some o)→Q (.done (.ret .none)) ⟨h',g,d,tk',os⟩) :
    wpAny (model prog w) A (Builtin.«object.__setattr__» ⟨[.ref x,.str name tk,v],[]⟩) Q E ⟨h,g,d,t,os⟩:=by
  have hL':∀ {A':Around} {E':Value→Shared→Prop} {Q':Option Value→Shared→Prop} {t':Nat},Q' none ⟨h,g,d,t',os⟩→wpAny (model prog w) A' (typeLookup (.ref C) name) Q' E' ⟨h,g,d,t',os⟩:=fun q'=>hL _ _ _ _ (fun _ _ e=>e) q'
  unfold Builtin.«object.__setattr__»
  repeat (first | rw [refuse_eq] | (rw [hpass]) | (with_reducible refine wpAny_loadPart_at hx ?_; rw [hc]) | with_reducible refine wpAny_mroOf_exc hC ?_ | (with_reducible refine hL' ?_) | wp_step)
  rw [hdn,if_neg (by simp [typeHasDict])]
  split
  · rename_i hcd
    cases hcd
  split
  · rename_i c hcd
    exact absurd hcd (hnc c)
  · have hx₁:(h.push { cls:=.type "dict", data:=.dict #[] }).get? x=some o:=Heap.get?_push_of_some _ hx
    have hxs:x ≠ h.objs.size:=Nat.ne_of_lt (Heap.lt_size hx)
    refine wpAny_bind (wpAny_alloc' ?_)
    refine wpAny_bind (wpAny_update' hx₁ ?_)
    refine wpAny_pure ?_
    have hgd:((h.push { cls:=.type "dict", data:=.dict #[] }).update x fun o=>{ cls:=o.cls,dict:=some h.objs.size,data:=o.data,slots:=o.slots }).get? h.objs.size
        = some { cls:=.type "dict", data:=.dict #[] } :=
      (Heap.get?_update_ne _ _ _ _ hxs.symm).trans (Heap.get?_push_at rfl rfl)
    have hnd:((h.push { cls:=.type "dict", data:=.dict #[] }).update x fun o=>{ cls:=o.cls,dict:=some h.objs.size,data:=o.data,slots:=o.slots }).Ns h.objs.size (fun _=>none) :=
      ⟨_,#[],_,hgd,rfl,fun e he=>absurd he (by simp),fun _=>rfl⟩
    show wpAny _ _ (storeInDict h.objs.size (.str name tk) name v) _ _ _
    unfold storeInDict newKeyGuard
    refine wpAny_bind (wpAny_pure (wpAny_bind (wpAny_nsSet1 (Heap.Ns1.of_empty hnd) fun h' hn' hs=>?_)))
    obtain ⟨oD,esD,epD,hoD,hdD,hcD⟩:=hn'.count (Within.cons name v Within.nil)
    refine wpAny_bind (wpAny_lookBehind hoD (by rw [hdD]; exact pastItsLine_dict (Nat.le_trans hcD (by rw [List.length_cons,List.length_nil,sizeLine_eq]; omega))) ?_)
    wp_walk
    refine hq h' _ ?_ hn' fun b ob hbx hb=>?_
    · refine (hs.2 x hxs).trans (Heap.get?_update_self _ hx₁ ?_)
      have hfr:=(Heap.get?_some_iff.mp hx).2
      obtain ⟨oc,od,odt,osl⟩:=o
      cases odt <;> first | rfl | exact hfr
    · exact (hs.2 b (Nat.ne_of_lt (Heap.lt_size hb))).trans ((Heap.get?_update_ne _ _ _ _ hbx).trans (Heap.get?_push_of_some _ hb))
theorem store_attrX {B sa owner:String} {bmB:List Value} {Q:Unit→Shared→Prop} (SF:StoreFacts B bmB sa owner) (hcO:(Value.ref C::bm).contains (.type owner)=true) (hpass:refuseLoop (.ref x) "__setattr__" (.ref C::bm)=pure ())
    (hC:h.get? C=some (excClassObj nm q C N bs bm true sn sub ab col dd k0 k1 k2 k3 k5 newId)) (hS:PySem.W.Looks (model prog w) h (typeLookup (.ref C) "__setattr__") (some (.builtin sa)))
    (hL:PySem.W.Looks (model prog w) h (typeLookup (.ref C) name) none) {o:Obj} (hx:h.get? x=some o) (hc:o.cls=.ref C) (hdn:o.dict=none) (hnc:∀ c,o.data ≠ .cls c)
    (hq:∀ h' tk',h'.get? x=some { cls:=o.cls,dict:=some h.objs.size,data:=o.data,slots:=o.slots }→h'.Ns1 h.objs.size (fun y=>if y=name then some v else none)→(∀ b o,b ≠ x→h.get? b=some o→h'.get? b=some o)→Q () ⟨h',g,d,tk',os⟩) :
    wpAny (model prog w) A (setAttr (.ref x) name v) Q E ⟨h,g,d,t,os⟩:=by
  have f3:=SF.slot.bind (.ref x)
  have hS':∀ {A':Around} {E':Value→Shared→Prop} {Q':Option Value→Shared→Prop} {t':Nat},Q' (some (.builtin sa)) ⟨h,g,d,t',os⟩→wpAny (model prog w) A' (typeLookup (.ref C) "__setattr__") Q' E' ⟨h,g,d,t',os⟩:=fun q'=>hS _ _ _ _ (fun _ _ e=>e) q'
  unfold setAttr callSpecial? specialOf
  repeat (any_goals (first | assumption | (with_reducible refine wpAny_loadPart_at hx ?_; rw [hc]) | (with_reducible refine hS' ?_) | wp_step))
  refine codeAny_call_builtin SF.slot.plain SF.entry (check_saX SF hcO hC hx hc (store_entryX hpass hC hL hx hc hdn hnc fun h' tk' i1 i2 i3=>?_))
  repeat (any_goals (first | assumption | wp_step))
  exact hq h' tk' i1 i2 i3
end
end L2
namespace L2
open PySem Builtin Builtin.ObjectAttr
section
variable {prog:Program} {w:World} {A:Around} {E:Value→Shared→Prop} {h:Heap} {g:Array GenState} {d:Drawn} {t:Nat} {os:OsState} {a dx:Addr} {o:Obj} {v:Value}
  {nm q:Str} {C N:Addr} {bs bm:List Value} {sn:List Str} {sub:List Value} {ab:Bool} {col:Option Bool} {dd:Option Addr} {k0 k1 k2 k3 k5:Option Value} {newId:String} {mA:Str→Option Value} {name:Str}
theorem check_gaX {M:Model} {nameV:Value} {Q:Unit→Shared→Prop} (hC:h.get? C=some (excClassObj nm q C N bs bm true sn sub ab col dd k0 k1 k2 k3 k5 newId)) (hcB:(Value.ref C::bm).contains (.type "BaseException")=true)
    (hx:h.get? a=some o) (hc:o.cls=.ref C) (hq:Q () ⟨h,g,d,t,os⟩):wpAny M A (checkBuiltinCall "BaseException.__getattribute__" ⟨[.ref a,nameV],[]⟩) Q E ⟨h,g,d,t,os⟩:=by
  have hk:builtinKind "BaseException.__getattribute__" = some .slot:=by decide +kernel
  have hsplit:splitId "BaseException.__getattribute__" = some ("BaseException", "__getattribute__"):=by decide +kernel
  have ha:=F.args_bexc_ga (.ref a) nameV
  simp only [checkBuiltinCall,hk,hsplit]
  refine wpAny_bind ?_
  · unfold isInstance
    repeat (first | (with_reducible refine wpAny_loadPart_at hx ?_; rw [hc]) | (with_reducible refine wpAny_isSubtype_exc hC ?_; rw [hcB]) | wp_step)
    exact hq
theorem load_entryX {tk:Tok} {Q:Fin→Shared→Prop} (hC:h.get? C=some (excClassObj nm q C N bs bm true sn sub ab col dd k0 k1 k2 k3 k5 newId)) (hL:PySem.W.Looks (model prog w) h (typeLookup (.ref C) name) none)
    (hx:h.get? a=some o) (hc:o.cls=.ref C) (hdx:o.dict=some dx) (hnc:∀ c,o.data ≠ .cls c) (hns:h.Ns dx mA) (hv:mA name=some v) (hq:Q (.done (.ret v)) ⟨h,g,d,t,os⟩) :
    wpAny (model prog w) A (Builtin.«object.__getattribute__» ⟨[.ref a,.str name tk],[]⟩) Q E ⟨h,g,d,t,os⟩:=by
  have hL':∀ {A':Around} {E':Value→Shared→Prop} {Q':Option Value→Shared→Prop} {t':Nat},Q' none ⟨h,g,d,t',os⟩→wpAny (model prog w) A' (typeLookup (.ref C) name) Q' E' ⟨h,g,d,t',os⟩:=fun q'=>hL _ _ _ _ (fun _ _ e=>e) q'
  unfold Builtin.«object.__getattribute__»
  repeat (first | (with_reducible refine wpAny_loadPart_at hx ?_; rw [hc]) | (with_reducible refine hL' ?_) | wp_step)
  split
  · rename_i c hcd
    exact absurd hcd (hnc c)
  · repeat (first | (with_reducible refine wpAny_loadPart_at hx ?_; rw [hc]) | wp_step)
    rw [hdx]
    repeat (first | (with_reducible refine wpAny_nsGet hns ?_; rw [hv]) | wp_step)
    exact hq
end
end L2
namespace L2
open PySem Builtin Builtin.ObjectAttr
section
variable {prog:Program} {w:World} {A:Around} {E:Value→Shared→Prop} {h:Heap} {g:Array GenState} {d:Drawn} {t:Nat} {os:OsState} {a dx:Addr} {o:Obj} {v:Value}
  {nm q:Str} {C N:Addr} {bs bm:List Value} {sn:List Str} {sub:List Value} {ab:Bool} {col:Option Bool} {dd:Option Addr} {k0 k1 k2 k3 k5:Option Value} {newId:String} {mA:Str→Option Value} {name:Str}
theorem load_byX {tk:Tok} {fill expr:Bool} {Q:Value→Shared→Prop} (hC:h.get? C=some (excClassObj nm q C N bs bm true sn sub ab col dd k0 k1 k2 k3 k5 newId)) (hcB:(Value.ref C::bm).contains (.type "BaseException")=true)
    (hG:PySem.W.Looks (model prog w) h (typeLookup (.ref C) "__getattribute__") (some (.builtin "BaseException.__getattribute__"))) (hA:PySem.W.Looks (model prog w) h (typeLookup (.ref C) "__getattr__") none) (hL:PySem.W.Looks (model prog w) h (typeLookup (.ref C) name) none)
    (hx:h.get? a=some o) (hc:o.cls=.ref C) (hdx:o.dict=some dx) (hnc:∀ c,o.data ≠ .cls c) (hns:h.Ns dx mA) (hv:mA name=some v) (hh:PySem.W.handedIn v=true) (hq:Q v ⟨h,g,d,t,os⟩) :
    wpAny (model prog w) A (getAttrBy (.ref a) (.str name tk) fill expr) Q E ⟨h,g,d,t,os⟩:=by
  have FB:=F.attrBase_ValueError
  have f3:=FB.ga.bind (.ref a)
  have hx0:(expr && onTheHeap (Value.builtin "BaseException.__getattribute__"))=false:=by cases expr <;> rfl
  have hx2:(Value.builtin "BaseException.__getattribute__" == Value.builtin "object.__getattribute__")=false:=by decide +kernel
  have hx1:(onTheHeap (Value.ref C) && Value.builtin "BaseException.__getattribute__" == Value.builtin "object.__getattribute__")=false:=by rw [hx2]; rfl
  have hG':∀ {A':Around} {E':Value→Shared→Prop} {Q':Option Value→Shared→Prop} {t':Nat},Q' (some (.builtin "BaseException.__getattribute__")) ⟨h,g,d,t',os⟩→wpAny (model prog w) A' (typeLookup (.ref C) "__getattribute__") Q' E' ⟨h,g,d,t',os⟩:=fun q'=>hG _ _ _ _ (fun _ _ e=>e) q'
  have hA':∀ {A':Around} {E':Value→Shared→Prop} {Q':Option Value→Shared→Prop} {t':Nat},Q' none ⟨h,g,d,t',os⟩→wpAny (model prog w) A' (typeLookup (.ref C) "__getattr__") Q' E' ⟨h,g,d,t',os⟩:=fun q'=>hA _ _ _ _ (fun _ _ e=>e) q'
  repeat (any_goals (first | assumption | (with_reducible refine wpAny_loadPart_at hx ?_; rw [hc]) | with_reducible refine hG' ?_ | with_reducible refine hA' ?_ | wp_step))
  refine codeAny_call_builtin FB.ga.plain F.entry_bexc_ga (check_gaX hC hcB hx hc (load_entryX hC hL hx hc hdx hnc hns hv ?_))
  show wpAny _ _ (handedOut v) _ _ _
  rw [PySem.W.handedOut_of hh]
  exact wpAny_pure hq
end
end L2
namespace L2
open PySem Builtin Builtin.ObjectAttr
section
variable {prog:Program} {w:World} {A:Around} {E:Value→Shared→Prop} {h:Heap} {g:Array GenState} {d:Drawn} {t:Nat} {os:OsState} {a:Addr} {o:Obj}
  {nm q:Str} {C N:Addr} {bs bm:List Value} {sn:List Str} {sub:List Value} {ab:Bool} {col:Option Bool} {dd:Option Addr} {k0 k1 k2 k3 k5:Option Value} {newId:String}
theorem class_getX {R:Result→Shared→Prop} (hC:h.get? C=some (excClassObj nm q C N bs bm true sn sub ab col dd k0 k1 k2 k3 k5 newId)) (hcO:(Value.ref C::bm).contains (.type "object")=true)
    (hx:h.get? a=some o) (hc:o.cls=.ref C) (hq:R (.ok (.ret (.ref C))) ⟨h,g,d,t,os⟩) :
    codeAny (model prog w) A (.call (.builtin "getset_descriptor.__get__") ⟨[.builtin "object.__class__", .ref a,.ref C],[]⟩) R ⟨h,g,d,t,os⟩:=by
  have hT5:(⟨h,g,d,t,os⟩:Shared).TypeIs (.builtin "object.__class__") "getset_descriptor" := F.typeOf_object_class
  have hcB:(Value.ref C::bm).contains (.type (".".intercalate ("object.__class__".cutAt '.').dropLast))=true:=by rw [F.owner_object_class]; exact hcO
  refine codeAny_call_builtin F.slot_gs_get.plain F.entry_gs_get (F.slot_gs_get.check _ _ _ _ _ _ _ _ hT5 (F.args_gs_get _ _ _) ?_)
  repeat (any_goals (first | assumption | (with_reducible refine wpAny_loadPart_at hx ?_; rw [hc]) | (with_reducible refine wpAny_isSubtype_exc hC ?_; rw [hcB]) | wp_step))
  refine ⟨Code.quiet_builtin _ (by decide +kernel),codeAny_builtin F.entry_object_class ?_⟩
  repeat (any_goals (first | assumption | (with_reducible refine wpAny_loadPart_at hx ?_; rw [hc]) | wp_step))
theorem class_entryX {tk:Tok} {Q:Fin→Shared→Prop} (hC:h.get? C=some (excClassObj nm q C N bs bm true sn sub ab col dd k0 k1 k2 k3 k5 newId)) (hcO:(Value.ref C::bm).contains (.type "object")=true)
    (hK:PySem.W.Looks (model prog w) h (typeLookup (.ref C) "__class__") (some (.builtin "object.__class__"))) (hx:h.get? a=some o) (hc:o.cls=.ref C) (hq:Q (.done (.ret (.ref C))) ⟨h,g,d,t,os⟩) :
    wpAny (model prog w) A (Builtin.«object.__getattribute__» ⟨[.ref a,.str "__class__" tk],[]⟩) Q E ⟨h,g,d,t,os⟩:=by
  have hT5:(⟨h,g,d,t,os⟩:Shared).TypeIs (.builtin "object.__class__") "getset_descriptor" := F.typeOf_object_class
  have f5:=F.typeOf_object_class
  have f6:=F.slot_gs_get.lookup
  have f7:=F.slot_gs_set.lookup
  have hK':∀ {A':Around} {E':Value→Shared→Prop} {Q':Option Value→Shared→Prop} {t':Nat},Q' (some (.builtin "object.__class__")) ⟨h,g,d,t',os⟩→wpAny (model prog w) A' (typeLookup (.ref C) "__class__") Q' E' ⟨h,g,d,t',os⟩:=fun q'=>hK _ _ _ _ (fun _ _ e=>e) q'
  repeat (any_goals (first | assumption | (with_reducible refine wpAny_loadPart_at hx ?_; rw [hc]) | with_reducible refine hK' ?_ | wp_step))
  refine class_getX hC hcO hx hc ?_
  repeat (any_goals (first | assumption | wp_step))
theorem class_byX {tk:Tok} {Q:Value→Shared→Prop} (hC:h.get? C=some (excClassObj nm q C N bs bm true sn sub ab col dd k0 k1 k2 k3 k5 newId)) (hcB:(Value.ref C::bm).contains (.type "BaseException")=true) (hcO:(Value.ref C::bm).contains (.type "object")=true)
    (hG:PySem.W.Looks (model prog w) h (typeLookup (.ref C) "__getattribute__") (some (.builtin "BaseException.__getattribute__"))) (hA:PySem.W.Looks (model prog w) h (typeLookup (.ref C) "__getattr__") none)
    (hK:PySem.W.Looks (model prog w) h (typeLookup (.ref C) "__class__") (some (.builtin "object.__class__"))) (hx:h.get? a=some o) (hc:o.cls=.ref C) (hq:Q (.ref C) ⟨h,g,d,t,os⟩) :
    wpAny (model prog w) A (getAttrBy (.ref a) (.str "__class__" tk) false) Q E ⟨h,g,d,t,os⟩:=by
  have FB:=F.attrBase_ValueError
  have f3:=FB.ga.bind (.ref a)
  have hx2:(Value.builtin "BaseException.__getattribute__" == Value.builtin "object.__getattribute__")=false:=by decide +kernel
  have hx1:(onTheHeap (Value.ref C) && Value.builtin "BaseException.__getattribute__" == Value.builtin "object.__getattribute__")=false:=by rw [hx2]; rfl
  have hG':∀ {A':Around} {E':Value→Shared→Prop} {Q':Option Value→Shared→Prop} {t':Nat},Q' (some (.builtin "BaseException.__getattribute__")) ⟨h,g,d,t',os⟩→wpAny (model prog w) A' (typeLookup (.ref C) "__getattribute__") Q' E' ⟨h,g,d,t',os⟩:=fun q'=>hG _ _ _ _ (fun _ _ e=>e) q'
  have hA':∀ {A':Around} {E':Value→Shared→Prop} {Q':Option Value→Shared→Prop} {t':Nat},Q' none ⟨h,g,d,t',os⟩→wpAny (model prog w) A' (typeLookup (.ref C) "__getattr__") Q' E' ⟨h,g,d,t',os⟩:=fun q'=>hA _ _ _ _ (fun _ _ e=>e) q'
  repeat (any_goals (first | assumption | (with_reducible refine wpAny_loadPart_at hx ?_; rw [hc]) | with_reducible refine hG' ?_ | with_reducible refine hA' ?_ | wp_step))
  refine codeAny_call_builtin FB.ga.plain F.entry_bexc_ga (check_gaX hC hcB hx hc (class_entryX hC hcO hK hx hc ?_))
  repeat (any_goals (first | assumption | wp_step))
theorem class_attrX {Q:Option Value→Shared→Prop} (hC:h.get? C=some (excClassObj nm q C N bs bm true sn sub ab col dd k0 k1 k2 k3 k5 newId)) (hcB:(Value.ref C::bm).contains (.type "BaseException")=true) (hcO:(Value.ref C::bm).contains (.type "object")=true)
    (hG:PySem.W.Looks (model prog w) h (typeLookup (.ref C) "__getattribute__") (some (.builtin "BaseException.__getattribute__"))) (hA:PySem.W.Looks (model prog w) h (typeLookup (.ref C) "__getattr__") none)
    (hK:PySem.W.Looks (model prog w) h (typeLookup (.ref C) "__class__") (some (.builtin "object.__class__"))) (hx:h.get? a=some o) (hc:o.cls=.ref C) (hq:Q (some (.ref C)) ⟨h,g,d,t+1,os⟩) :
    wpAny (model prog w) A (getAttr? (.ref a) "__class__") Q E ⟨h,g,d,t,os⟩:=by
  unfold getAttr? getAttrBy?
  repeat (any_goals (first | assumption | with_reducible apply class_byX hC hcB hcO hG hA hK hx hc | wp_step))
end
end L2
namespace L2
open PySem PySem.Spec PyProof.Rows
abbrev bmV:List Value:=[.type "ValueError", .type "Exception", .type "BaseException", .type "object"]
structure ClsX (K:PySem.W.Frag) (C CA:Addr):Prop where
  obj:∃ (nm q:Str) (N:Addr) (bs:List Value) (sn:List Str) (sub:List Value) (ab:Bool) (col:Option Bool) (dd:Option Addr) (k0 k1 k2 k3 k5:Option Value),K.lookup C=some (excClassObj nm q C N bs (.ref CA::bmV) true sn sub ab col dd k0 k1 k2 k3 k5 "ValueError.__new__")
  set:PySem.W.findIn K (.ref C) "__setattr__" = some (some (.builtin "object.__setattr__"))
  ga:PySem.W.findIn K (.ref C) "__getattribute__" = some (some (.builtin "BaseException.__getattribute__"))
  gt:PySem.W.findIn K (.ref C) "__getattr__" = some none
  cl:PySem.W.findIn K (.ref C) "__class__" = some (some (.builtin "object.__class__"))
section
variable {C CA:Addr}
theorem cX_val:(Value.ref C::.ref CA::bmV).contains (.type "ValueError")=true:=by simp [bmV]
theorem cX_base:(Value.ref C::.ref CA::bmV).contains (.type "BaseException")=true:=by simp [bmV]
theorem cX_obj:(Value.ref C::.ref CA::bmV).contains (.type "object")=true:=by simp [bmV]
theorem cX_attr:(Value.ref C::.ref CA::bmV).contains (.type "AttributeError")=false:=by
  rw [List.contains_cons,List.contains_cons]
  rfl
theorem cX_name:(Value.ref C::.ref CA::bmV).contains (.type "NameError")=false:=by
  rw [List.contains_cons,List.contains_cons]
  rfl
theorem pass_X (self:Value):refuseLoop self "__setattr__" (.ref C::.ref CA::bmV)=pure ():=by
  rw [refuseLoop_ref,refuseLoop_ref]
  exact PySem.F.store_ValueError.passes self
theorem ClsX.mk' {K:PySem.W.Frag} {f:Addr} (c:ClsX K C CA) (init:PySem.W.findIn K (.ref C) "__init__" = some (some (.ref f))) (fn:∃ o,K.lookup f=some o∧o.cls=.type "function") (kp:PySem.W.keepIn K (.ref C)=true):MkX K C f:=by
  obtain ⟨nm,q,N,bs,sn,sub,ab,col,dd,k0,k1,k2,k3,k5,lk⟩:=c.obj
  exact ⟨⟨nm,q,N,bs,_,_,sn,sub,ab,col,dd,k0,k1,k2,k3,k5,lk,cX_val,cX_attr,cX_name⟩,init,fn,kp⟩
end
def XAt (H:Hp) (e C dx:Addr):Prop:=H e=some (ExcD C e dx)∨H e=some (ExcT C e dx)
theorem XAt.get {P:Program} {w:World} {H:Hp} {h:Heap} {e C dx:Addr} (x:HOk P w H h) (he:XAt H e C dx):∃ vs,h.get? e=some (excObj C (some dx) vs):=by
  rcases he with he | he
  · obtain ⟨o,ho,a,rfl⟩:=ObP.get x he
    exact ⟨_,ho⟩
  · obtain ⟨o,ho,vs,rfl,_⟩:=ObP.get x he
    exact ⟨_,ho⟩
section
variable {X:Cx} {pins:List (Addr × Obj)} {σ:St} {H:Hp} {s:Shared} {h':Heap} {e dx:Addr} {φ:Heap→Prop} {o1 o2:HO}
theorem Inv.ext2 {t':Nat} (I:Inv X pins σ H s) (he:H e=some (.ext φ)) (hp:s.heap.objs.size≤dx) (k:∀ b u,b ≠ e→s.heap.get? b=some u→h'.get? b=some u) (heo:∃ u,h'.get? e=some u)
    (n1:ObjOk X.prog X.w (upd (upd H dx o1) e o2) h' dx o1) (n2:ObjOk X.prog X.w (upd (upd H dx o1) e o2) h' e o2):Inv X pins σ (upd (upd H dx o1) e o2) { s with heap:=h',toks:=t' }:=by
  have hdn:H dx=none:=I.hok.fresh hp
  have ne:∀ b u,H b=some u→(∀ ψ,u ≠ .ext ψ)→b ≠ e∧b ≠ dx:=fun b u hb hu=>⟨fun z=>by rw [z,he] at hb; cases hb; exact hu _ rfl,ne_of_none hb hdn⟩
  have old:∀ b,b ≠ e→b ≠ dx→upd (upd H dx o1) e o2 b=H b:=fun b h1 h2=>by rw [upd_ne h1,upd_ne h2]
  have fr:∀ b u,s.heap.get? b=some u→b ≠ dx:=fun b u q=>Nat.ne_of_lt (Nat.lt_of_lt_of_le (Heap.lt_size q) hp)
  have nn:∀ b,H b=none→b ≠ e:=fun b n z=>by rw [z,he] at n; cases n
  refine I.un ⟨fun b u q n _ _=>k b u (nn b n) q,fun b u q n _ _=>⟨u.slots,k b u (nn b n) q⟩,fun b u q n _=>?_,fun b u q _=>?_,fun b xs q=>?_,fun b u xs q=>?_,fun b ps q=>⟨#[],?_⟩⟩ fun b u q=>?_
  · rw [old b (nn b n) (fr b u q)]
    exact n
  · by_cases hb:b=e
    · rw [hb]; exact heo
    · exact ⟨u,k b u hb q⟩
  · obtain ⟨h1,h2⟩:=ne b _ q (fun ψ z=>by cases z)
    rw [old b h1 h2]
    exact q
  · obtain ⟨h1,h2⟩:=ne b _ q (fun ψ z=>by cases z)
    rw [old b h1 h2]
    exact q
  · obtain ⟨h1,h2⟩:=ne b _ q (fun ψ z=>by cases z)
    rw [old b h1 h2,q]
    simp
  · by_cases hb:b=e
    · subst hb
      rw [upd_same] at q
      cases q
      exact n2
    · by_cases hb2:b=dx
      · subst hb2
        rw [upd_ne hb,upd_same] at q
        cases q
        exact n1
      · rw [old b hb hb2] at q
        refine (I.hok b u q).stay (fun c v hc r=>k c v ?_ r) (fun c r=>?_) fun c xs r=>?_
        · rcases hc with rfl | hc
          · exact hb
          · exact (ne c _ hc (fun ψ z=>by cases z)).1
        · obtain ⟨h1,h2⟩:=ne c _ r (fun ψ z=>by cases z)
          rw [old c h1 h2]
          exact r
        · obtain ⟨h1,h2⟩:=ne c _ r (fun ψ z=>by cases z)
          rw [old c h1 h2]
          exact r
end
section
variable {X:Cx} {o e value:Expr} {f:Str} {pos pos' tpos:Pos} {ta tv:TE}
theorem ps_fldX (ha:PE X o ta) (hv:PE X value tv) (hs:swapsWith value (some (.Attribute o f pos')) pos.line X.env=pure false) :
    PS X (.Assign [.Attribute o f pos'] value pos) (fun D σ H=>tv σ H fun y H1=>ta σ H1 fun x H2=>∃ e C CA,x=.ref e∧H2 e=some (ExcN C e)∧ClsX X.K C CA∧NoAttr X.K C f∧∀ dx,H2 dx=none→dx ≠ e→D.nx σ (upd (upd H2 dx (.xd [(f,y)])) e (ExcD C e dx))):=by
  intro pins s σ H D I h
  refine plainObj_wpAny_Assign_Attribute (thn (hv pins s σ H _ I h) fun u s1 ⟨y,H1,I1,ry,q⟩=>thn (ha pins s1 σ H1 _ I1 q) fun ov s2 ⟨x,H2,I2,rx,e,C,CA,ex,he,c,n,q2⟩=>?_) hs
  subst ex
  obtain rfl:ov=Value.ref e:=rx
  obtain ⟨nm,qn,N,bs,sn,sub,ab,col,dd,k0,k1,k2,k3,k5,lk⟩:=c.obj
  obtain ⟨ob,ho,a,rfl⟩:=ObP.get I2.hok he
  obtain ⟨hh,g,d,tk,os⟩:=s2
  refine store_attrX PySem.F.store_ValueError cX_obj (pass_X _) (I2.kIn _ _ lk) (PySem.W.looks_findIn I2.kIn c.set) (PySem.W.looks_findIn I2.kIn n) ho rfl rfl (fun _ z=>by cases z) fun h' tk' i1 i2 i3=>?_
  have hd:H2 hh.objs.size=none:=I2.hok.fresh (Nat.le_refl _)
  have hde:hh.objs.size ≠ e:=fun z=>by rw [z,he] at hd; cases hd
  refine ⟨σ,_,I2.ext2 (t':=tk') (dx:=hh.objs.size) (e:=e) (o1:=.xd [(f,y)]) (o2:=ExcD C e hh.objs.size) he (Nat.le_refl _) (fun b u hb q=>i3 b u hb q) ⟨_,i1⟩ ⟨_,i2,fun z=>?_⟩ (ObP.ok i1 ⟨a,rfl⟩),q2 _ hd hde⟩
  by_cases hz:z=f
  · subst hz
    rw [if_pos rfl,show ([(z,y)]:List (Str × V)).lookup z=some y by simp [List.lookup]]
    exact ry
  · rw [if_neg hz]
    have:([(f,y)]:List (Str × V)).lookup z=none:=by
      have hb:(z == f)=false:=beq_eq_false_iff_ne.mpr hz
      simp only [List.lookup,hb]
    rw [this]
    trivial
theorem pe_fldX (he:PE X e ta) (hb:attributeBase e f X.env (eval e X.env)=eval e X.env):PE X (.Attribute e f pos) (fun σ H Q=>ta σ H fun x H1=>∃ a C CA dx fs v,x=.ref a∧XAt H1 a C dx∧H1 dx=some (.xd fs)∧fs.lookup f=some v∧ClsX X.K C CA∧NoAttr X.K C f∧Q v H1):=by
  intro pins s σ H Q I h
  refine attr_of hb (thn (he pins s σ H _ I h) fun u s1 ⟨x,H1,I1,rx,a,C,CA,dx,fs,v,ex,ea,ed,l,c,n,q⟩=>?_)
  subst ex
  obtain rfl:u=Value.ref a:=rx
  obtain ⟨nm,qn,N,bs,sn,sub,ab,col,dd,k0,k1,k2,k3,k5,lk⟩:=c.obj
  obtain ⟨vs,ho⟩:=XAt.get I1.hok ea
  obtain ⟨mA,hn,r⟩:=I1.hok dx _ ed
  obtain ⟨u,hu,ru⟩:=RelO.some_of (v:=v) (o:=mA f) (by rw [← l]; exact r f)
  obtain ⟨hh,g,d,tk,os⟩:=s1
  unfold getAttr
  refine wpAny_bind (wpAny_mkText ?_)
  exact load_byX (I1.kIn _ _ lk) cX_base (PySem.W.looks_findIn I1.kIn c.ga) (PySem.W.looks_findIn I1.kIn c.gt) (PySem.W.looks_findIn I1.kIn n) ho rfl rfl (fun _ z=>by cases z) hn.ns hu (handed_of ru) ⟨v,H1,I1.tok _,ru,q⟩
end
end L2
namespace L2
open PySem PySem.Spec PyProof.Rows
theorem kitxX {K:PySem.W.Frag} {e C CA dx:Addr} (c:ClsX K C CA):PySem.W.KitX K (.ref e) (.ref C) (fun h=>∃ vs,h.get? e=some (excObj C (some dx) vs)) where
  ty:=fun M h _ ⟨vs,hx⟩=>(PySem.W.Looks.ld hx).andThen .now
  it:=fun M h X _=>by
    obtain ⟨nm,q,N,bs,sn,sub,ab,col,dd,k0,k1,k2,k3,k5,lk⟩:=c.obj
    intro A' Q' E' s' k q
    unfold isType loadHead
    exact wpAny_bind (wpAny_loadPart (k _ _ (X _ _ lk)) (wpAny_pure q))
  ne:=fun h tp dd' its n sl X htp=>by
    obtain ⟨nm,q,N,bs,sn,sub,ab,col,dd,k0,k1,k2,k3,k5,lk⟩:=c.obj
    refine Bool.eq_false_iff.mpr fun z=>?_
    have e:C=tp:=Value.ref.inj (beq_iff_eq.mp z)
    subst e
    have z:=congrArg Obj.data (Option.some.inj ((X _ _ lk).symm.trans htp))
    exact Data.noConfusion z
  ca:=fun {prog w A E Q s} X ⟨vs,hx⟩ k=>by
    obtain ⟨nm,q,N,bs,sn,sub,ab,col,dd,k0,k1,k2,k3,k5,lk⟩:=c.obj
    obtain ⟨hh,g,d,tk,os⟩:=s
    exact class_attrX (X _ _ lk) cX_base cX_obj (PySem.W.looks_findIn X c.ga) (PySem.W.looks_findIn X c.gt) (PySem.W.looks_findIn X c.cl) hx rfl k
section
variable {X:Cx}
def rIsiX (K:PySem.W.Frag):List V→Hp→VK→Prop:=fun xs H Q=>∃ e C CA dx c b,xs=[.ref e,c]∧XAt H e C dx∧ClsX K C CA ∧
  ((∃ D,c=.ref D∧PySem.W.kitOne K (.ref C) (.ref D)=some b)∨(∃ T,c=.ty T∧PySem.W.kitOne K (.ref C) (.type T)=some b)∨∃ (tp:Addr) (Ds:List Addr),c=.ref tp∧H tp=some (.tup (Ds.map V.ref))∧PySem.W.kitAny K (.ref C) (Ds.map Value.ref)=some b)∧Q (.bl b) H
theorem vals_refsX {cs:List Addr} {us:List Value} (h:Vals (cs.map V.ref) us):us=cs.map Value.ref:=by
  induction cs generalizing us with
  | nil=>cases h; rfl
  | cons a r ih =>
    cases h with
    | cons r1 r2 =>
      cases r1
      rw [ih r2]
      rfl
theorem call_isiX:CallR X (.builtin "isinstance") (rIsiX X.K):=by
  intro pins s σ H xs us Q I r h
  obtain ⟨e,C,CA,dx,c,b,rfl,ea,cl,hk,q⟩:=h
  cases r with
  | cons r rr =>
    cases rr with
    | cons r' rr =>
      cases rr
      cases r
      have ho:=XAt.get I.hok ea
      have fin:∀ tk,EP X pins σ Q (.bool b) { s with toks:=tk }:=fun tk=>⟨.bl b,H,I.tok _,rfl,q⟩
      rcases hk with ⟨D,rfl,hk⟩ | ⟨T,rfl,hk⟩ | ⟨tp,Ds,rfl,ht,hk⟩
      · cases r'
        exact PySem.W.kia_one (kitxX cl) I.kIn ho hk (fun z=>nomatch z) fin
      · cases r'
        exact PySem.W.kia_one (kitxX cl) I.kIn ho hk (fun z=>nomatch z) fin
      · cases r'
        obtain ⟨_,its,rv,⟨⟨cls,dd,data,sl⟩,h1,h2,n,h3⟩,_⟩:=I.hok tp _ ht
        simp only at h2 h3
        subst h2 h3
        have:=vals_refsX rv
        subst this
        exact PySem.W.kia_tup (kitxX cl) I.kIn ho h1 hk (fun z=>nomatch z) fin
end
end L2
namespace L2
open PySem PySem.Spec PyProof.Rows
section
variable {X:Cx}
def FmV (v:V) (y:Str):Prop:=(∃ i:Int,v=.int i∧i.natAbs.log2 < 1920∧y=toString i)∨v=.str y∨(v=.non∧y = "None")
theorem pe_fmtV {e:Expr} {te:TE} {pos:Pos} (he:PE X e te):PE X (.FormattedValue e (-1) none pos) (fun σ H Q=>te σ H fun v H1=>∃ y,FmV v y∧y.length≤sizeLine∧Q (.str y) H1):=by
  intro pins s σ H Q I h
  refine FormattedValue_plain (thn (he pins s σ H _ I h) fun v s1 ⟨x,H1,I1,r1,y,ex,hz,q⟩=>?_)
  rcases ex with ⟨i,rfl,hl,rfl⟩ | rfl | ⟨rfl,rfl⟩
  · obtain ⟨t',rfl⟩:=r1
    exact formatField_int_small hl ⟨.str (toString i),H1,I1.tok _,⟨_,rfl⟩,q⟩
  · obtain ⟨t',rfl⟩:=r1
    exact formatField_str (fun t'' tk=>⟨.str y,H1,I1.tok _,⟨_,rfl⟩,q⟩) hz
  · obtain rfl:v=Value.none:=r1
    exact PySem.wpAny_formatField_none ⟨.str "None", H1,I1.tok _,⟨_,rfl⟩,q⟩
end
structure FunD (K:PySem.W.Frag) (x qual:Str) (st:Stmt) (f:Addr) (fd:FuncData) (dV:Value):Prop where
  ex:∃ (oc:Value) (od:Option Addr) (kV doc pm:Value) (an:Option Addr) (cdv ct:Value) (osl:Array (Option Value)),
    fd=PySem.W.fnOf x qual (defArgs st) (defBody st) (defScope st) dV kV doc pm an cdv ct∧K.lookup f=some ⟨oc,od,.func fd,osl⟩∧PySem.W.codeIn K cdv qual=true
  kp:PySem.W.keepIn K (.ref f)=true
section
variable {P:Program} {w:World} {K:PySem.W.Frag} {mg:Str→Option Value} {base:Heap} {dV:Value}
theorem FunD.ok {x qual:Str} {st:Stmt} {f:Addr} {fd:FuncData} {N ps:List Str} {k:Nat} {sp:Sp} (F:FunD K x qual st f fd dV) (S:FnScope N ps (defScope st)) (len:∀ vs H Q E,sp vs H Q E→vs.length=ps.length)
    (hbody:∀ (cdv:Value) (A:Around) (outer:List Env) (s:Shared) (H:Hp) (vs:List V) (Q:VK) (E:XK),Room k (A.deeper (envOfC qual (defScope st) s.heap.objs.size f cdv))→sp vs H Q E →
      ∃ t,PSs (cxOf CX0 P w K mg base N qual (defScope st) f cdv A outer s H E).nox (defBody st) t∧t { nx:=fun _ H'=>Q .non H',rt:=Q } (start N vs) H):FnOk P w K mg base CX0 (k+1) f fd ps sp:=by
  obtain ⟨oc,od,kV,doc,pm,an,cdv,ct,osl,rfl,lk,hcd⟩:=F.ex
  refine fn_of lk hcd S len fun A outer s H vs Q E hr hsp=>?_
  obtain ⟨t,h,q⟩:=hbody cdv A outer s H vs Q E hr hsp
  exact ⟨t,h.nox,q⟩
theorem funD_mk {x qual:Str} {st:Stmt} {f:Addr} {oc:Value} {od an:Option Addr} {osl:Array (Option Value)} {kV doc pm cdv ct:Value} (l:K.lookup f=some ⟨oc,od,.func (PySem.W.fnOf x qual (defArgs st) (defBody st) (defScope st) dV kV doc pm an cdv ct),osl⟩)
    (c:PySem.W.codeIn K cdv qual=true) (k:PySem.W.keepIn K (.ref f)=true):FunD K x qual st f (PySem.W.fnOf x qual (defArgs st) (defBody st) (defScope st) dV kV doc pm an cdv ct) dV:=⟨⟨oc,od,kV,doc,pm,an,cdv,ct,osl,rfl,l,c⟩,k⟩
theorem Fun.toD {x qual:Str} {st:Stmt} {f:Addr} {fd:FuncData} (F:Fun K x qual st f fd):FunD K x qual st f fd .none:=⟨F.ex,F.kp⟩
end
section
variable {K:PySem.W.Frag} {C D CA:Addr}
theorem ClsX.isCls (d:ClsX K D CA):((PySem.W.clsIn K D).isSome && PySem.W.typeIn K (.ref D) == some (.type "type"))=true:=by
  obtain ⟨nm,q,N,bs,sn,sub,ab,col,dd,k0,k1,k2,k3,k5,lk⟩:=d.obj
  unfold PySem.W.clsIn PySem.W.typeIn
  rw [lk]
  simp
  exact ⟨_,lk,rfl⟩
theorem ClsX.sub (c:ClsX K C CA) (b:Value):PySem.W.subIn K (.ref C) b=some ((Value.ref C::.ref CA::bmV).contains b):=by
  obtain ⟨nm,q,N,bs,sn,sub,ab,col,dd,k0,k1,k2,k3,k5,lk⟩:=c.obj
  show PySem.W.mroIn K C b=_
  unfold PySem.W.mroIn PySem.W.clsIn
  rw [lk]
  rfl
theorem kit_is (c:ClsX K C CA) (d:ClsX K D CA) (hA:D ≠ CA):PySem.W.kitOne K (.ref C) (.ref D)=some (D == C):=by
  unfold PySem.W.kitOne
  by_cases e:D=C
  · subst e
    rw [if_pos (by simp)]
    simp
  · rw [if_neg (by simpa using fun z=>e z.symm)]
    show (if _ then PySem.W.subIn K (.ref C) (.ref D) else none)=_
    rw [if_pos d.isCls,c.sub]
    simp [bmV,e,hA]
theorem kit_val (c:ClsX K C CA):PySem.W.kitOne K (.ref C) (.type "ValueError")=some true:=by
  unfold PySem.W.kitOne
  rw [if_neg (by simp)]
  show (if PySem.W.kitMeta "ValueError" = true then PySem.W.subIn K (.ref C) (.type "ValueError") else none)=_
  rw [if_pos (by decide +kernel),c.sub]
  simp [bmV]
end
def Ex (H:Hp) (e C:Addr) (f:Str) (v:V):Prop:=∃ dx,H e=some (ExcD C e dx)∧H dx=some (.xd [(f,v)])
end L2
namespace L2
open PySem PySem.Spec PyProof.Rows
def Fly (h:Heap) (e C dx:Addr):Prop:=∃ vs,h.get? e=some (excObj C (some dx) vs)∧vs.size=6∧vs[2]?=some Value.none∧(vs[1]?=some .none∨∃ T oT ts,vs[1]?=some (.ref T)∧T ≠ e∧h.get? T=some oT∧oT.data=.fields ts∧ts[3]?=some .none)
structure Lft (fs:List Addr) (e:Addr) (h h':Heap):Prop where
  keep:∀ b o,h.get? b=some o→b ∉ fs→b ≠ e→h'.get? b=some o
  slot:∀ b o,h.get? b=some o→b ≠ e→∃ sl,h'.get? b=some { o with slots:=sl }
section
variable {M:Model} {A:Around} {E:Value→Shared→Prop} {s:Shared}
theorem newEntryX {base:Heap} {env:Env} {outer:List Env} {L e C dx:Addr} {vs:Array Value} {head:Value} {hadNext:Bool} {Q:Unit→Shared→Prop}
    (hfr:A.frames=some (env::outer)) (hl:s.heap.FunFrames base (env::outer)) (hf:env.frame=some L)
    (he:s.heap.get? e=some (excObj C (some dx) vs)) (hsz:vs.size=6) (hs2:vs[2]?=some Value.none)
    (h:∀ h',Lft ((env::outer).filterMap (·.frame)) e s.heap h'→Fly h' e C dx→Q () { s with heap:=h' }) :
    wpAny M A (do let a ← frameOf env; let pl ← entryPlaceOf L hadNext; let b ← EntryCells.newEntry head a .none (rawInt L) .none pl; setField (.ref e) 1 b) (fun _ s'=>wpAny M A (setFlight (.ref e) none) Q E s') E s:=by
  have hd:(excObj C (some dx) vs).data=.fields vs:=rfl
  have hs1:1 < vs.size:=by omega
  have hene:e ∉ (env::outer).filterMap (·.frame):=fun hm=>by
    obtain ⟨_,o,ho,hnf⟩:=hl.mem hm
    rw [he] at ho; injection ho with ho; subst ho; exact hnf vs hd
  refine wpAny_bind (wpAny_frameOf_fun hfr hl hf fun h₁ hs₁=>?_)
  refine wpAny_bind (wpAny_entryPlaceOf fun pl hpl=>?_)
  unfold EntryCells.newEntry newFields
  refine wpAny_bind (wpAny_newObj_type ?_ (hpl.sizeOk5 _ _ _ _ _))
  have he₁:h₁.get? e=some (excObj C (some dx) vs):=(hs₁.2.1 e hene).trans he
  have he₂:=Heap.get?_push_of_some (h:=h₁) { cls:=.type "traceback", dict:=none,data:=.fields ([head,.ref L,.none,rawInt L,.none]++(if pl.isEmpty then List.replicate 6 Value.none else pl)).toArray } he₁
  refine wpAny_setField he₂ hd hs1 ?_
  have hTe:h₁.objs.size ≠ e:=Nat.ne_of_gt (Heap.lt_size he₁)
  have hd₃:=Obj.data_mapFields hd (·.setIfInBounds 1 (Value.ref h₁.objs.size))
  have he₃:=Heap.get?_update_self (Obj.mapFields (·.setIfInBounds 1 (Value.ref h₁.objs.size))) he₂ (Obj.isFreed_of_fields hd₃)
  have hT₃:=(Heap.get?_update_other (h₁.push { cls:=.type "traceback", dict:=none,data:=.fields ([head,.ref L,.none,rawInt L,.none]++(if pl.isEmpty then List.replicate 6 Value.none else pl)).toArray })
    (Obj.mapFields (·.setIfInBounds 1 (Value.ref h₁.objs.size))) (Ne.symm hTe)).trans (Heap.get?_push_size h₁ rfl)
  unfold setFlight
  refine wpAny_bind (wpAny_field he₃ hd₃ (x:=.ref h₁.objs.size) (by simp [hs1]) ?_)
  rw [if_pos (show (Value.ref h₁.objs.size != Value.none)=true from by simp)]
  refine wpAny_setField hT₃ rfl (by simp only [List.size_toArray,List.length_append,List.length_cons,List.length_nil] <;> omega) ?_
  have keep:∀ b o,b ≠ e→h₁.get? b=some o →
      (((h₁.push { cls:=.type "traceback", dict:=none,data:=.fields ([head,.ref L,.none,rawInt L,.none]++(if pl.isEmpty then List.replicate 6 Value.none else pl)).toArray }).update e (Obj.mapFields (·.setIfInBounds 1 (Value.ref h₁.objs.size)))).update h₁.objs.size
        (Obj.mapFields (·.setIfInBounds 3 ((none:Option Addr).elim Value.none fun f=>rawInt f)))).get? b=some o:=fun b o hbe hb=>by
    have hbT:h₁.objs.size ≠ b:=Nat.ne_of_gt (Heap.lt_size hb)
    rw [Heap.get?_update_other _ _ hbT,Heap.get?_update_other _ _ (Ne.symm hbe)]
    exact Heap.get?_push_of_some _ hb
  refine h _ ⟨fun b o hb hn hbe=>keep b o hbe ((hs₁.2.1 b hn).trans hb),fun b o hb hbe=>?_⟩ ⟨vs.setIfInBounds 1 (.ref h₁.objs.size),?_,?_,?_,.inr ⟨h₁.objs.size,_,_,?_,hTe,Heap.get?_update_self _ hT₃ (Obj.isFreed_of_fields (Obj.data_mapFields rfl _)),Obj.data_mapFields rfl _,?_⟩⟩
  · obtain ⟨sl,hs⟩:=hs₁.2.2 b o hb
    exact ⟨sl,keep b _ hbe hs⟩
  · rw [Heap.get?_update_other _ _ hTe]
    exact he₃
  · simp [hsz]
  · rw [Array.getElem?_setIfInBounds_ne (by decide)]; exact hs2
  · simp [hs1]
  · first | (simp; done) | (rcases hpl with rfl | ⟨_,_,_,_,_,_,_,rfl⟩ <;> simp)
theorem set_same {ts:Array Value} {i:Nat} {v:Value} (h:ts[i]?=some v):ts.setIfInBounds i v=ts:=by
  obtain ⟨hi,e⟩:=Array.getElem?_eq_some_iff.mp h
  refine Array.ext (by simp) fun j h1 h2=>?_
  rw [Array.getElem_setIfInBounds]
  · by_cases hj:i=j
    · subst hj
      rw [if_pos rfl,← e]
    · rw [if_neg hj]
theorem note_run {base:Heap} {env:Env} {outer:List Env} {L e C dx:Addr} {Q:Unit→Shared→Prop}
    (hfr:A.frames=some (env::outer)) (hl:s.heap.FunFrames base (env::outer)) (hf:env.frame=some L) (he:Fly s.heap e C dx)
    (h:∀ h',Lft ((env::outer).filterMap (·.frame)) e s.heap h'→Fly h' e C dx→Q () { s with heap:=h' }) :
    wpAny M A (noteFrame (.ref e) env) (fun _ s'=>wpAny M A (setFlight (.ref e) none) Q E s') E s:=by
  obtain ⟨vs,he,hz,hz2,hv⟩:=he
  have hd:(excObj C (some dx) vs).data=.fields vs:=rfl
  unfold noteFrame
  simp only [hf]
  rcases hv with h1 | ⟨T,oT,ts,h1,hTe,hT,hdT,h3⟩
  · refine wpAny_bind (wpAny_field he hd h1 ?_)
    rw [if_neg (by decide)]
    exact newEntryX hfr hl hf he hz hz2 h
  · refine wpAny_bind (wpAny_field he hd h1 ?_)
    rw [if_pos (show (Value.ref T != Value.none)=true from by simp)]
    refine wpAny_bind (wpAny_field hT hdT h3 ?_)
    rw [if_neg (show ¬ ((Value.none == rawInt L)=true) from by simp [rawInt])]
    refine wpAny_bind (wpAny_setField hT hdT (Array.getElem?_eq_some_iff.mp h3).1 ?_)
    have id:∀ b o,s.heap.get? b=some o→(s.heap.update T (Obj.mapFields (·.setIfInBounds 3 Value.none))).get? b=some o:=fun b o hb=>by
      by_cases hbT:b=T
      · subst hbT
        rw [hT] at hb
        cases hb
        have hm:Obj.mapFields (·.setIfInBounds 3 Value.none) oT=oT:=by
          obtain ⟨c,d,dt,sl⟩:=oT
          cases hdT
          show ({ cls:=c,dict:=d,data:=.fields (ts.setIfInBounds 3 Value.none),slots:=sl }:Obj)=_
          rw [set_same h3]
        have:=Heap.get?_update_self (Obj.mapFields (·.setIfInBounds 3 Value.none)) hT (by rw [hm]; exact (Heap.get?_some_iff.mp hT).2)
        rw [this,hm]
      · rw [Heap.get?_update_other _ _ (Ne.symm hbT)]
        exact hb
    refine newEntryX (s:={ s with heap:=_ }) hfr (hl.of_keeps fun b o hb _=>⟨o,id b o hb,rfl⟩) hf (id _ _ he) hz hz2 fun h' x1 x2=>h h' ⟨fun b o hb hn hbe=>x1.keep b o (id b o hb) hn hbe,fun b o hb hbe=>x1.slot b o (id b o hb) hbe⟩ x2
theorem leave_run {base:Heap} {env:Env} {outer:List Env} {L e C dx:Addr} {Q:Unit→Shared→Prop}
    (hfr:A.frames=some (env::outer)) (hl:s.heap.FunFrames base (env::outer)) (hf:env.frame=some L) (he:Fly s.heap e C dx)
    (h:∀ h',Lft ((env::outer).filterMap (·.frame)) e s.heap h'→Fly h' e C dx→Q () { s with heap:=h' }):wpAny M A (leaving env (.ref e)) Q E s:=by
  unfold leaving
  exact wpAny_bind (note_run hfr hl hf he h)
theorem flight_run {e C dx:Addr} {Q:Unit→Shared→Prop} (he:Fly s.heap e C dx) (h:∀ h',(∀ b o,s.heap.get? b=some o→h'.get? b=some o)→Q () { s with heap:=h' }):wpAny M A (setFlight (.ref e) none) Q E s:=by
  obtain ⟨vs,he,hz,hz2,hv⟩:=he
  have hd:(excObj C (some dx) vs).data=.fields vs:=rfl
  unfold setFlight
  rcases hv with h1 | ⟨T,oT,ts,h1,hTe,hT,hdT,h3⟩
  · refine wpAny_bind (wpAny_field he hd h1 ?_)
    rw [if_neg (by decide)]
    exact wpAny_pure (h s.heap fun _ _ q=>q)
  · refine wpAny_bind (wpAny_field he hd h1 ?_)
    rw [if_pos (show (Value.ref T != Value.none)=true from by simp)]
    refine wpAny_setField hT hdT (Array.getElem?_eq_some_iff.mp h3).1 (h _ fun b o hb=>?_)
    show (s.heap.update T (Obj.mapFields (·.setIfInBounds 3 Value.none))).get? b=some o
    by_cases hbT:b=T
    · subst hbT
      rw [hT] at hb
      cases hb
      have hm:Obj.mapFields (·.setIfInBounds 3 Value.none) oT=oT:=by
        obtain ⟨c,d,dt,sl⟩:=oT
        cases hdT
        show ({ cls:=c,dict:=d,data:=.fields (ts.setIfInBounds 3 Value.none),slots:=sl }:Obj)=_
        rw [set_same h3]
      have:=Heap.get?_update_self (Obj.mapFields (·.setIfInBounds 3 Value.none)) hT (by rw [hm]; exact (Heap.get?_some_iff.mp hT).2)
      rw [this,hm]
    · rw [Heap.get?_update_other _ _ (Ne.symm hbT)]
      exact hb
end
end L2
namespace L2
open PySem PySem.Spec PyProof.Rows
section
variable {P:Program} {w:World} {H:Hp} {h h':Heap} {fs:List Addr} {e C dx:Addr} {φ:Heap→Prop}
theorem Fly.ofD (x:HOk P w H h) (he:H e=some (ExcD C e dx)):Fly h e C dx:=by
  obtain ⟨o,ho,a,rfl⟩:=ObP.get x he
  exact ⟨_,ho,rfl,rfl,.inl rfl⟩
theorem lft_un (l:Lft fs e h h') (he:H e=some (.ext φ)) (fl:Fly h' e C dx):Un fs [] H (upd H e (ExcT C e dx)) h h':=by
  have nn:∀ b,H b=none→b ≠ e:=fun b n z=>by rw [z,he] at n; cases n
  have ne:∀ b u,H b=some u→(∀ ψ,u ≠ .ext ψ)→b ≠ e:=fun b u hb hu z=>by rw [z,he] at hb; cases hb; exact hu _ rfl
  refine ⟨fun b o q n hb _=>l.keep b o q hb (nn b n),fun b o q n _ _=>l.slot b o q (nn b n),fun b o _ n _=>by rw [upd_ne (nn b n)]; exact n,fun b o q _=>?_,fun b xs q=>?_,fun b o u q=>?_,fun b ps q=>⟨#[],?_⟩⟩
  · by_cases hb:b=e
    · obtain ⟨vs,h1,_⟩:=fl
      exact ⟨_,by rw [hb]; exact h1⟩
    · obtain ⟨sl,h1⟩:=l.slot b o q hb
      exact ⟨_,h1⟩
  · rw [upd_ne (ne b _ q fun ψ z=>by cases z)]
    exact q
  · rw [upd_ne (ne b _ q fun ψ z=>by cases z)]
    exact q
  · rw [upd_ne (ne b _ q fun ψ z=>by cases z),q]
    simp
theorem lft_hok (x:HOk P w H h) (l:Lft fs e h h') (hfs:∀ b ∈ fs,H b=none) (he:H e=some (.ext φ)) (fl:Fly h' e C dx):HOk P w (upd H e (ExcT C e dx)) h':=by
  have ne:∀ b u,H b=some u→(∀ ψ,u ≠ .ext ψ)→b ≠ e:=fun b u hb hu z=>by rw [z,he] at hb; cases hb; exact hu _ rfl
  have nf:∀ b u,H b=some u→b ∉ fs:=fun b u hb z=>by rw [hfs b z] at hb; cases hb
  intro b u q
  by_cases hb:b=e
  · subst hb
    rw [upd_same] at q
    cases q
    obtain ⟨vs,h1,h2,h3,_⟩:=fl
    exact ObP.ok h1 ⟨vs,rfl,h2,h3⟩
  · rw [upd_ne hb] at q
    refine (x b u q).stay (fun c v hc r=>?_) (fun c r=>?_) fun c xs r=>?_
    · rcases hc with rfl | hc
      · exact l.keep _ _ r (nf _ _ q) hb
      · exact l.keep _ _ r (nf _ _ hc) (ne _ _ hc fun ψ z=>by cases z)
    · rw [upd_ne (ne _ _ r fun ψ z=>by cases z)]
      exact r
    · rw [upd_ne (ne _ _ r fun ψ z=>by cases z)]
      exact r
end
def CXr (P:Program) (w:World):CXT:=fun outer H s E e s'=>∃ e0 C dx H',e=.ref e0∧s'.os=s.os∧AllBare s'.gens∧Un (frs outer) [] H H' s.heap s'.heap∧HOk P w H' s'.heap∧H' e0=some (ExcT C e0 dx)∧Fly s'.heap e0 C dx∧E (.ref e0) (some dx) H'
section
variable {P:Program} {w:World} {K:PySem.W.Frag} {mg:Str→Option Value} {base:Heap} {N:List Str} {qual:Str} {scope:Scope} {f:Addr} {cd:Value} {A:Around} {outer:List Env} {s s1:Shared} {H H1:Hp} {E:XK} {pins:List (Addr × Obj)} {σ:St} {e C dx:Addr} {φ:Heap→Prop}
theorem xe_fly (I:Inv (cxOf (CXr P w) P w K mg base N qual scope f cd A outer s H E) pins σ H1 s1) (he:H1 e=some (.ext φ)) (fl:Fly s1.heap e C dx) (q:E (.ref e) (some dx) (upd H1 e (ExcT C e dx))) :
    (cxOf (CXr P w) P w K mg base N qual scope f cd A outer s H E).xe (.ref e) s1:=by
  show wpAny _ _ (leaving _ (.ref e)) _ _ s1
  refine leave_run (base:=base) I.ok.frames I.stack rfl fl fun h' l fl'=>?_
  have u1:=lft_un (H:=H1) l he fl'
  have k1:=lft_hok I.hok l I.stkFree he fl'
  have b0:Un (frs outer) [] H H1 s.heap s1.heap:=I.base
  have above:s.heap.objs.size≤(cxOf (CXr P w) P w K mg base N qual scope f cd A outer s H E).env.locals:=I.ok.above
  have sub:∀ b o,s.heap.get? b=some o→b ∉ frs outer→b ∉ frs (cxOf (CXr P w) P w K mg base N qual scope f cd A outer s H E).stack:=fun b o q hb z=>by
    rcases List.mem_cons.mp (I.stkSub b z) with z | z
    · have:=Heap.lt_size q
      rw [z] at this
      exact absurd above (Nat.not_le.mpr this)
    · exact hb z
  have u2:=(b0.mono (fs':=frs (cxOf (CXr P w) P w K mg base N qual scope f cd A outer s H E).stack) (ex':=[]) (fun b hb=>by
    show b ∈ List.filterMap _ (_::outer)
    rw [List.filterMap_cons]
    exact List.mem_cons_of_mem _ hb) fun _ z=>z).trans u1
  refine ⟨e,C,dx,_,rfl,I.os,I.bare,⟨fun b o q n hb hx=>u2.keep b o q n (sub b o q hb) hx,fun b o q n _ hx=>u2.any q n hx,u2.free,u2.there,u2.tups,u2.frzs,u2.tbls⟩,k1,upd_same,fl',q⟩
end
section
variable {X:Cx} {x:Expr} {te:TE} {pos:Pos}
end
end L2
namespace L2
open PySem PySem.Spec PyProof.Rows
theorem raise_objX2 {M:Model} {A:Around} {E:Value→Shared→Prop} {s:Shared} {env:Env} {K:PySem.W.Frag} {x:Sem Value} {Q:Flow→Shared→Prop} (hh:A.handled=none)
    (h:wpAny M A x (fun v s₁=>∃ e dx a C CA,v=.ref e∧ClsX K C CA∧K.In s₁.heap∧s₁.heap.get? e=some (excObj C (some dx) (vs6 a))∧E (.ref e) s₁) E s):wpAny M A (raiseStmt env (some x) none) Q E s:=by
  unfold raiseStmt
  refine wpAny_bind (wpAny_mono h (fun v s₁ h₁=>?_) fun _ _ x=>x)
  obtain ⟨e,dx,a,C,CA,rfl,c,KX,he,hE⟩:=h₁
  obtain ⟨nm,q,N,bs,sn,sub,ab,col,dd,k0,k1,k2,k3,k5,lk⟩:=c.obj
  have hcB:=cX_base (C:=C) (CA:=CA)
  have hC:=KX _ _ lk
  obtain ⟨hp,g,d,tk,os⟩:=s₁
  repeat (first | with_reducible refine wpAny_loadPart_at he ?_ | with_reducible refine wpAny_loadPart_at hC ?_ | (with_reducible refine wpAny_isSubtype_exc hC ?_; rw [hcB]) | wp_step)
  exact wpAny_raiseNew_none hh hE
section
variable {P:Program} {w:World} {K:PySem.W.Frag} {mg:Str→Option Value} {base:Heap} {N:List Str} {qual:Str} {scope:Scope} {f:Addr} {cd:Value} {A:Around} {outer:List Env} {s:Shared} {H:Hp} {E:XK}
theorem ps_raise {x:Expr} {te:TE} {pos:Pos} (he:PE (cxOf (CXr P w) P w K mg base N qual scope f cd A outer s H E) x te) :
    PS (cxOf (CXr P w) P w K mg base N qual scope f cd A outer s H E) (.Raise (some x) none pos) (fun _ σ H1=>te σ H1 fun v H2=>∃ e C CA dx,v=.ref e∧H2 e=some (ExcD C e dx)∧ClsX K C CA∧E (.ref e) (some dx) (upd H2 e (ExcT C e dx))):=by
  intro pins s1 σ H1 D I h
  rw [arm_exec_Raise]
  refine wpAny_bind (wpAny_standAt (raise_objX2 (K:=K) (I.ok.hd rfl) ?_))
  refine wpAny_bind (thn (he pins s1 σ H1 _ I h) fun u s2 ⟨v,H2,I2,r,e,C,CA,dx,ev,e2,c,q⟩=>wpAny_bind (wpAny_standAt (wpAny_pure ?_)))
  subst ev
  obtain rfl:u=Value.ref e:=r
  obtain ⟨o,ho,a,rfl⟩:=ObP.get I2.hok e2
  exact ⟨e,dx,a,C,CA,rfl,c,I2.kIn,ho,xe_fly I2 e2 (Fly.ofD I2.hok e2) q⟩
theorem passX:Passes (CXr P w) (cxOf (CXr P w) P w K mg base N qual scope f cd A outer s H E) E:=by
  rintro pins σ H1 s1 _ s2 I ⟨e0,C,dx,H',rfl,os,bare,un,hok,he,fl,q⟩
  have I2:=I.call' (ch:=[]) os un hok bare (fun b z=>absurd z (by simp))
  refine xe_fly I2 he fl ?_
  rw [upd_id he]
  exact q
theorem ownX:PassesOwn (model P w) (cxOf (CXr P w) P w K mg base N qual scope f cd A outer s H E).A (cxOf (CXr P w) P w K mg base N qual scope f cd A outer s H E).env (cxOf (CXr P w) P w K mg base N qual scope f cd A outer s H E).xe:=PassesOwn.leaving
end
section
variable {P:Program} {w:World} {K:PySem.W.Frag} {mg:Str→Option Value} {base:Heap} {dV:Value}
theorem FunD.okX {x qual:Str} {st:Stmt} {f:Addr} {fd:FuncData} {N ps:List Str} {k:Nat} {sp:Sp} (F:FunD K x qual st f fd dV) (S:FnScope N ps (defScope st)) (len:∀ vs H Q E,sp vs H Q E→vs.length=ps.length)
    (hbody:∀ (cdv:Value) (A:Around) (outer:List Env) (s:Shared) (H:Hp) (vs:List V) (Q:VK) (E:XK),Room k (A.deeper (envOfC qual (defScope st) s.heap.objs.size f cdv))→sp vs H Q E →
      ∃ t,PSs (cxOf (CXr P w) P w K mg base N qual (defScope st) f cdv A outer s H E) (defBody st) t∧t { nx:=fun _ H'=>Q .non H',rt:=Q } (start N vs) H):FnOk P w K mg base (CXr P w) (k+1) f fd ps sp:=by
  obtain ⟨oc,od,kV,doc,pm,an,cdv,ct,osl,rfl,lk,hcd⟩:=F.ex
  exact fn_of lk hcd S len fun A outer s H vs Q E hr hsp=>hbody cdv A outer s H vs Q E hr hsp
theorem Fun.okX {x qual:Str} {st:Stmt} {f:Addr} {fd:FuncData} {N ps:List Str} {k:Nat} {sp:Sp} (F:Fun K x qual st f fd) (S:FnScope N ps (defScope st)) (len:∀ vs H Q E,sp vs H Q E→vs.length=ps.length)
    (hbody:∀ (cdv:Value) (A:Around) (outer:List Env) (s:Shared) (H:Hp) (vs:List V) (Q:VK) (E:XK),Room k (A.deeper (envOfC qual (defScope st) s.heap.objs.size f cdv))→sp vs H Q E →
      ∃ t,PSs (cxOf (CXr P w) P w K mg base N qual (defScope st) f cdv A outer s H E) (defBody st) t∧t { nx:=fun _ H'=>Q .non H',rt:=Q } (start N vs) H):FnOk P w K mg base (CXr P w) (k+1) f fd ps sp:=F.toD.okX S len hbody
structure CalR (P:Program) (w:World) (K:PySem.W.Frag) (mg:Str→Option Value) (base:Heap) (n:Nat) (x:Str) (ps:List Str) (sp:Sp):Prop where
  ex:∃ (f:Addr) (fd:FuncData),FnOk P w K mg base (CXr P w) n f fd ps sp∧Binds K fd ps []∧PySem.W.keepIn K (.ref f)=true∧mg x=some (.ref f)
theorem CalR.of {n:Nat} {x qual:Str} {ps:List Str} {sp:Sp} {st:Stmt} {f:Addr} {fd:FuncData} (F:Fun K x qual st f fd) (O:FnOk P w K mg base (CXr P w) n f fd ps sp) (m:mg x=some (.ref f))
    (h:∀ (kV doc pm:Value) (an:Option Addr) (cdv ct:Value) (us:List Value),us.length=ps.length→bindArgs (PySem.W.fnOf x qual (defArgs st) (defBody st) (defScope st) .none kV doc pm an cdv ct) ⟨us,[]⟩=pure (ps.zip us)):CalR P w K mg base n x ps sp :=
  ⟨f,fd,O,F.binds h,F.kp,m⟩
theorem pe_calR {X:Cx} {n k:Nat} {x:Str} {ps:List Str} {sp:Sp} {e:Expr} {es:List Expr} {t:TA} {p pos:Pos} {E:XK} (C:CalR X.prog X.w X.K X.mg X.base n x ps sp) (hr:Room k X.A) (hk:n≤k) (hg:Gl X x) (hx:Passes (CXr X.prog X.w) X E)
    (ha:PA X (e::es) t) (hdb:(x == ("__debug__" : Str))=false:=by decide) (he:starEach (e::es) X.env=(false,eval e X.env)::starEach es X.env:=by rfl) (hpl:(backTo pos (starEach es X.env)).any (·.1)=false:=by rfl) :
    PE X (.Call (.Name x p) (e::es) [] pos) (tCall sp [] E t):=by
  obtain ⟨f,fd,F,b,kp,m⟩:=C.ex
  exact pe_call F (hr.mono hk) hg m kp b .nil hx ha hdb he hpl
theorem noRaise {X:Cx}:Passes (CXr X.prog X.w) X E0:=by
  rintro pins σ H1 s1 _ s2 I ⟨e0,C,dx,H',rfl,os,bare,un,hok,he,fl,q⟩
  exact q.elim
end
end L2
namespace L2
open PySem PySem.Spec PyProof.Rows
section
variable {M:Model} {A:Around} {E:Value→Shared→Prop}
theorem excMatches_up {K:PySem.W.Frag} {C CA:Addr} {s:Shared} {e:Addr} {oe:Obj} {Q:Bool→Shared→Prop} (c:ClsX K C CA) (X:K.In s.heap) (he:s.heap.get? e=some oe) (hcls:oe.cls=.ref C)
    (hA:∃ (nm q:Str) (N:Addr) (bs:List Value) (sn:List Str) (sub:List Value) (ab:Bool) (col:Option Bool) (dd:Option Addr) (k0 k1 k2 k3 k5:Option Value),K.lookup CA=some (excClassObj nm q CA N bs bmV true sn sub ab col dd k0 k1 k2 k3 k5 "ValueError.__new__"))
    (hq:Q true s):wpAny M A (excMatches (.ref e) (.ref CA)) Q E s:=by
  obtain ⟨nm,q,N,bs,sn,sub,ab,col,dd,k0,k1,k2,k3,k5,lk⟩:=c.obj
  obtain ⟨nm',q',N',bs',sn',sub',ab',col',dd',k0',k1',k2',k3',k5',lk'⟩:=hA
  have hC:=X _ _ lk
  have hA:=X _ _ lk'
  obtain ⟨h,g,d,t,os⟩:=s
  have hcB:(Value.ref CA::bmV).contains (.type "BaseException")=true:=by simp [bmV]
  have hcC:(Value.ref C::.ref CA::bmV).contains (.ref CA)=true:=by simp
  have f:=tc_notTuple
  unfold excMatches
  repeat (first | (with_reducible refine wpAny_loadPart_at he ?_; rw [hcls]) | with_reducible refine wpAny_loadPart_at hA ?_ | (with_reducible refine wpAny_isSubtype_exc hA ?_; rw [hcB]) | (with_reducible refine wpAny_isSubtype_exc hC ?_; rw [hcC]) | wp_step)
  exact hq
end
section
variable {prog:Program} {w:World} {A:Around} {s:Shared} {env:Env} {R:Result→Shared→Prop}
theorem handlers_named {e:Value} {n:Str} {b₀:Stmt} {body:List Stmt} {pos:Pos}
    (h:wpAny (model prog w) A (setFlight e none) (fun _ s1=>wpAny (model prog w) A (bindName env n e) (fun _ s2=>wpAny (model prog w) A (execs (b₀::body) env) (fun f s3=>R (.ok f) s3) (fun _ _=>False) s2) (fun _ _=>False) s1) (fun _ _=>False) s) :
    codeAny (model prog w) A (.handlers e [.ExceptHandler none (some n) (b₀::body) pos] env) R s:=by
  refine codeAny_of_tree ?_
  show wpAny _ A (do return Fin.done (← (handleWith e env [.ExceptHandler none (some n) (b₀::body) pos]).onRaise (fun x=>do noteFrame x env; theTreesLotGoes x))) _ _ s
  refine wpAny_bind (wpAny_noted ?_)
  unfold handleWith
  exact wpAny_bind (wpAny_standAt (wpAny_bind (wpAny_mono h (fun _ s₁ h₁=>wpAny_bind (wpAny_mono h₁ (fun _ s2 h2=>wpAny_bind (wpAny_attempt (wpAny_mono h2 (fun f s3 h3=>wpAny_pure (wpAny_pure h3)) fun _ _ z=>z.elim))) fun _ _ z=>z.elim)) fun _ _ z=>z.elim)))
end
abbrev Cx.marked (X:Cx) (e:Addr):Cx:={ X with A:=X.A.mark (some (.ref e)),calm:=false,xe:=fun _ _=>False }
section
variable {X:Cx} {pins:List (Addr × Obj)} {σ:St} {H:Hp} {s:Shared} {e:Addr}
theorem Inv.marked (I:Inv X pins σ H s):Inv (X.marked e) pins σ H s :=
  ⟨⟨I.ok.mod,I.ok.kind,I.ok.glob,I.ok.blt,I.ok.above,I.ok.inj,I.ok.has,I.ok.cab,(fun z=>by cases z),I.ok.frames,I.ok.stk,I.ok.exf,I.ok.bs,I.ok.bsz,I.ok.noex,I.ok.exfs,I.ok.funs,I.ok.frf⟩,I.os,I.bare,I.base,I.loc,I.cell,I.free,I.freeC,I.pin,I.hok,I.len⟩
theorem Inv.unmarked (ok:X.Ok) (I:Inv (X.marked e) pins σ H s):Inv X pins σ H s:=⟨ok,I.os,I.bare,I.base,I.loc,I.cell,I.free,I.freeC,I.pin,I.hok,I.len⟩
theorem SP.unmarked {D:Ends} {f:Flow} {s':Shared} (ok:X.Ok) (h:SP (X.marked e) pins D f s'):SP X pins D f s':=by
  cases f with
  | next=>obtain ⟨σ',H',I,q⟩:=h; exact ⟨σ',H',I.unmarked ok,q⟩
  | brk=>obtain ⟨σ',H',I,q⟩:=h; exact ⟨σ',H',I.unmarked ok,q⟩
  | cont=>obtain ⟨σ',H',I,q⟩:=h; exact ⟨σ',H',I.unmarked ok,q⟩
  | ret u=>obtain ⟨v,σ',H',I,r,q⟩:=h; exact ⟨v,σ',H',I.unmarked ok,r,q⟩
theorem del_ok {M:Model} {A:Around} {E:Value→Shared→Prop} {i:Nat} {x:Str} {v:V} {pos:Pos} {Q:Unit→Shared→Prop} (I:Inv X pins σ H s) (hN:X.N.Nodup) (hi:X.N[i]?=some x) (hk:X.env.kindOf x=some .local) (hv:σ[i]?=some (some v))
    (h:∀ s',Inv X pins (σ.set i none) H s'→Q () s'):wpAny M A (unbindBehindTheSuite X.env x pos) Q E s:=by
  obtain ⟨m,hn,hl⟩:=id I.loc
  have hcls:(X.env.scope.kind == .class || (X.env.scope.kind == .module && X.env.locals != X.env.globals))=false:=by rw [I.ok.kind]; rfl
  have hiσ:i < σ.length:=by rw [I.len]; exact (List.getElem?_eq_some_iff.mp hi).1
  have cne:=I.cne
  obtain ⟨u0,_,lk⟩:=hl i x v hi hv (.inl hk)
  have hm:(m x).isSome=true:=by
    rcases lk with ⟨_,q⟩ | ⟨q,_⟩
    · rw [q]; rfl
    · rcases q with q | q <;> (rw [hk] at q; cases q)
  unfold unbindBehindTheSuite unbindName deleteName
  refine wpAny_onRaise (wpAny_bind (wpAny_point (wpAny_bind ?_)))
  simp only [hk,hcls,Bool.false_eq_true,if_false]
  refine wpAny_bind (wpAny_nsDel_keeps hn fun h' v' hn' hs=>?_)
  rw [hm]
  refine wpAny_pure (wpAny_point ?_)
  obtain ⟨oL,_,_,hoL,_⟩:=id hn
  refine h _ ⟨I.ok,I.os,I.bare,⟨fun b o e n hb hx=>?_,fun b o e n hb hx=>?_,I.base.free,fun b o e hx=>?_,I.base.tups,I.base.frzs,I.base.tbls⟩,⟨_,hn',fun j y v' e1 e2 e3=>?_⟩,fun y c e=>?_,I.free,I.freeC,fun p hp=>?_,fun b ob e=>?_,by simpa using I.len⟩
  · exact (hs.2 b (Nat.ne_of_lt (Nat.lt_of_lt_of_le (Heap.lt_size e) I.ok.above))).trans (I.base.keep b o e n hb hx)
  · obtain ⟨sl,e1⟩:=I.base.slot b o e n hb hx
    exact ⟨sl,(hs.2 b (Nat.ne_of_lt (Nat.lt_of_lt_of_le (Heap.lt_size e) I.ok.above))).trans e1⟩
  · obtain ⟨o',e1⟩:=I.base.there b o e hx
    exact ⟨o',(hs.2 b (Nat.ne_of_lt (Nat.lt_of_lt_of_le (Heap.lt_size e) I.ok.above))).trans e1⟩
  · by_cases hj:j=i
    · subst hj
      rw [List.getElem?_set_self hiσ] at e2
      cases e2
    · rw [List.getElem?_set_ne (Ne.symm hj)] at e2
      obtain ⟨u',r',q⟩:=hl j y v' e1 e2 e3
      refine ⟨u',r',?_⟩
      rcases q with ⟨k,e⟩ | ⟨k,c,e,z⟩
      · refine .inl ⟨k,?_⟩
        have:y ≠ x:=fun e=>hj (nodup_ix hN e1 (e ▸ hi))
        simp [this,e]
      · exact .inr ⟨k,c,e,z.sameBut hs (cne y c e)⟩
  · obtain ⟨w',z⟩:=I.cell y c e
    exact ⟨w',z.sameBut hs (cne y c e)⟩
  · obtain ⟨e,n,ne,nf,d⟩:=I.pin p hp
    exact ⟨(hs.2 p.1 ne).trans e,n,ne,nf,d⟩
  · refine (I.hok b ob e).stay (fun c w' hc q=>(hs.2 c ?_).trans q) (fun _ q=>q) fun _ _ q=>q
    rintro rfl
    rcases hc with rfl | hc
    · rw [I.free] at e; cases e
    · rw [I.free] at hc; cases hc
end
end L2
namespace L2
open PySem PySem.Spec PyProof.Rows
def PSw (X:Cx) (EE:Ends→St→XK) (st:List Stmt) (t:TS):Prop :=
  ∀ (W:Value→Shared→Prop) (pins:List (Addr × Obj)) (s:Shared) (σ:St) (H:Hp) (D:Ends),(∀ H1 s1 ev s2,Inv X pins σ H1 s1→CXr X.prog X.w X.stack H1 s1 (EE D σ) ev s2→W ev s2)→Inv X pins σ H s→t D σ H →
    wpAny (model X.prog X.w) X.A (execs st X.env) (SP X pins D) W s
section
variable {X:Cx} {EE:Ends→St→XK} {n k:Nat} {x:Str} {ps:List Str} {sp:Sp} {e:Expr} {es:List Expr} {ta:TA} {p pos:Pos}
def Ends.un (D:Ends) (i:Nat):Ends:={ nx:=fun σ H=>D.nx (σ.set i none) H,rt:=D.rt,bk:=fun σ H=>D.bk (σ.set i none) H,ct:=fun σ H=>D.ct (σ.set i none) H }
def isBaseX (K:PySem.W.Frag) (CA:Addr):Prop:=∃ (nm q:Str) (N:Addr) (bs:List Value) (sn:List Str) (sub:List Value) (ab:Bool) (col:Option Bool) (dd:Option Addr) (k0 k1 k2 k3 k5:Option Value),K.lookup CA=some (excClassObj nm q CA N bs bmV true sn sub ab col dd k0 k1 k2 k3 k5 "ValueError.__new__")
end
end L2
namespace L2
open PySem PySem.Spec PyProof.Rows
section
variable {X:Cx} {e:Expr} {f:Str} {pos:Pos} {ta:TE}
theorem call_isiXK (K:PySem.W.Frag) (hK:X.K=K:=by rfl):CallR X (.builtin "isinstance") (rIsiX K):=by subst hK; exact call_isiX
theorem pe_fldXK (K:PySem.W.Frag) (he:PE X e ta) (hb:attributeBase e f X.env (eval e X.env)=eval e X.env) (hK:X.K=K:=by rfl) :
    PE X (.Attribute e f pos) (fun σ H Q=>ta σ H fun x H1=>∃ a C CA dx fs v,x=.ref a∧XAt H1 a C dx∧H1 dx=some (.xd fs)∧fs.lookup f=some v∧ClsX K C CA∧NoAttr K C f∧Q v H1):=by subst hK; exact pe_fldX he hb
end
end L2
namespace L2
open PySem PySem.Spec PyProof.Rows
def ItVT (K:PySem.W.Frag) (a:Addr) (xs:List V):It:=⟨fun i H=>SqT K H a xs∧i < xs.length,fun i H y H'=>H'=H∧xs.reverse[i]?=some y,fun i _=>xs.length≤i⟩
def ItVB (K:PySem.W.Frag) (c:Bool) (a:Addr) (xs:List V):It:=if c=true then ItV K a xs else ItVT K a xs
section
variable {X:Cx} {tg:Expr}
def iRevB (K:PySem.W.Frag) (tl:TE):TI:=fun σ H R=>tl σ H fun x H1=>∃ c a xs,x=.ref a∧SqB K c H1 a xs∧R (ItVB K c a xs) H1
end
end L2
namespace L2
open PySem PySem.Spec PyProof.Rows
set_option maxRecDepth 100000
section
variable {X:Cx}
def rRepT (K:PySem.W.Frag):R2:=fun x y H Q=>∃ a v k,x=.ref a∧y=.int k∧SqT K H a [v]∧0≤k∧k≤1000∧(k=1→Q (.ref a) H)∧(k ≠ 1→∀ p,H p=none→Q (.ref p) (upd H p (.tup (List.replicate k.toNat v))))
end
end L2
namespace L2
open PySem PySem.Spec PyProof.Rows
end L2
namespace L2
open PySem PySem.Spec PyProof.Rows
section
variable {M:Model} {A:Around} {E:Value→Shared→Prop}
end
section
variable {X:Cx} {EE:Ends→St→XK} {k:Nat} {m:Str} {ps:List Str} {sp:Sp} {e o:Expr} {es:List Expr} {ta:TE} {t:TA} {f C:Addr} {fd:FuncData} {apos pos:Pos}
end
end L2
namespace L2
open PySem PySem.Spec PyProof.Rows
def ItB (K:PySem.W.Frag) (c:Bool) (a:Addr):It:=if c=true then Itl K a else Itt K a
section
variable {X:Cx} {tg:Expr}
def iAny (K:PySem.W.Frag) (tl:TE):TI:=fun σ H R=>tl σ H fun x H1=>∃ c a,x=.ref a∧(∃ xs,SqB K c H1 a xs)∧R (ItB K c a) H1
theorem pi_any {l:Expr} {tl:TE} (hl:PE X l tl):PI X tg l (iAny X.K tl):=by
  intro pins s σ H R I h
  refine thn (hl pins s σ H _ I h) fun v s1 ⟨x,H1,I1,r1,q1⟩=>?_
  obtain ⟨c,a,e,⟨xs,hq⟩,q⟩:=q1
  subst e
  cases r1
  cases c with
  | true =>
    have hq:SqL X.K H1 a xs:=hq
    have q:R (Itl X.K a) H1:=q
    obtain ⟨its,rv,p,hz⟩:=I1.list hq
    refine wpAny_pyIter_list p.isList ?_
    refine ⟨s1.heap.objs.size,[s1.heap.objs.size],_,_,H1,rfl,I1.kept (t':=s1.toks) fun b o e=>Heap.get?_push_of_some _ e,turn_list a _,⟨_,Heap.get?_push_size _ rfl,rfl,rfl⟩,fun b hb=>?_,q⟩
    have e:b=s1.heap.objs.size:=by simpa using hb
    subst e
    exact I1.fpOk (Nat.le_refl _) (I1.hok.fresh (Nat.le_refl _))
  | false =>
    have hq:SqT X.K H1 a xs:=hq
    have q:R (Itt X.K a) H1:=q
    obtain ⟨its,rv,p,hz⟩:=I1.tuple hq
    refine wpAny_pyIter_tuple (show s1.heap.IsTuple a its.toArray from p) ?_
    refine ⟨s1.heap.objs.size,[s1.heap.objs.size],_,_,H1,rfl,I1.kept (t':=s1.toks) fun b o e=>Heap.get?_push_of_some _ e,turn_tuple a _,⟨_,Heap.get?_push_size _ rfl,rfl,rfl⟩,fun b hb=>?_,q⟩
    have e:b=s1.heap.objs.size:=by simpa using hb
    subst e
    exact I1.fpOk (Nat.le_refl _) (I1.hok.fresh (Nat.le_refl _))
end
end L2
namespace L2
open PySem PySem.Spec PyProof.Rows
section
variable {X:Cx} {EE:Ends→St→XK} {pos:Pos}
end
end L2
namespace L2
open PySem PySem.Spec PyProof.Rows
abbrev TV:=Ends→TS
def PSv (X:Cx) (EE:Ends→St→XK) (st:List Stmt) (t:TV):Prop :=
  ∀ (W:Value→Shared→Prop) (pins:List (Addr × Obj)) (s:Shared) (σ:St) (H:Hp) (DT D:Ends),(∀ σ' H1 s1 ev s2,Inv X pins σ' H1 s1→CXr X.prog X.w X.stack H1 s1 (EE DT σ') ev s2→W ev s2)→Inv X pins σ H s→t DT D σ H →
    wpAny (model X.prog X.w) X.A (execs st X.env) (SP X pins D) W s
section
variable {X:Cx} {EE:Ends→St→XK} {k:Nat} {x:Str} {ps:List Str} {sp:Sp} {e:Expr} {es:List Expr} {ta:TA} {p pos:Pos} {f C:Addr} {fd:FuncData} {st:Stmt} {rest:List Stmt} {t:TS} {u:TV}
theorem psv_nil:PSv X EE [] (fun _ D σ H=>D.nx σ H):=fun W pins s σ H DT D hW I h=>wpAny_execs_nil ⟨σ,H,I,h⟩
theorem psv_cons (h1:∀ W,PS (X.wish W) st t) (h2:PSv X EE rest u):PSv X EE (st::rest) (fun DT D σ H=>t { D with nx:=u DT D } σ H):=by
  intro W pins s σ H DT D hW I h
  refine wpAny_execs_cons (thn (h1 W pins s σ H { D with nx:=u DT D } (I.wish W) h) fun f s1 q=>?_)
  have q':=SP.unwish q
  cases f with
  | next =>
    obtain ⟨σ',H',I',q⟩:=q'
    exact h2 W pins s1 σ' H' DT D hW I' q
  | ret v=>exact q'
  | brk=>exact q'
  | cont=>exact q'
theorem run_makeW {W:Value→Shared→Prop} {E:XK} {pins:List (Addr × Obj)} {σ:St} {H:Hp} {s:Shared} {Q:VK} {us ds:List Value} {vs dvs:List V} (M:Mk X.K C f) (F:FnOk X.prog X.w X.K X.mg X.base (CXr X.prog X.w) k f fd ps sp) (hr:Room (k+1) X.A) (hb:Binds X.K fd ps ds) (hd:Vals dvs ds)
    (hW:∀ H1 s1 ev s2,Inv X pins σ H1 s1→CXr X.prog X.w X.stack H1 s1 E ev s2→W ev s2) (I:Inv X pins σ H s) (r:Vals vs us)
    (h:∀ x dx,H x=none→H dx=none→dx ≠ x→sp (.ref x::(vs++dvs)) (upd (upd H dx (.own x)) x (.ins C dx [])) (fun v H2=>v=.non∧Q (.ref x) H2) E) :
    wpAny (model X.prog X.w) X.A (call (.ref C) us) (EP X pins σ Q) W s:=by
  have hq:=h (s.heap.objs.size+1) s.heap.objs.size (I.hok.fresh (Nat.le_succ _)) (I.hok.fresh (Nat.le_refl _)) (Nat.ne_of_lt (Nat.lt_succ_self _))
  have I2:=Inv.made (C:=C) I
  have r2:Vals (V.ref (s.heap.objs.size+1)::(vs++dvs)) (Value.ref (s.heap.objs.size+1)::(us++ds)):=.cons rfl (r.append hd)
  have hl:(Value.ref (s.heap.objs.size+1)::us++ds).length=ps.length:=by
    have e:=r2.length
    rw [F.len _ _ _ _ hq] at e
    exact e.symm
  refine wpAny_call (make_map (f:=f) I.kIn M.makes M.init (beq_iff_eq.mp M.fn) (codeAny_mono (F.run _ X.stack _ _ ⟨Value.ref (s.heap.objs.size+1)::us,[]⟩ (Value.ref (s.heap.objs.size+1)::(us++ds)) _ _ E (hr.make C us [])
    (I2.env0.make C us []) (hb _ (Value.ref (s.heap.objs.size+1)::us) I2.kIn hl) r2 hq) fun r s' hq'=>?_))
  cases r with
  | error e=>exact hW _ _ e s' I2 hq'
  | ok fl =>
    cases fl with
    | ret u =>
      obtain ⟨v,H',I3,rv,ev,q3⟩:=I2.after hq'
      subst ev
      exact ⟨rv,⟨V.ref (s.heap.objs.size+1),H',I3,rfl,q3⟩⟩
    | next=>exact False.elim hq'
    | brk=>exact False.elim hq'
    | cont=>exact False.elim hq'
theorem psv_make {i:Nat} {y:Str} {py p1:Pos} (hN:X.N.Nodup) (hi:X.N[i]?=some y) (hx:Loc X.env.scope y) (M:Mk X.K C f) (F:FnOk X.prog X.w X.K X.mg X.base (CXr X.prog X.w) k f fd ps sp) (hr:Room (k+1) X.A) (hg:Gl X x) (hm:X.mg x=some (.ref C)) (hb:Binds X.K fd ps []) (ha:∀ W,PA (X.wish W) (e::es) ta) (h2:PSv X EE rest u)
    (hs:swapsWith (.Call (.Name x p) (e::es) [] pos) (some (.Name y py)) p1.line X.env=pure false:=by rfl) (hf:X.fn y=true∨X.env.scope.names.lookup y=some .local:=by first | exact .inl rfl | exact .inr rfl | assumption)
    (hdb:(x == ("__debug__" : Str))=false:=by decide) (he:starEach (e::es) X.env=(false,eval e X.env)::starEach es X.env:=by rfl) (hpl:(backTo pos (starEach es X.env)).any (·.1)=false:=by rfl) :
    PSv X EE (.Assign [.Name y py] (.Call (.Name x p) (e::es) [] pos) p1::rest) (fun DT D σ H=>tMake C sp [] (EE DT σ) ta σ H fun v H1=>u DT D (σ.set i (some v)) H1):=by
  intro W pins s σ H DT D hW I h
  have hc:wpAny (model X.prog X.w) X.A (eval (.Call (.Name x p) (e::es) [] pos) X.env) (EP X pins σ (fun v H1=>u DT D (σ.set i (some v)) H1)) W s:=by
    refine wpAny_Call_Name_kw (ld_glob I hg hm ?_ hdb)
    refine PySem.W.callWith_K (h₀:=X.base) I.ok.mod.kin M.kp (thn (ha W pos pins s σ H _ (I.wish W) h) fun us s1 ⟨vs,H1,I1,r,q⟩=>⟨I1.kIn,?_⟩) he hpl
    exact run_makeW M F hr hb .nil (fun H1 s1 ev s2=>hW σ H1 s1 ev s2) I1.unwish r q
  refine wpAny_execs_cons (wpAny_Assign_Name (thn hc fun v s1 ⟨z,H1,I1,r1,q1⟩=>?_) hs)
  exact store_ok I1 hN hi hx r1 (fun s2 I2=>h2 W pins s2 _ H1 DT D hW I2 q1) hf
end
section
variable {X:Cx}
def rInsert:V→List V→Hp→VK→Prop:=fun x vs H Q=>∃ l xs i y,x=.ref l∧vs=[.int i,y]∧H l=some (.lst xs)∧xs.length < sizeLine∧0≤i∧i < 2 ^ 62∧Q .non (upd H l (.lst (xs.take i.toNat++y::xs.drop i.toNat)))
theorem take_min (xs:List Value) (k:Nat):xs.take (min k xs.length)=xs.take k∧xs.drop (min k xs.length)=xs.drop k:=by
  by_cases h:k≤xs.length
  · rw [Nat.min_eq_left h]; exact ⟨rfl,rfl⟩
  · rw [Nat.min_eq_right (by omega),List.take_length,List.drop_length,List.take_of_length_le (by omega),List.drop_of_length_le (by omega)]; exact ⟨rfl,rfl⟩
theorem Vals.tk {xs:List V} {us:List Value} (r:Vals xs us):∀ n,Vals (xs.take n) (us.take n)∧Vals (xs.drop n) (us.drop n):=by
  induction r with
  | nil=>intro n; simp only [List.take_nil,List.drop_nil]; exact ⟨.nil,.nil⟩
  | cons a b ih =>
    intro n
    cases n with
    | zero=>exact ⟨.nil,.cons a b⟩
    | succ n=>exact ⟨.cons a (ih n).1,(ih n).2⟩
theorem mt_insert:MtM X "list.insert" rInsert:=by
  intro pins s σ H x vs v us Q I rx rv h
  obtain ⟨l,xs,i,y,rfl,rfl,hH,hz,i0,i1,q⟩:=h
  cases rx
  cases rv with
  | cons r1 rv1 =>
    obtain ⟨t,rfl⟩:=r1
    obtain ⟨u,rfl,ru⟩:=vals1 rv1
    obtain ⟨z,its,n,r,hl,e⟩:=I.lstM hH
    have hfit:¬ (!Builtin.List.listFitsIndex i)=true:=by
      unfold Builtin.List.listFitsIndex
      simp only [Bool.not_eq_true',Bool.not_eq_false']
      simp
      omega
    refine call_meets F.slot_list_insert ⟨_,e,rfl⟩ F.entry_list_insert (F.args_list_insert_3 _ _ _) (PySem.AutoSeq1.list_insert_list_int_val_1 l its.toArray n i t u hfit (by rw [List.size_toArray]; omega)) ⟨e,?_⟩
    have hlen:=r.length
    refine ⟨.non,_,I.lset (its':=its.take i.toNat++u::its.drop i.toNat) hH e ?_ ((r.tk i.toNat).1.append (.cons ru (r.tk i.toNat).2)) ?_,rfl,q⟩
    · dsimp only
      rw [if_neg (by omega),List.size_toArray]
      have tm:=take_min its i.toNat
      apply Array.toList_inj.mp
      simp only [Array.toList_append,Array.toList_push,Array.toList_extract,List.extract_eq_drop_take,List.drop_zero,Nat.sub_zero]
      rw [tm.1,tm.2]
      simp
      exact List.take_of_length_le (by rw [List.length_drop]; omega)
    · rw [List.length_append,List.length_cons,List.length_take,List.length_drop]
      omega
end
end L2
namespace L2
open PySem PySem.Spec PyProof.Rows
section
variable {X:Cx} {pos:Pos}
end
end L2
namespace L2
open PySem PySem.Spec PyProof.Rows
inductive ConstsI:List Expr→List Int→Prop
  | nil:ConstsI [] []
  | cons {n:Int} {j:Nat} {pos:Pos} {es:List Expr} {zs:List Int}:ConstsI es zs→ConstsI (.Constant (.int n) j pos::es) (n::zs)
section
variable {X:Cx}
def rPopA:V→List V→Hp→VK→Prop:=fun x vs H Q=>∃ l xs i j v,x=.ref l∧vs=[.int i]∧H l=some (.lst xs)∧0≤i∧i < 2 ^ 62∧i=((j:Nat):Int)∧xs[j]?=some v∧Q v (upd H l (.lst (xs.eraseIdx j)))
end
end L2
namespace L2
open PySem PySem.Spec PyProof.Rows PySem.Builtin PySem.Builtin.Str
def PEt (X:Cx) (e:Expr) (t:TE):Prop :=
  ∀ (pins:List (Addr × Obj)) (s:Shared) (σ:St) (H:Hp) (Q:VK),1≤s.toks→Inv X pins σ H s→t σ H Q→wpAny (model X.prog X.w) X.A (eval e X.env) (EP X pins σ Q) X.xe s
def PAt (X:Cx) (es:List Expr) (t:TA):Prop :=
  ∀ (pos:Pos) (pins:List (Addr × Obj)) (s:Shared) (σ:St) (H:Hp) (Q:List V→Hp→Prop),1≤s.toks→Inv X pins σ H s→t σ H Q→wpAny (model X.prog X.w) X.A (spliced (backTo pos (starEach es X.env))) (AP X pins σ Q) X.xe s
def PSt (X:Cx) (st:Stmt) (t:TS):Prop :=
  ∀ (pins:List (Addr × Obj)) (s:Shared) (σ:St) (H:Hp) (D:Ends),1≤s.toks→Inv X pins σ H s→t D σ H→wpAny (model X.prog X.w) X.A (exec st X.env) (SP X pins D) X.xe s
def PSst (X:Cx) (st:List Stmt) (t:TS):Prop :=
  ∀ (pins:List (Addr × Obj)) (s:Shared) (σ:St) (H:Hp) (D:Ends),1≤s.toks→Inv X pins σ H s→t D σ H→wpAny (model X.prog X.w) X.A (execs st X.env) (SP X pins D) X.xe s
section
variable {X:Cx} {st:Stmt} {rest es:List Stmt} {t u:TS}
def tEqT (i:Nat) (n:Int) (t u:TS):TS:=fun D σ H=>∃ k,σ[i]?=some (some (.int k))∧(k=n→t { D with nx:=fun _ _=>False } σ H)∧(k ≠ n→u D σ H)
def tRep1 (i:Nat):TE:=fun σ H Q=>∃ z:Str,σ[i]?=some (some (.str z))∧z.length≤100000∧∀ y:Str,y.length≤2*z.length+2→Q (.str y) H
end
end L2
namespace L2
open PySem PySem.Spec PyProof.Rows
theorem entry_unchain:entryFor table "proto.unchain" = some Builtin.«proto.unchain»:=entryFor_of_fast (by kernel_rfl)
theorem wpAny_raiseH {α:Type} {prog:Program} {w:World} {A:Around} {E:Value→Shared→Prop} {Q:α→Shared→Prop} {s:Shared} {a e:Addr} {oe oa:Obj} {vs us:Array Value} (hh:A.handled=some (.ref e)) (hne:e ≠ a)
    (he:s.heap.get? e=some oe) (hde:oe.data=.fields vs) (h2:vs[2]?=some .none) (ha:s.heap.get? a=some oa) (hda:oa.data=.fields us) (hsz:2 < us.size)
    (hE:E (.ref a) { s with heap:=s.heap.update a (Obj.mapFields (·.setIfInBounds 2 (.ref e))) }):wpAny (model prog w) A (raiseNew (.ref a):Sem α) Q E s:=by
  unfold raiseNew
  refine wpAny_bind (wpAny_handled ?_)
  rw [hh]
  show wpAny _ _ (if (Value.ref e != Value.ref a)=true then _ else _) _ _ _
  rw [if_pos (by simp [hne])]
  refine wpAny_bind (wpAny_holding (runValue_entry entry_unchain ?_))
  show wpAny _ _ (field (.ref e) 2 >>= _) _ _ _
  refine wpAny_bind (wpAny_field he hde h2 ?_)
  refine wpAny_pure ⟨_,rfl,?_⟩
  refine wpAny_bind ?_
  unfold updateField
  refine wpAny_bind (wpAny_load ha ?_)
  rw [hda]
  show wpAny _ _ (if 2 < us.size then _ else _) _ _ _
  rw [if_pos hsz]
  exact wpAny_update ha (wpAny_throw hE)
theorem wpAny_pyNext_list_endH {prog:Program} {w:World} {A:Around} {E:Value→Shared→Prop} {s:Shared} {it l e:Addr} {i:Nat} {items:Array Value} {oe:Obj} {vs:Array Value} {Q:Option Value→Shared→Prop} (hh:A.handled=some (.ref e))
    (he:s.heap.get? e=some oe) (hde:oe.data=.fields vs) (h2:vs[2]?=some .none) (hne:e ≠ it)
    (hit:s.heap.IsListIter it l i) (hl:s.heap.IsList l items) (hx:items[i]?=none)
    (hQ:∀ h',Heap.ExtBut it s.heap h'→Q none { s with heap:=h' }):wpAny (model prog w) A (pyNext (.ref it)) Q E s:=by
  obtain ⟨o,ho,hc,hd⟩:=id hit
  obtain ⟨ol,hol,_,nl,hdl⟩:=hl
  unfold pyNext
  refine wpAny_bind (wpAny_attempt (wpAny_callSpecial?_slot (name:=Str.ofString "__next__") hit.typeIs slot_listiter_next
    (wpAny_call_entry slot_listiter_next hit.typeIs entry_listiter_next ?_ (args_listiter_next _))))
  show wpAny _ _ (field (.ref it) 0 >>= _) _ _ s
  refine wpAny_bind (wpAny_field ho hd (x:=.ref l) rfl ?_)
  show wpAny _ _ (if (Value.ref l == Value.none)=true then _ else _) _ _ s
  rw [if_neg (show ¬ ((Value.ref l == Value.none)=true) from Bool.false_ne_true)]
  show wpAny _ _ (field (.ref it) 1 >>= _) _ _ s
  refine wpAny_bind (wpAny_field ho hd (x:=.int i 0) rfl ?_)
  show wpAny _ _ (seqItems? (.ref l) >>= _) _ _ s
  refine wpAny_bind (wpAny_seqItems hol hdl ?_)
  simp only [Int.toNat_natCast,hx]
  refine wpAny_bind (wpAny_rule (wpAny_bind (wpAny_setField ho hd (by simp) ?_)))
  show wpAny _ _ (newExc (.type "StopIteration") [] >>= _) _ _ _
  refine wpAny_bind ?_
  simp only [newExc,newTuple]
  refine wpAny_bind (wpAny_newObj_type ?_ (by size_fits))
  refine wpAny_bind (m:=firstArgMember _ _) (wpAny_of_eq (a:=Value.none) (by first | rfl | (simp only [firstArgMember]; rfl)) ?_)
  refine wpAny_newObj_type ?_ (by size_fits)
  have le:=Heap.lt_size he
  have he1:(s.heap.update it (Obj.mapFields fun x=>x.setIfInBounds 0 Value.none)).get? e=some oe:=(Heap.get?_update_other _ _ (Ne.symm hne)).trans he
  have he2:=Heap.get?_push_of_some (h:=(s.heap.update it (Obj.mapFields fun x=>x.setIfInBounds 0 Value.none))) { cls:=Value.type "tuple", data:=Data.seq #[] } he1
  have ne:e ≠ ((s.heap.update it (Obj.mapFields fun x=>x.setIfInBounds 0 Value.none)).push { cls:=Value.type "tuple", data:=Data.seq #[] }).objs.size:=Nat.ne_of_lt (Heap.lt_size he2)
  refine wpAny_raiseH (A:=A.in1) hh ne (Heap.get?_push_of_some _ he2) hde h2 (Heap.get?_push_size _ rfl) rfl (by rw [Array.size_append]; exact Nat.lt_add_right _ (by show 2 < 6; decide)) ?_
  refine wpAny_bind (wpAny_isInstance (T := "StopIteration") (b:=true) ⟨_,Heap.get?_update_self _ (Heap.get?_push_size _ rfl) (Obj.isFreed_of_fields (Obj.data_mapFields rfl _)),rfl⟩ isSubtype_stop ?_)
  refine wpAny_pure (hQ _ fun b o hb e=>?_)
  have e1:(s.heap.update it (Obj.mapFields fun x=>x.setIfInBounds 0 Value.none)).get? b=some o:=(Heap.get?_update_other _ _ (Ne.symm hb)).trans e
  have e2:=Heap.get?_push_of_some (h:=(s.heap.update it (Obj.mapFields fun x=>x.setIfInBounds 0 Value.none))) { cls:=Value.type "tuple", data:=Data.seq #[] } e1
  rw [Heap.get?_update_other _ _ (Nat.ne_of_gt (Heap.lt_size e2))]
  exact Heap.get?_push_of_some _ e2
end L2
namespace L2
open PySem PySem.Spec PyProof.Rows
structure TurnH (e:Addr) (P:Program) (w:World) (K:PySem.W.Frag) (tg:Expr) (J:It) (fp:List Addr) (it:Addr) (tn:Nat→Heap→Prop):Prop where
  mem:it ∈ fp
  obj:∀ i h,tn i h→∀ b ∈ fp,∃ o,h.get? b=some o∧∀ v,o.data ≠ .cell v
  keep:∀ i h h',tn i h→(∀ b ∈ fp,∀ o,h.get? b=some o→h'.get? b=some o)→tn i h'
  item:∀ (X:Cx),X.prog=P→X.w=w→X.K=K→X.A.handled=some (.ref e)→∀ (i:Nat) (pins:List (Addr × Obj)) (s:Shared) (σ:St) (H:Hp) (E:Value→Shared→Prop),Inv X pins σ H s→(∀ b ∈ fp,FpOk X pins H b)→tn i s.heap→J.go i H →
    wpAny (model P w) X.A (pyNext (.ref it)) (fun r s1=>∃ u,r=some u ∧
      wpAny (model P w) X.A (letOwnedTupleGo tg (.ref it) u) (fun _ s2=>∃ x H',Inv X pins σ H' s2∧RelV x u∧J.yld i H x H'∧tn (i+1) s2.heap∧∀ b ∈ fp,H' b=none) E s1) E s
  done:∀ (X:Cx),X.prog=P→X.w=w→X.K=K→X.A.handled=some (.ref e)→∀ (i:Nat) (pins:List (Addr × Obj)) (s:Shared) (σ:St) (H:Hp) (E:Value→Shared→Prop),Inv X pins σ H s→(∀ b ∈ fp,FpOk X pins H b)→tn i s.heap→J.stop i H →
    wpAny (model P w) X.A (pyNext (.ref it)) (fun r s1=>r=none∧Inv X pins σ H s1) E s
  self:∀ (A:Around) (i:Nat) (s:Shared) (Q:Value→Shared→Prop) (E:Value→Shared→Prop),tn i s.heap→Q (.ref it) s→wpAny (model P w) A (pyIter (.ref it)) Q E s
def ItlH (K:PySem.W.Frag) (a e:Addr):It :=
  ⟨fun i H=>∃ xs x,SqL K H a xs∧xs[i]?=some x,fun i H x H'=>H'=H∧∀ xs,SqL K H a xs→xs[i]?=some x,fun i H=>(∃ xs,SqL K H a xs∧xs.length≤i)∧∃ C dx,H e=some (ExcT C e dx)⟩
def PIEH (e:Addr) (X:Cx) (pins:List (Addr × Obj)) (σ:St) (tg:Expr) (R:It→Hp→Prop) (itv:Value) (s2:Shared):Prop :=
  ∃ (it:Addr) (fp:List Addr) (tn:Nat→Heap→Prop) (J:It) (H':Hp),itv=.ref it∧Inv X pins σ H' s2∧TurnH e X.prog X.w X.K tg J fp it tn∧tn 0 s2.heap∧(∀ b ∈ fp,FpOk X pins H' b)∧R J H'
def PIH (e:Addr) (X:Cx) (tg iter:Expr) (wi:TI):Prop :=
  ∀ (pins:List (Addr × Obj)) (s:Shared) (σ:St) (H:Hp) (R:It→Hp→Prop),Inv X pins σ H s→wi σ H R →
    wpAny (model X.prog X.w) X.A (eval iter X.env) (fun v s1=>wpAny (model X.prog X.w) X.A (pyIter v) (PIEH e X pins σ tg R) X.xe s1) X.xe s
theorem turn_listH {e0:Addr} {P:Program} {w:World} {K:PySem.W.Frag} {tg:Expr} (a it:Addr):TurnH e0 P w K tg (ItlH K a e0) [it] it (fun i h=>h.IsListIter it a i) where
  mem:=by simp
  obj:=fun i h st b hb=>by
    have e:b=it:=by simpa using hb
    subst e
    obtain ⟨o,e,c,d⟩:=st
    exact ⟨o,e,fun v z=>by rw [d] at z; cases z⟩
  keep:=fun i h h' st k=>st.at fun o e=>k it (by simp) o e
  item:=by
    intro X hP hw hK hc i pins s σ H E I hf st hg
    subst hP hw hK
    obtain ⟨xs,x,hq,hx⟩:=hg
    obtain ⟨its,rv,p,hz⟩:=I.list hq
    obtain ⟨u,hu,ru⟩:=rv.get hx
    obtain ⟨f0,f1,f2,f3,f4,f5⟩:=hf it (by simp)
    refine wpAny_pyNext_list_item st p.isList (x:=u) (by simpa using hu) fun h' st' sb=>?_
    have I1:Inv X pins σ H { s with heap:=h' }:=I.turned (t':=s.toks) (fun b o hb e=>(sb.2 b hb).trans e) f0 f1 f3 f4 f5
    obtain ⟨o,e,c,d⟩:=id st'
    exact ⟨u,rfl,go_of (s:={ s with heap:=h' }) e c d (by decide) ⟨x,H,I1,ru,⟨rfl,fun ys hy=>by rw [I.list_inj hy hq]; exact hx⟩,st',fun b hb=>(hf b hb).1⟩⟩
  done:=by
    intro X hP hw hK hc i pins s σ H E I hf st hg
    subst hP hw hK
    obtain ⟨⟨xs,hq,hx⟩,C,dx,hex⟩:=hg
    obtain ⟨oe,heo,vs,rfl,_,v2⟩:=ObP.get I.hok hex
    obtain ⟨its,rv,p,hz⟩:=I.list hq
    obtain ⟨f0,f1,f2,f3,f4,f5⟩:=hf it (by simp)
    have hl:=rv.length
    have nei:e0 ≠ it:=fun z=>by rw [z,f0] at hex; cases hex
    exact wpAny_pyNext_list_endH hc heo rfl v2 nei st p.isList (by simp; omega) fun h' eb=>⟨rfl,I.turned (t':=s.toks) (fun b o hb e=>eb b o hb e) f0 f1 f3 f4 f5⟩
  self:=fun _ _ _ _ _ st h=>wpAny_pyIter_listiter st h
def iListH (K:PySem.W.Frag) (e:Addr) (tl:TE):TI:=fun σ H R=>tl σ H fun x H1=>∃ a,x=.ref a∧(∃ xs,SqL K H1 a xs)∧R (ItlH K a e) H1
theorem pi_listH {X:Cx} {tg:Expr} {e0:Addr} {l:Expr} {tl:TE} (hl:PE X l tl):PIH e0 X tg l (iListH X.K e0 tl):=by
  intro pins s σ H R I h
  refine thn (hl pins s σ H _ I h) fun v s1 ⟨x,H1,I1,r1,q1⟩=>?_
  obtain ⟨a,e,⟨xs,hq⟩,q⟩:=q1
  subst e
  cases r1
  obtain ⟨its,rv,p,hz⟩:=I1.list hq
  refine wpAny_pyIter_list p.isList ?_
  refine ⟨s1.heap.objs.size,[s1.heap.objs.size],_,_,H1,rfl,I1.kept (t':=s1.toks) fun b o e=>Heap.get?_push_of_some _ e,turn_listH a _,⟨_,Heap.get?_push_size _ rfl,rfl,rfl⟩,fun b hb=>?_,q⟩
  have e:b=s1.heap.objs.size:=by simpa using hb
  subst e
  exact I1.fpOk (Nat.le_refl _) (I1.hok.fresh (Nat.le_refl _))
section
variable {X:Cx} {x:Str} {N:List Str} {ix:List Nat} {scope:Scope} {cl:List (Str × Addr)} {elt iter:Expr} {ifs:List Expr} {px pos:Pos} {wi:TI} {tb:TBl}
theorem comp_runH {e0:Addr} (hc:X.A.handled=some (.ref e0)) (S:CompScope X x N ix scope cl) (hix:ix.length=N.length) (hb:∀ s3 H3 fp,PB (cxComp X (x::N) scope cl s3 H3 fp) ifs elt tb)
    {pins:List (Addr × Obj)} {s2:Shared} {σ:St} {H2:Hp} {Q:VK} {it:Addr} {fp:List Addr} {tn:Nat→Heap→Prop} {J:It} {RR:Value→Addr→Result→Shared→Prop} {E:Value→Shared→Prop}
    (I2:Inv X pins σ H2 s2) (T:TurnH e0 X.prog X.w X.K (.Name x px) J fp it tn) (st2:tn 0 s2.heap) (f2:∀ b ∈ fp,FpOk X pins H2 b)
    (h:∀ D,H2 D=none→∃ W:Nat→Nat→Hp→Prop,(∃ m,W 0 m (upd H2 D (.lst [])))∧∀ i m H3,W i m H3 →
      (J.stop i H3∧Q (.ref D) H3)∨(J.go i H3∧∀ y H4,J.yld i H3 y H4→tb (some y::outs ix σ) H4 (fun H5=>∃ m',m' < m∧W (i+1) m' H5)
        fun z H5=>∃ ys,H5 D=some (.lst ys)∧ys.length < sizeLine∧∃ m',m' < m∧W (i+1) m' (upd H5 D (.lst (ys++[z])))))
    (hRR:∀ (D C:Addr) (H':Hp) (s':Shared) (m:Str→Option Value),s'.heap.Ns C m→Apart X pins H' C→Inv X pins σ H' s'→Q (.ref D) H'→RR (.ref D) C (.ok .next) s') :
    wpAny (model X.prog X.w) X.A (newList []) (fun acc s3=>wpAny (model X.prog X.w) X.A (newFunctionEnv scope X.env.globals cl [] X.env.qual none .none (some X.env)) (fun cenv s4 =>
      codeAny (model X.prog X.w) X.A (.compStart (.ListComp elt [⟨.Name x px,iter,ifs,0⟩] scope pos) 0 (.ref it) acc { cenv with scope:=relabel scope X.env }) (RR acc cenv.locals) s4) E s3) E s2:=by
  refine wpAny_newObj_type (wpAny_newFunctionEnv S.nocell (by intro y hy; simp at hy) (fun h1 hns1 hsb1=>?_) S.kind)
  dsimp only at hns1 hsb1 ⊢
  have I3:Inv X pins σ (upd H2 s2.heap.objs.size (.lst [])) { s2 with heap:=s2.heap.push { cls:=.type "list", dict:=none,data:=.seq ([]:List Value).toArray } }:=I2.lnew (its:=[]) (ys:=[]) (t':=s2.toks) .nil (Nat.zero_le _)
  have hD:H2 s2.heap.objs.size=none:=I2.fresh
  obtain ⟨W,⟨m0,w0⟩,turn⟩:=h s2.heap.objs.size hD
  have hltF:∀ b ∈ fp,b < s2.heap.objs.size:=fun b hb=>by
    obtain ⟨o,e,_⟩:=T.obj 0 _ st2 b hb
    exact Heap.lt_size e
  generalize hs3:({ s2 with heap:=s2.heap.push { cls:=.type "list", dict:=none,data:=.seq ([]:List Value).toArray } }:Shared)=s3 at I3
  have eh:s2.heap.push { cls:=.type "list", dict:=none,data:=.seq ([]:List Value).toArray }=s3.heap:=by rw [← hs3]
  have et:s2.toks=s3.toks:=by rw [← hs3]
  rw [eh] at hns1 hsb1 ⊢
  have sz3:s3.heap.objs.size=s2.heap.objs.size+1:=by rw [← eh,Heap.size_push]
  have hlt3:∀ b ∈ fp,b < s3.heap.objs.size:=fun b hb=>Nat.lt_of_lt_of_le (hltF b hb) (by rw [sz3]; exact Nat.le_succ _)
  have f3:∀ b ∈ fp,FpOk X pins (upd H2 s2.heap.objs.size (.lst [])) b:=fun b hb=>by
    obtain ⟨q1,q2⟩:=f2 b hb
    exact ⟨by rw [upd_ne (Nat.ne_of_lt (hltF b hb))]; exact q1,q2⟩
  have up:∀ b o,s3.heap.get? b=some o→h1.get? b=some o:=fun b o e=>hsb1.extBut b o (Nat.ne_of_lt (Heap.lt_size e)) (Heap.get?_push_of_some _ e)
  have old:∀ b o,s2.heap.get? b=some o→h1.get? b=some o:=fun b o e=>up b o (by rw [← eh]; exact Heap.get?_push_of_some _ e)
  have es:({ s2 with heap:=h1,toks:=s2.toks+([]:List (Str × Value)).length }:Shared)={ s3 with heap:=h1,toks:=s2.toks+([]:List (Str × Value)).length }:=by rw [← hs3]
  rw [es]
  have I4:Inv (cxComp X (x::N) scope cl s3 (upd H2 s2.heap.objs.size (.lst [])) fp) [] (none::outs ix σ) (upd H2 s2.heap.objs.size (.lst [])) { s3 with heap:=h1,toks:=s2.toks+([]:List (Str × Value)).length } :=
    comp_start S I3 f3 hlt3 hix hns1 up
  have st4:tn 0 h1:=T.keep 0 _ _ st2 fun b _ o e=>old b o e
  have loop:codeAny (model X.prog X.w) X.A (.compLoop (.ListComp elt [⟨.Name x px,iter,ifs,0⟩] scope pos) 0 (.ref it) (.ref s2.heap.objs.size) (compEnvC scope cl s3.heap.objs.size X.env)) (RR (.ref s2.heap.objs.size) s3.heap.objs.size)
      { s3 with heap:=h1,toks:=s2.toks+([]:List (Str × Value)).length }:=by
    refine compLoop_go (fun n s'=>∃ i v0 H',Inv (cxComp X (x::N) scope cl s3 (upd H2 s2.heap.objs.size (.lst [])) fp) [] (v0::outs ix σ) H' s'∧tn i s'.heap∧(∀ b ∈ fp,H' b=none)∧W i n H') ?_ m0 ⟨0,none,_,I4,st4,fun b hb=>(f3 b hb).1,w0⟩
    rintro n s5 ⟨i,v0,H5,I5,st5,fr5,w5⟩
    have stat:∀ {H':Hp},(∀ b ∈ fp,H' b=none)→∀ b ∈ fp,FpOk (cxComp X (x::N) scope cl s3 (upd H2 s2.heap.objs.size (.lst [])) fp) [] H' b:=fun hn b hb =>
      ⟨hn b hb,((comp_cx S I3 f3 hlt3).exf b hb).1,(comp_cx S I3 f3 hlt3).exfs b hb,.inl hb,((comp_cx S I3 f3 hlt3).exf b hb).2,fun p hp=>absurd (show p ∈ ([]:List (Addr × Obj)) from hp) (by simp)⟩
    rcases turn i n H5 w5 with ⟨stop,qn⟩ | ⟨go,step⟩
    · refine thn (T.done (cxComp X (x::N) scope cl s3 (upd H2 s2.heap.objs.size (.lst [])) fp) rfl rfl rfl hc i [] s5 _ H5 _ I5 (stat fr5) st5 stop) fun r s6 ⟨hr,I6⟩=>?_
      subst hr
      obtain ⟨m6,hn6,_⟩:=I6.loc
      exact hRR _ _ H5 s6 m6 hn6 ⟨I6.free,Ne.symm (Nat.ne_of_lt I3.lt),I3.sz,fun y c e z=>by
        obtain ⟨v,q⟩:=I3.cell y c e
        exact absurd q.lt (by rw [z]; exact Nat.lt_irrefl _),fun p hp z=>absurd (Heap.lt_size (I3.pin p hp).1) (by rw [z]; exact Nat.lt_irrefl _)⟩ (comp_back I3 f3 I6 (Heap.SameBut.refl _ _)) qn
    · refine thn (T.item (cxComp X (x::N) scope cl s3 (upd H2 s2.heap.objs.size (.lst [])) fp) rfl rfl rfl hc i [] s5 _ H5 _ I5 (stat fr5) st5 go) fun r s6 ⟨u,hr,h6⟩=>?_
      subst hr
      refine thn h6 fun _ s7 ⟨y,H7,I7,r7,y7,st7,fr7⟩=>?_
      have I7':=I7.pinned (stat fr7) (T.obj _ _ st7)
      refine wpAny_assign_Name (store_ok (i:=0) I7' S.nd rfl (.inl (lookup_relabel_local S.own)) r7 (fun s8 I8=>?_) (.inr (lookup_relabel_local S.own)))
      have I8':Inv (cxComp X (x::N) scope cl s3 (upd H2 s2.heap.objs.size (.lst [])) fp) ([]++pinsAt fp s7.heap) (some y::outs ix σ) H7 s8:=I8
      have again:∀ {v9:Option V} {H9:Hp} {s9:Shared},Inv (cxComp X (x::N) scope cl s3 (upd H2 s2.heap.objs.size (.lst [])) fp) ([]++pinsAt fp s7.heap) (v9::outs ix σ) H9 s9→(∃ m',m' < n∧W (i+1) m' H9) →
          ∃ m,m < n∧∃ i v0 H',Inv (cxComp X (x::N) scope cl s3 (upd H2 s2.heap.objs.size (.lst [])) fp) [] (v0::outs ix σ) H' s9∧tn i s9.heap∧(∀ b ∈ fp,H' b=none)∧W i m H':=fun {v9 H9 s9} I9 ⟨m',hm,w9⟩=>by
        refine ⟨m',hm,i+1,v9,H9,I9.unpinned,T.keep _ _ _ st7 fun b hb o e=>(I9.pin (b,o) (List.mem_append_right _ (List.mem_append_right _ (mem_pinsAt hb e)))).1,fun b hb=>?_,w9⟩
        obtain ⟨o,e,d⟩:=T.obj _ _ st7 b hb
        exact (I9.pin (b,o) (List.mem_append_right _ (List.mem_append_right _ (mem_pinsAt hb e)))).2.1
      refine thn (hb s3 (upd H2 s2.heap.objs.size (.lst [])) fp _ s8 _ H7 _ _ I8' (step y H7 y7)) fun ok s9 q9=>?_
      cases ok with
      | false =>
        rw [if_neg (by decide)] at q9 ⊢
        obtain ⟨H9,I9,q9⟩:=q9
        exact again I9 q9
      | true =>
        rw [if_pos rfl] at q9 ⊢
        refine thn q9 fun u s10 ⟨z,H10,I10,r10,ys,hy,hz,q10⟩=>?_
        refine thn (mt_append _ s10 _ H10 (.ref s2.heap.objs.size) [z] (.ref s2.heap.objs.size) [u] (fun _ H'=>∃ m',m' < n∧W (i+1) m' H') I10 rfl (.cons r10 .nil) ⟨_,ys,z,rfl,rfl,hy,hz,q10⟩) fun _ s11 ⟨_,H11,I11,_,q11⟩=>?_
        exact again I11 q11
  exact codeAny_compStart_list loop (T.self _ 0 _ _ _ st4 loop)
theorem pe_compH {e0:Addr} (hc:X.A.handled=some (.ref e0)) (S:CompScope X x N ix scope cl) (hix:ix.length=N.length) (hi:PIH e0 X (.Name x px) iter wi) (hb:∀ s3 H3 fp,PB (cxComp X (x::N) scope cl s3 H3 fp) ifs elt tb)
    (hs:∀ x,foldedSetIterable iter X.env x=pure x:=by intro _; rfl):PE X (.ListComp elt [⟨.Name x px,iter,ifs,0⟩] scope pos) (tCompR wi ix tb):=by
  intro pins s σ H Q I h
  rw [eval_ListComp]
  refine wpAny_comprehension_free (use:=none) rfl hs S.clos S.kind S.names (thn (hi pins s σ H _ I h) fun xv s1 h1=>thn h1 fun itv s2 h2=>?_)
  obtain ⟨it,fp,tn,J,H2,rfl,I2,T,st2,f2,R⟩:=h2
  refine comp_runH hc S hix hb (RR:=fun acc C=>compPost (model X.prog X.w) X.A X.xe none (EP X pins σ Q) acc C) I2 T st2 f2 R ?_
  intro D C H' s' m hn ap I' q
  exact ⟨m,hn,fun h'' hb''=>⟨.ref D,H',ap.turn I' hb'',rfl,q⟩⟩
end
end L2
namespace L2
open PySem PySem.Spec PyProof.Rows
structure RoomH (k:Nat) (A:Around):Prop where
  dp:A.depth+3*k+5 < recursionLimit
  un:A.units+16*k+200 < cLine
theorem RoomH.mono {j k:Nat} {A:Around} (r:RoomH k A) (h:j≤k):RoomH j A:=⟨by have:=r.dp; omega,by have:=r.un; omega⟩
theorem RoomH.deeper {k:Nat} {A:Around} (r:RoomH (k+1) A) (env:Env):RoomH k (A.deeper env) :=
  ⟨by have:=r.dp; show A.depth+1+3*k+5 < _; omega,by have:=r.un; show A.units+3+16*k+200 < _; omega⟩
theorem Room.marked {k:Nat} {A:Around} {v:Option Value} (r:Room k A):RoomH k (A.mark v):=⟨r.dp,r.un⟩
structure FnOkH (P:Program) (w:World) (K:PySem.W.Frag) (mg:Str→Option Value) (base:Heap) (k:Nat) (f:Addr) (fd:FuncData) (ps:List Str) (sp:Sp):Prop where
  len:∀ vs H Q E,sp vs H Q E→vs.length=ps.length
  run:∀ (A:Around) (outer:List Env) (s:Shared) (H:Hp) (args:Args) (us:List Value) (vs:List V) (Q:VK) (E:XK),RoomH k A→Env0 P w K mg base A outer s H→BindsTo s fd args (ps.zip us)→Vals vs us→sp vs H Q E →
    codeAny (model P w) A (.call (.ref f) args) (CR CX0 outer P w H s Q E) s
abbrev cxOfH (P:Program) (w:World) (K:PySem.W.Frag) (mg:Str→Option Value) (base:Heap) (N:List Str) (qual:Str) (scope:Scope) (f:Addr) (cd:Value) (A:Around) (outer:List Env) (s:Shared) (H:Hp) (E:XK):Cx :=
  { cxOf CX0 P w K mg base N qual scope f cd A outer s H E with calm:=false }
theorem inv_startH {P:Program} {w:World} {K:PySem.W.Frag} {mg:Str→Option Value} {base:Heap} {N ps:List Str} {qual:Str} {scope:Scope} {f:Addr} {cd:Value} {A:Around} {outer:List Env} {s s1:Shared} {H:Hp} {E:XK} {us:List Value} {vs:List V}
    (S:FnScope N ps scope) (e0:Env0 P w K mg base A outer s H) (hl:vs.length=ps.length) (r:Vals vs us)
    (x:InCallC s s.heap.objs.size (bindL (envOfC qual scope s.heap.objs.size f cd).kindOf (ps.zip us) fun _=>none) (cellsFrom (s.heap.objs.size+1) scope.names []) (bindC (envOfC qual scope s.heap.objs.size f cd).kindOf (ps.zip us) fun _=>none) s1) :
    Inv (cxOfH P w K mg base N qual scope f cd A outer s H E) [] (start N vs) H s1:=by
  have e1:Env0 P w K mg base { A with handled:=none } outer s H:=⟨e0.frames,e0.mod,e0.bs,e0.bsz,e0.funs,e0.frf,e0.hok,e0.bare⟩
  have I:Inv (cxOf CX0 P w K mg base N qual scope f cd { A with handled:=none } outer s H E) [] (start N vs) H s1:=inv_start S rfl e1 hl r x
  exact ⟨⟨I.ok.mod,I.ok.kind,I.ok.glob,I.ok.blt,I.ok.above,I.ok.inj,I.ok.has,I.ok.cab,(fun z=>by cases z),Around.frames_deeper e0.frames,I.ok.stk,I.ok.exf,I.ok.bs,I.ok.bsz,I.ok.noex,I.ok.exfs,I.ok.funs,I.ok.frf⟩,I.os,I.bare,I.base,I.loc,I.cell,I.free,I.freeC,I.pin,I.hok,I.len⟩
theorem fn_ofH {P:Program} {w:World} {K:PySem.W.Frag} {mg:Str→Option Value} {base:Heap} {k:Nat} {f:Addr} {name qual:Str} {params:Arguments} {body:List Stmt} {scope:Scope} {dV kV doc pm cdv ct oc:Value} {an od:Option Addr}
    {osl:Array (Option Value)} {N ps:List Str} {sp:Sp} (lk:K.lookup f=some ⟨oc,od,.func (PySem.W.fnOf name qual params body scope dV kV doc pm an cdv ct),osl⟩) (hcd:PySem.W.codeIn K cdv qual=true) (S:FnScope N ps scope)
    (len:∀ vs H Q E,sp vs H Q E→vs.length=ps.length)
    (hbody:∀ (A:Around) (outer:List Env) (s:Shared) (H:Hp) (vs:List V) (Q:VK) (E:XK),RoomH k (A.deeper (envOfC qual scope s.heap.objs.size f cdv))→sp vs H Q E →
      ∃ t,PSs (cxOfH P w K mg base N qual scope f cdv A outer s H E) body t∧t { nx:=fun _ H'=>Q .non H',rt:=Q } (start N vs) H) :
    FnOkH P w K mg base (k+1) f (PySem.W.fnOf name qual params body scope dV kV doc pm an cdv ct) ps sp:=by
  refine ⟨len,fun A outer s H args us vs Q E hr e0 hb r hsp=>?_⟩
  have hl:=len _ _ _ _ hsp
  have KX:K.In s.heap:=e0.mod.kin.keeps fun b o e=>(e0.bs b o e).1
  have lim:s.heap.NoLimit:=e0.mod.nolimit.keeps fun b o e=>(e0.bs b o e).1
  have hkind:∀ y ∈ ps.zip us,scope.names.lookup y.1=some .local∨(scope.names.lookup y.1=some .cell∧((cellsFrom (s.heap.objs.size+1) scope.names []).lookup y.1).isSome=true):=fun ⟨n,v⟩ hy=>by
    rcases S.par n (List.of_mem_zip hy).1 with q | q
    · exact .inl q
    · exact .inr ⟨q,PySem.W.cellsFrom_some _ _ _ (.inl q)⟩
  refine codeAny_call_function (by have:=hr.dp; omega) (KX _ _ lk) rfl S.co S.gen rfl (PySem.W.codeRec_of KX hcd) (hb _ _ _ _ ?_)
  refine wpAny_newFunctionEnv_cells S.kind hkind fun env he s1 x=>?_
  subst he
  refine ⟨lim.keeps x.toInCall.keep,codeAny_func ?_⟩
  obtain ⟨t,ht,hq⟩:=hbody A outer s H vs Q E (hr.deeper _) hsp
  have I:Inv (cxOfH P w K mg base N qual scope f cdv A outer s H E) [] (start N vs) H s1:=inv_startH S e0 hl r x
  refine wpAny_mono (ht [] s1 (start N vs) H _ I hq) (fun fl s' hs=>?_) fun e s' hs=>hs
  have fin:∀ {σ':St} {H':Hp} {v:V} {u:Value},Inv (cxOfH P w K mg base N qual scope f cdv A outer s H E) [] σ' H' s'→RelV v u→Q v H'→CE outer P w H s Q u s' :=
    fun {σ' H' v u} J rv q=>⟨v,H',J.os,J.bare,J.base,J.hok,rv,q⟩
  cases fl with
  | ret u =>
    obtain ⟨v,σ',H',J,rv,q⟩:=hs
    exact fin J rv q
  | next =>
    obtain ⟨σ',H',J,q⟩:=hs
    exact fin (v:=V.non) (u:=Value.none) J rfl q
  | brk =>
    obtain ⟨_,_,_,q⟩:=hs
    exact False.elim q
  | cont =>
    obtain ⟨_,_,_,q⟩:=hs
    exact False.elim q
theorem Fun.okH {P:Program} {w:World} {K:PySem.W.Frag} {mg:Str→Option Value} {base:Heap} {x qual:Str} {st:Stmt} {f:Addr} {fd:FuncData} {N ps:List Str} {k:Nat} {sp:Sp} (F:Fun K x qual st f fd) (S:FnScope N ps (defScope st)) (len:∀ vs H Q E,sp vs H Q E→vs.length=ps.length)
    (hbody:∀ (cdv:Value) (A:Around) (outer:List Env) (s:Shared) (H:Hp) (vs:List V) (Q:VK) (E:XK),RoomH k (A.deeper (envOfC qual (defScope st) s.heap.objs.size f cdv))→sp vs H Q E →
      ∃ t,PSs (cxOfH P w K mg base N qual (defScope st) f cdv A outer s H E).nox (defBody st) t∧t { nx:=fun _ H'=>Q .non H',rt:=Q } (start N vs) H):FnOkH P w K mg base (k+1) f fd ps sp:=by
  obtain ⟨oc,od,kV,doc,pm,an,cdv,ct,osl,rfl,lk,hcd⟩:=F.ex
  refine fn_ofH lk hcd S len fun A outer s H vs Q E hr hsp=>?_
  obtain ⟨t,h,q⟩:=hbody cdv A outer s H vs Q E hr hsp
  exact ⟨t,h.nox,q⟩
section
variable {X:Cx} {k:Nat} {f C:Addr} {fd:FuncData} {ps:List Str} {sp:Sp} {dvs:List V} {ds:List Value} {E:XK} {x m:Str} {p pos apos:Pos} {e o:Expr} {es:List Expr} {ta:TE} {t:TA}
theorem run_fnH {pins:List (Addr × Obj)} {σ:St} {H:Hp} {s:Shared} {Q:VK} {us:List Value} {vs:List V} (F:FnOkH X.prog X.w X.K X.mg X.base k f fd ps sp) (hr:RoomH k X.A) (hb:Binds X.K fd ps ds) (hd:Vals dvs ds) (hx:Passes CX0 X E)
    (I:Inv X pins σ H s) (r:Vals vs us) (h:sp (vs++dvs) H Q E):wpAny (model X.prog X.w) X.A (call (.ref f) us) (EP X pins σ Q) X.xe s:=by
  have r2:Vals (vs++dvs) (us++ds):=r.append hd
  have hl:(us++ds).length=ps.length:=by rw [← r2.length]; exact F.len _ _ _ _ h
  refine wpAny_call (codeAny_mono (F.run X.A X.stack s H ⟨us,[]⟩ (us++ds) (vs++dvs) Q E hr I.env0 (hb s us I.kIn hl) r2 h) fun r s' hq=>?_)
  cases r with
  | error e=>exact hx pins σ H s e s' I hq
  | ok fl =>
    cases fl with
    | ret u=>exact I.after hq
    | next=>exact False.elim hq
    | brk=>exact False.elim hq
    | cont=>exact False.elim hq
theorem pe_callH (F:FnOkH X.prog X.w X.K X.mg X.base k f fd ps sp) (hr:RoomH k X.A) (hg:Gl X x) (hm:X.mg x=some (.ref f)) (hk:PySem.W.keepIn X.K (.ref f)=true) (hb:Binds X.K fd ps ds) (hd:Vals dvs ds) (hx:Passes CX0 X E)
    (ha:PA X (e::es) t) (hdb:(x == ("__debug__" : Str))=false:=by decide) (he:starEach (e::es) X.env=(false,eval e X.env)::starEach es X.env:=by rfl) (hpl:(backTo pos (starEach es X.env)).any (·.1)=false:=by rfl) :
    PE X (.Call (.Name x p) (e::es) [] pos) (tCall sp dvs E t):=by
  intro pins s σ H Q I h
  refine wpAny_Call_Name_kw (ld_glob I hg hm ?_ hdb)
  refine PySem.W.callWith_K (h₀:=X.base) I.ok.mod.kin hk (thn (ha pos pins s σ H _ I h) fun us s1 ⟨vs,H1,I1,r,q⟩=>⟨I1.kIn,?_⟩) he hpl
  exact run_fnH F hr hb hd hx I1 r q
end
structure CalH (P:Program) (w:World) (K:PySem.W.Frag) (mg:Str→Option Value) (base:Heap) (n:Nat) (x:Str) (ps:List Str) (sp:Sp):Prop where
  ex:∃ (f:Addr) (fd:FuncData),FnOkH P w K mg base n f fd ps sp∧Binds K fd ps []∧PySem.W.keepIn K (.ref f)=true∧mg x=some (.ref f)
theorem pe_calH {X:Cx} {n k:Nat} {x:Str} {ps:List Str} {sp:Sp} {e:Expr} {es:List Expr} {t:TA} {p pos:Pos} (C:CalH X.prog X.w X.K X.mg X.base n x ps sp) (hr:RoomH k X.A) (hk:n≤k) (hg:Gl X x)
    (ha:PA X (e::es) t) (hdb:(x == ("__debug__" : Str))=false:=by decide) (he:starEach (e::es) X.env=(false,eval e X.env)::starEach es X.env:=by rfl) (hpl:(backTo pos (starEach es X.env)).any (·.1)=false:=by rfl) :
    PE X (.Call (.Name x p) (e::es) [] pos) (tCall sp [] E0 t):=by
  obtain ⟨f,fd,F,b,kp,m⟩:=C.ex
  exact pe_callH F (hr.mono hk) hg m kp b .nil pass0 ha hdb he hpl
theorem CalH.of {P:Program} {w:World} {K:PySem.W.Frag} {mg:Str→Option Value} {base:Heap} {n:Nat} {x qual:Str} {ps:List Str} {sp:Sp} {st:Stmt} {f:Addr} {fd:FuncData} (F:Fun K x qual st f fd) (O:FnOkH P w K mg base n f fd ps sp) (m:mg x=some (.ref f))
    (h:∀ (kV doc pm:Value) (an:Option Addr) (cdv ct:Value) (us:List Value),us.length=ps.length→bindArgs (PySem.W.fnOf x qual (defArgs st) (defBody st) (defScope st) .none kV doc pm an cdv ct) ⟨us,[]⟩=pure (ps.zip us)):CalH P w K mg base n x ps sp :=
  ⟨f,fd,O,F.binds h,F.kp,m⟩
end L2
namespace L2
open PySem PySem.Spec PyProof.Rows
theorem psv_consN {X:Cx} {EE:Ends→St→XK} {st:Stmt} {rest:List Stmt} {t:TS} {u:TV} (h1:PS X.nox st t) (h2:PSv X EE rest u):PSv X EE (st::rest) (fun DT D σ H=>t { D with nx:=u DT D } σ H) :=
  psv_cons (fun W pins s σ H D I hw=>wpAny_mono (h1 pins s σ H D (I.unwish.wish _) hw) (fun f s1 q=>by
    cases f with
    | next=>obtain ⟨σ',H',I',q⟩:=q; exact ⟨σ',H',I'.unwish.wish _,q⟩
    | brk=>obtain ⟨σ',H',I',q⟩:=q; exact ⟨σ',H',I'.unwish.wish _,q⟩
    | cont=>obtain ⟨σ',H',I',q⟩:=q; exact ⟨σ',H',I'.unwish.wish _,q⟩
    | ret u=>obtain ⟨v,σ',H',I',r,q⟩:=q; exact ⟨v,σ',H',I'.unwish.wish _,r,q⟩) fun _ _ z=>False.elim z) h2
section
variable {X:Cx} {pos:Pos}
theorem ps_tryE {c m:Str} {CA:Addr} {i:Nat} {st body:List Stmt} {b₀:Stmt} {pc ph:Pos} {t:TV} {tb:Addr→TS} (hN:X.N.Nodup) (hi:X.N[i]?=some m) (hk:X.env.kindOf m=some .local) (hg:Gl X c) (hm:X.mg c=some (.ref CA)) (hA:isBaseX X.K CA)
    (hb:PSv X (fun D σ ev dxo H'=>∃ e C dx,ev=.ref e∧dxo=some dx∧H' e=some (ExcT C e dx)∧ClsX X.K C CA∧tb e (D.un i) (σ.set i (some (.ref e))) H') st t) (hh:∀ e,PSs (X.marked e) (b₀::body) (tb e))
    (hst:X.stack=X.env::X.outer:=by rfl) (hfr:X.env.frame=some X.env.locals:=by rfl) (hdb:(c == ("__debug__" : Str))=false:=by decide) :
    PS X (.Try st [.ExceptHandler (some (.Name c pc)) (some m) (b₀::body) ph] [] [] pos) (fun D=>t D D):=by
  intro pins s σ H D I h
  refine wpAny_Try_except (wpAny_mono (hb _ pins s σ H D D ?_ I h) (fun f s1 q=>?_) fun _ _ z=>z)
  · rintro σ H1 s1 _ s2 I1 ⟨e,C0,dx0,H2,rfl,os,bare,un,hok,he0,fl,e',C,dx,ee,ed,he,cls,q⟩
    cases ee
    cases ed
    have I2:=I1.call' (ch:=[]) os un hok bare (fun b z=>absurd z (by simp))
    refine note_run (base:=X.base) (env:=X.env) (outer:=X.outer) (by rw [← hst]; exact I2.ok.frames) (by rw [← hst]; exact I2.stack) hfr fl fun h' l fl'=>?_
    have u:=lft_un (H:=H2) l he0 fl'
    have kk:=lft_hok I2.hok l (by
      have z:=I2.stkFree
      rw [hst] at z
      exact z) he0 fl'
    rw [upd_id he0] at u kk
    have I3:Inv X pins σ H2 { s2 with heap:=h' }:=I2.call' (ch:=[]) rfl (by rw [hst]; exact u) kk I2.bare (fun b z=>absurd z (by simp))
    refine wpAny_handleBy_cons (codeAny_handlers_test (ld_glob (X:=X.marked e) (I3.marked (e:=e)) hg hm ?_ hdb)) (by intro z; cases z)
    obtain ⟨o,ho,vs,rfl,_⟩:=ObP.get I3.hok he
    refine excMatches_up cls I3.kIn ho rfl hA ?_
    refine handlers_named ?_
    refine flight_run fl' fun h'' kp=>?_
    have I4:Inv X pins σ H2 { s2 with heap:=h'' }:=I3.kept (t':=s2.toks) kp
    refine wpAny_bindName (store_ok (X:=X.marked e) (v:=.ref e) (I4.marked (e:=e)) hN hi (.inl hk) rfl (fun s5 I5=>?_) (.inr hk))
    refine wpAny_mono (hh e pins s5 _ H2 (D.un i) I5 q) (fun f s6 q6=>?_) fun _ _ z=>z
    have q7:=SP.unmarked I.ok q6
    have fin:∀ {σ' H'} {G:Shared→Prop},Inv X pins σ' H' s6→(∀ s8,Inv X pins (σ'.set i none) H' s8→G s8)→wpAny (model X.prog X.w) X.A (do bindName X.env m .none; unbindBehindTheSuite X.env m ph) (fun _ s3=>G s3) X.xe s6:=fun {σ' H' G} I6 g=>by
      refine wpAny_bind (wpAny_bindName (store_ok (v:=.non) I6 hN hi (.inl hk) rfl (fun s7 I7=>?_) (.inr hk)))
      have hl:i < σ'.length:=by rw [I6.len]; exact (List.getElem?_eq_some_iff.mp hi).1
      refine del_ok (v:=.non) I7 hN hi hk (List.getElem?_set_self hl) fun s8 I8=>?_
      rw [List.set_set] at I8
      exact g s8 I8
    cases f with
    | next=>obtain ⟨σ',H',I',q⟩:=q7; exact fin I' fun s8 I8=>⟨_,H',I8,q⟩
    | brk=>obtain ⟨σ',H',I',q⟩:=q7; exact fin I' fun s8 I8=>⟨_,H',I8,q⟩
    | cont=>obtain ⟨σ',H',I',q⟩:=q7; exact fin I' fun s8 I8=>⟨_,H',I8,q⟩
    | ret v=>obtain ⟨z,σ',H',I',r,q⟩:=q7; exact fin I' fun s8 I8=>⟨z,_,H',I8,r,q⟩
  · cases f with
    | next=>exact wpAny_execs_nil q
    | brk=>exact q
    | cont=>exact q
    | ret v=>exact q
end
end L2
namespace Mine
def Pr (n:Int):Prop:=2≤n∧∀ k:Int,2≤k→k≤1000→k*k≤n→n % k ≠ 0
def PrUpTo (n:Int) (j:Int):Prop:=∀ k:Int,2≤k→k < j→k*k≤n∧n % k ≠ 0
theorem sq_le {a b:Int} (h0:0≤a) (h:a≤b):a*a≤b*b:=Int.mul_le_mul h h h0 (Int.le_trans h0 h)
theorem pr_big {n k:Int} (h2:2≤n) (h0:2≤k) (u:PrUpTo n k) (h:n < k*k):Pr n:=by
  refine ⟨h2,fun j j2 _ js=>?_⟩
  by_cases c:j < k
  · exact (u j j2 c).2
  · have:=sq_le (a:=k) (b:=j) (by omega) (by omega)
    omega
theorem pr_all {n:Int} (h2:2≤n) (u:PrUpTo n 1001):Pr n:=⟨h2,fun j j2 j3 _=>(u j j2 (by omega)).2⟩
theorem pr_not {n k:Int} (h0:2≤k) (h1:k≤1000) (hs:k*k≤n) (h:n % k=0):¬ Pr n:=fun p=>p.2 k h0 h1 hs h
theorem upTo_start (n:Int):PrUpTo n 2:=fun k a b=>by omega
theorem upTo_next {n k:Int} (u:PrUpTo n k) (hs:k*k≤n) (h:n % k ≠ 0):PrUpTo n (k+1):=fun j a b=>by
  by_cases c:j < k
  · exact u j a c
  · have e:j=k:=by omega
    subst e; exact ⟨hs,h⟩
def prB (n:Int):Bool:=decide (2≤n) && (List.range 999).all fun i=>decide (n < ((i:Int)+2)*((i:Int)+2)) || decide (n % ((i:Int)+2) ≠ 0)
theorem pr_of_b {n:Int} (h:prB n=true):Pr n:=by
  unfold prB at h
  rw [Bool.and_eq_true] at h
  refine ⟨of_decide_eq_true h.1,fun k k2 k3 ks=>?_⟩
  have q:=List.all_eq_true.mp h.2 (k.toNat - 2) (List.mem_range.mpr (by omega))
  have e:(((k.toNat - 2:Nat):Int)+2)=k:=by omega
  rw [e,Bool.or_eq_true] at q
  rcases q with q | q
  · have:=of_decide_eq_true q; omega
  · exact of_decide_eq_true q
theorem pr_999983:Pr 999983:=pr_of_b (by decide +kernel)
def Cop (x y:Int):Prop:=∀ d:Int,0 < d→d ∣ x→d ∣ y→d=1
structure Eu (a p former ff rest f:Int):Prop where
  r0:0 < rest
  rp:rest < p
  fr:rest < former
  f0:0≤f
  f1:f < p
  g0:0≤ff
  g1:ff < p
  cop:Cop former rest
  d1:p ∣ former - a*ff
  d2:p ∣ rest - a*f
end Mine
namespace Mine
def OddUp (n d:Int):Prop:=∀ k:Int,3≤k→k % 2=1→k < d→n % k ≠ 0
theorem odd_start (n:Int):OddUp n 3:=fun k a _ c=>by omega
theorem odd_next {n d:Int} (u:OddUp n d) (hd:d % 2=1) (h:n % d ≠ 0):OddUp n (d+2):=fun k a b c=>by
  by_cases e:k < d
  · exact u k a b e
  · have:k=d:=by omega
    subst this; exact h
theorem field_yes {n d:Int} (h3:3≤n) (h2:n % 2 ≠ 0) (h0:3≤d) (u:OddUp n d) (hd:n < d*d):Pr n:=by
  refine ⟨by omega,fun k k2 k3 ks z=>?_⟩
  obtain ⟨q,hq⟩:=Int.dvd_of_emod_eq_zero z
  by_cases e:k % 2=1
  · by_cases c:k < d
    · exact u k (by omega) e c z
    · have:=sq_le (a:=d) (b:=k) (by omega) (by omega)
      omega
  · obtain ⟨j,hj⟩:∃ j,k=2*j:=⟨k / 2,by omega⟩
    rw [hj,Int.mul_assoc] at hq
    omega
theorem field_no2 {n:Int} (h2:n % 2=0) (h3:2 < n):¬ Pr n:=fun p=>p.2 2 (by omega) (by omega) (by omega) h2
theorem field_nod {n d:Int} (h9:n≤999999) (h0:3≤d) (hs:d*d≤n) (h:n % d=0):¬ Pr n:=fun p=>by
  have t:d≤1000:=by
    by_cases c2:1001≤d
    · have:=sq_le (a:=1001) (b:=d) (by omega) c2
      omega
    · omega
  exact p.2 d (by omega) t hs h
theorem small_root {n d:Int} (h9:n≤999999) (h0:3≤d) (hs:d*d≤n):d≤999:=by
  by_cases c2:1000≤d
  · have:=sq_le (a:=1000) (b:=d) (by omega) c2
    omega
  · omega
theorem root_le {n d:Int} (h0:3≤d) (hs:d*d≤n):d≤n:=by
  have:=Int.mul_le_mul_of_nonneg_left (show (1:Int)≤d by omega) (show (0:Int)≤d by omega)
  omega
end Mine
namespace Mine
def setts:Nat→List (List Int)
  | 0=>[[]]
  | n+1=>(setts n).flatMap fun s=>[s++[0],s++[1]]
def byTwos (k:Int):Nat→List Int
  | 0=>[]
  | j+1=>(k / 2 ^ j % 2)::byTwos k j
end Mine
namespace Mine
def Pm (p:Int):Prop:=1 < p∧∀ a:Int,¬ p ∣ a→∃ f:Int,p ∣ f*a - 1
def ch:Nat→Nat→Nat
  | _,0=>1
  | 0,_+1=>0
  | n+1,k+1=>ch n k+ch n (k+1)
def sm (f:Nat→Int):Nat→Int
  | 0=>0
  | n+1=>sm f n+f n
def IsPoly:Nat→(Int→Int)→Prop
  | 0,f=>∀ x,f x=0
  | n+1,f=>∃ (a:Int) (g:Int→Int),IsPoly n g∧∀ x,f x=a+x*g x
end Mine
namespace Mine
def pr (g:Nat→Int):Nat→Int
  | 0=>1
  | n+1=>pr g n*g n
def px (x:Int) (i:Nat):Nat→Int
  | 0=>1
  | n+1=>if n=i then px x i n else px x i n*(x - n)
def lag (v u:Nat→Int) (n:Nat) (x:Int):Int:=sm (fun i=>v i*px x i n*u i) n
def Wgt (p:Int) (n:Nat) (u:Nat→Int):Prop:=∀ i,i < n→p ∣ px (i:Int) i n*u i - 1
def fac:Nat→Int
  | 0=>1
  | n+1=>fac n*((n:Int)+1)
end Mine
namespace Mine
def fnd (g:Nat→Bool) (i:Nat):List Int:=((List.range i).filter g).map fun k:Nat=>(k:Int)
def pRt (x:Int):List Int→Int
  | []=>1
  | r::rs=>(x - r)*pRt x rs
def pRm (p x:Int):Int→List Int→Int
  | a,[]=>a
  | a,r::rs=>pRm p x (a*(x - r) % p) rs
end Mine
namespace Mine
end Mine
namespace Mine
open PySem L2
theorem len1 {us:List Value} (h:us.length=1):∃ a,us=[a]:=by
  cases us with
  | nil=>cases h
  | cons a r =>
    cases r with
    | nil=>exact ⟨a,rfl⟩
    | cons _ _=>cases h
theorem lenS {us:List Value} {n:Nat} (h:us.length=n+1):∃ a r,us=a::r∧r.length=n:=by
  cases us with
  | nil=>cases h
  | cons a r=>exact ⟨a,r,rfl,Nat.succ.inj h⟩
theorem len2 {us:List Value} (h:us.length=2):∃ a b,us=[a,b]:=by
  obtain ⟨a,r,rfl,h1⟩:=lenS h
  obtain ⟨b,rfl⟩:=len1 h1
  exact ⟨a,b,rfl⟩
theorem len3 {us:List Value} (h:us.length=3):∃ a b c,us=[a,b,c]:=by
  obtain ⟨a,r,rfl,h1⟩:=lenS h
  obtain ⟨b,c,rfl⟩:=len2 h1
  exact ⟨a,b,c,rfl⟩
theorem len4 {us:List Value} (h:us.length=4):∃ a b c d,us=[a,b,c,d]:=by
  obtain ⟨a,r,rfl,h1⟩:=lenS h
  obtain ⟨b,c,d,rfl⟩:=len3 h1
  exact ⟨a,b,c,d,rfl⟩
theorem len5 {us:List Value} (h:us.length=5):∃ a b c d e,us=[a,b,c,d,e]:=by
  obtain ⟨a,r,rfl,h1⟩:=lenS h
  obtain ⟨b,c,d,e,rfl⟩:=len4 h1
  exact ⟨a,b,c,d,e,rfl⟩
theorem len6 {us:List Value} (h:us.length=6):∃ a b c d e f,us=[a,b,c,d,e,f]:=by
  obtain ⟨a,r,rfl,h1⟩:=lenS h
  obtain ⟨b,c,d,e,f,rfl⟩:=len5 h1
  exact ⟨a,b,c,d,e,f,rfl⟩
theorem len7 {us:List Value} (h:us.length=7):∃ a b c d e f g,us=[a,b,c,d,e,f,g]:=by
  obtain ⟨a,r,rfl,h1⟩:=lenS h
  obtain ⟨b,c,d,e,f,g,rfl⟩:=len6 h1
  exact ⟨a,b,c,d,e,f,g,rfl⟩
def top (i:Nat):Stmt:=PySem.Challenge.pw_asktally_k25_games_refused.main.body.getD i (.Pass ⟨0,0,0,0⟩)
abbrev s_is_field:Stmt:=top 13
abbrev s_trees_within:Stmt:=top 15
abbrev s_names_in:Stmt:=top 16
abbrev s_worth_of:Stmt:=top 18
abbrev s_joined_worth:Stmt:=top 19
abbrev s_degree_of:Stmt:=top 23
abbrev s_look_switches:Stmt:=top 24
abbrev s_look_names:Stmt:=top 25
abbrev s_look_field:Stmt:=top 26
abbrev s_look_size:Stmt:=top 27
abbrev s_l_feed:Stmt:=top 29
abbrev s_l_take:Stmt:=top 30
abbrev s_l_names:Stmt:=top 31
abbrev s_l_tree:Stmt:=top 32
abbrev s_l_names_of:Stmt:=top 33
abbrev s_l_need:Stmt:=top 34
abbrev s_l_is_prime:Stmt:=top 35
abbrev s_l_field:Stmt:=top 36
abbrev s_l_game:Stmt:=top 37
abbrev s_l_told:Stmt:=top 38
abbrev s_l_field_told:Stmt:=top 39
abbrev s_l_often:Stmt:=top 40
abbrev s_l_spoilt_leaf:Stmt:=top 41
abbrev s_l_spoilt:Stmt:=top 42
abbrev s_law:Stmt:=top 43
section
variable {P:Program} {w:World} {K:PySem.W.Frag} {mg:Str→Option Value} {base:Heap}
abbrev s_game:Stmt:=top 22
structure Bl (mg:Str→Option Value):Prop where
  len:mg "len" = none
  range:mg "range" = none
  isinstance:mg "isinstance" = none
  int:mg "int" = none
  bool:mg "bool" = none
  list:mg "list" = none
  tuple:mg "tuple" = none
  max:mg "max" = none
  min:mg "min" = none
  reversed:mg "reversed" = none
  enumerate:mg "enumerate" = none
  sum:mg "sum" = none
  all:mg "all" = none
  zip:mg "zip" = none
theorem feedB (z:Int):0≤z % 2147483646+1∧z % 2147483646+1≤2147483646:=by omega
theorem sc_l_feed:FnScope ["_law_script", "_law_k", "_law_cell", "_law_own"] ["_law_script", "_law_k"] (defScope s_l_feed):=⟨rfl,rfl,rfl,by decide +kernel,rfl,by decide +kernel,by decide +kernel⟩
theorem ok_l_feed {f:Addr} {fd:FuncData} (F:Fun K "_law_feed" "_law_feed" s_l_feed f fd) (hlen:mg "len" = none):FnOk P w K mg base CX0 1 f fd ["_law_script", "_law_k"] (spFeed K):=by
  refine F.ok sc_l_feed (fun vs H Q E h=>?_) (fun cdv A outer s H vs Q E hr h=>?_)
  · obtain ⟨a,ns,k,rfl,_⟩:=h
    rfl
  obtain ⟨a,ns,k,rfl,hS,h63,k0,k1,q⟩:=h
  refine ⟨_,(pss_cons (ps_set (i:=2) sc_l_feed.nd rfl (Or.inl rfl) (pe_op op_add (pe_op op_mul pe_int (pv 1)) pe_int))
      (pss_cons (ps_if (pt_cmpR op_lt (pv 1) (pe_callB call_len_seq rfl hlen PySem.boot_len (pa_cons (pv 0) pa_nil)) (nomark _)) (pss_one (ps_set (i:=2) sc_l_feed.nd rfl (Or.inl rfl) (pe_ix ix_list (pv 0) (pv 1) (fun _ _=>rfl)))) (pss_one (ps_if (pt_cmpR op_gt (pe_callB call_len_seq rfl hlen PySem.boot_len (pa_cons (pv 0) pa_nil)) pe_int (nomark _)) (pss_one (ps_set (i:=2) sc_l_feed.nd rfl (Or.inl rfl) (pe_op op_add (pe_op op_mul (pe_op op_mod (pe_ix ix_list (pv 0) (pe_op op_mod (pv 1) (pe_callB call_len_seq rfl hlen PySem.boot_len (pa_cons (pv 0) pa_nil))) (fun _ _=>rfl)) pe_int) pe_int) (pe_op op_mul pe_int (pv 1))))) pss_nil)))
      (pss_cons (ps_set (i:=3) sc_l_feed.nd rfl (Or.inl rfl) pe_int)
      (pss_cons (ps_if (pt_cmpR op_ge (pv 2) (pe_op op_pow pe_int pe_int) (nomark _)) (pss_one (ps_set (i:=3) sc_l_feed.nd rfl (Or.inl rfl) (pv 2))) pss_nil)
      (pss_one (ps_ret (pe_lst (pa_cons (pv 3) (pa_cons (pe_op op_add (pe_op op_mod (pe_op op_add (pe_op op_mul (pe_op op_mod (pv 2) pe_int) pe_int) (pe_op op_mul pe_int (pv 1))) pe_int) pe_int) pa_nil))))))))),?_⟩
  have hl:(ns.map V.int).length=ns.length:=List.length_map _
  have hp:(10:Int) ^ (18:Int).toNat=1000000000000000000:=by decide
  refine ⟨_,rfl,_,_,rfl,rfl,.inl ⟨by decide,by decide⟩,_,_,rfl,rfl,?_⟩
  refine ⟨_,rfl,_,rfl,a,_,rfl,.inl hS,_,_,rfl,rfl,_,rfl,?_⟩
  refine ite2 (fun c=>?b1) (fun c=>?b2)
  case' b1 =>
    have c':k < (((ns.map V.int).length:Nat):Int):=of_decide_eq_true c
    rw [hl] at c'
    obtain ⟨v,hv⟩:=at_int (ns:=ns) k0 c'
    refine ⟨_,rfl,_,rfl,a,_,_,_,rfl,rfl,hS,hv,?_⟩
  case' b2 =>
    refine ⟨_,rfl,a,_,rfl,.inl hS,_,_,rfl,rfl,_,rfl,?_⟩
    refine ite2 (fun c2=>?b3) (fun c2=>?b4)
    case' b3 =>
      have c':(0:Int) < (((ns.map V.int).length:Nat):Int):=of_decide_eq_true c2
      have m0:=Int.emod_nonneg k (b:=(((ns.map V.int).length:Nat):Int)) (by omega)
      have m1:=Int.emod_lt_of_pos k c'
      obtain ⟨v,hv⟩:=at_int (ns:=ns) m0 (by rw [hl] at m1 ⊢; exact m1)
      have n0:=Int.emod_nonneg v (b:=2147483629) (by decide)
      have n1:=Int.emod_lt_of_pos v (b:=2147483629) (by decide)
      refine ⟨_,rfl,_,rfl,_,rfl,a,_,rfl,.inl hS,_,_,rfl,rfl,c',a,_,_,_,rfl,rfl,hS,hv,_,_,rfl,rfl,(by show (0:Int) < _; decide),_,_,rfl,rfl,.inr ⟨by decide,by decide⟩,_,rfl,_,_,rfl,rfl,.inl ⟨by decide,by decide⟩,_,_,rfl,rfl,?_⟩
  all_goals
    refine ⟨_,rfl,_,_,rfl,rfl,⟨by decide,by decide,by decide⟩,_,_,rfl,rfl,_,rfl,?_⟩
    refine ite2 (fun c3=>?_) (fun c3=>?_)
    · have c4:=of_decide_eq_true c3
      rw [hp] at c4
      refine ⟨_,rfl,_,rfl,_,rfl,_,_,rfl,rfl,(by show (0:Int) < _; decide),_,_,rfl,rfl,.inr ⟨by decide,by decide⟩,_,rfl,_,_,rfl,rfl,.inl ⟨by decide,by decide⟩,_,_,rfl,rfl,_,_,rfl,rfl,(by show (0:Int) < _; decide),_,_,rfl,rfl,(by show 2≤sizeLine; decide),fun p hp=>?_⟩
      refine q p _ hp (Same.new hp _) ⟨_,_,upd_same,Int.le_trans (by decide) c4,(feedB _).1,(feedB _).2⟩
    · refine ⟨_,rfl,_,rfl,_,_,rfl,rfl,(by show (0:Int) < _; decide),_,_,rfl,rfl,.inr ⟨by decide,by decide⟩,_,rfl,_,_,rfl,rfl,.inl ⟨by decide,by decide⟩,_,_,rfl,rfl,_,_,rfl,rfl,(by show (0:Int) < _; decide),_,_,rfl,rfl,(by show 2≤sizeLine; decide),fun p hp=>?_⟩
      refine q p _ hp (Same.new hp _) ⟨_,_,upd_same,Int.le_refl 0,(feedB _).1,(feedB _).2⟩
theorem sc_l_take:FnScope ["_law_feed_here", "_law_many", "_law_digit", "_law_one"] ["_law_feed_here", "_law_many"] (defScope s_l_take):=⟨rfl,rfl,rfl,by decide +kernel,rfl,by decide +kernel,by decide +kernel⟩
theorem ok_l_take {f:Addr} {fd:FuncData} (F:Fun K "_law_take" "_law_take" s_l_take f fd):FnOk P w K mg base CX0 1 f fd ["_law_feed_here", "_law_many"] spTake:=by
  refine F.ok sc_l_take (fun vs H Q E h=>?_) (fun cdv A outer s H vs Q E hr h=>?_)
  · obtain ⟨f,m,rfl,_⟩:=h
    rfl
  obtain ⟨f,m,rfl,⟨own,st,hf,o0,s0,s1⟩,m0,m1,q⟩:=h
  refine ⟨_,(pss_cons (ps_if (pt_cmpR op_gt (pe_ix ix_list (pv 0) pe_int (fun _ _=>rfl)) pe_int (nomark _)) (pss_cons (ps_set (i:=2) sc_l_take.nd rfl (Or.inl rfl) (pe_op op_mod (pe_ix ix_list (pv 0) pe_int (fun _ _=>rfl)) (pv 1)))
        (pss_cons (ps_asg (pe_op op_fdivL (pe_ix ix_list (pv 0) pe_int (fun _ _=>rfl)) (pv 1)) (pg_sub (pv 0) pe_int set_list))
        (pss_one (ps_ret (pv 2))))) pss_nil)
      (pss_cons (ps_set (i:=3) sc_l_take.nd rfl (Or.inl rfl) (pe_op op_mod (pe_op op_mul (pe_ix ix_list (pv 0) pe_int (fun _ _=>rfl)) pe_int) pe_int))
      (pss_cons (ps_asg (pe_op op_add (pe_op op_mod (pe_op op_add (pe_op op_mul (pv 3) pe_int) pe_int) pe_int) pe_int) (pg_sub (pv 0) pe_int set_list))
      (pss_one (ps_ret (pe_op op_mod (pe_op op_fdiv (pe_op op_add (pe_op op_mul (pv 3) pe_int) (pe_ix ix_list (pv 0) pe_int (fun _ _=>rfl))) pe_int) (pv 1))))))),?_⟩
  refine ⟨_,rfl,f,_,0,_,rfl,rfl,SqL.of hf,rfl,_,_,rfl,rfl,_,rfl,?_⟩
  refine ite2 (fun c=>?_) (fun c=>?_)
  · refine ⟨_,rfl,f,_,0,_,rfl,rfl,SqL.of hf,rfl,_,rfl,_,_,rfl,rfl,m0,?_⟩
    refine ⟨_,rfl,f,_,0,_,rfl,rfl,SqL.of hf,rfl,_,rfl,_,_,rfl,rfl,⟨m0,m1⟩,_,rfl,f,_,0,0,rfl,rfl,hf,rfl,?_⟩
    refine ⟨_,rfl,?_⟩
    exact q _ _ (Int.emod_nonneg _ (by omega)) (Int.emod_lt_of_pos _ m0) ⟨_,_,upd_same,Int.ediv_nonneg o0 (by omega),s0,s1⟩ (SameBut.upd _)
  · have a0:=Int.emod_nonneg (st*69621) (b:=2147483647) (by decide)
    have a1:=Int.emod_lt_of_pos (st*69621) (b:=2147483647) (by decide)
    refine ⟨_,rfl,f,_,1,_,rfl,rfl,SqL.of hf,rfl,_,_,rfl,rfl,.inr ⟨by decide,by decide⟩,_,_,rfl,rfl,(by show (0:Int) < _; decide),?_⟩
    refine ⟨_,rfl,_,_,rfl,rfl,.inr ⟨by decide,by decide⟩,_,_,rfl,rfl,_,_,rfl,rfl,(by show (0:Int) < _; decide),_,_,rfl,rfl,_,rfl,f,_,1,1,rfl,rfl,hf,rfl,?_⟩
    have b0:=Int.emod_nonneg (st*69621 % 2147483647*48271+30103) (b:=2147483646) (by decide)
    have b1:=Int.emod_lt_of_pos (st*69621 % 2147483647*48271+30103) (b:=2147483646) (by decide)
    refine ⟨_,rfl,_,_,rfl,rfl,.inr ⟨by decide,by decide⟩,_,rfl,f,_,1,_,rfl,rfl,SqL.of upd_same,rfl,_,_,rfl,rfl,_,_,rfl,rfl,⟨by decide,by decide⟩,_,rfl,_,_,rfl,rfl,m0,?_⟩
    exact q _ _ (Int.emod_nonneg _ (by omega)) (Int.emod_lt_of_pos _ m0) ⟨_,_,upd_same,o0,by omega,by omega⟩ (SameBut.upd _)
theorem sc_l_tree:FnScope ["_law_feed_here", "_law_names_here", "_law_room", "_law_deep", "_law_form", "_law_more", "_law_one", "_law_word"] ["_law_feed_here", "_law_names_here", "_law_room", "_law_deep"] (defScope s_l_tree):=⟨rfl,rfl,rfl,by decide +kernel,rfl,by decide +kernel,by decide +kernel⟩
theorem lf {a X Y B:Prop} [Decidable a] (x:X) (h:¬ a→X→B):if decide a=true then (if true=true then X else Y) else B:=by
  by_cases c:a
  · rw [decide_eq_true c]
    exact iteT (iteT x)
  · rw [decide_eq_false c]
    exact iteF (h c x)
theorem tree_step {n:Nat} {f:Addr} {fd:FuncData} (F:Fun K "_law_tree" "_law_tree" s_l_tree f fd) (hlen:mg "len" = none) (C_l_take:Cal P w K mg base 1 "_law_take" ["_law_feed_here", "_law_many"] spTake)
    (C_l_tree:Cal P w K mg base (n+2) "_law_tree" ["_law_feed_here", "_law_names_here", "_law_room", "_law_deep"] (spTree n)):FnOk P w K mg base CX0 (n+3) f fd ["_law_feed_here", "_law_names_here", "_law_room", "_law_deep"] (spTree (n+1)):=by
  refine F.ok sc_l_tree (fun vs H Q E h=>?_) (fun cdv A outer s H vs Q E hr h=>?_)
  · obtain ⟨f,a,room,deep,ns,rfl,_⟩:=h
    rfl
  obtain ⟨f,a,room,deep,ns,rfl,hF,hN,nl,r1,r100,d1,dn,q⟩:=h
  refine ⟨_,(pss_cons (ps_set (i:=4) sc_l_tree.nd rfl (Or.inl rfl) (pe_cal C_l_take hr (Nat.succ_le_succ (Nat.zero_le _)) rfl (pa_cons (pv 0) (pa_cons pe_int pa_nil))))
      (pss_cons (ps_if (PW.pt (pw_or (pt_cmpR op_lt (pv 2) pe_int (nomark _)) (pw_or (pt_cmpR op_lt (pv 3) pe_int (nomark _)) (pw_or1 (pt_cmpR op_eq (pv 4) pe_int (nomark _)))))) (pss_cons (ps_if (PW.pt (pw_or (pt_cmpR op_eq (pe_op op_mod (pv 4) pe_int) pe_int (nomark _)) (pw_or1 (pt_cmpR op_eq (pe_callB call_len_seq rfl hlen PySem.boot_len (pa_cons (pv 1) pa_nil)) pe_int (nomark _))))) (pss_one (ps_ret (pe_ix ix_list (pe_lst (pa_cons (pe_tup (pa_cons pe_str pa_nil)) (pa_cons (pe_tup (pa_cons pe_str pa_nil)) pa_nil))) (pe_cal C_l_take hr (Nat.succ_le_succ (Nat.zero_le _)) rfl (pa_cons (pv 0) (pa_cons pe_int pa_nil))) (fun _ _=>rfl)))) pss_nil)
        (pss_one (ps_ret (pe_tup (pa_cons pe_str (pa_cons (pe_ix (ix_list.or ix_tup) (pv 1) (pe_cal C_l_take hr (Nat.succ_le_succ (Nat.zero_le _)) rfl (pa_cons (pv 0) (pa_cons (pe_callB call_len_seq rfl hlen PySem.boot_len (pa_cons (pv 1) pa_nil)) pa_nil))) (fun _ _=>rfl)) pa_nil)))))) pss_nil)
      (pss_cons (ps_if (PW.pt (pw_or (pt_cmpR op_lt (pv 2) pe_int (nomark _)) (pw_or1 (pt_cmpR op_eq (pv 4) pe_int (nomark _))))) (pss_one (ps_ret (pe_tup (pa_cons pe_str (pa_cons (pe_cal C_l_tree hr (Nat.le_refl _) rfl (pa_cons (pv 0) (pa_cons (pv 1) (pa_cons (pe_op op_sub (pv 2) pe_int) (pa_cons (pe_op op_sub (pv 3) pe_int) pa_nil))))) pa_nil))))) pss_nil)
      (pss_cons (ps_set (i:=5) sc_l_tree.nd rfl (Or.inl rfl) (pe_op op_add pe_int (pe_cal C_l_take hr (Nat.succ_le_succ (Nat.zero_le _)) rfl (pa_cons (pv 0) (pa_cons (pe_op op_sub (pv 2) pe_int) pa_nil)))))
      (pss_cons (ps_set (i:=6) sc_l_tree.nd rfl (Or.inl rfl) (pe_cal C_l_tree hr (Nat.le_refl _) rfl (pa_cons (pv 0) (pa_cons (pv 1) (pa_cons (pv 5) (pa_cons (pe_op op_sub (pv 3) pe_int) pa_nil))))))
      (pss_cons (ps_set (i:=7) sc_l_tree.nd rfl (Or.inl rfl) (pe_ix ix_list (pe_lst (pa_cons pe_str (pa_cons pe_str (pa_cons pe_str (pa_cons pe_str pa_nil))))) (pe_op op_mod (pv 4) pe_int) (fun _ _=>rfl)))
      (pss_one (ps_ret (pe_tup (pa_cons (pv 7) (pa_cons (pv 6) (pa_cons (pe_cal C_l_tree hr (Nat.le_refl _) rfl (pa_cons (pv 0) (pa_cons (pv 1) (pa_cons (pe_op op_sub (pe_op op_sub (pv 2) pe_int) (pv 5)) (pa_cons (pe_op op_sub (pv 3) pe_int) pa_nil))))) pa_nil)))))))))))),?_⟩
  refine ⟨_,rfl,f,10,rfl,hF,by decide,by decide,fun fm H1 f0 f10 F1 S1=>?_⟩
  have N1:=hN.feed hF S1
  refine ⟨_,rfl,_,_,rfl,rfl,_,rfl,?_⟩
  refine lf ?leaf fun c1 hX=>?_
  case leaf =>
    refine ⟨_,rfl,_,_,rfl,rfl,(by show (0:Int) < _; decide),rfl,_,rfl,?_⟩
    refine lf ?yn fun c6 hY=>?_
    case yn =>
      refine ⟨(by show 1≤sizeLine; decide),fun p1 h1=>?_⟩
      refine ⟨(by show 1≤sizeLine; decide),fun p2 h2=>?_⟩
      refine ⟨(by show 2≤sizeLine; decide),fun l hl=>?_⟩
      have ga:=Same.new h1 (.tup [.str "yes"])
      have gb:=Same.new h2 (.tup [.str "no"])
      have gc:=Same.new hl (.lst [.ref p1,.ref p2])
      have G:=ga.trans (gb.trans gc)
      have nlf:=(F1.same (ga.trans gb)).ne hl
      refine ⟨_,rfl,f,2,rfl,F1.same G,by decide,by decide,fun d H2 d0 d2 F2 S2=>?_⟩
      have y2:H2 p1=some (.tup [.str "yes"]):=keepT_feed (F1.same G) S2 _ _ (gc _ _ (gb _ _ upd_same))
      have n2:H2 p2=some (.tup [.str "no"]):=keepT_feed (F1.same G) S2 _ _ (gc _ _ upd_same)
      have l2:=S2 l _ nlf upd_same
      have:d=0∨d=1:=by omega
      rcases this with rfl | rfl
      · exact ⟨l,_,0,_,rfl,rfl,SqL.of l2,rfl,q (.ref p1) .yes H2 F2 (S1.trans ((SameBut.of G).trans S2)) (.yes y2) trivial (show (1:Int)≤room from r1) (show (1:Int)≤deep from d1)⟩
      · exact ⟨l,_,1,_,rfl,rfl,SqL.of l2,rfl,q (.ref p2) .no H2 F2 (S1.trans ((SameBut.of G).trans S2)) (.no n2) trivial (show (1:Int)≤room from r1) (show (1:Int)≤deep from d1)⟩
    refine ⟨_,rfl,a,_,rfl,N1.seq,rfl,_,rfl,?_⟩
    by_cases c7:V.int ((ns.map V.str).length:Int)=V.int 0
    · exact iteD c7 hY
    refine iteDF c7 ?_
    have nz:0 < ns.length:=by
      have z:¬ ((ns.map V.str).length:Int)=0:=fun z=>c7 (congrArg V.int z)
      rw [List.length_map] at z
      omega
    refine ⟨_,rfl,_,rfl,_,rfl,a,_,rfl,N1.seq,f,_,rfl,F1,(show (0:Int) < ((ns.map V.str).length:Int) by rw [List.length_map]; omega),by rw [List.length_map]; omega,fun d H2 d0 d9 F2 S2=>?_⟩
    obtain ⟨v,hv,vm⟩:=at_in (l:=ns.map V.str) (i:=d) d0 d9
    obtain ⟨x,hx,rfl⟩:=List.mem_map.mp vm
    refine (N1.feed F1 S2).ix hv ?_
    refine ⟨(by show 2≤sizeLine; decide),fun p hp=>?_⟩
    have G:=Same.new hp (.tup [.str "is", .str x])
    exact q (.ref p) (.is x) _ (F2.same G) (S1.trans (S2.trans (SameBut.of G))) (.is upd_same) hx (show (1:Int)≤room from r1) (show (1:Int)≤deep from d1)
  refine ⟨_,rfl,_,_,rfl,rfl,_,rfl,?_⟩
  by_cases c2:deep < 2
  · exact iteD c2 (iteT hX)
  refine iteDF c2 ?_
  refine ⟨_,rfl,rfl,_,rfl,?_⟩
  by_cases c3:V.int fm=V.int 9
  · exact iteD c3 hX
  refine iteDF c3 ?_
  refine ⟨_,rfl,_,_,rfl,rfl,_,rfl,?_⟩
  have d2:2≤deep:=by omega
  have dd:1≤deep - 1:=by omega
  have ddn:deep - 1+1≤(n:Int)+1:=by omega
  refine lf ?nt fun c4 hN=>?_
  case nt =>
    refine ⟨_,rfl,_,rfl,_,rfl,_,_,rfl,rfl,_,rfl,_,_,rfl,rfl,f,a,_,_,ns,rfl,F1,N1,nl,(show 1≤room - 1 by omega),by omega,dd,ddn,fun v1 t1 H3 F3 S3 T1 o1 z1 p1=>?_⟩
    refine ⟨(by show 2≤sizeLine; decide),fun p hp=>?_⟩
    have G5:=Same.new hp (.tup [.str "not", v1])
    refine q (.ref p) (.not t1) _ (F3.same G5) (S1.trans (S3.trans (SameBut.of G5))) (.not upd_same (T1.mono (keepT_same G5))) o1 ?_ ?_
    · show ((t1.size+1:Nat):Int)≤room
      omega
    · show ((t1.depth+1:Nat):Int)≤deep
      omega
  refine ⟨_,rfl,rfl,_,rfl,?_⟩
  by_cases c5:V.int fm=V.int 8
  · exact iteD c5 hN
  refine iteDF c5 ?_
  refine ⟨_,rfl,_,rfl,_,_,rfl,rfl,f,_,rfl,F1,(show (0:Int) < room - 2 by omega),(show room - 2 < 2 ^ 63 by omega),fun e H2 e0 e1 F2 S2=>?_⟩
  refine ⟨_,_,rfl,rfl,?_⟩
  have N2:=N1.feed F1 S2
  refine ⟨_,rfl,_,rfl,_,rfl,_,rfl,_,_,rfl,rfl,f,a,_,_,ns,rfl,F2,N2,nl,by omega,by omega,dd,ddn,fun v1 t1 H3 F3 S3 T1 o1 z1 p1=>?_⟩
  have N3:=N2.feed F2 S3
  refine ⟨(by show 4≤sizeLine; decide),fun l hl=>?_⟩
  obtain ⟨wd,hw,wm⟩:=at_in (l:=joinW.map V.str) (i:=fm % 4) (by omega) (by
    have:(joinW.map V.str).length=4:=by rfl
    omega)
  obtain ⟨x,hx,rfl⟩:=List.mem_map.mp wm
  refine ⟨_,rfl,_,_,rfl,rfl,(by show (0:Int) < _; decide),l,_,_,_,rfl,rfl,SqL.of upd_same,hw,?_⟩
  have G:=Same.new hl (.lst [.str "and", .str "or", .str "odd", .str "same"])
  refine ⟨_,rfl,_,rfl,_,rfl,_,rfl,_,rfl,_,_,rfl,rfl,_,rfl,_,_,rfl,rfl,_,rfl,_,_,rfl,rfl,f,a,_,_,ns,rfl,F3.same G,N3.same G,nl,(show 1≤room - 1 - (1+e) by omega),by omega,dd,ddn,fun v2 t2 H4 F4 S4 T2 o2 z2 p2=>?_⟩
  refine ⟨(by show 3≤sizeLine; decide),fun p hp=>?_⟩
  have G5:=Same.new hp (.tup [.str x,v1,v2])
  have T1':TreeAt H4 v1 t1:=(T1.mono (keepT_same G)).mono (keepT_feed (F3.same G) S4)
  refine q (.ref p) (.bin x t1 t2) _ (F4.same G5) (S1.trans (S2.trans (S3.trans ((SameBut.of G).trans (S4.trans (SameBut.of G5)))))) (.bin upd_same (T1'.mono (keepT_same G5)) (T2.mono (keepT_same G5))) ⟨hx,o1,o2⟩ ?_ ?_
  · show ((t1.size+t2.size+1:Nat):Int)≤room
    omega
  · show ((max t1.depth t2.depth+1:Nat):Int)≤deep
    omega
theorem tree_zero {f:Addr} {fd:FuncData}:FnOk P w K mg base CX0 2 f fd ["_law_feed_here", "_law_names_here", "_law_room", "_law_deep"] (spTree 0):=by
  have no:∀ vs H Q E,¬ spTree 0 vs H Q E:=fun vs H Q E h=>by
    obtain ⟨f,a,room,deep,ns,_,_,_,_,_,_,h1,h2,_⟩:=h
    omega
  exact ⟨fun vs H Q E h=>absurd h (no vs H Q E),fun A outer s H args us vs Q E _ _ _ _ h=>absurd h (no vs H Q E)⟩
theorem ok_l_tree {f:Addr} {fd:FuncData} (F:Fun K "_law_tree" "_law_tree" s_l_tree f fd) (hlen:mg "len" = none) (m:mg "_law_tree" = some (.ref f)) (C_l_take:Cal P w K mg base 1 "_law_take" ["_law_feed_here", "_law_many"] spTake) :
    ∀ n:Nat,FnOk P w K mg base CX0 (n+2) f fd ["_law_feed_here", "_law_names_here", "_law_room", "_law_deep"] (spTree n)
  | 0=>tree_zero
  | n+1=>tree_step F hlen C_l_take (Cal.of F (ok_l_tree F hlen m C_l_take n) m (fun _ _ _ _ _ _ us hl=>by obtain ⟨u0,u1,u2,u3,rfl⟩:=len4 hl; rfl))
def ifBody:Stmt→List Stmt
  | .If _ b _ _=>b
  | _=>[]
def ifTest:Stmt→Expr
  | .If c _ _ _=>c
  | _=>.Constant .none 0 ⟨0,0,0,0⟩
def valOf:Stmt→Expr
  | .Assign _ v _=>v
  | .Return (some v) _=>v
  | _=>.Constant .none 0 ⟨0,0,0,0⟩
def eltsOf:Expr→List Expr
  | .List es _=>es
  | .BinOp _ _ (.List es _) _=>es
  | .Subscript (.List es _) _ _=>es
  | _=>[]
abbrev stm (s:Stmt) (i:Nat):Stmt:=(defBody s).getD i (.Pass ⟨0,0,0,0⟩)
abbrev stmI (s:Stmt) (i j:Nat):Stmt:=(ifBody (stm s i)).getD j (.Pass ⟨0,0,0,0⟩)
def wordsA:List Str:=["is", "set", "say", "if", "go", "end", "num", "box", "op", "field", "holds", "claims"]
def wordsB:List Str:=["nota", "nob", "yesx", "andy", "ors", "oddly"]
def wordsC:List Str:=["samey", "rounds", "dues", "coins", "truex", "asks"]
@[irreducible] def namesA:List Expr:=eltsOf (valOf (stmI s_l_names 6 0))
@[irreducible] def namesB:List Expr:=eltsOf (valOf (stmI s_l_names 6 1))
@[irreducible] def namesC:List Expr:=eltsOf (valOf (stmI s_l_names 6 2))
theorem namesA_w:Consts namesA wordsA:=by
  unfold namesA
  exact .cons (.cons (.cons (.cons (.cons (.cons (.cons (.cons (.cons (.cons (.cons (.cons .nil)))))))))))
theorem namesB_w:Consts namesB wordsB:=by
  unfold namesB
  exact .cons (.cons (.cons (.cons (.cons (.cons .nil)))))
theorem namesC_w:Consts namesC wordsC:=by
  unfold namesC
  exact .cons (.cons (.cons (.cons (.cons (.cons .nil)))))
theorem names_body:∃ p1 p2 p3 p4 p5 p6 p7 p8 p9 q1 q2 q3 q4 q5,defBody s_l_names=[stm s_l_names 0,stm s_l_names 1,stm s_l_names 2,stm s_l_names 3,stm s_l_names 4,stm s_l_names 5,
    .If (ifTest (stm s_l_names 6)) [.Assign [.Name "_law_words" p1] (.List namesA p2) p3,.Assign [.Name "_law_words" p4] (.BinOp (.Name "_law_words" p5) .Add (.List namesB p6) p7) p8,.Assign [.Name "_law_words" p9] (.BinOp (.Name "_law_words" q1) .Add (.List namesC q2) q3) q4,stmI s_l_names 6 3] [] q5,stm s_l_names 7] :=
  ⟨_,_,_,_,_,_,_,_,_,_,_,_,_,_,by with_unfolding_all rfl⟩
def LTR:Str := "bcdfghjklmnpqrstvwxz"
theorem ltr_na:∀ c ∈ LTR.cps.toList,c ≠ 97:=by decide +kernel
theorem ltr_ok:∀ c ∈ LTR.cps.toList,97≤c∧c≤122:=by decide +kernel
def kept:List Str:=["yes", "no", "not", "and", "or", "odd", "same", "round", "due", "asked", "true", "coin", "bad", "bed"]
def NmK (x:Str):Prop:=NmOk x∧1≤x.length∧x.length≤6∧x ∉ kept
theorem words_ok0:∀ x ∈ (wordsA++wordsB)++wordsC,(x.length≤20∧(∀ c ∈ x.cps.toList,97≤c∧c≤122)∧x ≠ "aa")∧1≤x.length∧x.length≤6∧x ∉ kept:=by decide +kernel
theorem words_ok (x:Str) (h:x ∈ (wordsA++wordsB)++wordsC):NmK x:=words_ok0 x h
theorem kept_out:∀ x ∈ kept,∃ c ∈ x.cps.toList,c ∉ LTR.cps.toList:=by decide +kernel
def spNamesN:Sp:=fun vs H Q _=>∃ (f:Addr) (m:Int),vs=[.ref f,.int m]∧FeedAt H f∧0≤m∧m≤6∧∀ (l:Addr) (ns:List Str) (H':Hp),H l=none→l ≠ f→H' l=some (.lst (ns.map V.str))→ns.length=m.toNat→(∀ x ∈ ns,NmK x)→ns.Nodup→FeedAt H' f→SameBut f H H'→Q (.ref l) H'
theorem words_out:∀ x ∈ (wordsA++wordsB)++wordsC,∃ c ∈ x.cps.toList,c ∉ LTR.cps.toList:=by decide +kernel
theorem ltr_inj:∀ a b:Fin 20,LTR.cps.toList[a.val]?=LTR.cps.toList[b.val]?→a=b:=by decide +kernel
theorem nd_names {ns:List Str} {t:Nat} {u:Int} (u0:0≤u) (u20:u < 20) (hl:ns.length≤6) (h:∀ (k:Nat) x,ns[k]?=some x→x.cps.toList[t]?=LTR.cps.toList[((u+7*(k:Int)) % 20).toNat]?):ns.Nodup:=by
  refine List.pairwise_iff_getElem.mpr fun i j hi hj ij e=>?_
  have h1:=h i _ (List.getElem?_eq_getElem hi)
  have h2:=h j _ (List.getElem?_eq_getElem hj)
  rw [e] at h1
  have h3:=h1.symm.trans h2
  have h4:=ltr_inj ⟨((u+7*(i:Int)) % 20).toNat,by omega⟩ ⟨((u+7*(j:Int)) % 20).toNat,by omega⟩ h3
  have h5:=congrArg Fin.val h4
  simp only at h5
  omega
theorem nd_set {ns:List Str} {x:Str} {j:Nat} (h:ns.Nodup) (hx:x ∉ ns):(ns.set j x).Nodup:=by
  refine List.pairwise_iff_getElem.mpr fun a b ha hb ab=>?_
  rw [List.length_set] at ha hb
  rw [List.getElem_set,List.getElem_set]
  split
  · split
    · omega
    · intro e
      exact hx (e ▸ List.getElem_mem hb)
  · split
    · intro e
      exact hx (e ▸ List.getElem_mem ha)
    · exact List.pairwise_iff_getElem.mp h a b ha hb ab
theorem at_get {α:Type} {l:List α} {i:Int} {v:α} (h0:0≤i) (h:atI l i=some v):l[i.toNat]?=some v:=by
  have ek:((i.toNat:Nat):Int)=i:=by omega
  by_cases c:i.toNat < l.length
  · have q:atI l ((i.toNat:Nat):Int)=some l[i.toNat]:=atI_nat (List.getElem?_eq_getElem c)
    rw [ek,h] at q
    rw [List.getElem?_eq_getElem c]
    exact q.symm
  · exfalso
    unfold atI ixN at h
    rw [if_pos h0,if_neg (by omega)] at h
    cases h
theorem sum_ones {zs:List Str} (h:∀ z ∈ zs,z.length=1∧∀ c ∈ z.cps.toList,c ∈ LTR.cps.toList):(zs.map (·.length)).sum=zs.length:=by
  induction zs with
  | nil=>rfl
  | cons a r ih =>
    rw [List.map_cons,List.sum_cons,ih fun z hz=>h z (List.mem_cons_of_mem _ hz),(h a List.mem_cons_self).1,List.length_cons]
    omega
theorem sc_l_names:FnScope ["_law_feed_here", "_law_many", "_law_letters", "_law_common", "_law_at", "_law_first", "_law_found", "_law_k", "_law_tail", "_law_sign", "_law_words"] ["_law_feed_here", "_law_many"] (defScope s_l_names):=⟨rfl,rfl,rfl,by decide +kernel,rfl,by decide +kernel,by decide +kernel⟩
theorem feed_upd {H:Hp} {f p:Addr} {o:HO} (F:FeedAt H f) (h:p ≠ f):FeedAt (upd H p o) f:=by
  obtain ⟨x,t,e,r⟩:=F
  exact ⟨x,t,by rw [upd_ne (Ne.symm h)]; exact e,r⟩
theorem ok_l_names {f:Addr} {fd:FuncData} (F:Fun K "_law_names" "_law_names" s_l_names f fd) (hrange:mg "range" = none) (C_l_take:Cal P w K mg base 1 "_law_take" ["_law_feed_here", "_law_many"] spTake):FnOk P w K mg base CX0 2 f fd ["_law_feed_here", "_law_many"] spNamesN:=by
  refine F.ok sc_l_names (fun vs H Q E h=>?_) (fun cdv A outer s H vs Q E hr h=>?_)
  · obtain ⟨f,m,rfl,_⟩:=h
    rfl
  obtain ⟨f,m,rfl,hF,m0,m6,q⟩:=h
  obtain ⟨p1,p2,p3,p4,p5,p6,p7,p8,p9,q1,q2,q3,q4,q5,ebody⟩:=names_body
  rw [ebody]
  refine ⟨_,(pss_cons (ps_set (i:=2) sc_l_names.nd rfl (Or.inr rfl) pe_str)
      (pss_cons (ps_set (i:=3) sc_l_names.nd rfl (Or.inl rfl) (pe_bm PySem.F.plainAttrs_str PySem.F.slot_str_join PySem.F.type_str_join mt_join pe_str (pa_cons (pe_comp (N:=["_law_letters", "_law_feed_here"]) (ix:=[2,0]) rfl
          (CompScope.two (by with_unfolding_all rfl) (by decide) rfl (by decide) rfl (by decide +kernel) (by first | exact Or.inl rfl | exact Or.inr rfl) (by with_unfolding_all rfl) (by with_unfolding_all rfl) (by with_unfolding_all rfl) (by with_unfolding_all rfl) rfl rfl (by with_unfolding_all rfl) rfl rfl) rfl
          (pi_range1 rfl hrange (pa_cons pe_int pa_nil))
          (fun _ _ _=>pb_all (pe_ix ix_str (pv 1) (pe_cal C_l_take hr (by decide) rfl (pa_cons (pv 2) (pa_cons pe_int pa_nil))) (fun _ _=>rfl)))) pa_nil)))
      (pss_cons (ps_set (i:=4) sc_l_names.nd rfl (Or.inl rfl) (pe_cal C_l_take hr (by decide) rfl (pa_cons (pv 0) (pa_cons pe_int pa_nil))))
      (pss_cons (ps_set (i:=5) sc_l_names.nd rfl (Or.inl rfl) (pe_cal C_l_take hr (by decide) rfl (pa_cons (pv 0) (pa_cons pe_int pa_nil))))
      (pss_cons (ps_set (i:=6) sc_l_names.nd rfl (Or.inl rfl) (pe_lst pa_nil))
      (pss_cons (ps_for PassesOwn.never rfl (pi_range1 rfl hrange (pa_cons (pv 1) pa_nil)) (pg_name (i:=7) sc_l_names.nd rfl (Or.inl rfl)) (pss_cons (ps_set (i:=8) sc_l_names.nd rfl (Or.inl rfl) (pe_op op_mod (pe_cal C_l_take hr (by decide) rfl (pa_cons (pv 0) (pa_cons (pe_op op_sub pe_int (pv 4)) pa_nil))) pe_int))
        (pss_cons (ps_set (i:=9) sc_l_names.nd rfl (Or.inl rfl) (pe_ix ix_str (pv 2) (pe_op op_mod (pe_op op_add (pv 5) (pe_op op_mul pe_int (pv 7))) pe_int) (fun _ _=>rfl)))
        (pss_one (ps_expr (pe_bm PySem.F.plainAttrs_list PySem.F.slot_list_append PySem.F.type_list_append mt_append (pv 6) (pa_cons (pe_op op_add_str (pe_op op_add_str (pe_slice sl_str (pv 3) po_none (po_some (pv 4))) (pv 9)) (pe_slice sl_str (pv 3) (po_some (pv 4)) (po_some (pe_op op_add (pv 4) (pv 8))))) pa_nil)))))))
      (pss_cons (ps_if (PW.pt (pw_and (pt_cmpR op_gt (pv 1) pe_int (nomark _)) (pw_and1 (pt_cmpR op_eq (pe_cal C_l_take hr (by decide) rfl (pa_cons (pv 0) (pa_cons pe_int pa_nil))) pe_int (nomark _))))) (pss_cons (ps_set (i:=10) sc_l_names.nd rfl (Or.inl rfl) (pe_lst (pa_consts namesA_w)))
        (pss_cons (ps_set (i:=10) sc_l_names.nd rfl (Or.inl rfl) (pe_op op_cat (pv 10) (pe_lst (pa_consts namesB_w))))
        (pss_cons (ps_set (i:=10) sc_l_names.nd rfl (Or.inl rfl) (pe_op op_cat (pv 10) (pe_lst (pa_consts namesC_w))))
        (pss_one (ps_asg (pe_ix ix_list (pv 10) (pe_cal C_l_take hr (by decide) rfl (pa_cons (pv 0) (pa_cons pe_int pa_nil))) (fun _ _=>rfl)) (pg_sub (pv 6) (pe_cal C_l_take hr (by decide) rfl (pa_cons (pv 0) (pa_cons (pv 1) pa_nil))) set_list)))))) pss_nil)
      (pss_one (ps_ret (pv 6)))))))))),?_⟩
  refine ⟨rfl,5,rfl,by decide,by decide,fun D hD=>?_⟩
  have Df:=hF.ne hD
  have L20:LTR.cps.toList.length=20:=by decide +kernel
  refine comp_range (fun i H'=>∃ zs:List Str,H' D=some (.lst (zs.map V.str))∧zs.length=i∧(∀ z ∈ zs,z.length=1∧∀ c ∈ z.cps.toList,c ∈ LTR.cps.toList)∧FeedAt H' f∧SameBut f H H') ⟨[],by rw [upd_same]; rfl,rfl,by simp,hF.same (Same.new hD _),SameBut.of (Same.new hD _)⟩ ?_ ?_
  · rintro i H3 hi ⟨zs,hl,zl,z1,F3,S3⟩
    have i5:i < 5:=hi
    refine ⟨_,rfl,_,rfl,f,20,rfl,F3,by decide,by decide,fun d H4 d0 d26 F4 S4=>?_⟩
    obtain ⟨c,hc,hm⟩:=at_in (l:=LTR.cps.toList) (i:=d) d0 (by rw [L20]; exact d26)
    have hD4:H4 D=some (.lst (zs.map V.str)):=S4 D _ Df hl
    refine ⟨_,d,c,rfl,rfl,small (by decide +kernel),hc,_,hD4,?_,Nx.of hi ⟨zs++[⟨#[c]⟩],?_,?_,?_,feed_upd F4 Df,?_⟩⟩
    · rw [List.length_map,zl]
      exact small1000 (Nat.le_of_lt (Nat.lt_trans i5 (by decide)))
    · rw [upd_same,List.map_append]
      rfl
    · rw [List.length_append,List.length_singleton,zl]
    · intro z hz
      rcases List.mem_append.mp hz with h | h
      · exact z1 z h
      · rw [List.mem_singleton.mp h]
        refine ⟨rfl,fun c' hc'=>?_⟩
        have:c'=c:=by simpa using hc'
        subst this
        exact hm
    · intro b o hb e
      rw [upd_ne (ne_of_none e hD)]
      exact S4 b o hb (S3 b o hb e)
  rintro H3 ⟨zs,hl,zl,z1,F3,S3⟩
  have sl:=sum_ones z1
  have zl5:zs.length=5:=zl
  refine ⟨_,D,zs,rfl,rfl,SqL.of hl,(by decide +kernel),by omega,?_⟩
  have jl:(Txt.join "" zs).length=5:=by
    have:=size_glued "" zs
    have e0:(("" : Str)).length=0:=by decide +kernel
    rw [e0,Nat.mul_zero] at this
    show (Builtin.Str.glued "" zs).length=5
    omega
  have jc:∀ c ∈ (Txt.join "" zs).cps.toList,c ∈ LTR.cps.toList:=fun c hc=>by
    obtain ⟨z,hz,h⟩:=mem_join0 hc
    exact (z1 z hz).2 c h
  generalize Txt.join "" zs=cm at jl jc
  refine ⟨_,rfl,f,6,rfl,F3,by decide,by decide,fun t H4 t0 t6 F4 S4=>?_⟩
  refine ⟨_,rfl,f,20,rfl,F4,by decide,by decide,fun u H5 u0 u20 F5 S5=>?_⟩
  refine ⟨(by show 0≤sizeLine; decide),fun L hL=>?_⟩
  have S05:SameBut f H H5:=S3.trans (S4.trans S5)
  have Lf:=F5.ne hL
  have L0:H L=none:=by
    cases e:H L with
    | none=>rfl
    | some o=>rw [S05 L o Lf e] at hL; cases hL
  refine ⟨_,rfl,m,rfl,by omega,by omega,for_range (fun i σ H'=>∃ (x7 x8 x9:Option V) (ns:List Str),σ=[some (.ref f),some (.int m),some (.str LTR),some (.str cm),some (.int t),some (.int u),some (.ref L),x7,x8,x9,none]∧H' L=some (.lst (ns.map V.str))∧ns.length=i∧(∀ x ∈ ns,NmK x)∧(∀ x ∈ ns,∀ c ∈ x.cps.toList,c ∈ LTR.cps.toList)∧(∀ (k:Nat) x,ns[k]?=some x→x.cps.toList[t.toNat]?=LTR.cps.toList[((u+7*(k:Int)) % 20).toNat]?)∧FeedAt H' f∧SameBut f H H')
    ⟨_,_,_,[],rfl,by rw [upd_same]; rfl,rfl,by simp,by simp,by simp,F5.same (Same.new hL _),S05.trans (SameBut.of (Same.new hL _))⟩ ?_ ?_⟩
  · rintro i σ H6 hi ⟨x7,x8,x9,ns,rfl,hns,nl,nok,nlt,nat,F6,S6⟩
    refine ⟨_,rfl,_,rfl,_,_,rfl,rfl,f,_,rfl,F6,(Int.sub_pos_of_lt t6),(Int.lt_of_le_of_lt (Int.sub_le_self 6 t0) (by decide)),fun d H7 d0 d1 F7 S7=>?_⟩
    refine ⟨_,_,rfl,rfl,(by show (0:Int) < _; decide),?_⟩
    obtain ⟨c,hc,hm⟩:=at_in (l:=LTR.cps.toList) (i:=(u+7*(0+(i:Int))) % 20) (Int.emod_nonneg _ (by decide)) (by rw [L20]; exact Int.emod_lt_of_pos _ (by decide))
    refine ⟨_,rfl,_,rfl,_,rfl,_,_,rfl,rfl,?_,_,_,rfl,rfl,_,_,rfl,rfl,(by show (0:Int) < _; decide),_,_,c,rfl,rfl,small (by decide +kernel),hc,?_⟩
    · exact .inl ⟨by decide,by decide⟩
    have hL7:=S7 L _ Lf hns
    have z1:(Txt.slice cm none (some t)).length≤cm.length:=Txt.slice_le cm none (some t)
    have z2:(Txt.slice cm (some t) (some (t+d % 3))).length≤cm.length:=Txt.slice_le cm _ _
    have z3:((⟨#[c]⟩:Str)).length=1:=rfl
    refine ⟨_,rfl,.inl ⟨rfl,_,SqL.of hL7⟩,?_⟩
    refine ⟨_,rfl,_,rfl,_,rfl,_,rfl,small (by rw [jl]; decide),_,rfl,_,_,rfl,rfl,small (by rw [z3]; omega),?_⟩
    refine ⟨_,rfl,_,rfl,_,rfl,_,rfl,_,rfl,_,_,rfl,rfl,_,rfl,_,rfl,small (by rw [jl]; decide),_,_,rfl,rfl,small (by rw [Str.length_append,z3]; omega),?_⟩
    refine ⟨L,_,_,rfl,rfl,hL7,?_,?_⟩
    · rw [List.length_map]
      exact small1000 (by omega)
    refine ⟨_,_,_,ns++[(Txt.slice cm none (some t)++⟨#[c]⟩)++Txt.slice cm (some t) (some (t+d % 3))],rfl,?_,?_,?_,?_,?_,feed_upd F7 Lf,?_⟩
    · rw [upd_same,List.map_append]
      rfl
    · rw [List.length_append,List.length_singleton,nl]
    · intro x hx
      rcases List.mem_append.mp hx with h | h
      · exact nok x h
      · rw [List.mem_singleton.mp h]
        have old:NmOk ((Txt.slice cm none (some t)++⟨#[c]⟩)++Txt.slice cm (some t) (some (t+d % 3))):=by
          refine ⟨?_,fun c' hc'=>?_,fun ea=>?_⟩
          · rw [Str.length_append,Str.length_append,z3]
            omega
          rotate_left
          · have cm1:c ∈ (((Txt.slice cm none (some t)++⟨#[c]⟩)++Txt.slice cm (some t) (some (t+d % 3)):Str)).cps.toList:=by
              rw [Str.cps_append,Str.cps_append]
              simp
            rw [ea] at cm1
            exact ltr_na c hm ((by decide +kernel:∀ c ∈ (("aa" : Str)).cps.toList,c=97) c cm1)
          · rcases mem_append hc' with h | h
            · rcases mem_append h with h | h
              · exact ltr_ok _ (jc _ (mem_slice h))
              · have:c'=c:=by simpa using h
                subst this
                exact ltr_ok _ hm
            · exact ltr_ok _ (jc _ (mem_slice h))
        have cl:cm.cps.toList.length=5:=jl
        have e1:(Txt.slice cm none (some t)).length=t.toNat:=by
          have es:Txt.slice cm none (some t)=⟨((cm.cps.toList.drop 0).take (t - 0).toNat).toArray⟩:=StrLaws.sliceText_to ⟨t0,by omega⟩
          rw [es]
          show (((cm.cps.toList.drop 0).take (t - 0).toNat).toArray).size=_
          simp only [List.drop_zero,Int.sub_zero,List.size_toArray,List.length_take]
          omega
        have e2:(Txt.slice cm (some t) (some (t+d % 3))).length≤(d % 3).toNat:=by
          have es:Txt.slice cm (some t) (some (t+d % 3))=_:=StrLaws.sliceText_plain ⟨t0,by omega,by omega⟩
          rw [es]
          show (List.toArray _).size≤_
          simp only [List.size_toArray,List.length_take]
          omega
        refine ⟨old,?_,?_,fun hk=>?_⟩
        · rw [Str.length_append,Str.length_append,z3]
          omega
        · rw [Str.length_append,Str.length_append,z3]
          omega
        · obtain ⟨c',hc',hn⟩:=kept_out _ hk
          refine hn ?_
          rcases mem_append hc' with h | h
          · rcases mem_append h with h | h
            · exact jc _ (mem_slice h)
            · have:c'=c:=by simpa using h
              subst this
              exact hm
          · exact jc _ (mem_slice h)
    · intro x hx c' hc'
      rcases List.mem_append.mp hx with h | h
      · exact nlt x h c' hc'
      · rw [List.mem_singleton.mp h] at hc'
        rcases mem_append hc' with h | h
        · rcases mem_append h with h | h
          · exact jc _ (mem_slice h)
          · have:c'=c:=by simpa using h
            subst this
            exact hm
        · exact jc _ (mem_slice h)
    · intro k x hx
      by_cases ck:k < ns.length
      · rw [List.getElem?_append_left ck] at hx
        exact nat k x hx
      · have kl:k < (ns++[(Txt.slice cm none (some t)++⟨#[c]⟩)++Txt.slice cm (some t) (some (t+d % 3))]).length:=(List.getElem?_eq_some_iff.mp hx).1
        rw [List.length_append,List.length_singleton] at kl
        have ek:k=i:=by omega
        subst ek
        rw [List.getElem?_append_right (by omega),nl,Nat.sub_self] at hx
        have ex:(Txt.slice cm none (some t)++⟨#[c]⟩)++Txt.slice cm (some t) (some (t+d % 3))=x:=Option.some.inj hx
        rw [← ex]
        have cl:cm.cps.toList.length=5:=jl
        have es:Txt.slice cm none (some t)=⟨((cm.cps.toList.drop 0).take (t - 0).toNat).toArray⟩:=StrLaws.sliceText_to ⟨t0,by omega⟩
        have el:(Txt.slice cm none (some t)).cps.toList.length=t.toNat:=by
          rw [es]
          simp only [List.drop_zero,Int.sub_zero,List.length_take]
          omega
        have ea:((Txt.slice cm none (some t)++⟨#[c]⟩)++Txt.slice cm (some t) (some (t+d % 3))).cps.toList=(Txt.slice cm none (some t)).cps.toList++([c]++(Txt.slice cm (some t) (some (t+d % 3))).cps.toList):=by
          rw [Str.cps_append,Str.cps_append]
          simp
        rw [ea,List.getElem?_append_right (by omega),el,Nat.sub_self]
        have hc2:LTR.cps.toList[((u+7*(0+(k:Int))) % 20).toNat]?=some c:=at_get (Int.emod_nonneg _ (by decide)) hc
        rw [Int.zero_add] at hc2
        rw [hc2]
        rfl
    · intro b o hb e
      rw [upd_ne (ne_of_none e L0)]
      exact S7 b o hb (S6 b o hb e)
  · rintro σ H6 ⟨x7,x8,x9,ns,rfl,hns,nl,nok,nlt,nat,F6,S6⟩
    have nnd:ns.Nodup:=nd_names u0 u20 (by omega) nat
    refine ⟨_,rfl,_,_,rfl,rfl,_,rfl,?_⟩
    have fin:∀ H':Hp,∀ ns:List Str,H' L=some (.lst (ns.map V.str))→ns.length=m.toNat→(∀ x ∈ ns,NmK x)→ns.Nodup→FeedAt H' f→SameBut f H H'→Q (.ref L) H':=fun H' ns a b c nd d e=>q L ns H' L0 Lf a b c nd d e
    by_cases c1:(0:Int) < m
    · refine iteD c1 ?_
      refine ⟨_,rfl,f,3,rfl,F6,by decide,by decide,fun d H7 d0 d1 F7 S7=>?_⟩
      refine ⟨rfl,_,rfl,?_⟩
      have hL7:=S7 L _ Lf hns
      refine ite2 (fun _=>?_) (fun _=>?_)
      · refine ⟨(by show 12≤sizeLine; decide),fun l1 h1=>?_⟩
        refine ⟨_,rfl,(by show 6≤sizeLine; decide),fun l2 h2=>?_⟩
        refine ⟨l1,l2,wordsA.map V.str,wordsB.map V.str,rfl,rfl,Same.new h2 _ _ _ upd_same,upd_same,(by show 18≤sizeLine; decide),fun l3 h3=>?_⟩
        refine ⟨_,rfl,(by show 6≤sizeLine; decide),fun l4 h4=>?_⟩
        refine ⟨l3,l4,wordsA.map V.str++wordsB.map V.str,wordsC.map V.str,rfl,rfl,Same.new h4 _ _ _ upd_same,upd_same,(by show 24≤sizeLine; decide),fun l5 h5=>?_⟩
        have G:=(Same.new h1 (.lst (wordsA.map V.str))).trans ((Same.new h2 (.lst (wordsB.map V.str))).trans ((Same.new h3 (.lst (wordsA.map V.str++wordsB.map V.str))).trans ((Same.new h4 (.lst (wordsC.map V.str))).trans (Same.new h5 (.lst ((wordsA.map V.str++wordsB.map V.str)++wordsC.map V.str))))))
        have F8:=F7.same G
        have n5:=(F7.same ((Same.new h1 (.lst (wordsA.map V.str))).trans ((Same.new h2 (.lst (wordsB.map V.str))).trans ((Same.new h3 (.lst (wordsA.map V.str++wordsB.map V.str))).trans (Same.new h4 (.lst (wordsC.map V.str))))))).ne h5
        refine ⟨_,rfl,_,rfl,f,24,rfl,F8,by decide,by decide,fun e H9 e0 e1 F9 S9=>?_⟩
        obtain ⟨v,hv,vm⟩:=at_in (l:=(wordsA.map V.str++wordsB.map V.str)++wordsC.map V.str) (i:=e) e0 (by
          have:((wordsA.map V.str++wordsB.map V.str)++wordsC.map V.str).length=24:=by rfl
          omega)
        rw [← List.map_append,← List.map_append] at vm
        obtain ⟨x,hx,rfl⟩:=List.mem_map.mp vm
        refine ⟨l5,_,e,_,rfl,rfl,SqL.of (S9 l5 _ n5 upd_same),hv,?_⟩
        refine ⟨_,rfl,_,rfl,_,rfl,f,m,rfl,F9,c1,by omega,fun j H10 j0 j1 F10 S10=>?_⟩
        have hL10:=S10 L _ Lf (S9 L _ Lf (G L _ hL7))
        refine ⟨L,_,j,j.toNat,rfl,rfl,hL10,?_,?_⟩
        · have jl:j < ((ns.map V.str).length:Int):=by rw [List.length_map]; omega
          unfold ixN
          rw [if_pos j0,if_pos jl]
        refine ⟨_,rfl,?_⟩
        refine fin _ (ns.set j.toNat x) (by rw [upd_same,List.map_set]) (by rw [List.length_set]; exact nl) ?_ ?_ (feed_upd F10 Lf) ?_
        · intro y hy
          rcases List.mem_or_eq_of_mem_set hy with h | h
          · exact nok y h
          · rw [h]
            exact words_ok x hx
        · refine nd_set nnd fun hm=>?_
          obtain ⟨c,c1,c2⟩:=words_out x hx
          exact c2 (nlt x hm c c1)
        · intro b o hb e'
          rw [upd_ne (ne_of_none e' L0)]
          exact S10 b o hb (S9 b o hb (G b o (S7 b o hb (S6 b o hb e'))))
      · refine ⟨_,rfl,?_⟩
        exact fin H7 ns hL7 nl nok nnd F7 (S6.trans S7)
    · refine iteDF c1 ?_
      refine iteF ?_
      refine ⟨_,rfl,?_⟩
      exact fin H6 ns hns nl nok nnd F6 S6
theorem posOf_mem {x:Str}:∀ {ns:List Str},x ∈ ns→∃ j,posOf x ns=some j∧j < ns.length
  | [],h=>by cases h
  | a::r,h=>by
    unfold posOf
    by_cases c:a=x
    · exact ⟨0,by rw [if_pos c],by simp⟩
    · rw [if_neg c]
      rcases List.mem_cons.mp h with e | e
      · exact absurd e.symm c
      · obtain ⟨j,h1,h2⟩:=posOf_mem e
        exact ⟨j+1,by rw [h1]; rfl,by simpa using h2⟩
theorem str_inj {a b:Str} (h:V.str a=V.str b):a=b:=by injection h
def joinI (p:Int) (o:Str) (x y:Int):Int:=if o = "and" then x*y % p else if o = "or" then (x+y - x*y) % p else if o = "odd" then (x+y - 2*(x*y)) % p else (1 - (x+y - 2*(x*y))) % p
def Tr.worth (ns:List Str) (pt:List Int) (p:Int):Tr→Int
  | .is x=>match posOf x ns with | some j=>pt.getD j 0 | none=>0
  | .yes=>1
  | .no=>0
  | .not a=>(1 - a.worth ns pt p) % p
  | .bin o a b=>joinI p o (a.worth ns pt p) (b.worth ns pt p)
def PtOk (pt:List Int) (p:Int):Prop:=∀ x ∈ pt,0≤x∧x < p
theorem joinI_rng {p:Int} (hp:0 < p) (o:Str) (x y:Int):0≤joinI p o x y∧joinI p o x y < p:=by
  have key:∀ z:Int,0≤z % p∧z % p < p:=fun z=>⟨Int.emod_nonneg _ (by omega),Int.emod_lt_of_pos _ hp⟩
  unfold joinI
  repeat' split
  all_goals exact key _
theorem getD_mem {l:List Int} {j:Nat} (h:j < l.length):l.getD j 0=l[j]:=by
  rw [List.getD_eq_getElem?_getD,List.getElem?_eq_getElem h]
  rfl
theorem worth_rng {ns:List Str} {pt:List Int} {p:Int} (hp:1 < p) (h:PtOk pt p) (hl:pt.length=ns.length):∀ t:Tr,t.ok ns→0≤t.worth ns pt p∧t.worth ns pt p < p
  | .is x,ok=>by
    obtain ⟨j,hj,jl⟩:=posOf_mem ok
    show 0≤(match posOf x ns with | some j=>pt.getD j 0 | none=>0)∧(match posOf x ns with | some j=>pt.getD j 0 | none=>0) < p
    rw [hj]
    show 0≤pt.getD j 0∧pt.getD j 0 < p
    rw [getD_mem (by omega)]
    exact h _ (List.getElem_mem _)
  | .yes,_=>⟨by show (0:Int)≤1; decide,hp⟩
  | .no,_=>⟨Int.le_refl 0,by show (0:Int) < p; omega⟩
  | .not a,_=>⟨Int.emod_nonneg _ (by omega),Int.emod_lt_of_pos _ (by omega)⟩
  | .bin o a b,_=>joinI_rng (by omega) _ _ _
def spJW:Sp:=fun vs H Q _=>∃ (o:Str) (x y p:Int),vs=[.str o,.int x,.int y,.int p]∧0≤x∧x < p∧p < 2 ^ 40∧Q (.int (joinI p o x y)) H
theorem sc_joined_worth:FnScope ["word", "first", "second", "p", "both", "odd"] ["word", "first", "second", "p"] (defScope s_joined_worth):=⟨rfl,rfl,rfl,by decide +kernel,rfl,by decide +kernel,by decide +kernel⟩
theorem ok_joined_worth {f:Addr} {fd:FuncData} (F:Fun K "joined_worth" "joined_worth" s_joined_worth f fd):FnOk P w K mg base CX0 1 f fd ["word", "first", "second", "p"] spJW:=by
  refine F.ok sc_joined_worth (fun vs H Q E h=>?_) (fun cdv A outer s H vs Q E hr h=>?_)
  · obtain ⟨o,x,y,p,rfl,_⟩:=h
    rfl
  obtain ⟨o,x,y,p,rfl,x0,xp,pb,k⟩:=h
  refine ⟨_,(pss_cons (ps_set (i:=4) sc_joined_worth.nd rfl (Or.inl rfl) (pe_op op_mul (pv 1) (pv 2)))
      (pss_cons (ps_if (pt_cmpR op_eq (pv 0) pe_str (nomark _)) (pss_one (ps_ret (pe_op op_mod (pv 4) (pv 3)))) pss_nil)
      (pss_cons (ps_if (pt_cmpR op_eq (pv 0) pe_str (nomark _)) (pss_one (ps_ret (pe_op op_mod (pe_op op_sub (pe_op op_add (pv 1) (pv 2)) (pv 4)) (pv 3)))) pss_nil)
      (pss_cons (ps_set (i:=5) sc_joined_worth.nd rfl (Or.inl rfl) (pe_op op_sub (pe_op op_add (pv 1) (pv 2)) (pe_op op_mul pe_int (pv 4))))
      (pss_cons (ps_if (pt_cmpR op_eq (pv 0) pe_str (nomark _)) (pss_one (ps_ret (pe_op op_mod (pv 5) (pv 3)))) pss_nil)
      (pss_one (ps_ret (pe_op op_mod (pe_op op_sub pe_int (pv 5)) (pv 3))))))))),?_⟩
  refine ⟨_,rfl,_,rfl,_,_,rfl,rfl,.inl ⟨by omega,by omega⟩,?_⟩
  refine ⟨_,rfl,rfl,_,rfl,?_⟩
  by_cases c1:V.str o=V.str "and"
  · refine iteD c1 ?_
    have e:joinI p o x y=x*y % p:=by unfold joinI; rw [if_pos (str_inj c1)]
    rw [e] at k
    exact ⟨_,rfl,_,rfl,_,_,rfl,rfl,(show (0:Int) < p by omega),k⟩
  refine iteDF c1 ?_
  have n1:¬ o = "and" := fun z=>c1 (by rw [z])
  refine ⟨_,rfl,rfl,_,rfl,?_⟩
  by_cases c2:V.str o=V.str "or"
  · refine iteD c2 ?_
    have e:joinI p o x y=(x+y - x*y) % p:=by unfold joinI; rw [if_neg n1,if_pos (str_inj c2)]
    rw [e] at k
    exact ⟨_,rfl,_,rfl,_,_,rfl,rfl,_,rfl,_,_,rfl,rfl,_,rfl,_,_,rfl,rfl,(show (0:Int) < p by omega),k⟩
  refine iteDF c2 ?_
  have n2:¬ o = "or" := fun z=>c2 (by rw [z])
  refine ⟨_,rfl,_,rfl,_,_,rfl,rfl,_,rfl,_,_,rfl,rfl,.inl ⟨by decide,by decide⟩,_,_,rfl,rfl,?_⟩
  refine ⟨_,rfl,rfl,_,rfl,?_⟩
  by_cases c3:V.str o=V.str "odd"
  · refine iteD c3 ?_
    have e:joinI p o x y=(x+y - 2*(x*y)) % p:=by unfold joinI; rw [if_neg n1,if_neg n2,if_pos (str_inj c3)]
    rw [e] at k
    exact ⟨_,rfl,_,rfl,_,_,rfl,rfl,(show (0:Int) < p by omega),k⟩
  refine iteDF c3 ?_
  have n3:¬ o = "odd" := fun z=>c3 (by rw [z])
  have e:joinI p o x y=(1 - (x+y - 2*(x*y))) % p:=by unfold joinI; rw [if_neg n1,if_neg n2,if_neg n3]
  rw [e] at k
  exact ⟨_,rfl,_,_,rfl,rfl,_,rfl,_,_,rfl,rfl,(show (0:Int) < p by omega),k⟩
def spWorth (n:Nat):Sp:=fun vs H Q _=>∃ (v:V) (t:Tr) (a b:Addr) (ns:List Str) (pt:List Int) (p:Int),vs=[v,.ref a,.ref b,.int p]∧TreeAt H v t∧t.ok ns∧t.depth≤n∧NamesAt H a ns∧H b=some (.tup (pt.map V.int))∧pt.length=ns.length∧1 < p∧p < 2 ^ 40∧PtOk pt p∧Q (.int (t.worth ns pt p)) H
theorem sc_worth_of:FnScope ["tree", "switches", "point", "p", "word", "first"] ["tree", "switches", "point", "p"] (defScope s_worth_of):=⟨rfl,rfl,rfl,by decide +kernel,rfl,by decide +kernel,by decide +kernel⟩
theorem worth_step {n:Nat} {f:Addr} {fd:FuncData} (F:Fun K "worth_of" "worth_of" s_worth_of f fd) (C_joined_worth:Cal P w K mg base 1 "joined_worth" ["word", "first", "second", "p"] spJW) (C_worth_of:Cal P w K mg base (n+2) "worth_of" ["tree", "switches", "point", "p"] (spWorth n)):FnOk P w K mg base CX0 (n+3) f fd ["tree", "switches", "point", "p"] (spWorth (n+1)):=by
  refine F.ok sc_worth_of (fun vs H Q E h=>?_) (fun cdv A outer s H vs Q E hr h=>?_)
  · obtain ⟨v,t,a,b,ns,pt,p,rfl,_⟩:=h
    rfl
  obtain ⟨v,t,a,b,ns,pt,p,rfl,T,ok,dn,hN,hb,sl,p1,p40,po,k⟩:=h
  have p0:(0:Int) < p:=by omega
  refine ⟨_,(pss_cons (ps_set (i:=4) sc_worth_of.nd rfl (Or.inl rfl) (pe_ix ix_tup (pv 0) pe_int (fun _ _=>rfl)))
      (pss_cons (ps_if (pt_cmpR op_eq (pv 4) pe_str (nomark _)) (pss_one (ps_ret (pe_op op_mod (pe_ix ix_tup (pv 2) (pe_index PySem.F.plainAttrs_list PySem.F.plainAttrs_tuple (pv 1) (pa_cons (pe_ix ix_tup (pv 0) pe_int (fun _ _=>rfl)) pa_nil)) (fun _ _=>rfl)) (pv 3)))) pss_nil)
      (pss_cons (ps_if (pt_cmpR op_eq (pv 4) pe_str (nomark _)) (pss_one (ps_ret pe_int)) pss_nil)
      (pss_cons (ps_if (pt_cmpR op_eq (pv 4) pe_str (nomark _)) (pss_one (ps_ret pe_int)) pss_nil)
      (pss_cons (ps_set (i:=5) sc_worth_of.nd rfl (Or.inl rfl) (pe_cal C_worth_of hr (Nat.le_refl _) rfl (pa_cons (pe_ix ix_tup (pv 0) pe_int (fun _ _=>rfl)) (pa_cons (pv 1) (pa_cons (pv 2) (pa_cons (pv 3) pa_nil))))))
      (pss_cons (ps_if (pt_cmpR op_eq (pv 4) pe_str (nomark _)) (pss_one (ps_ret (pe_op op_mod (pe_op op_sub pe_int (pv 5)) (pv 3)))) pss_nil)
      (pss_one (ps_ret (pe_cal C_joined_worth hr (by omega) rfl (pa_cons (pv 4) (pa_cons (pv 5) (pa_cons (pe_cal C_worth_of hr (Nat.le_refl _) rfl (pa_cons (pe_ix ix_tup (pv 0) pe_int (fun _ _=>rfl)) (pa_cons (pv 1) (pa_cons (pv 2) (pa_cons (pv 3) pa_nil))))) (pa_cons (pv 3) pa_nil))))))))))))),?_⟩
  cases T with
  | @is q x e =>
    refine ⟨_,rfl,q,_,0,_,rfl,rfl,SqT.of e,rfl,?_⟩
    refine ⟨_,rfl,rfl,_,rfl,?_⟩
    refine iteD rfl ?_
    obtain ⟨j,hj,jl⟩:=posOf_mem ok
    have jl':j < pt.length:=by omega
    refine ⟨_,rfl,_,rfl,a,ns,rfl,hN,_,rfl,q,_,1,_,rfl,rfl,SqT.of e,rfl,rfl,x,j,rfl,hj,b,_,(j:Int),.int pt[j],rfl,rfl,SqT.of hb,?_,_,rfl,_,_,rfl,rfl,p0,?_⟩
    · refine atI_nat ?_
      rw [List.getElem?_map,List.getElem?_eq_getElem jl']
      rfl
    · have e1:(Tr.is x).worth ns pt p=pt[j] % p:=by
        show (match posOf x ns with | some j=>pt.getD j 0 | none=>0)=_
        rw [hj]
        show pt.getD j 0=_
        rw [getD_mem jl']
        have:=po _ (List.getElem_mem jl')
        rw [Int.emod_eq_of_lt this.1 this.2]
      rw [e1] at k
      exact k
  | @yes q e =>
    refine ⟨_,rfl,q,_,0,_,rfl,rfl,SqT.of e,rfl,?_⟩
    refine ⟨_,rfl,rfl,_,rfl,?_⟩
    refine iteDF (by decide +kernel) ?_
    refine ⟨_,rfl,rfl,_,rfl,?_⟩
    exact iteD rfl k
  | @no q e =>
    refine ⟨_,rfl,q,_,0,_,rfl,rfl,SqT.of e,rfl,?_⟩
    refine ⟨_,rfl,rfl,_,rfl,?_⟩
    refine iteDF (by decide +kernel) ?_
    refine ⟨_,rfl,rfl,_,rfl,?_⟩
    refine iteDF (by decide +kernel) ?_
    refine ⟨_,rfl,rfl,_,rfl,?_⟩
    exact iteD rfl k
  | @not q u r e T1 =>
    have dp:r.depth+1≤n+1:=dn
    refine ⟨_,rfl,q,_,0,_,rfl,rfl,SqT.of e,rfl,?_⟩
    refine ⟨_,rfl,rfl,_,rfl,?_⟩
    refine iteDF (by decide +kernel) ?_
    refine ⟨_,rfl,rfl,_,rfl,?_⟩
    refine iteDF (by decide +kernel) ?_
    refine ⟨_,rfl,rfl,_,rfl,?_⟩
    refine iteDF (by decide +kernel) ?_
    refine ⟨_,rfl,q,_,1,_,rfl,rfl,SqT.of e,rfl,_,rfl,_,rfl,_,rfl,u,r,a,b,ns,pt,p,rfl,T1,ok,by omega,hN,hb,sl,p1,p40,po,?_⟩
    refine ⟨_,rfl,rfl,_,rfl,?_⟩
    refine iteD rfl ?_
    exact ⟨_,rfl,_,_,rfl,rfl,_,rfl,_,_,rfl,rfl,p0,k⟩
  | @bin q o u u2 r r2 e T1 T2 =>
    obtain ⟨ho,ok1,ok2⟩:=ok
    have dp:max r.depth r2.depth+1≤n+1:=dn
    have ne:∀ z:Str,z ∉ joinW→¬ V.str o=V.str z:=fun z hz h=>hz (str_inj h ▸ ho)
    refine ⟨_,rfl,q,_,0,_,rfl,rfl,SqT.of e,rfl,?_⟩
    refine ⟨_,rfl,rfl,_,rfl,?_⟩
    refine iteDF (ne _ (by decide +kernel)) ?_
    refine ⟨_,rfl,rfl,_,rfl,?_⟩
    refine iteDF (ne _ (by decide +kernel)) ?_
    refine ⟨_,rfl,rfl,_,rfl,?_⟩
    refine iteDF (ne _ (by decide +kernel)) ?_
    refine ⟨_,rfl,q,_,1,_,rfl,rfl,SqT.of e,rfl,_,rfl,_,rfl,_,rfl,u,r,a,b,ns,pt,p,rfl,T1,ok1,by omega,hN,hb,sl,p1,p40,po,?_⟩
    refine ⟨_,rfl,rfl,_,rfl,?_⟩
    refine iteDF (ne _ (by decide +kernel)) ?_
    have wr:=worth_rng p1 po sl r ok1
    refine ⟨_,rfl,_,rfl,_,rfl,q,_,2,_,rfl,rfl,SqT.of e,rfl,_,rfl,_,rfl,_,rfl,u2,r2,a,b,ns,pt,p,rfl,T2,ok2,by omega,hN,hb,sl,p1,p40,po,?_⟩
    exact ⟨_,rfl,o,_,_,p,rfl,wr.1,wr.2,p40,k⟩
theorem worth_zero {f:Addr} {fd:FuncData}:FnOk P w K mg base CX0 2 f fd ["tree", "switches", "point", "p"] (spWorth 0):=by
  have no:∀ vs H Q E,¬ spWorth 0 vs H Q E:=fun vs H Q E h=>by
    obtain ⟨v,t,_,_,_,_,_,_,_,_,h1,_⟩:=h
    have:=t.depth_pos
    omega
  exact ⟨fun vs H Q E h=>absurd h (no vs H Q E),fun A outer s H args us vs Q E _ _ _ _ h=>absurd h (no vs H Q E)⟩
theorem ok_worth_of {f:Addr} {fd:FuncData} (F:Fun K "worth_of" "worth_of" s_worth_of f fd) (m:mg "worth_of" = some (.ref f)) (C_joined_worth:Cal P w K mg base 1 "joined_worth" ["word", "first", "second", "p"] spJW) :
    ∀ n:Nat,FnOk P w K mg base CX0 (n+2) f fd ["tree", "switches", "point", "p"] (spWorth n)
  | 0=>worth_zero
  | n+1=>worth_step F C_joined_worth (Cal.of F (ok_worth_of F m C_joined_worth n) m (fun _ _ _ _ _ _ us hl=>by obtain ⟨u0,u1,u2,u3,rfl⟩:=len4 hl; rfl))
theorem keepT_lst {H:Hp} {b:Addr} {ys zs:List V} (h:H b=some (.lst ys)):∀ a xs,H a=some (.tup xs)→(upd H b (.lst zs)) a=some (.tup xs):=fun a xs e=>by
  rw [upd_ne]
  · exact e
  · intro z
    rw [z,h] at e
    cases e
theorem at0 (x:V) (xs:List V):atI (x::xs) 0=some x:=atI_nat (j:=0) rfl
theorem namesL_take {ts:List Tr} {i:Nat} {u:Tr} (h:ts[i]?=some u):namesL (ts.take (i+1))=namesL (ts.take i)++u.names:=by
  unfold namesL
  rw [List.take_add_one,h,List.map_append,List.flatten_append]
  simp
theorem namesL_len (ts:List Tr):(namesL ts).length≤sizes ts:=by
  induction ts with
  | nil=>simp [namesL,sizes]
  | cons a r ih =>
    have:=a.names_len
    simp only [namesL,sizes,List.map_cons,List.flatten_cons,List.length_append,List.sum_cons] at ih ⊢
    omega
theorem sizes_take (ts:List Tr) (i:Nat):sizes (ts.take i)≤sizes ts:=by
  induction ts generalizing i with
  | nil=>simp
  | cons a r ih =>
    cases i with
    | zero=>simp [sizes]
    | succ i =>
      have:=ih i
      simp only [sizes,List.take_succ_cons,List.map_cons,List.sum_cons] at this ⊢
      omega
def spNO (n:Nat):Sp:=fun vs H Q _=>∃ (v:V) (t:Tr),vs=[v]∧TreeAt H v t∧t.wf∧t.depth≤n∧t.size≤400∧∀ (l:Addr) (H':Hp),H l=none→Same H H'→H' l=some (.lst (t.names.map V.str))→Q (.ref l) H'
theorem sc_l_names_of:FnScope ["_law_tree_here", "_law_found", "_law_part"] ["_law_tree_here"] (defScope s_l_names_of):=⟨rfl,rfl,rfl,by decide +kernel,rfl,by decide +kernel,by decide +kernel⟩
theorem no_step {n:Nat} {f:Addr} {fd:FuncData} (F:Fun K "_law_names_of" "_law_names_of" s_l_names_of f fd) (C_l_names_of:Cal P w K mg base (n+2) "_law_names_of" ["_law_tree_here"] (spNO n)):FnOk P w K mg base CX0 (n+3) f fd ["_law_tree_here"] (spNO (n+1)):=by
  refine F.ok sc_l_names_of (fun vs H Q E h=>?_) (fun cdv A outer s H vs Q E hr h=>?_)
  · obtain ⟨v,t,rfl,_⟩:=h
    rfl
  obtain ⟨v,t,rfl,T,wf,dn,sz,q⟩:=h
  refine ⟨_,(pss_cons (ps_if (pt_cmpR op_eq (pe_ix ix_tup (pv 0) pe_int (fun _ _=>rfl)) pe_str (nomark _)) (pss_one (ps_ret (pe_lst (pa_cons (pe_ix ix_tup (pv 0) pe_int (fun _ _=>rfl)) pa_nil)))) pss_nil)
      (pss_cons (ps_set (i:=1) sc_l_names_of.nd rfl (Or.inl rfl) (pe_lst pa_nil))
      (pss_cons (ps_for PassesOwn.never rfl (pi_tup (pe_slice sl_tup (pv 0) (po_some pe_int) po_none)) (pg_name (i:=2) sc_l_names_of.nd rfl (Or.inl rfl)) (pss_one (ps_set (i:=1) sc_l_names_of.nd rfl (Or.inl rfl) (pe_op op_cat (pv 1) (pe_cal C_l_names_of hr (Nat.le_refl _) rfl (pa_cons (pv 2) pa_nil))))))
      (pss_one (ps_ret (pv 1)))))),?_⟩
  rcases T.view wf with ⟨a,x,rfl,rfl,_,e⟩ | ⟨a,o,xs,rfl,no,xl0,e,TS0,nis⟩
  · refine ⟨_,rfl,a,_,0,_,rfl,rfl,SqT.of e,rfl,rfl,_,rfl,?_⟩
    refine iteD rfl ?_
    refine ⟨_,rfl,a,_,1,_,rfl,rfl,SqT.of e,rfl,(by show 1≤sizeLine; decide),fun p hp=>?_⟩
    exact q p _ hp (Same.new hp _) upd_same
  · refine ⟨_,rfl,a,_,0,.str o,rfl,rfl,SqT.of e,at0 ..,rfl,_,rfl,?_⟩
    refine iteDF (fun z=>no (by injection z)) ?_
    refine ⟨(by show 0≤sizeLine; decide),fun L hL=>?_⟩
    have G0:=Same.new hL (.lst [])
    obtain ⟨c1,c2⟩:=cut1 (.str o) xs xl0
    refine ⟨_,rfl,1,rfl,a,_,rfl,SqT.of (G0 _ _ e),c2,fun p hp=>?_⟩
    rw [c1]
    have G1:=Same.new hp (.tup xs)
    have hp1:upd (upd H L (.lst [])) p (.tup xs) p=some (.tup xs):=upd_same
    have hL1:upd (upd H L (.lst [])) p (.tup xs) L=some (.lst []):=G1 _ _ upd_same
    have S1:Same H (upd (upd H L (.lst [])) p (.tup xs)):=G0.trans G1
    generalize upd (upd H L (.lst [])) p (.tup xs)=H1 at hp1 hL1 S1
    have TS:=TS0.mono (keepT_same S1)
    have xl:=TS.length
    have sp:=t.size_parts
    refine ⟨p,rfl,⟨_,SqT.of hp1⟩,for_tup (K:=K) (xs:=xs) (fun i σ H'=>∃ (M:Addr) (x2:Option V),σ=[some (.ref a),some (.ref M),x2]∧H M=none∧H' M=some (.lst ((namesL (t.parts.take i)).map V.str))∧Same H1 H') ⟨L,_,rfl,hL,hL1,Same.refl _⟩ (fun i σ H' _ hst=>by obtain ⟨_,_,_,_,_,h⟩:=hst; exact SqT.of (h _ _ hp1)) ?_ ?_⟩
    · rintro i x σ H2 hx ⟨M,x2,rfl,M0,hM,S2⟩
      obtain ⟨u,hu,Tu⟩:=TS.get hx
      have um:=List.mem_of_getElem? hu
      obtain ⟨uw,ud,us⟩:=Tr.parts_mem um wf
      refine ⟨_,rfl,_,rfl,x,u,rfl,Tu.mono (keepT_same S2),uw,by omega,by omega,fun l H3 l0 S3 hl3=>?_⟩
      have nl:=u.names_len
      have nl2:=namesL_len (t.parts.take i)
      have nl3:=sizes_take t.parts i
      refine ⟨M,l,_,_,rfl,rfl,S3 _ _ hM,hl3,?_,fun r hr0=>?_⟩
      · rw [List.length_map,List.length_map]
        exact small (by omega)
      · have S4:=(S2.trans S3).trans (Same.new hr0 (.lst ((namesL (t.parts.take i)).map V.str++u.names.map V.str)))
        refine ⟨r,_,rfl,(S1.trans (S2.trans S3)).free hr0,?_,S4⟩
        rw [upd_same,namesL_take hu,List.map_append]
    · rintro σ H2 ⟨M,x2,rfl,M0,hM,S2⟩
      rw [xl,List.take_length,← t.names_parts nis] at hM
      exact ⟨_,rfl,q M H2 M0 (S1.trans S2) hM⟩
theorem no_zero {f:Addr} {fd:FuncData}:FnOk P w K mg base CX0 2 f fd ["_law_tree_here"] (spNO 0):=by
  have no:∀ vs H Q E,¬ spNO 0 vs H Q E:=fun vs H Q E h=>by
    obtain ⟨v,t,_,_,_,h1,_⟩:=h
    have:=t.depth_pos
    omega
  exact ⟨fun vs H Q E h=>absurd h (no vs H Q E),fun A outer s H args us vs Q E _ _ _ _ h=>absurd h (no vs H Q E)⟩
theorem ok_l_names_of {f:Addr} {fd:FuncData} (F:Fun K "_law_names_of" "_law_names_of" s_l_names_of f fd) (m:mg "_law_names_of" = some (.ref f)) :
    ∀ n:Nat,FnOk P w K mg base CX0 (n+2) f fd ["_law_tree_here"] (spNO n)
  | 0=>no_zero
  | n+1=>no_step F (Cal.of F (ok_l_names_of F m n) m (fun _ _ _ _ _ _ us hl=>by obtain ⟨u0,rfl⟩:=len1 hl; rfl))
theorem count_strs (ns:List Str) (z:Str):((ns.map V.str).countP fun y=>eqV y (.str z))=ns.count z:=by
  rw [List.countP_map]
  rfl
def SeqS (H:Hp) (a:Addr) (xs:List V):Prop:=H a=some (.tup xs)∨H a=some (.lst xs)
theorem SeqS.sq {K:PySem.W.Frag} {H:Hp} {a:Addr} {xs:List V} (h:SeqS H a xs):∃ c:Bool,∀ {H':Hp},Same H H'→SqB K c H' a xs:=by
  rcases h with h | h
  · exact ⟨false,fun S=>SqT.of (S _ _ h)⟩
  · exact ⟨true,fun S=>SqL.of (S _ _ h)⟩
theorem SeqS.len {K:PySem.W.Frag} {H:Hp} {a:Addr} {xs:List V} (h:SeqS H a xs):SqL K H a xs∨SqT K H a xs:=by
  rcases h with h | h
  · exact .inr (SqT.of h)
  · exact .inl (SqL.of h)
def Att (ts:List Tr) (ns:List Str) (m:Int):Prop:=m=2∨m=(ts.length:Int) - 1∨∃ t ∈ ts,∃ x ∈ ns,m=(t.names.count x:Int)
theorem for_any {K:PySem.W.Frag} {c:Bool} {a:Addr} {xs:List V} {g:TG} {tb:TS} {D:Ends} {σ:St} {H:Hp} (Pv:Nat→St→Hp→Prop) (h0:Pv 0 σ H) (hl:∀ i σ H,i≤xs.length→Pv i σ H→SqB K c H a xs)
    (hs:∀ i x σ H,xs[i]?=some x→Pv i σ H→g x σ H fun σ2 H2=>tb { D with nx:=Pv (i+1),ct:=Pv (i+1),bk:=D.nx } σ2 H2) (hd:∀ σ H,Pv xs.length σ H→D.nx σ H) :
    ∃ W:Nat→Nat→St→Hp→Prop,(∃ m,W 0 m σ H)∧∀ i m σ H,W i m σ H →
      ((ItB K c a).stop i H∧D.nx σ H)∨((ItB K c a).go i H∧∃ N:St→Hp→Prop,(∀ σ' H',N σ' H'→∃ m',m' < m∧W (i+1) m' σ' H')∧∀ x H',(ItB K c a).yld i H x H'→g x σ H' fun σ2 H2=>tb { D with nx:=N,ct:=N,bk:=D.nx } σ2 H2):=by
  cases c with
  | true=>exact for_list (K:=K) (xs:=xs) Pv h0 hl hs hd
  | false=>exact for_tup (K:=K) (xs:=xs) Pv h0 hl hs hd
def spNeed:Sp:=fun vs H Q _=>∃ (a b:Addr) (ns:List Str) (tv:List V) (ts:List Tr),vs=[.ref a,.ref b]∧SeqS H a (ns.map V.str)∧SeqS H b tv∧TreesAt H tv ts∧ts.length≤10∧(∀ t ∈ ts,t.wf∧t.depth≤10∧t.size≤400) ∧
  ∀ (m:Int) (H':Hp),Same H H'→2≤m→m≤400→(ts.length:Int)≤m+1→(∀ t ∈ ts,∀ x ∈ ns,(t.names.count x:Int)≤m)→Att ts ns m→Q (.int m) H'
theorem sc_l_need:FnScope ["_law_names_here", "_law_trees", "_law_need_here", "_law_tree_here", "_law_found", "_law_name"] ["_law_names_here", "_law_trees"] (defScope s_l_need):=⟨rfl,rfl,rfl,by decide +kernel,rfl,by decide +kernel,by decide +kernel⟩
theorem ok_l_need {f:Addr} {fd:FuncData} (F:Fun K "_law_need" "_law_need" s_l_need f fd) (hlen:mg "len" = none) (hmax:mg "max" = none) (C_l_names_of:Cal P w K mg base 12 "_law_names_of" ["_law_tree_here"] (spNO 10)):FnOk P w K mg base CX0 13 f fd ["_law_names_here", "_law_trees"] spNeed:=by
  refine F.ok sc_l_need (fun vs H Q E h=>?_) (fun cdv A outer s H vs Q E hr h=>?_)
  · obtain ⟨a,b,ns,tv,ts,rfl,_⟩:=h
    rfl
  obtain ⟨a,b,ns,tv,ts,rfl,ha,hb,TS,tl,tok,q⟩:=h
  refine ⟨_,(pss_cons (ps_set (i:=2) sc_l_need.nd rfl (Or.inl rfl) (pe_callB (call_max2 rfl) rfl hmax PyProof.Rows.boot_max (pa_cons pe_int (pa_cons (pe_op op_sub (pe_callB call_len_seq rfl hlen PySem.boot_len (pa_cons (pv 1) pa_nil)) pe_int) pa_nil))))
      (pss_cons (ps_for PassesOwn.never rfl (pi_any (pv 1)) (pg_name (i:=3) sc_l_need.nd rfl (Or.inl rfl)) (pss_cons (ps_set (i:=4) sc_l_need.nd rfl (Or.inl rfl) (pe_cal C_l_names_of hr (by decide) rfl (pa_cons (pv 3) pa_nil)))
        (pss_one (ps_for PassesOwn.never rfl (pi_any (pv 0)) (pg_name (i:=5) sc_l_need.nd rfl (Or.inl rfl)) (pss_one (ps_set (i:=2) sc_l_need.nd rfl (Or.inl rfl) (pe_callB (call_max2 rfl) rfl hmax PyProof.Rows.boot_max (pa_cons (pv 2) (pa_cons (pe_bm PySem.F.plainAttrs_list PySem.F.slot_list_count PySem.F.type_list_count mt_count (pv 4) (pa_cons (pv 5) pa_nil)) pa_nil)))))))))
      (pss_one (ps_ret (pv 2))))),?_⟩
  have vl:=TS.length
  obtain ⟨ca,qa⟩:=SeqS.sq (K:=K) ha
  obtain ⟨cb,qb⟩:=SeqS.sq (K:=K) hb
  refine ⟨_,rfl,b,_,rfl,SeqS.len hb,_,_,rfl,rfl,_,_,rfl,?_⟩
  obtain ⟨m,em,m2,m4,mt,ma⟩:∃ m:Int,(if ((tv.length:Int) - 1) > 2 then ((tv.length:Int) - 1) else 2)=m∧2≤m∧m≤400∧(ts.length:Int)≤m+1∧Att ts ns m:=⟨_,rfl,by split <;> omega,by split <;> omega,by split <;> omega,by
    split
    · exact .inr (.inl (by rw [vl]))
    · exact .inl rfl⟩
  rw [em]
  refine ⟨_,rfl,cb,b,rfl,⟨_,qb (Same.refl _)⟩,for_any (K:=K) (c:=cb) (xs:=tv) (fun i σ H'=>∃ (m:Int) (x3 x4 x5:Option V),σ=[some (.ref a),some (.ref b),some (.int m),x3,x4,x5]∧2≤m∧m≤400∧(ts.length:Int)≤m+1∧(∀ t ∈ ts.take i,∀ x ∈ ns,(t.names.count x:Int)≤m)∧Att ts ns m∧Same H H')
    ⟨m,_,_,_,rfl,m2,m4,mt,by simp,ma,Same.refl _⟩ (fun i σ H' _ hst=>by obtain ⟨_,_,_,_,_,_,_,_,_,_,h⟩:=hst; exact qb h) ?_ ?_⟩
  · rintro i v σ H1 hv ⟨m,x3,x4,x5,rfl,m2,m4,mt,mc,ma,S1⟩
    obtain ⟨t,ht,T⟩:=TS.get hv
    have tm:=List.mem_of_getElem? ht
    obtain ⟨tw,td,tz⟩:=tok t tm
    refine ⟨_,rfl,v,t,rfl,T.mono (keepT_same S1),tw,by omega,tz,fun l H2 l0 S2 hl=>?_⟩
    have S12:=S1.trans S2
    have tn:=t.names_len
    refine ⟨_,rfl,ca,a,rfl,⟨_,qa S12⟩,for_any (K:=K) (c:=ca) (xs:=ns.map V.str) (fun j σ H'=>∃ (m':Int) (x5:Option V),σ=[some (.ref a),some (.ref b),some (.int m'),some v,some (.ref l),x5]∧m≤m'∧m'≤400∧(∀ x ∈ ns.take j,(t.names.count x:Int)≤m')∧Att ts ns m'∧H'=H2)
      ⟨m,_,rfl,Int.le_refl _,m4,by simp,ma,rfl⟩ (fun j σ H' _ hst=>by obtain ⟨_,_,_,_,_,_,_,h⟩:=hst; subst h; exact qa S12) ?_ ?_⟩
    · rintro j y σ H3 hy ⟨m',y5,rfl,mm,m4',mc',ma',rfl⟩
      rw [List.getElem?_map] at hy
      obtain ⟨x,hx,rfl⟩:=Option.map_eq_some_iff.mp hy
      refine ⟨_,rfl,_,rfl,.inl ⟨rfl,_,SqL.of hl⟩,_,rfl,l,_,_,rfl,rfl,SqL.of hl,flat_strs _,rfl,_,_,rfl,?_⟩
      rw [count_strs]
      have cl:=List.count_le_length (a:=x) (l:=t.names)
      refine ⟨_,_,rfl,by split <;> omega,by split <;> omega,fun z hz=>?_,by
        split
        · exact .inr (.inr ⟨t,tm,x,List.mem_of_getElem? hx,rfl⟩)
        · exact ma',rfl⟩
      rw [List.take_add_one,hx] at hz
      rcases List.mem_append.mp hz with h | h
      · have:=mc' z h
        split <;> omega
      · have e:z=x:=by simpa using h
        subst e
        split <;> omega
    · rintro σ H3 ⟨m',y5,rfl,mm,m4',mc',ma',rfl⟩
      rw [List.length_map,List.take_length] at mc'
      refine ⟨m',_,_,_,rfl,by omega,m4',by omega,fun u hu x hx=>?_,ma',S12⟩
      rw [List.take_add_one,ht] at hu
      rcases List.mem_append.mp hu with h | h
      · have:=mc u h x hx
        omega
      · have e:u=t:=by simpa using h
        subst e
        exact mc' x hx
  · rintro σ H1 ⟨m,x3,x4,x5,rfl,m2,m4,mt,mc,ma,S1⟩
    rw [vl,List.take_length] at mc
    exact ⟨_,rfl,q m H1 S1 m2 m4 mt mc ma⟩
def spPrimeB:Sp:=fun vs H Q _=>∃ n:Int,vs=[.int n]∧∀ b:Bool,(b=true↔Pr n)→Q (.bl b) H
theorem sc_l_is_prime:FnScope ["_law_number", "_law_k"] ["_law_number"] (defScope s_l_is_prime):=⟨rfl,rfl,rfl,by decide +kernel,rfl,by decide +kernel,by decide +kernel⟩
theorem ok_l_is_prime {f:Addr} {fd:FuncData} (F:Fun K "_law_is_prime" "_law_is_prime" s_l_is_prime f fd) (hrange:mg "range" = none):FnOk P w K mg base CX0 1 f fd ["_law_number"] spPrimeB:=by
  refine F.ok sc_l_is_prime (fun vs H Q E h=>?_) (fun cdv A outer s H vs Q E hr h=>?_)
  · obtain ⟨n,rfl,_⟩:=h
    rfl
  obtain ⟨n,rfl,q⟩:=h
  refine ⟨_,(pss_cons (ps_if (pt_cmpR op_lt (pv 0) pe_int (nomark _)) (pss_one (ps_ret pe_bl)) pss_nil)
      (pss_cons (ps_for PassesOwn.never rfl (pi_range2 rfl hrange (pa_cons pe_int (pa_cons pe_int pa_nil))) (pg_name (i:=1) sc_l_is_prime.nd rfl (Or.inl rfl)) (pss_cons (ps_if (pt_cmpR op_gt (pe_op op_mul (pv 1) (pv 1)) (pv 0) (nomark _)) (pss_one (ps_ret pe_bl)) pss_nil)
        (pss_one (ps_if (pt_cmpR op_eq (pe_op op_mod (pv 0) (pv 1)) pe_int (nomark _)) (pss_one (ps_ret pe_bl)) pss_nil))))
      (pss_one (ps_ret pe_bl)))),?_⟩
  refine ⟨_,rfl,_,_,rfl,rfl,_,rfl,?_⟩
  refine ite2 (fun c=>?_) (fun c=>?_)
  · have c':=of_decide_eq_true c
    exact q false ⟨fun z=>(nomatch z),fun z=>by have:=z.1; omega⟩
  have c':¬ n < 2:=of_decide_eq_false (Bool.eq_false_iff.mpr c)
  refine ⟨2,1001,rfl,⟨by decide,by decide,by decide,by decide⟩,for_range (fun i σ H'=>∃ x,σ=[some (.int n),x]∧H'=H∧PrUpTo n (2+(i:Int))) ⟨_,rfl,rfl,by simpa using upTo_start n⟩ ?_ ?_⟩
  · rintro i σ H' hi ⟨x,rfl,rfl,u⟩
    have hi':i < 999:=hi
    refine ⟨_,rfl,_,rfl,_,_,rfl,rfl,.inl ⟨by omega,by omega⟩,_,rfl,_,_,rfl,rfl,_,rfl,?_⟩
    refine ite2 (fun c1=>?_) (fun c1=>?_)
    · have c2:=of_decide_eq_true c1
      exact q true ⟨fun _=>pr_big (by omega) (by omega) u c2,fun _=>rfl⟩
    · have c2:=of_decide_eq_false (Bool.eq_false_iff.mpr c1)
      refine ⟨_,rfl,_,rfl,_,_,rfl,rfl,(show (0:Int) < 2+(i:Int) by omega),rfl,_,rfl,?_⟩
      refine ite2 (fun c3=>?_) (fun c3=>?_)
      · have c4:=V.int.inj (of_decide_eq_true c3)
        exact q false ⟨fun z=>(nomatch z),fun z=>(pr_not (by omega) (by omega) (by omega) c4 z).elim⟩
      · have c4:=of_decide_eq_false (Bool.eq_false_iff.mpr c3)
        refine ⟨_,rfl,rfl,?_⟩
        have e:(2:Int)+((i+1:Nat):Int)=2+(i:Int)+1:=by omega
        rw [e]
        exact upTo_next u (by omega) (fun z=>c4 (congrArg V.int z))
  · rintro σ H' ⟨x,rfl,rfl,u⟩
    exact q true ⟨fun _=>pr_all (by omega) u,fun _=>rfl⟩
def spFieldL:Sp:=fun vs H Q _=>∃ (f:Addr) (m:Int),vs=[.ref f,.int m]∧FeedAt H f∧2≤m∧m≤400∧∀ (p:Int) (H':Hp),Pr p→m < p→p≤999983→FeedAt H' f→SameBut f H H'→Q (.int p) H'
theorem prime_loop {f:Addr} {m fm:Int} {D:Ends} {H:Hp} (hD:∀ p:Int,Pr p→m < p→p≤999983→D.nx [some (.ref f),some (.int m),some (.int fm),some (.int p)] H) (n:Int) (h1:m < n) (h2:n≤999983) :
    tWhile (tNot (tB (tCall spPrimeB [] E0 (tCons (tVar 3) tNil)))) (tAsg (tOp (rI0 fun i j=>V.int (i+j)) (tVar 3) (tC (V.int 1))) (gName 3)) D [some (.ref f),some (.int m),some (.int fm),some (.int n)] H:=by
  refine ⟨fun mm σ H'=>∃ n:Int,σ=[some (.ref f),some (.int m),some (.int fm),some (.int n)]∧H'=H∧m < n∧n≤999983∧mm=(999983 - n).toNat,⟨_,_,rfl,rfl,h1,h2,rfl⟩,?_⟩
  rintro mm σ H' ⟨n,rfl,rfl,n0,n1,rfl⟩
  refine ⟨_,rfl,n,rfl,fun b hb=>⟨b,rfl,?_⟩⟩
  cases b with
  | true=>exact iteF (hD n (hb.mp rfl) n0 n1)
  | false =>
    refine iteT ?_
    refine ⟨_,fun _ _ h=>h,?_⟩
    have ne:n ≠ 999983:=fun z=>by
      subst z
      exact nomatch hb.mpr pr_999983
    refine ⟨_,rfl,_,_,rfl,rfl,?_⟩
    exact ⟨_,by omega,n+1,rfl,rfl,by omega,by omega,rfl⟩
theorem sc_l_field:FnScope ["_law_feed_here", "_law_need_here", "_law_form", "_law_number"] ["_law_feed_here", "_law_need_here"] (defScope s_l_field):=⟨rfl,rfl,rfl,by decide +kernel,rfl,by decide +kernel,by decide +kernel⟩
theorem ok_l_field {f:Addr} {fd:FuncData} (F:Fun K "_law_field" "_law_field" s_l_field f fd) (C_l_take:Cal P w K mg base 1 "_law_take" ["_law_feed_here", "_law_many"] spTake) (C_l_is_prime:Cal P w K mg base 1 "_law_is_prime" ["_law_number"] spPrimeB):FnOk P w K mg base CX0 2 f fd ["_law_feed_here", "_law_need_here"] spFieldL:=by
  refine F.ok sc_l_field (fun vs H Q E h=>?_) (fun cdv A outer s H vs Q E hr h=>?_)
  · obtain ⟨f,m,rfl,_⟩:=h
    rfl
  obtain ⟨f,m,rfl,hF,m2,m4,q⟩:=h
  refine ⟨_,(pss_cons (ps_set (i:=2) sc_l_field.nd rfl (Or.inl rfl) (pe_cal C_l_take hr (by decide) rfl (pa_cons (pv 0) (pa_cons pe_int pa_nil))))
      (pss_cons (ps_set (i:=3) sc_l_field.nd rfl (Or.inl rfl) (pe_op op_add (pv 1) pe_int))
      (pss_cons (ps_if (pt_cmpR op_eq (pv 2) pe_int (nomark _)) (pss_one (ps_set (i:=3) sc_l_field.nd rfl (Or.inl rfl) (pe_op op_add (pe_op op_add (pv 1) pe_int) (pe_cal C_l_take hr (by decide) rfl (pa_cons (pv 0) (pa_cons pe_int pa_nil)))))) pss_nil)
      (pss_cons (ps_if (pt_cmpR op_eq (pv 2) pe_int (nomark _)) (pss_one (ps_set (i:=3) sc_l_field.nd rfl (Or.inl rfl) (pe_op op_add (pe_op op_add (pv 1) pe_int) (pe_cal C_l_take hr (by decide) rfl (pa_cons (pv 0) (pa_cons (pe_op op_sub pe_int (pv 1)) pa_nil)))))) pss_nil)
      (pss_cons (ps_while PassesOwn.never (pt_not (pt_val (pe_cal C_l_is_prime hr (by decide) rfl (pa_cons (pv 3) pa_nil)))) (pss_one (ps_set (i:=3) sc_l_field.nd rfl (Or.inl rfl) (pe_op op_add (pv 3) pe_int))))
      (pss_one (ps_ret (pv 3)))))))),?_⟩
  refine ⟨_,rfl,f,4,rfl,hF,by decide,by decide,fun fm H1 _ _ F1 S1=>?_⟩
  refine ⟨_,rfl,_,_,rfl,rfl,?_⟩
  refine ⟨_,rfl,rfl,_,rfl,?_⟩
  refine ite2 (fun c1=>?b1) (fun c1=>?b2)
  case' b1 =>
    refine ⟨_,rfl,_,_,rfl,rfl,_,rfl,f,60,rfl,F1,by decide,by decide,fun d H2 d0 d1 F2 S2=>?_⟩
    refine ⟨_,_,rfl,rfl,?_⟩
    have G2:=S1.trans S2
    have n1:m < m+1+d:=by omega
    have n2:m+1+d≤999983:=by omega
  case' b2 =>
    have F2:=F1
    have G2:=S1
    have n1:m < m+1:=by omega
    have n2:m+1≤999983:=by omega
  all_goals
    refine ⟨_,rfl,rfl,_,rfl,?_⟩
    refine ite2 (fun c2=>?_) (fun c2=>?_)
    refine ⟨_,rfl,_,_,rfl,rfl,_,rfl,_,rfl,_,_,rfl,rfl,f,_,rfl,F2,(show (0:Int) < 999983 - m by omega),(show (999983:Int) - m < 2 ^ 63 by omega),fun d H3 d0 d1 F3 S3=>?_⟩
    refine ⟨_,_,rfl,rfl,?_⟩
    have G3:=G2.trans S3
    clear n1 n2
    have n1:m < m+1+d:=by omega
    have n2:m+1+d≤999983:=by
      have:d < 999983 - m:=d1
      omega
    rotate_left
    have F3:=F2
    have G3:=G2
    rotate_left
    all_goals
      refine prime_loop (fun p pp mp p9=>?_) _ n1 n2
      exact ⟨_,rfl,q p _ pp mp p9 F3 G3⟩
def spGame:Sp:=fun vs H Q _=>∃ (f:Addr) (most room:Int),vs=[.ref f,.int most,.int room]∧FeedAt H f∧0≤most∧most≤6∧1≤room∧room≤30 ∧
  ∀ (g a b:Addr) (ns:List Str) (tv:List V) (ts:List Tr) (p:Int) (H':Hp),H' g=some (.tup [.ref a,.ref b,.int p])→H' a=some (.tup (ns.map V.str))→(ns.length:Int)≤most→(∀ x ∈ ns,NmK x)→ns.Nodup→H' b=some (.tup tv)→TreesAt H' tv ts→1≤ts.length→ts.length≤4 →
    (∀ t ∈ ts,t.ok ns∧t.depth≤9∧(t.size:Int)≤room)→Pr p→2 < p→p≤999983→(ts.length:Int)≤p→(∀ t ∈ ts,∀ x ∈ ns,(t.names.count x:Int) < p)→FeedAt H' f→SameBut f H H'→Q (.ref g) H'
theorem mB {m:Int} (h0:0≤m) (h6:m≤6):(0:Int) < m+1∧m+1 < 2 ^ 63:=by omega
theorem zB {z:Int} (h0:1≤z) (h6:z≤4):-(2 ^ 62)≤z∧z < 2 ^ 62:=by omega
theorem rB {r:Int} (h0:1≤r) (h6:r≤30):0 < r∧r < 2 ^ 63:=by omega
theorem eB {e r:Int} (h0:0≤e) (h1:e < r) (h6:r≤30):(1:Int)≤1+e∧(1:Int)+e≤100:=by omega
theorem sc_l_game:FnScope ["_law_feed_here", "_law_most", "_law_room", "_law_names_here", "_law_many", "_law_trees"] ["_law_feed_here", "_law_most", "_law_room"] (defScope s_l_game):=⟨rfl,rfl,rfl,by decide +kernel,rfl,by decide +kernel,by decide +kernel⟩
theorem ok_l_game {f:Addr} {fd:FuncData} (F:Fun K "_law_game" "_law_game" s_l_game f fd) (hrange:mg "range" = none) (htuple:mg "tuple" = none) (C_l_take:Cal P w K mg base 1 "_law_take" ["_law_feed_here", "_law_many"] spTake) (C_l_names:Cal P w K mg base 2 "_law_names" ["_law_feed_here", "_law_many"] spNamesN)
    (C_l_tree:Cal P w K mg base 12 "_law_tree" ["_law_feed_here", "_law_names_here", "_law_room", "_law_deep"] (spTree 10)) (C_l_need:Cal P w K mg base 13 "_law_need" ["_law_names_here", "_law_trees"] spNeed) (C_l_field:Cal P w K mg base 2 "_law_field" ["_law_feed_here", "_law_need_here"] spFieldL):FnOk P w K mg base CX0 14 f fd ["_law_feed_here", "_law_most", "_law_room"] spGame:=by
  refine F.ok sc_l_game (fun vs H Q E h=>?_) (fun cdv A outer s H vs Q E hr h=>?_)
  · obtain ⟨f,most,room,rfl,_⟩:=h
    rfl
  obtain ⟨f,most,room,rfl,hF,m0,m6,r1,r30,q⟩:=h
  refine ⟨_,(pss_cons (ps_set (i:=3) sc_l_game.nd rfl (Or.inr rfl) (pe_cal C_l_names hr (by decide) rfl (pa_cons (pv 0) (pa_cons (pe_cal C_l_take hr (by decide) rfl (pa_cons (pv 0) (pa_cons (pe_op op_add (pv 1) pe_int) pa_nil))) pa_nil))))
      (pss_cons (ps_set (i:=4) sc_l_game.nd rfl (Or.inl rfl) (pe_ix ix_list (pe_lst (pa_cons pe_int (pa_cons pe_int (pa_cons pe_int (pa_cons pe_int (pa_cons pe_int (pa_cons pe_int pa_nil))))))) (pe_cal C_l_take hr (by decide) rfl (pa_cons (pv 0) (pa_cons pe_int pa_nil))) (fun _ _=>rfl)))
      (pss_cons (ps_comp (i:=5) (N:=["_law_room", "_law_names_here", "_law_feed_here"]) (ix:=[2,3,0]) sc_l_game.nd rfl (Or.inl rfl) rfl
        (CompScope.three (by with_unfolding_all rfl) (by decide) rfl (by decide) rfl (by decide +kernel) rfl (by with_unfolding_all rfl) (by with_unfolding_all rfl) (by with_unfolding_all rfl) (by with_unfolding_all rfl) (by with_unfolding_all rfl) rfl rfl (by with_unfolding_all rfl) rfl rfl (by with_unfolding_all rfl) rfl rfl) rfl
        (pi_range1 rfl hrange (pa_cons (pv 4) pa_nil))
        (fun _ _ _=>pb_all (pe_cal C_l_tree hr (by decide) rfl (pa_cons (pv 3) (pa_cons (pv 2) (pa_cons (pe_op op_add pe_int (pe_cal C_l_take hr (by decide) rfl (pa_cons (pv 3) (pa_cons (pv 1) pa_nil)))) (pa_cons pe_int pa_nil)))))))
      (pss_one (ps_ret (pe_tup (pa_cons (pe_callTy call_tuple_of rfl htuple boot_tuple' (pa_cons (pv 3) pa_nil)) (pa_cons (pe_callTy call_tuple_of rfl htuple boot_tuple' (pa_cons (pv 5) pa_nil)) (pa_cons (pe_cal C_l_field hr (by decide) rfl (pa_cons (pv 0) (pa_cons (pe_cal C_l_need hr (by decide) rfl (pa_cons (pv 3) (pa_cons (pv 5) pa_nil))) pa_nil))) pa_nil))))))))),?_⟩
  refine ⟨_,rfl,_,rfl,_,rfl,_,_,rfl,rfl,f,_,rfl,hF,(mB m0 m6).1,(mB m0 m6).2,fun mk H1 k0 k7 F1 S1=>?_⟩
  refine ⟨f,mk,rfl,F1,k0,by omega,fun nl ns H2 nl0 nlf hnl nsl nok nnd F2 S2=>?_⟩
  have S02:=S1.trans S2
  refine ⟨(by show 6≤sizeLine; decide),fun l hl=>?_⟩
  have lf:=F2.ne hl
  have G2:=Same.new hl (.lst [.int 1,.int 1,.int 1,.int 2,.int 3,.int 4])
  refine ⟨_,rfl,f,6,rfl,F2.same G2,by decide,by decide,fun j H3 j0 j6 F3 S3=>?_⟩
  have hl3:=S3 l _ lf upd_same
  obtain ⟨x,hx,xm⟩:=at_in (l:=[V.int 1,V.int 1,V.int 1,V.int 2,V.int 3,V.int 4]) (i:=j) j0 (by show j < 6; omega)
  obtain ⟨z,rfl,z0,z4⟩:∃ z:Int,x=.int z∧1≤z∧z≤4:=by
    simp only [List.mem_cons,List.not_mem_nil,or_false] at xm
    rcases xm with h | h | h | h | h | h <;> exact ⟨_,h,by decide,by decide⟩
  refine ⟨l,_,_,_,rfl,rfl,SqL.of hl3,hx,?_⟩
  have S23:SameBut f H2 H3:=(SameBut.of G2).trans S3
  have hnl3:=S23 nl _ nlf hnl
  have S03:=S02.trans S23
  have nl6:ns.length≤6:=by omega
  refine ⟨_,rfl,z,rfl,(zB z0 z4).1,(zB z0 z4).2,fun D hD=>?_⟩
  have Df:=F3.ne hD
  have nD:nl ≠ D:=ne_of_none hnl3 hD
  have GD:=Same.new hD (.lst [])
  refine comp_range (fun i H'=>∃ (tv:List V) (ts:List Tr),H' D=some (.lst tv)∧TreesAt H' tv ts∧ts.length=i∧(∀ t ∈ ts,t.ok ns∧t.depth≤9∧(t.size:Int)≤room)∧FeedAt H' f∧SameBut f H3 H') ⟨[],[],upd_same,.nil,rfl,(fun t ht=>by cases ht),F3.same GD,SameBut.of GD⟩ ?_ ?_
  · rintro i H4 hi ⟨tv,ts,hD4,TS,tl,tok,F4,S4⟩
    have hi':i < z.toNat:=hi
    have hnl4:=S4 nl _ nlf hnl3
    refine ⟨_,rfl,_,rfl,_,rfl,_,rfl,f,room,rfl,F4,(rB r1 r30).1,(rB r1 r30).2,fun e H5 e0 e1 F5 S5=>?_⟩
    have hnl5:=S5 nl _ nlf hnl4
    refine ⟨_,_,rfl,rfl,f,nl,_,_,ns,rfl,F5,.inl hnl5,nl6,(eB e0 e1 r30).1,(eB e0 e1 r30).2,by decide,by decide,fun v t H6 F6 S6 T6 ok6 sz6 dp6=>?_⟩
    have S46:=S5.trans S6
    have hD6:=S46 D _ Df hD4
    have k46:=keepT_feed F4 S46
    have vl:=TS.length
    refine ⟨_,hD6,small1000 (by omega),Nx.of hi ⟨tv++[v],ts++[t],upd_same,?_,?_,?_,feed_upd F6 Df,?_⟩⟩
    · have k:=keepT_lst (H:=H6) (b:=D) (ys:=tv) (zs:=tv++[v]) hD6
      exact ((TS.mono k46).mono k).append (.cons (T6.mono k) .nil)
    · rw [List.length_append,List.length_singleton,tl]
    · intro u hu
      rcases List.mem_append.mp hu with h | h
      · exact tok u h
      · rw [List.mem_singleton.mp h]
        have d9:(t.depth:Int)≤9:=dp6
        have s9:(t.size:Int)≤1+e:=sz6
        exact ⟨ok6,by omega,by omega⟩
    · intro b o hb eb
      rw [upd_ne (ne_of_none eb hD)]
      exact S46 b o hb (S4 b o hb eb)
  · rintro H4 ⟨tv,ts,hD4,TS,tl,tok,F4,S4⟩
    have hnl4:=S4 nl _ nlf hnl3
    have tl':ts.length=z.toNat:=tl
    have tl1:1≤ts.length:=by omega
    have tl4:ts.length≤4:=by omega
    refine ⟨_,rfl,nl,_,rfl,.inl ⟨SqL.of hnl4,fun a ha=>?_⟩⟩
    have Ga:=Same.new ha (.tup (ns.map V.str))
    refine ⟨_,rfl,D,_,rfl,.inl ⟨SqL.of (Ga _ _ hD4),fun b hb=>?_⟩⟩
    have Gb:=Same.new hb (.tup tv)
    have Gab:=Ga.trans Gb
    have wfs:∀ t ∈ ts,t.wf:=fun t ht=>Tr.ok_wf (fun x hx=>(nok x hx).1) t (tok t ht).1
    refine ⟨_,rfl,_,rfl,_,rfl,nl,D,ns,tv,ts,rfl,.inr (Gab _ _ hnl4),.inr (Gab _ _ hD4),TS.mono (keepT_same Gab),Nat.le_trans tl4 (by decide),fun t ht=>⟨wfs t ht,Nat.le_trans (tok t ht).2.1 (by decide),by have:=(tok t ht).2.2; omega⟩,fun m H5 S5 m2 m4 mt mc _=>?_⟩
    have F5:=(F4.same Gab).same S5
    refine ⟨f,m,rfl,F5,m2,m4,fun p H6 pp mp p9 F6 S6=>?_⟩
    refine ⟨(by show 3≤sizeLine; decide),fun g hg=>?_⟩
    have Gg:=Same.new hg (.tup [.ref a,.ref b,.int p])
    have k6:KeepT (upd (upd H4 a (.tup (ns.map V.str))) b (.tup tv)) (upd H6 g (.tup [.ref a,.ref b,.int p])):=fun c ys h=>Gg _ _ (keepT_feed F5 S6 _ _ (S5 _ _ h))
    refine q g a b ns tv ts p _ upd_same (k6 _ _ (Gb _ _ upd_same)) (by omega) nok nnd (k6 _ _ upd_same) ((TS.mono (keepT_same Gab)).mono k6) tl1 tl4 tok pp (by omega) p9 (by omega) (fun t ht x hx=>by have:=mc t ht x hx; omega) (F6.same Gg) ?_
    exact S03.trans (S4.trans ((SameBut.of (Gab.trans S5)).trans (S6.trans (SameBut.of Gg))))
def spWithin:Sp:=fun vs H Q _=>∃ (v:V) (t:Tr),vs=[v]∧TreeAt H v t∧t.wf∧∀ (p:Addr) (xs:List V) (H':Hp),Same H H'→H' p=some (.tup xs)→TreesAt H' xs t.parts→Q (.ref p) H'
theorem sc_trees_within:FnScope ["tree"] ["tree"] (defScope s_trees_within):=⟨rfl,rfl,rfl,by decide +kernel,rfl,by decide +kernel,by decide +kernel⟩
theorem ok_trees_within {f:Addr} {fd:FuncData} (F:Fun K "trees_within" "trees_within" s_trees_within f fd):FnOk P w K mg base CX0 1 f fd ["tree"] spWithin:=by
  refine F.ok sc_trees_within (fun vs H Q E h=>?_) (fun cdv A outer s H vs Q E hr h=>?_)
  · obtain ⟨v,t,rfl,_⟩:=h
    rfl
  obtain ⟨v,t,rfl,T,wf,q⟩:=h
  refine ⟨_,(pss_cons (ps_if (pt_cmpR op_eq (pe_ix ix_tup (pv 0) pe_int (fun _ _=>rfl)) pe_str (nomark _)) (pss_one (ps_ret (pe_tup pa_nil))) pss_nil)
      (pss_one (ps_ret (pe_slice sl_tup (pv 0) (po_some pe_int) po_none)))),?_⟩
  rcases T.view wf with ⟨a,x,rfl,rfl,_,e⟩ | ⟨a,o,xs,rfl,no,xl,e,TS,_⟩
  · refine ⟨_,rfl,a,_,0,_,rfl,rfl,SqT.of e,rfl,rfl,_,rfl,?_⟩
    refine iteD rfl ?_
    refine ⟨(by show 0≤sizeLine; decide),fun p hp=>?_⟩
    exact q p [] _ (Same.new hp _) upd_same .nil
  · refine ⟨_,rfl,a,_,0,.str o,rfl,rfl,SqT.of e,at0 ..,rfl,_,rfl,?_⟩
    refine iteDF (fun z=>no (by injection z)) ?_
    obtain ⟨c1,c2⟩:=cut1 (.str o) xs xl
    refine ⟨_,rfl,1,rfl,a,_,rfl,SqT.of e,c2,fun p hp=>?_⟩
    rw [c1]
    exact q p xs _ (Same.new hp _) upd_same (TS.mono (keepT_same (Same.new hp _)))
def spNamesIn (n:Nat):Sp:=fun vs H Q _=>∃ (v:V) (t:Tr),vs=[v]∧TreeAt H v t∧t.wf∧t.depth≤n∧t.size≤400∧∀ (l:Addr) (H':Hp),H l=none→Same H H'→H' l=some (.lst (t.names.map V.str))→Q (.ref l) H'
theorem sc_names_in:FnScope ["tree", "names", "part"] ["tree"] (defScope s_names_in):=⟨rfl,rfl,rfl,by decide +kernel,rfl,by decide +kernel,by decide +kernel⟩
theorem names_step {n:Nat} {f:Addr} {fd:FuncData} (F:Fun K "names_in" "names_in" s_names_in f fd) (C_trees_within:Cal P w K mg base 1 "trees_within" ["tree"] spWithin) (C_names_in:Cal P w K mg base (n+2) "names_in" ["tree"] (spNamesIn n)):FnOk P w K mg base CX0 (n+3) f fd ["tree"] (spNamesIn (n+1)):=by
  refine F.ok sc_names_in (fun vs H Q E h=>?_) (fun cdv A outer s H vs Q E hr h=>?_)
  · obtain ⟨v,t,rfl,_⟩:=h
    rfl
  obtain ⟨v,t,rfl,T,wf,dn,sz,q⟩:=h
  refine ⟨_,(pss_cons (ps_if (pt_cmpR op_eq (pe_ix ix_tup (pv 0) pe_int (fun _ _=>rfl)) pe_str (nomark _)) (pss_one (ps_ret (pe_lst (pa_cons (pe_ix ix_tup (pv 0) pe_int (fun _ _=>rfl)) pa_nil)))) pss_nil)
      (pss_cons (ps_set (i:=1) sc_names_in.nd rfl (Or.inl rfl) (pe_lst pa_nil))
      (pss_cons (ps_for PassesOwn.never rfl (pi_tup (pe_cal C_trees_within hr (by omega) rfl (pa_cons (pv 0) pa_nil))) (pg_name (i:=2) sc_names_in.nd rfl (Or.inl rfl)) (pss_one (ps_expr (pe_bm PySem.F.plainAttrs_list PySem.F.slot_list_extend PySem.F.type_list_extend mt_extend (pv 1) (pa_cons (pe_cal C_names_in hr (Nat.le_refl _) rfl (pa_cons (pv 2) pa_nil)) pa_nil)))))
      (pss_one (ps_ret (pv 1)))))),?_⟩
  have wf':=wf
  rcases T.view wf with ⟨a,x,rfl,rfl,_,e⟩ | ⟨a,o,xs0,rfl,no,xl0,e,_,nis⟩
  · refine ⟨_,rfl,a,_,0,_,rfl,rfl,SqT.of e,rfl,rfl,_,rfl,?_⟩
    refine iteD rfl ?_
    refine ⟨_,rfl,a,_,1,_,rfl,rfl,SqT.of e,rfl,(by show 1≤sizeLine; decide),fun p hp=>?_⟩
    exact q p _ hp (Same.new hp _) upd_same
  · refine ⟨_,rfl,a,_,0,.str o,rfl,rfl,SqT.of e,at0 ..,rfl,_,rfl,?_⟩
    refine iteDF (fun z=>no (by injection z)) ?_
    refine ⟨(by show 0≤sizeLine; decide),fun L hL=>?_⟩
    have G0:=Same.new hL (.lst [])
    refine ⟨_,rfl,_,t,rfl,T.mono (keepT_same G0),wf,fun p xs H1 S1 hp TS=>?_⟩
    have hL1:H1 L=some (.lst []):=S1 _ _ upd_same
    have pL:p ≠ L:=fun z=>by rw [z,hL1] at hp; cases hp
    have xl:=TS.length
    have sp:=t.size_parts
    refine ⟨p,rfl,⟨_,SqT.of hp⟩,for_tup (K:=K) (xs:=xs) (fun i σ H'=>∃ x2,σ=[some (.ref a),some (.ref L),x2]∧H' L=some (.lst ((namesL (t.parts.take i)).map V.str))∧SameBut L H1 H') ⟨_,rfl,hL1,SameBut.refl _ _⟩ (fun i σ H' _ hst=>by obtain ⟨_,_,_,h⟩:=hst; exact SqT.of (h _ _ pL hp)) ?_ ?_⟩
    · rintro i x σ H2 hx ⟨x2,rfl,hl,S2⟩
      obtain ⟨u,hu,Tu⟩:=TS.get hx
      have um:=List.mem_of_getElem? hu
      obtain ⟨uw,ud,us⟩:=Tr.parts_mem um wf
      have Tu2:TreeAt H2 x u:=Tu.mono fun b ys h=>S2 b _ (fun z=>by rw [z,hL1] at h; cases h) h
      refine ⟨_,rfl,.inl ⟨rfl,_,SqL.of hl⟩,_,rfl,x,u,rfl,Tu2,uw,by omega,by omega,fun l H3 l0 S3 hl3=>?_⟩
      have nl:=u.names_len
      have nl2:=namesL_len (t.parts.take i)
      have nl3:=sizes_take t.parts i
      refine ⟨L,l,_,_,rfl,rfl,S3 _ _ hl,hl3,?_,?_⟩
      · rw [List.length_map,List.length_map]
        exact small (by omega)
      refine ⟨_,rfl,?_,fun b o hb h=>?_⟩
      · rw [upd_same,namesL_take hu,List.map_append]
      · rw [upd_ne hb]
        exact S3 _ _ (S2 _ _ hb h)
    · rintro σ H2 ⟨x2,rfl,hl,S2⟩
      rw [xl,List.take_length,← t.names_parts nis] at hl
      refine ⟨_,rfl,?_⟩
      refine q L H2 hL (fun b o h=>?_) hl
      exact S2 b o (ne_of_none h hL) (S1 _ _ (G0 _ _ h))
theorem names_zero {f:Addr} {fd:FuncData}:FnOk P w K mg base CX0 2 f fd ["tree"] (spNamesIn 0):=by
  have no:∀ vs H Q E,¬ spNamesIn 0 vs H Q E:=fun vs H Q E h=>by
    obtain ⟨v,t,_,_,_,h1,_⟩:=h
    have:=t.depth_pos
    omega
  exact ⟨fun vs H Q E h=>absurd h (no vs H Q E),fun A outer s H args us vs Q E _ _ _ _ h=>absurd h (no vs H Q E)⟩
theorem ok_names_in {f:Addr} {fd:FuncData} (F:Fun K "names_in" "names_in" s_names_in f fd) (m:mg "names_in" = some (.ref f)) (C_trees_within:Cal P w K mg base 1 "trees_within" ["tree"] spWithin) :
    ∀ n:Nat,FnOk P w K mg base CX0 (n+2) f fd ["tree"] (spNamesIn n)
  | 0=>names_zero
  | n+1=>names_step F C_trees_within (Cal.of F (ok_names_in F m C_trees_within n) m (fun _ _ _ _ _ _ us hl=>by obtain ⟨u0,rfl⟩:=len1 hl; rfl))
def spField:Sp:=fun vs H Q _=>∃ n:Int,vs=[.int n]∧n≤999999∧∀ b:Bool,(b=true↔2 < n∧Pr n)→Q (.bl b) H
theorem sc_is_field:FnScope ["number", "divisor"] ["number"] (defScope s_is_field):=⟨rfl,rfl,rfl,by decide +kernel,rfl,by decide +kernel,by decide +kernel⟩
theorem ok_is_field {f:Addr} {fd:FuncData} (F:Fun K "is_field" "is_field" s_is_field f fd):FnOk P w K mg base CX0 1 f fd ["number"] spField:=by
  refine F.ok sc_is_field (fun vs H Q E h=>?_) (fun cdv A outer s H vs Q E hr h=>?_)
  · obtain ⟨n,rfl,_⟩:=h
    rfl
  obtain ⟨n,rfl,n9,q⟩:=h
  refine ⟨_,(pss_cons (ps_if (PW.pt (pw_or (pt_cmpR op_lt (pv 0) pe_int (nomark _)) (pw_or1 (pt_cmpR op_eq (pe_op op_mod (pv 0) pe_int) pe_int (nomark _))))) (pss_one (ps_ret pe_bl)) pss_nil)
      (pss_cons (ps_set (i:=1) sc_is_field.nd rfl (Or.inl rfl) pe_int)
      (pss_cons (ps_while PassesOwn.never (pt_cmpR op_le (pe_op op_mul (pv 1) (pv 1)) (pv 0) (nomark _)) (pss_cons (ps_if (pt_cmpR op_eq (pe_op op_mod (pv 0) (pv 1)) pe_int (nomark _)) (pss_one (ps_ret pe_bl)) pss_nil)
        (pss_one (ps_set (i:=1) sc_is_field.nd rfl (Or.inl rfl) (pe_op op_add (pv 1) pe_int)))))
      (pss_one (ps_ret pe_bl))))),?_⟩
  refine ⟨_,rfl,_,_,rfl,rfl,_,rfl,?_⟩
  by_cases c:n < 3
  · refine iteD c ?_
    refine iteT ?_
    exact q false ⟨fun z=>(nomatch z),fun z=>by omega⟩
  refine iteDF c ?_
  refine ⟨_,rfl,_,_,rfl,rfl,(by show (0:Int) < _; decide),rfl,_,rfl,?_⟩
  by_cases c2:n % 2=0
  · refine iteD (congrArg V.int c2) ?_
    exact q false ⟨fun z=>(nomatch z),fun z=>absurd z.2 (field_no2 c2 (by omega))⟩
  refine iteDF (fun z=>c2 (V.int.inj z)) ?_
  refine ⟨fun m σ H'=>∃ d:Int,σ=[some (.int n),some (.int d)]∧H'=H∧3≤d∧d≤1001∧d % 2=1∧OddUp n d∧m=(n+3 - d).toNat,⟨_,3,rfl,rfl,by omega,by omega,by omega,odd_start n,rfl⟩,?_⟩
  rintro m σ H' ⟨d,rfl,rfl,d3,d9,d2,u,rfl⟩
  refine ⟨_,rfl,_,rfl,_,_,rfl,rfl,.inl ⟨by omega,by omega⟩,_,rfl,_,_,rfl,rfl,_,rfl,?_⟩
  by_cases c3:d*d≤n
  · refine iteD c3 ?_
    have r1:=small_root n9 d3 c3
    have r2:=root_le d3 c3
    refine ⟨_,fun _ _ h=>h,?_⟩
    refine ⟨_,rfl,_,rfl,_,_,rfl,rfl,(show 0 < d by omega),rfl,_,rfl,?_⟩
    by_cases c4:n % d=0
    · refine iteD (congrArg V.int c4) ?_
      exact q false ⟨fun z=>(nomatch z),fun z=>absurd z.2 (field_nod n9 d3 c3 c4)⟩
    refine iteDF (fun z=>c4 (V.int.inj z)) ?_
    refine ⟨_,rfl,_,_,rfl,rfl,?_⟩
    exact ⟨_,by omega,d+2,rfl,rfl,by omega,by omega,by omega,odd_next u d2 c4,rfl⟩
  · refine iteDF c3 ?_
    exact q true ⟨fun _=>⟨by omega,field_yes (by omega) c2 d3 u (by omega)⟩,fun _=>rfl⟩
abbrev s_ginit:Stmt:=inClass s_game 0
abbrev s_gmix:Stmt:=inClass s_game 1
abbrev s_gworth:Stmt:=inClass s_game 2
abbrev s_gcoins:Stmt:=inClass s_game 3
def gf (a b:Addr) (p:Int) (d:Addr):List (Str × V):=putF "degrees" (.ref d) (putF "field" (.int p) (putF "trees" (.ref b) (putF "switches" (.ref a) [])))
theorem gf_sw (a b:Addr) (p:Int) (d:Addr):(gf a b p d).lookup ("switches" : Str)=some (.ref a):=by
  unfold gf
  rw [lookup_putF,if_neg (by decide +kernel),lookup_putF,if_neg (by decide +kernel),lookup_putF,if_neg (by decide +kernel),lookup_putF,if_pos rfl]
theorem gf_tr (a b:Addr) (p:Int) (d:Addr):(gf a b p d).lookup ("trees" : Str)=some (.ref b):=by
  unfold gf
  rw [lookup_putF,if_neg (by decide +kernel),lookup_putF,if_neg (by decide +kernel),lookup_putF,if_pos rfl]
theorem gf_fi (a b:Addr) (p:Int) (d:Addr):(gf a b p d).lookup ("field" : Str)=some (.int p):=by
  unfold gf
  rw [lookup_putF,if_neg (by decide +kernel),lookup_putF,if_pos rfl]
theorem gf_de (a b:Addr) (p:Int) (d:Addr):(gf a b p d).lookup ("degrees" : Str)=some (.ref d):=by
  unfold gf
  rw [lookup_putF,if_pos rfl]
theorem gf_no (a b:Addr) (p:Int) (d:Addr) {m:Str} (h1:¬ m = "degrees") (h2:¬ m = "field") (h3:¬ m = "trees") (h4:¬ m = "switches"):(gf a b p d).lookup m=none:=by
  unfold gf
  rw [lookup_putF,if_neg h1,lookup_putF,if_neg h2,lookup_putF,if_neg h3,lookup_putF,if_neg h4]
  all_goals rfl
structure GTxt (K:PySem.W.Frag) (mg:Str→Option Value) (C:Addr):Prop where
  cl:Cls K C
  nS:NoAttr K C "switches"
  nT:NoAttr K C "trees"
  nF:NoAttr K C "field"
  nD:NoAttr K C "degrees"
  mgC:mg "Game" = some (.ref C)
theorem bestI_at (g:Nat→Int):∀ n,∃ k,k≤n∧bestI g n=g k
  | 0=>⟨0,Nat.le_refl _,rfl⟩
  | n+1=>by
    obtain ⟨k,hk,e⟩:=bestI_at g n
    unfold bestI
    split
    · exact ⟨n+1,Nat.le_refl _,rfl⟩
    · exact ⟨k,by omega,e⟩
theorem maxD_mem {ns:List Int} (h:ns ≠ []):maxD ns 0 ∈ ns:=by
  cases ns with
  | nil=>exact absurd rfl h
  | cons a r =>
    obtain ⟨k,hk,e⟩:=bestI_at (fun i=>(a::r)[i]?.getD 0) ((a::r).length - 1)
    have e1:maxD (a::r) 0=bestI (fun i=>(a::r)[i]?.getD 0) ((a::r).length - 1):=rfl
    have hl:k < (a::r).length:=by
      rw [List.length_cons] at hk ⊢
      omega
    rw [e1,e]
    show (a::r)[k]?.getD 0 ∈ a::r
    rw [List.getElem?_eq_getElem hl]
    exact List.getElem_mem hl
def degOf (ts:List Tr) (x:Str):Int:=maxD (ts.map fun t=>(t.names.count x:Int)) 0
theorem degOf_lt {ts:List Tr} {x:Str} {p:Int} (h0:ts ≠ []) (h:∀ t ∈ ts,(t.names.count x:Int) < p):degOf ts x < p:=by
  have:=maxD_mem (ns:=ts.map fun t=>(t.names.count x:Int)) (by simpa using h0)
  obtain ⟨t,ht,e⟩:=List.mem_map.mp this
  unfold degOf
  rw [← e]
  exact h t ht
def spDeg:Sp:=fun vs H Q _=>∃ (x:Str) (b:Addr) (tv:List V) (ts:List Tr),vs=[.str x,.ref b]∧H b=some (.tup tv)∧TreesAt H tv ts∧ts ≠ []∧ts.length≤10∧(∀ t ∈ ts,t.wf∧t.depth≤10∧t.size≤400)∧∀ H',Same H H'→Q (.int (degOf ts x)) H'
theorem sc_degree_of:FnScope ["name", "trees"] ["name", "trees"] (defScope s_degree_of):=⟨rfl,rfl,rfl,by decide +kernel,rfl,by decide +kernel,by decide +kernel⟩
theorem ok_degree_of {f:Addr} {fd:FuncData} (F:Fun K "degree_of" "degree_of" s_degree_of f fd) (hmax:mg "max" = none) (C_names_in:Cal P w K mg base 12 "names_in" ["tree"] (spNamesIn 10)):FnOk P w K mg base CX0 13 f fd ["name", "trees"] spDeg:=by
  refine F.ok sc_degree_of (fun vs H Q E h=>?_) (fun cdv A outer s H vs Q E hr h=>?_)
  · obtain ⟨x,b,tv,ts,rfl,_⟩:=h
    rfl
  obtain ⟨x,b,tv,ts,rfl,hb,TS,t0,tl,tok,q⟩:=h
  refine ⟨_,(pss_one (ps_ret (pe_callB (call_max1 rfl) rfl hmax PyProof.Rows.boot_max (pa_cons (pe_comp (N:=["name"]) (ix:=[0]) rfl
        (CompScope.one (by with_unfolding_all rfl) (by decide) rfl (by decide) rfl (by decide +kernel) (by with_unfolding_all rfl) (by with_unfolding_all rfl) (by with_unfolding_all rfl) rfl rfl) rfl
        (pi_tup (pv 1)) (fun _ _ _=>pb_all (pe_bmK K PySem.F.plainAttrs_list PySem.F.slot_list_count PySem.F.type_list_count (mt_countK K) (pe_cal C_names_in hr (by decide) rfl (pa_cons (pv 0) pa_nil)) (pa_cons (pv 1) pa_nil)))) pa_nil)))),?_⟩
  have vl:=TS.length
  refine ⟨_,rfl,b,rfl,⟨_,SqT.of hb⟩,fun D hD=>?_⟩
  refine comp_tup (K:=K) (xs:=tv) (fun i H'=>H' D=some (.lst (((ts.take i).map fun t=>(t.names.count x:Int)).map V.int))∧Same H H') ⟨by rw [upd_same]; rfl,Same.new hD _⟩ (fun i H' _ h=>SqT.of (h.2 _ _ hb)) ?_ ?_
  · rintro i z H2 hz ⟨hl,S2⟩
    obtain ⟨t,ht,T⟩:=TS.get hz
    obtain ⟨tw,td,tz⟩:=tok t (List.mem_of_getElem? ht)
    have hi:i < tv.length:=(List.getElem?_eq_some_iff.mp hz).1
    refine ⟨_,rfl,z,t,rfl,T.mono (keepT_same S2),tw,by omega,tz,fun l H3 l0 S3 hl3=>?_⟩
    refine ⟨.inl ⟨rfl,_,SqL.of hl3⟩,_,rfl,l,_,_,rfl,rfl,SqL.of hl3,flat_strs _,rfl,?_⟩
    rw [count_strs]
    refine ⟨_,S3 _ _ hl,?_,Nx.of hi ⟨?_,fun b' o' e'=>?_⟩⟩
    · rw [List.length_map,List.length_map,List.length_take]
      exact small1000 (by omega)
    · rw [upd_same,List.take_add_one,ht,List.map_append,List.map_append]
      rfl
    · rw [upd_ne (ne_of_none e' hD)]
      exact S3 _ _ (S2 _ _ e')
  · rintro H2 ⟨hl,S2⟩
    rw [vl,List.take_length] at hl
    exact ⟨D,_,rfl,SqL.of hl,by simpa using t0,q H2 S2⟩
def spLookS:Sp:=fun vs H Q _=>∃ (a:Addr) (ns:List Str),vs=[.ref a]∧H a=some (.tup (ns.map V.str))∧ns.Nodup∧ns.length≤10∧∀ H',Same H H'→Q .non H'
theorem in_strs (x:Str) (ns:List Str):inV (.str x) (ns.map V.str)=decide (x ∈ ns):=by
  unfold inV
  induction ns with
  | nil=>rfl
  | cons a r ih =>
    rw [List.map_cons,List.any_cons,ih]
    have e:eqV (.str a) (.str x)=decide (x=a):=by
      show (a == x)=_
      by_cases c:x=a
      · subst c; simp
      · rw [decide_eq_false c]; simpa using fun h=>c h.symm
    rw [e]
    by_cases c1:x=a <;> by_cases c2:x ∈ r <;> simp [c1,c2]
theorem sc_look_switches:FnScope ["switches", "place", "name"] ["switches"] (defScope s_look_switches):=⟨rfl,rfl,rfl,by decide +kernel,rfl,by decide +kernel,by decide +kernel⟩
theorem names_ok {ns:List Str}:∀ t:Tr,t.ok ns→∀ x ∈ t.names,x ∈ ns
  | .is y,h,x,hx=>by rw [List.mem_singleton.mp hx]; exact h
  | .yes,_,x,hx=>by cases hx
  | .no,_,x,hx=>by cases hx
  | .not a,h,x,hx=>names_ok a h x hx
  | .bin _ a b,⟨_,h1,h2⟩,x,hx=>by
    rcases List.mem_append.mp hx with h | h
    · exact names_ok a h1 x h
    · exact names_ok b h2 x h
def spLookN:Sp:=fun vs H Q _=>∃ (a b:Addr) (ns:List Str) (tv:List V) (ts:List Tr),vs=[.ref b,.ref a]∧H a=some (.tup (ns.map V.str))∧H b=some (.tup tv)∧TreesAt H tv ts∧(∀ t ∈ ts,t.ok ns∧t.wf∧t.depth≤10∧t.size≤400)∧∀ H',Same H H'→Q .non H'
theorem sc_look_names:FnScope ["trees", "switches", "tree", "name"] ["trees", "switches"] (defScope s_look_names):=⟨rfl,rfl,rfl,by decide +kernel,rfl,by decide +kernel,by decide +kernel⟩
def spLookF:Sp:=fun vs H Q _=>∃ p:Int,vs=[.int p]∧Pr p∧2 < p∧p≤999983∧Q .non H
theorem sc_look_field:FnScope ["field"] ["field"] (defScope s_look_field):=⟨rfl,rfl,rfl,by decide +kernel,rfl,by decide +kernel,by decide +kernel⟩
def spLookZ:Sp:=fun vs H Q _=>∃ (p:Int) (d:Addr) (ns:List Int),vs=[.int p,.ref d]∧H d=some (.lst (ns.map V.int))∧ns ≠ []∧(∀ n ∈ ns,n < p)∧Q .non H
theorem sc_look_size:FnScope ["field", "degrees", "greatest"] ["field", "degrees"] (defScope s_look_size):=⟨rfl,rfl,rfl,by decide +kernel,rfl,by decide +kernel,by decide +kernel⟩
theorem putF_len (f:Str) (v:V):∀ fs:List (Str × V),(putF f v fs).length≤fs.length+1
  | []=>Nat.le_refl _
  | (g,u)::r=>by
    have:=putF_len f v r
    unfold putF
    split
    · simp
    · simp only [List.length_cons]
      omega
def gf3 (a b:Addr) (p:Int):List (Str × V):=putF "field" (.int p) (putF "trees" (.ref b) (putF "switches" (.ref a) []))
theorem gf3_sw (a b:Addr) (p:Int):(gf3 a b p).lookup ("switches" : Str)=some (.ref a):=by
  unfold gf3
  rw [lookup_putF,if_neg (by decide +kernel),lookup_putF,if_neg (by decide +kernel),lookup_putF,if_pos rfl]
theorem gf3_tr (a b:Addr) (p:Int):(gf3 a b p).lookup ("trees" : Str)=some (.ref b):=by
  unfold gf3
  rw [lookup_putF,if_neg (by decide +kernel),lookup_putF,if_pos rfl]
def GameAt (C:Addr) (H:Hp) (g a b d:Addr) (p:Int):Prop:=∃ dx,H g=some (.ins C dx (gf a b p d))
def hor (s p:Int):List Int→Int
  | []=>0
  | a::r=>(hor s p r*s+a) % p
theorem hor_rng {s p:Int} (hp:0 < p):∀ ns,0≤hor s p ns∧hor s p ns < p
  | []=>⟨Int.le_refl 0,hp⟩
  | a::r=>⟨Int.emod_nonneg _ (by omega),Int.emod_lt_of_pos _ hp⟩
def spMix (C:Addr):Sp:=fun vs H Q _=>∃ (g a b d l:Addr) (ns:List Int) (s p:Int),vs=[.ref g,.ref l,.int s]∧GameAt C H g a b d p∧0 < p∧p < 2 ^ 40∧H l=some (.lst (ns.map V.int))∧Q (.int (hor s p ns)) H
theorem sc_gmix:FnScope ["self", "numbers", "s", "total", "number"] ["self", "numbers", "s"] (defScope s_gmix):=⟨rfl,rfl,rfl,by decide +kernel,rfl,by decide +kernel,by decide +kernel⟩
theorem ok_gmix {f C:Addr} {fd:FuncData} (F:Fun K "mix" "Game.mix" s_gmix f fd) (T:GTxt K mg C) (hrev:mg "reversed" = none):FnOk P w K mg base CX0 1 f fd ["self", "numbers", "s"] (spMix C):=by
  refine F.ok sc_gmix (fun vs H Q E h=>?_) (fun cdv A outer s H vs Q E hr h=>?_)
  · obtain ⟨g,a,b,d,l,ns,s,p,rfl,_⟩:=h
    rfl
  obtain ⟨g,a,b,d,l,ns,s,p,rfl,⟨dx,hg⟩,p0,p40,hl,q⟩:=h
  refine ⟨_,(pss_cons (ps_set (i:=3) sc_gmix.nd rfl (Or.inl rfl) pe_int)
      (pss_cons (ps_for PassesOwn.never rfl (pi_revl rfl hrev (pv 1)) (pg_name (i:=4) sc_gmix.nd rfl (Or.inl rfl)) (pss_one (ps_set (i:=3) sc_gmix.nd rfl (Or.inl rfl) (pe_op op_mod (pe_op op_add (pe_op op_mul (pv 3) (pv 2)) (pv 4)) (pe_fld (pv 0) rfl)))))
      (pss_one (ps_ret (pv 3))))),?_⟩
  refine ⟨_,rfl,l,_,rfl,SqL.of hl,for_revl (K:=K) (xs:=ns.map V.int) (fun i σ H'=>∃ (x4:Option V) (t:Int),σ=[some (.ref g),some (.ref l),some (.int s),some (.int t),x4]∧t=hor s p (ns.drop (ns.length - i))∧H'=H)
    ⟨_,0,rfl,by rw [Nat.sub_zero,List.drop_length]; rfl,rfl⟩ (fun i σ H' _ hst=>by obtain ⟨_,_,_,_,h⟩:=hst; subst h; exact SqL.of hl) ?_ ?_⟩
  · rintro i z σ H1 hi hz ⟨x4,t,rfl,rfl,rfl⟩
    rw [List.length_map] at hi
    rw [← List.map_reverse,List.getElem?_map] at hz
    obtain ⟨x,hx,rfl⟩:=Option.map_eq_some_iff.mp hz
    rw [List.getElem?_reverse hi] at hx
    have hr2:=hor_rng (s:=s) p0 (ns.drop (ns.length - i))
    refine ⟨_,rfl,_,rfl,_,_,rfl,rfl,.inl ⟨by omega,by omega⟩,_,rfl,_,_,rfl,rfl,_,rfl,g,C,dx,_,_,rfl,hg,T.cl,T.nF,gf_fi ..,_,_,rfl,rfl,p0,?_⟩
    refine ⟨_,_,rfl,?_,rfl⟩
    have hj:ns.length - 1 - i < ns.length:=by omega
    have ed:ns.drop (ns.length - (i+1))=x::ns.drop (ns.length - i):=by
      have e1:ns.length - (i+1)=ns.length - 1 - i:=by omega
      have e2:ns.length - i=ns.length - 1 - i+1:=by omega
      rw [e1,e2,List.drop_eq_getElem_cons hj]
      congr 1
      rw [List.getElem?_eq_getElem hj] at hx
      exact Option.some.inj hx
    rw [ed]
    rfl
  · rintro σ H1 ⟨x4,t,rfl,rfl,rfl⟩
    rw [List.length_map,Nat.sub_self,List.drop_zero]
    exact ⟨_,rfl,q⟩
def spWAt (C:Addr):Sp:=fun vs H Q _=>∃ (g a b d r:Addr) (ns:List Str) (tv:List V) (ts:List Tr) (pt:List Int) (s p:Int),vs=[.ref g,.ref r,.int s]∧GameAt C H g a b d p∧1 < p∧p < 2 ^ 40∧H a=some (.tup (ns.map V.str))∧H b=some (.tup tv)∧TreesAt H tv ts∧ts.length≤10∧(∀ t ∈ ts,t.ok ns∧t.depth≤10) ∧
  H r=some (.tup (pt.map V.int))∧pt.length=ns.length∧PtOk pt p∧∀ H',Same H H'→Q (.int (hor s p (ts.map fun t=>t.worth ns pt p))) H'
theorem sc_gworth:FnScope ["self", "point", "s"] ["self", "point", "s"] (defScope s_gworth):=⟨rfl,rfl,rfl,by decide +kernel,rfl,by decide +kernel,by decide +kernel⟩
theorem ok_gworth {f fm C:Addr} {fd fdm:FuncData} (F:Fun K "worth_at" "Game.worth_at" s_gworth f fd) (T:GTxt K mg C) (mM:Meth K C "mix" fm) (GM:FnOk P w K mg base CX0 1 fm fdm ["self", "numbers", "s"] (spMix C)) (bM:Binds K fdm ["self", "numbers", "s"] []) (C_worth_of:Cal P w K mg base 12 "worth_of" ["tree", "switches", "point", "p"] (spWorth 10)):FnOk P w K mg base CX0 13 f fd ["self", "point", "s"] (spWAt C):=by
  refine F.ok sc_gworth (fun vs H Q E h=>?_) (fun cdv A outer s H vs Q E hr h=>?_)
  · obtain ⟨g,a,b,d,r,ns,tv,ts,pt,s,p,rfl,_⟩:=h
    rfl
  obtain ⟨g,a,b,d,r,ns,tv,ts,pt,s,p,rfl,⟨dx,hg⟩,p1,p40,ha,hb,TS,t10,tok,hr0,pl,po,q⟩:=h
  have hr1:Room 1 _:=hr.mono (by decide)
  refine ⟨_,(pss_one (ps_ret (pe_meth (pv 0) T.cl mM GM hr1 bM .nil pass0 (pa_cons (pe_comp (N:=["self", "point"]) (ix:=[0,1]) rfl
      (CompScope.two (by with_unfolding_all rfl) (by decide) rfl (by decide) rfl (by decide +kernel) (by first | exact Or.inl rfl | exact Or.inr rfl) (by with_unfolding_all rfl) (by with_unfolding_all rfl) (by with_unfolding_all rfl) (by with_unfolding_all rfl) rfl rfl (by with_unfolding_all rfl) rfl rfl) rfl
      (pi_tup (pe_fld (pv 0) rfl)) (fun _ _ _=>pb_all (pe_cal C_worth_of hr (by decide) rfl (pa_cons (pv 0) (pa_cons (pe_fldK K (pv 1)) (pa_cons (pv 2) (pa_cons (pe_fldK K (pv 1)) pa_nil))))))) (pa_cons (pv 2) pa_nil))))),?_⟩
  have vl:=TS.length
  refine ⟨_,rfl,g,dx,_,rfl,hg,gf_no _ _ _ _ (by decide +kernel) (by decide +kernel) (by decide +kernel) (by decide +kernel),?_⟩
  refine ⟨_,rfl,g,C,dx,_,_,rfl,hg,T.cl,T.nT,gf_tr ..,b,rfl,⟨_,SqT.of hb⟩,fun D hD=>?_⟩
  refine comp_tup (K:=K) (xs:=tv) (fun i H'=>H' D=some (.lst (((ts.take i).map fun t=>t.worth ns pt p).map V.int))∧Same H H') ⟨by rw [upd_same]; rfl,Same.new hD _⟩ (fun i H' _ h=>SqT.of (h.2 _ _ hb)) ?_ ?_
  · rintro i z H2 hz ⟨hl,S2⟩
    obtain ⟨t,ht,Tt⟩:=TS.get hz
    obtain ⟨tk,td⟩:=tok t (List.mem_of_getElem? ht)
    have hi:i < tv.length:=(List.getElem?_eq_some_iff.mp hz).1
    refine ⟨_,rfl,_,rfl,g,C,dx,_,_,rfl,S2 _ _ hg,T.cl,T.nS,gf_sw ..,_,rfl,_,rfl,g,C,dx,_,_,rfl,S2 _ _ hg,T.cl,T.nF,gf_fi ..,z,t,a,r,ns,pt,p,rfl,Tt.mono (keepT_same S2),tk,td,.inr (S2 _ _ ha),S2 _ _ hr0,pl,p1,p40,po,?_⟩
    refine ⟨_,hl,?_,Nx.of hi ⟨?_,fun b' o' e'=>?_⟩⟩
    · rw [List.length_map,List.length_map,List.length_take]
      exact small1000 (by omega)
    · rw [upd_same,List.take_add_one,ht,List.map_append,List.map_append]
      rfl
    · rw [upd_ne (ne_of_none e' hD)]
      exact S2 _ _ e'
  · rintro H2 ⟨hl,S2⟩
    rw [vl,List.take_length] at hl
    exact ⟨_,rfl,g,a,b,d,D,_,s,p,rfl,⟨dx,S2 _ _ hg⟩,by omega,p40,hl,q H2 S2⟩
def spCoins (C:Addr):Sp:=fun vs H Q _=>∃ (g a b d:Addr) (ns:List Str) (tv:List V) (p:Int),vs=[.ref g]∧GameAt C H g a b d p∧H a=some (.tup (ns.map V.str))∧H b=some (.tup tv)∧Q (.int (if tv.length=1 then (ns.length:Int) else (ns.length:Int)+1)) H
abbrev s_AskError:Stmt:=inClass (top 1) 0
abbrev s_NoText:Stmt:=inClass (top 2) 0
abbrev s_Twice:Stmt:=inClass (top 3) 0
abbrev s_NoName:Stmt:=inClass (top 4) 0
abbrev s_NoField:Stmt:=inClass (top 5) 0
abbrev s_SmallField:Stmt:=inClass (top 6) 0
abbrev s_NoRow:Stmt:=inClass (top 7) 0
abbrev s_NoTurn:Stmt:=inClass (top 8) 0
abbrev s_NoCount:Stmt:=inClass (top 9) 0
abbrev s_NoNumber:Stmt:=inClass (top 10) 0
abbrev s_TooMany:Stmt:=inClass (top 11) 0
def FmOk (v:V):Prop:=(∃ i:Int,v=.int i∧0≤i∧i < 1000000000000)∨(∃ y:Str,v=.str y∧y.length≤20)∨v=.non
theorem log_small {n:Int} (h0:0≤n) (h1:n < 1000000000000):n.natAbs.log2 < 1920:=by
  have h2:n.natAbs < 2 ^ 40:=by omega
  by_cases c:n.natAbs=0
  · rw [c]
    decide
  · have:=(Nat.log2_lt c).mpr h2
    omega
theorem FmOk.fm {v:V} (h:FmOk v):∃ y,FmV v y∧y.length≤60:=by
  rcases h with ⟨i,rfl,h0,h1⟩ | ⟨y,rfl,hy⟩ | rfl
  · exact ⟨_,.inl ⟨i,rfl,log_small h0 h1,rfl⟩,Nat.le_trans (PyProof.Rows.toString_length_le h0 (k:=12) (by decide) (by show i < 10 ^ 12; omega)) (by decide)⟩
  · exact ⟨y,.inr (.inl rfl),by omega⟩
  · exact ⟨_,.inr (.inr ⟨rfl,rfl⟩),by decide +kernel⟩
theorem fl1 {a:Str} (ha:a.length≤60):(Str.empty++a).length≤sizeLine:=by
  rw [Str.length_append]
  have:Str.empty.length=0:=rfl
  exact small (by omega)
theorem fl2 {a b:Str} (ha:a.length≤60) (hb:b.length≤60):((Str.empty++a)++b).length≤sizeLine:=by
  rw [Str.length_append,Str.length_append]
  have:Str.empty.length=0:=rfl
  exact small (by omega)
def spAI (K:PySem.W.Frag):Sp:=fun vs H Q _=>∃ (e C f:Addr) (x:V),vs=[.ref e,x]∧H e=some (ExcN C e)∧MkX K C f∧Q .non H
theorem sc_AskError:FnScope ["self", "words"] ["self", "words"] (defScope s_AskError):=⟨rfl,rfl,rfl,by decide +kernel,rfl,by decide +kernel,by decide +kernel⟩
theorem ok_AskError {f:Addr} {fd:FuncData} {dV:Value} (F:FunD K "__init__" "AskError.__init__" s_AskError f fd dV) (hV:mg "ValueError" = none):FnOk P w K mg base CX0 1 f fd ["self", "words"] (spAI K):=by
  refine F.ok sc_AskError (fun vs H Q E h=>?_) (fun cdv A outer s H vs Q E hr h=>?_)
  · obtain ⟨e,C,f,x,rfl,_⟩:=h
    rfl
  obtain ⟨e,C,f,x,rfl,he,M,q⟩:=h
  refine ⟨_,pss_one (ps_expr (pe_valinit rfl hV (pa_cons (pv 0) (pa_cons (pv 1) pa_nil)))),?_⟩
  exact ⟨_,rfl,_,rfl,e,C,f,x,rfl,he,M,q⟩
def spXI (C:Addr) (a:Str):Sp:=fun vs H Q _=>∃ (e:Addr) (v:V),vs=[.ref e,v]∧H e=some (ExcN C e)∧FmOk v∧∀ dx,H dx=none→dx ≠ e→Q .non (upd (upd H dx (.xd [(a,v)])) e (ExcD C e dx))
structure AskC (P:Program) (w:World) (K:PySem.W.Frag) (mg:Str→Option Value) (base:Heap) (CA fA:Addr) (fdA:FuncData):Prop where
  g:mg "AskError" = some (.ref CA)
  c:ClsFn K CA fA "__init__"
  ok:FnOk P w K mg base CX0 1 fA fdA ["self", "words"] (spAI K)
  b:Binds K fdA ["self", "words"] []
section
variable {CA fA:Addr} {fdA:FuncData}
theorem sc_Twice:FnScope ["self", "name"] ["self", "name"] (defScope s_Twice):=⟨rfl,rfl,rfl,by decide +kernel,rfl,by decide +kernel,by decide +kernel⟩
theorem ok_Twice {f C:Addr} {fd:FuncData} {dV:Value} (F:FunD K "__init__" "Twice.__init__" s_Twice f fd dV) (T:AskC P w K mg base CA fA fdA) (M:MkX K C f) (c:ClsX K C CA) (na:NoAttr K C "name"):FnOk P w K mg base CX0 2 f fd ["self", "name"] (spXI C "name"):=by
  refine F.ok sc_Twice (fun vs H Q E h=>?_) (fun cdv A outer s H vs Q E hr h=>?_)
  · obtain ⟨e,v,rfl,_⟩:=h
    rfl
  obtain ⟨e,v,rfl,he,hv,q⟩:=h
  refine ⟨_,pss_cons (ps_expr (pe_clscall rfl T.g T.c T.ok hr T.b .nil pass0 (pa_cons (pv 0) (pa_cons (pe_fstr (pj_cons pe_str (pj_cons (pe_fmtV (pv 1)) pj_nil))) pa_nil)))) (pss_one (ps_fldX (pv 0) (pv 1) rfl)),?_⟩
  obtain ⟨y,fy,hy⟩:=hv.fm
  refine ⟨_,rfl,_,rfl,fl1 (by decide +kernel),_,rfl,y,fy,Nat.le_trans hy (by decide),y,rfl,fl2 (by decide +kernel) hy,fl2 (by decide +kernel) hy,?_⟩
  refine ⟨e,C,f,_,rfl,he,M,?_⟩
  exact ⟨_,rfl,_,rfl,e,C,CA,rfl,he,c,na,q⟩
theorem sc_NoName:FnScope ["self", "name"] ["self", "name"] (defScope s_NoName):=⟨rfl,rfl,rfl,by decide +kernel,rfl,by decide +kernel,by decide +kernel⟩
theorem ok_NoName {f C:Addr} {fd:FuncData} {dV:Value} (F:FunD K "__init__" "NoName.__init__" s_NoName f fd dV) (T:AskC P w K mg base CA fA fdA) (M:MkX K C f) (c:ClsX K C CA) (na:NoAttr K C "name"):FnOk P w K mg base CX0 2 f fd ["self", "name"] (spXI C "name"):=by
  refine F.ok sc_NoName (fun vs H Q E h=>?_) (fun cdv A outer s H vs Q E hr h=>?_)
  · obtain ⟨e,v,rfl,_⟩:=h
    rfl
  obtain ⟨e,v,rfl,he,hv,q⟩:=h
  refine ⟨_,pss_cons (ps_expr (pe_clscall rfl T.g T.c T.ok hr T.b .nil pass0 (pa_cons (pv 0) (pa_cons (pe_fstr (pj_cons pe_str (pj_cons (pe_fmtV (pv 1)) pj_nil))) pa_nil)))) (pss_one (ps_fldX (pv 0) (pv 1) rfl)),?_⟩
  obtain ⟨y,fy,hy⟩:=hv.fm
  refine ⟨_,rfl,_,rfl,fl1 (by decide +kernel),_,rfl,y,fy,Nat.le_trans hy (by decide),y,rfl,fl2 (by decide +kernel) hy,fl2 (by decide +kernel) hy,?_⟩
  refine ⟨e,C,f,_,rfl,he,M,?_⟩
  exact ⟨_,rfl,_,rfl,e,C,CA,rfl,he,c,na,q⟩
theorem sc_NoField:FnScope ["self", "number"] ["self", "number"] (defScope s_NoField):=⟨rfl,rfl,rfl,by decide +kernel,rfl,by decide +kernel,by decide +kernel⟩
theorem ok_NoField {f C:Addr} {fd:FuncData} {dV:Value} (F:FunD K "__init__" "NoField.__init__" s_NoField f fd dV) (T:AskC P w K mg base CA fA fdA) (M:MkX K C f) (c:ClsX K C CA) (na:NoAttr K C "number"):FnOk P w K mg base CX0 2 f fd ["self", "number"] (spXI C "number"):=by
  refine F.ok sc_NoField (fun vs H Q E h=>?_) (fun cdv A outer s H vs Q E hr h=>?_)
  · obtain ⟨e,v,rfl,_⟩:=h
    rfl
  obtain ⟨e,v,rfl,he,hv,q⟩:=h
  refine ⟨_,pss_cons (ps_expr (pe_clscall rfl T.g T.c T.ok hr T.b .nil pass0 (pa_cons (pv 0) (pa_cons (pe_fstr (pj_cons pe_str (pj_cons (pe_fmtV (pv 1)) pj_nil))) pa_nil)))) (pss_one (ps_fldX (pv 0) (pv 1) rfl)),?_⟩
  obtain ⟨y,fy,hy⟩:=hv.fm
  refine ⟨_,rfl,_,rfl,fl1 (by decide +kernel),_,rfl,y,fy,Nat.le_trans hy (by decide),y,rfl,fl2 (by decide +kernel) hy,fl2 (by decide +kernel) hy,?_⟩
  refine ⟨e,C,f,_,rfl,he,M,?_⟩
  exact ⟨_,rfl,_,rfl,e,C,CA,rfl,he,c,na,q⟩
theorem sc_SmallField:FnScope ["self", "degree"] ["self", "degree"] (defScope s_SmallField):=⟨rfl,rfl,rfl,by decide +kernel,rfl,by decide +kernel,by decide +kernel⟩
theorem ok_SmallField {f C:Addr} {fd:FuncData} {dV:Value} (F:FunD K "__init__" "SmallField.__init__" s_SmallField f fd dV) (T:AskC P w K mg base CA fA fdA) (M:MkX K C f) (c:ClsX K C CA) (na:NoAttr K C "degree"):FnOk P w K mg base CX0 2 f fd ["self", "degree"] (spXI C "degree"):=by
  refine F.ok sc_SmallField (fun vs H Q E h=>?_) (fun cdv A outer s H vs Q E hr h=>?_)
  · obtain ⟨e,v,rfl,_⟩:=h
    rfl
  obtain ⟨e,v,rfl,he,hv,q⟩:=h
  refine ⟨_,pss_cons (ps_expr (pe_clscall rfl T.g T.c T.ok hr T.b .nil pass0 (pa_cons (pv 0) (pa_cons (pe_fstr (pj_cons pe_str (pj_cons (pe_fmtV (pv 1)) pj_nil))) pa_nil)))) (pss_one (ps_fldX (pv 0) (pv 1) rfl)),?_⟩
  obtain ⟨y,fy,hy⟩:=hv.fm
  refine ⟨_,rfl,_,rfl,fl1 (by decide +kernel),_,rfl,y,fy,Nat.le_trans hy (by decide),y,rfl,fl2 (by decide +kernel) hy,fl2 (by decide +kernel) hy,?_⟩
  refine ⟨e,C,f,_,rfl,he,M,?_⟩
  exact ⟨_,rfl,_,rfl,e,C,CA,rfl,he,c,na,q⟩
end
structure Mkr (P:Program) (w:World) (K:PySem.W.Frag) (mg:Str→Option Value) (base:Heap) (C:Addr) (a:Str) (f:Addr) (fd:FuncData):Prop where
  made:MkX K C f
  ok:FnOk P w K mg base CX0 2 f fd ["self", a] (spXI C a)
  b:Binds K fd ["self", a] []
  na:NoAttr K C a
theorem ex_made {H:Hp} {e dx C:Addr} {a:Str} {v:V} (h0:H e=none) (h1:upd H e (ExcN C e) dx=none) (h2:dx ≠ e):Same H (upd (upd (upd H e (ExcN C e)) dx (.xd [(a,v)])) e (ExcD C e dx))∧Ex (upd (upd (upd H e (ExcN C e)) dx (.xd [(a,v)])) e (ExcD C e dx)) e C a v:=by
  rw [upd_ne h2] at h1
  refine ⟨fun b o hb=>?_,dx,upd_same,?_⟩
  · rw [upd_ne (ne_of_none hb h0),upd_ne (ne_of_none hb h1),upd_ne (ne_of_none hb h0)]
    exact hb
  · rw [upd_ne h2,upd_same]
theorem mk_sp {H:Hp} {C e:Addr} {a:Str} {v:V} {Q:VK} {E:XK} (hv:FmOk v) (he:H e=none) (h:∀ H2,Same H H2→Ex H2 e C a v→Q .non H2):spXI C a [.ref e,v] (upd H e (ExcN C e)) Q E:=by
  refine ⟨e,v,rfl,upd_same,hv,fun dx h1 h2=>?_⟩
  obtain ⟨s,x⟩:=ex_made (a:=a) (v:=v) he h1 h2
  exact h _ s x
theorem lk1 (f:Str) (v:V):([(f,v)]:List (Str × V)).lookup f=some v:=by simp [List.lookup]
def Raises (C:Addr) (a:Str) (v:V) (H:Hp) (E:XK):Prop:=∀ (e dx:Addr) (H':Hp),Same H H'→H' e=some (ExcT C e dx)→H' dx=some (.xd [(a,v)])→E (.ref e) (some dx) H'
theorem raise_it {C CA:Addr} {K:PySem.W.Frag} {a:Str} {v:V} {H H1:Hp} {E:XK} {e:Addr} {G:Hp} (c:ClsX K C CA) (r:Raises C a v H E) (S:Same H H1) (ze:H1 e=none) (s4:Same H1 G) (x4:Ex G e C a v) :
    ∃ e' C' CA dx,V.ref e=.ref e'∧G e'=some (ExcD C' e' dx)∧ClsX K C' CA∧E (.ref e') (some dx) (upd G e' (ExcT C' e' dx)):=by
  obtain ⟨dx,e1,e2⟩:=x4
  have hde:dx ≠ e:=fun z=>by
    rw [z,e1] at e2
    cases e2
  refine ⟨e,C,CA,dx,rfl,e1,c,r e dx _ (fun b o hb=>?_) upd_same (by rw [upd_ne hde]; exact e2)⟩
  have hb3:=S b o hb
  rw [upd_ne (ne_of_none hb3 ze)]
  exact s4 _ _ hb3
def dupF:List Str→List Str→Option Str
  | _,[]=>none
  | seen,x::r=>if x ∈ seen then some x else dupF (seen++[x]) r
def dupOf (ns:List Str):Option Str:=dupF [] ns
def strayL (ns l:List Str):Option Str:=l.find? fun x=>decide (x ∉ ns)
def strayOf (ns:List Str) (ts:List Tr):Option Str:=strayL ns (ts.flatMap Tr.names)
variable {CA CT CM CF CS f1 f2 f3 f4:Addr} {d1 d2 d3 d4:FuncData}
def spLookSX (CT:Addr):Sp:=fun vs H Q E=>∃ (a:Addr) (ns:List Str),vs=[.ref a]∧H a=some (.tup (ns.map V.str))∧ns.length≤20∧(∀ x ∈ ns,x.length≤20)∧(dupOf ns=none→∀ H',Same H H'→Q .non H')∧(∀ x,dupOf ns=some x→Raises CT "name" (.str x) H E)
theorem ok_look_switchesX {f:Addr} {fd:FuncData} (F:Fun K "look_switches" "look_switches" s_look_switches f fd) (henum:mg "enumerate" = none) (g0:mg "Twice" = some (.ref CT)) (cl:ClsX K CT CA) (M0:Mkr P w K mg base CT "name" f1 d1):FnOk P w K mg base (CXr P w) 4 f fd ["switches"] (spLookSX CT):=by
  refine F.okX sc_look_switches (fun vs H Q E h=>?_) (fun cdv A outer s H vs Q E hr h=>?_)
  · obtain ⟨a,ns,rfl,_⟩:=h
    rfl
  obtain ⟨a,ns,rfl,ha,nl,nx,q,qr⟩:=h
  refine ⟨_,(pss_one (ps_for ownX rfl (pi_enumT rfl henum (pv 0)) (pg_tup rfl (pgs_cons (pg_name (i:=1) sc_look_switches.nd rfl (Or.inl rfl)) (pgs_cons (pg_name (i:=2) sc_look_switches.nd rfl (Or.inl rfl)) pgs_nil)))
      (pss_one (ps_if (pt_cmpR op_in_seq (pv 2) (pe_slice sl_tup (pv 0) po_none (po_some (pv 1))) (by with_unfolding_all rfl)) (pss_one (ps_raise (pe_makeX M0.made M0.ok hr rfl g0 M0.b .nil pass0 (pa_cons (pv 2) pa_nil)))) pss_nil)))),?_⟩
  refine ⟨_,rfl,a,rfl,⟨_,SqT.of ha⟩,for_enumT (K:=K) (xs:=ns.map V.str) (fun i σ H'=>∃ x1 x2:Option V,σ=[some (.ref a),x1,x2]∧Same H H'∧dupF (ns.take i) (ns.drop i)=dupOf ns) ⟨_,_,rfl,Same.refl _,rfl⟩ (fun i σ H' _ hst=>by obtain ⟨_,_,_,h,_⟩:=hst; exact SqT.of (h _ _ ha)) ?_ ?_⟩
  · rintro i z σ H1 t hz ⟨x1,x2,rfl,S1,du⟩ ht
    have hi:i < (ns.map V.str).length:=(List.getElem?_eq_some_iff.mp hz).1
    rw [List.getElem?_map] at hz
    obtain ⟨x,hx,rfl⟩:=Option.map_eq_some_iff.mp hz
    have G:=Same.new ht (.tup [.int (i:Int),.str x])
    have S2:=S1.trans G
    have hi':i < ns.length:=by rw [List.length_map] at hi; exact hi
    have ex:ns[i]=x:=by
      rw [List.getElem?_eq_getElem hi'] at hx
      exact Option.some.inj hx
    rw [List.drop_eq_getElem_cons hi',ex] at du
    refine ⟨t,_,rfl,SqT.of upd_same,rfl,_,_,rfl,_,_,rfl,rfl,?_⟩
    refine ⟨_,rfl,_,rfl,_,rfl,(i:Int),rfl,a,_,rfl,SqT.of (S2 _ _ ha),?_,fun c hc=>?_⟩
    · rintro ⟨_,h⟩
      rw [HT.sIx_nat] at h
      omega
    · have ec:cutV (ns.map V.str) none (some (i:Int))=(ns.take i).map V.str:=by
        unfold cutV
        rw [HT.sIx_none,HT.sIx_nat,List.drop_zero,Nat.sub_zero,List.map_take]
        congr 1
        omega
      have S3:=S2.trans (Same.new hc (.tup (cutV (ns.map V.str) none (some (i:Int)))))
      refine ⟨c,_,rfl,.inr (SqT.of upd_same),rfl,?_,_,rfl,?_⟩
      · rw [ec]
        exact flat_strs _
      · show if inV (.str x) (cutV (ns.map V.str) none (some (i:Int)))=true then _ else _
        have iv:inV (.str x) (cutV (ns.map V.str) none (some (i:Int)))=decide (x ∈ ns.take i):=by rw [ec,in_strs]
        rw [iv]
        by_cases cx:x ∈ ns.take i
        · rw [decide_eq_true cx]
          refine iteT ?_
          have dx:dupOf ns=some x:=by
            rw [← du]
            show (if x ∈ ns.take i then some x else _)=_
            rw [if_pos cx]
          refine ⟨_,rfl,(by show 1≤sizeLine; decide),fun e ze=>mk_sp (.inr (.inl ⟨x,rfl,nx x (List.mem_of_getElem? hx)⟩)) ze fun G4 s4 x4=>⟨rfl,raise_it cl (qr x dx) S3 ze s4 x4⟩⟩
        · rw [decide_eq_false cx]
          refine iteF ?_
          refine ⟨_,_,rfl,S3,?_⟩
          rw [← du]
          show _=if x ∈ ns.take i then some x else _
          rw [if_neg cx,List.take_add_one,hx]
          rfl
  · rintro σ H1 ⟨x1,x2,rfl,S1,du⟩
    refine q ?_ H1 S1
    rw [← du,List.length_map,List.drop_length]
    rfl
def spLookNX (CM:Addr):Sp:=fun vs H Q E=>∃ (a b:Addr) (ns:List Str) (tv:List V) (ts:List Tr),vs=[.ref b,.ref a]∧H a=some (.tup (ns.map V.str))∧H b=some (.tup tv)∧TreesAt H tv ts∧(∀ t ∈ ts,t.wf∧t.depth≤10∧t.size≤400)∧(strayOf ns ts=none→∀ H',Same H H'→Q .non H')∧(∀ x,strayOf ns ts=some x→Raises CM "name" (.str x) H E)
theorem ok_look_namesX {f:Addr} {fd:FuncData} (F:Fun K "look_names" "look_names" s_look_names f fd) (g0:mg "NoName" = some (.ref CM)) (cl:ClsX K CM CA) (M0:Mkr P w K mg base CM "name" f2 d2) (C_names_in:Cal P w K mg base 12 "names_in" ["tree"] (spNamesIn 10)):FnOk P w K mg base (CXr P w) 13 f fd ["trees", "switches"] (spLookNX CM):=by
  refine F.okX sc_look_names (fun vs H Q E h=>?_) (fun cdv A outer s H vs Q E hr h=>?_)
  · obtain ⟨a,b,ns,tv,ts,rfl,_⟩:=h
    rfl
  obtain ⟨a,b,ns,tv,ts,rfl,ha,hb,TS,tok,q,qr⟩:=h
  have hr4:Room 3 _:=hr.mono (by decide)
  refine ⟨_,(pss_one (ps_for ownX rfl (pi_tup (pv 0)) (pg_name (i:=2) sc_look_names.nd rfl (Or.inl rfl))
      (pss_one (ps_for ownX rfl (pi_list (pe_cal C_names_in hr (by decide) rfl (pa_cons (pv 2) pa_nil))) (pg_name (i:=3) sc_look_names.nd rfl (Or.inl rfl))
        (pss_one (ps_if (pt_cmpR op_notIn_seq (pv 3) (pv 1) (by with_unfolding_all rfl)) (pss_one (ps_raise (pe_makeX M0.made M0.ok hr4 rfl g0 M0.b .nil pass0 (pa_cons (pv 3) pa_nil)))) pss_nil)))))),?_⟩
  refine ⟨_,rfl,b,rfl,⟨_,SqT.of hb⟩,for_tup (K:=K) (xs:=tv) (fun i σ H'=>∃ x2 x3:Option V,σ=[some (.ref b),some (.ref a),x2,x3]∧Same H H'∧strayOf ns (ts.drop i)=strayOf ns ts) ⟨_,_,rfl,Same.refl _,rfl⟩ (fun i σ H' _ hst=>by obtain ⟨_,_,_,h,_⟩:=hst; exact SqT.of (h _ _ hb)) ?_ ?_⟩
  · rintro i z σ H1 hz ⟨x2,x3,rfl,S1,st⟩
    obtain ⟨t,ht,T⟩:=TS.get hz
    obtain ⟨tw,td,tz⟩:=tok t (List.mem_of_getElem? ht)
    have hi:=(List.getElem?_eq_some_iff.mp ht).1
    have et:ts[i]=t:=by
      rw [List.getElem?_eq_getElem hi] at ht
      exact Option.some.inj ht
    rw [List.drop_eq_getElem_cons hi,et] at st
    have st':strayL ns (t.names++(ts.drop (i+1)).flatMap Tr.names)=strayOf ns ts:=st
    refine ⟨_,rfl,z,t,rfl,T.mono (keepT_same S1),tw,by omega,tz,fun l H2 l0 S2 hl=>?_⟩
    have S12:=S1.trans S2
    refine ⟨l,rfl,⟨_,SqL.of hl⟩,for_list (K:=K) (xs:=t.names.map V.str) (fun j σ H'=>∃ x3:Option V,σ=[some (.ref b),some (.ref a),some z,x3]∧H'=H2∧strayL ns (t.names.drop j++(ts.drop (i+1)).flatMap Tr.names)=strayOf ns ts) ⟨_,rfl,rfl,st'⟩ (fun j σ H' _ hst=>by obtain ⟨_,_,h,_⟩:=hst; subst h; exact SqL.of hl) ?_ ?_⟩
    · rintro j y σ H3 hy ⟨y3,rfl,rfl,sj⟩
      rw [List.getElem?_map] at hy
      obtain ⟨x,hx,rfl⟩:=Option.map_eq_some_iff.mp hy
      have hj:=(List.getElem?_eq_some_iff.mp hx).1
      have exj:t.names[j]=x:=by
        rw [List.getElem?_eq_getElem hj] at hx
        exact Option.some.inj hx
      rw [List.drop_eq_getElem_cons hj,exj] at sj
      refine ⟨_,rfl,_,rfl,a,_,rfl,.inr (SqT.of (S12 _ _ ha)),rfl,flat_strs _,_,rfl,?_⟩
      show if (!inV (.str x) (ns.map V.str))=true then _ else _
      rw [in_strs]
      by_cases cx:x ∈ ns
      · rw [decide_eq_true cx]
        refine iteF ?_
        refine ⟨_,rfl,rfl,?_⟩
        rw [← sj]
        unfold strayL
        rw [List.cons_append,List.find?_cons_of_neg (by simp [cx])]
      · rw [decide_eq_false cx]
        refine iteT ?_
        have sx:strayOf ns ts=some x:=by
          rw [← sj]
          unfold strayL
          rw [List.cons_append,List.find?_cons_of_pos (by simp [cx])]
        have xn:=(Tr.names_ok t tw x (List.mem_of_getElem? hx)).1
        exact ⟨_,rfl,(by show 1≤sizeLine; decide),fun e ze=>mk_sp (.inr (.inl ⟨x,rfl,xn⟩)) ze fun G4 s4 x4=>⟨rfl,raise_it cl (qr x sx) S12 ze s4 x4⟩⟩
    · rintro σ H3 ⟨y3,rfl,rfl,sj⟩
      rw [List.length_map,List.drop_length,List.nil_append] at sj
      exact ⟨_,_,rfl,S12,sj⟩
  · rintro σ H1 ⟨x2,x3,rfl,S1,st⟩
    refine q ?_ H1 S1
    rw [← st,TS.length,List.drop_length]
    rfl
def FieldOk (p:Int):Prop:=2 < p∧Pr p∧p < 1000000
def spLookFX (CF:Addr):Sp:=fun vs H Q E=>∃ p:Int,vs=[.int p]∧0≤p∧p < 1000000000000∧(FieldOk p→Q .non H)∧(¬ FieldOk p→Raises CF "number" (.int p) H E)
theorem ok_look_fieldX {f:Addr} {fd:FuncData} (F:Fun K "look_field" "look_field" s_look_field f fd) (hend:∃ t,mg "FIELDS_END" = some (.int 1000000 t)) (g0:mg "NoField" = some (.ref CF)) (cl:ClsX K CF CA) (M0:Mkr P w K mg base CF "number" f3 d3) (C_is_field:Cal P w K mg base 1 "is_field" ["number"] spField):FnOk P w K mg base (CXr P w) 4 f fd ["field"] (spLookFX CF):=by
  refine F.okX sc_look_field (fun vs H Q E h=>?_) (fun cdv A outer s H vs Q E hr h=>?_)
  · obtain ⟨p,rfl,_⟩:=h
    rfl
  obtain ⟨p,rfl,p0,p12,q,qr⟩:=h
  obtain ⟨te,ge⟩:=hend
  refine ⟨_,(pss_one (ps_if (PW.pt (pw_or (pt_cmpR op_ge (pv 0) (pe_glob (v:=.int 1000000) rfl ge ⟨_,rfl⟩) (nomark _)) (pw_or1 (pt_not (pt_val (pe_cal C_is_field hr (by decide) rfl (pa_cons (pv 0) pa_nil))))))) (pss_one (ps_raise (pe_makeX M0.made M0.ok hr rfl g0 M0.b .nil pass0 (pa_cons (pv 0) pa_nil)))) pss_nil)),?_⟩
  have rz:¬ FieldOk p→∀ e,H e=none→∀ G4,Same H G4→Ex G4 e CF "number" (.int p)→∃ e' C' CA dx,V.ref e=.ref e'∧G4 e'=some (ExcD C' e' dx)∧ClsX K C' CA∧E (.ref e') (some dx) (upd G4 e' (ExcT C' e' dx)):=fun hn e ze G4 s4 x4=>raise_it cl (qr hn) (Same.refl _) ze s4 x4
  refine ⟨_,rfl,_,_,rfl,rfl,_,rfl,?_⟩
  by_cases c:(1000000:Int)≤p
  · refine iteD c (iteT ?_)
    exact ⟨_,rfl,(by show 1≤sizeLine; decide),fun e ze=>mk_sp (.inl ⟨p,rfl,p0,p12⟩) ze fun G4 s4 x4=>⟨rfl,rz (fun z=>by have:=z.2.2; omega) e ze G4 s4 x4⟩⟩
  refine iteDF c ?_
  refine ⟨_,rfl,p,rfl,by omega,fun b hb=>⟨b,rfl,?_⟩⟩
  cases b with
  | true =>
    have:=hb.mp rfl
    exact iteF (q ⟨this.1,this.2,by omega⟩)
  | false =>
    refine iteT ?_
    exact ⟨_,rfl,(by show 1≤sizeLine; decide),fun e ze=>mk_sp (.inl ⟨p,rfl,p0,p12⟩) ze fun G4 s4 x4=>⟨rfl,rz (fun z=>by have:=hb.mpr ⟨z.1,z.2.1⟩; cases this) e ze G4 s4 x4⟩⟩
def spLookZX (CS:Addr):Sp:=fun vs H Q E=>∃ (p:Int) (d:Addr) (ns:List Int),vs=[.int p,.ref d]∧H d=some (.lst (ns.map V.int))∧ns ≠ []∧(∀ n ∈ ns,0≤n∧n < 1000000)∧(maxD ns 0 < p→Q .non H)∧(p≤maxD ns 0→Raises CS "degree" (.int (maxD ns 0)) H E)
theorem ok_look_sizeX {f:Addr} {fd:FuncData} (F:Fun K "look_size" "look_size" s_look_size f fd) (hmax:mg "max" = none) (g0:mg "SmallField" = some (.ref CS)) (cl:ClsX K CS CA) (M0:Mkr P w K mg base CS "degree" f4 d4):FnOk P w K mg base (CXr P w) 4 f fd ["field", "degrees"] (spLookZX CS):=by
  refine F.okX sc_look_size (fun vs H Q E h=>?_) (fun cdv A outer s H vs Q E hr h=>?_)
  · obtain ⟨p,d,ns,rfl,_⟩:=h
    rfl
  obtain ⟨p,d,ns,rfl,hd,n0,nl,q,qr⟩:=h
  refine ⟨_,(pss_cons (ps_set (i:=2) sc_look_size.nd rfl (Or.inl rfl) (pe_callB (call_max1 rfl) rfl hmax PyProof.Rows.boot_max (pa_cons (pv 1) pa_nil)))
      (pss_one (ps_if (pt_cmpR op_le (pv 0) (pv 2) (nomark _)) (pss_one (ps_raise (pe_makeX M0.made M0.ok hr rfl g0 M0.b .nil pass0 (pa_cons (pv 2) pa_nil)))) pss_nil))),?_⟩
  refine ⟨_,rfl,d,ns,rfl,SqL.of hd,n0,?_⟩
  refine ⟨_,rfl,_,rfl,_,_,rfl,rfl,_,rfl,?_⟩
  have mm:=nl _ (maxD_mem n0)
  by_cases c:p≤maxD ns 0
  · refine iteD c ?_
    exact ⟨_,rfl,(by show 1≤sizeLine; decide),fun e ze=>mk_sp (.inl ⟨_,rfl,mm.1,by omega⟩) ze fun G4 s4 x4=>⟨rfl,raise_it cl (qr c) (Same.refl _) ze s4 x4⟩⟩
  · exact iteDF c (q (by omega))
theorem names_len:∀ t:Tr,t.names.length≤t.size
  | .is _=>Nat.le_refl _
  | .yes=>Nat.zero_le _
  | .no=>Nat.zero_le _
  | .not a=>Nat.le_trans (names_len a) (Nat.le_succ _)
  | .bin _ a b=>by
    have h1:=names_len a
    have h2:=names_len b
    show (a.names++b.names).length≤a.size+b.size+1
    rw [List.length_append]
    omega
theorem pss_cut {X:Cx} {ss:List Stmt} {t t':TS} (h:PSs X ss t) (hw:∀ D σ H,t' D σ H→t D σ H):PSs X ss t':=fun pins s σ H D I k=>h pins s σ H D I (hw _ _ _ k)
def GoodG (ns:List Str) (ts:List Tr) (p:Int):Prop:=dupOf ns=none∧strayOf ns ts=none∧FieldOk p∧maxD (ns.map (degOf ts)++[(ts.length:Int) - 1]) 0 < p
def spGInitX (C CT CM CF CS:Addr):Sp:=fun vs H Q E=>∃ (g dx a b:Addr) (ns:List Str) (tv:List V) (ts:List Tr) (p:Int),vs=[.ref g,.ref a,.ref b,.int p]∧H g=some (.ins C dx [])∧SeqS H a (ns.map V.str)∧ns.length≤20∧(∀ x ∈ ns,x.length≤20)∧SeqS H b tv∧TreesAt H tv ts∧1≤ts.length∧ts.length≤10 ∧
  (∀ t ∈ ts,t.wf∧t.depth≤10∧t.size≤400)∧0≤p∧p < 1000000000000 ∧
  (GoodG ns ts p→∀ (a' b' d:Addr) (H':Hp),H d=none→GameAt C H' g a' b' d p→H' a'=some (.tup (ns.map V.str))→H' b'=some (.tup tv)→H' d=some (.lst ((ns.map (degOf ts)).map V.int))→(H a=some (.tup (ns.map V.str))→a'=a)→(H b=some (.tup tv)→b'=b)→SameBut g H H'→Q .non H') ∧
  (∀ H1,SameBut g H H1→(∀ x,dupOf ns=some x→Raises CT "name" (.str x) H1 E)∧(dupOf ns=none→(∀ x,strayOf ns ts=some x→Raises CM "name" (.str x) H1 E)∧(strayOf ns ts=none→(¬ FieldOk p→Raises CF "number" (.int p) H1 E)∧(FieldOk p→p≤maxD (ns.map (degOf ts)++[(ts.length:Int) - 1]) 0→Raises CS "degree" (.int (maxD (ns.map (degOf ts)++[(ts.length:Int) - 1]) 0)) H1 E))))
theorem sc_ginit:FnScope ["self", "switches", "trees", "field"] ["self", "switches", "trees", "field"] (defScope s_ginit):=⟨rfl,rfl,rfl,by decide +kernel,rfl,by decide +kernel,by decide +kernel⟩
theorem ok_ginitX {f C:Addr} {fd:FuncData} (F:Fun K "__init__" "Game.__init__" s_ginit f fd) (T:GTxt K mg C) (htuple:mg "tuple" = none) (hlen:mg "len" = none) (C_degree_of:Cal P w K mg base 13 "degree_of" ["name", "trees"] spDeg) (C_look_switches:CalR P w K mg base 4 "look_switches" ["switches"] (spLookSX CT))
    (C_look_names:CalR P w K mg base 13 "look_names" ["trees", "switches"] (spLookNX CM)) (C_look_field:CalR P w K mg base 4 "look_field" ["field"] (spLookFX CF)) (C_look_size:CalR P w K mg base 4 "look_size" ["field", "degrees"] (spLookZX CS)):FnOk P w K mg base (CXr P w) 14 f fd ["self", "switches", "trees", "field"] (spGInitX C CT CM CF CS):=by
  refine F.okX sc_ginit (fun vs H Q E h=>?_) (fun cdv A outer s H vs Q E hr h=>?_)
  · obtain ⟨g,dx,a,b,ns,tv,ts,p,rfl,_⟩:=h
    rfl
  obtain ⟨g,dx,a,b,ns,tv,ts,p,rfl,hg,ha,nl,nx,hb,TS,t1,t10,tok,p0,p12,q,qr⟩:=h
  refine ⟨_,(pss_cons (ps_fld (pv 0) (pe_callTy call_tuple_of rfl htuple boot_tuple' (pa_cons (pv 1) pa_nil)) rfl)
      (pss_cut (t':=fun D σ H1=>∃ a':Addr,σ=[some (.ref g),some (.ref a),some (.ref b),some (.int p)]∧H1 g=some (.ins C dx (putF "switches" (.ref a') []))∧H1 a'=some (.tup (ns.map V.str))∧SeqS H1 b tv∧TreesAt H1 tv ts∧SameBut g H H1∧(H a=some (.tup (ns.map V.str))→a'=a)∧∀ σ' H',Q .non H'→D.nx σ' H')
      (pss_cons (ps_fld (pv 0) (pe_callTy call_tuple_of rfl htuple boot_tuple' (pa_cons (pv 2) pa_nil)) rfl)
      (pss_cons (ps_fld (pv 0) (pv 3) rfl)
      (pss_cut (t':=fun D σ H3=>∃ a' b':Addr,σ=[some (.ref g),some (.ref a),some (.ref b),some (.int p)]∧H3 g=some (.ins C dx (gf3 a' b' p))∧H3 a'=some (.tup (ns.map V.str))∧H3 b'=some (.tup tv)∧TreesAt H3 tv ts∧SameBut g H H3∧(H a=some (.tup (ns.map V.str))→a'=a)∧(H b=some (.tup tv)→b'=b)∧∀ σ' H',Q .non H'→D.nx σ' H')
      (pss_cons (ps_fld (pv 0) (pe_comp (N:=["self"]) (ix:=[0]) rfl
          (CompScope.one (by with_unfolding_all rfl) (by decide) rfl (by decide) rfl (by decide +kernel) (by with_unfolding_all rfl) (by with_unfolding_all rfl) (by with_unfolding_all rfl) rfl rfl) rfl
          (pi_tup (pe_fld (pv 0) rfl)) (fun _ _ _=>pb_all (pe_cal C_degree_of hr (by decide) rfl (pa_cons (pv 0) (pa_cons (pe_fldK K (pv 1)) pa_nil))))) rfl)
      (pss_cons (ps_expr (pe_calR C_look_switches hr (by decide) rfl passX (pa_cons (pe_fld (pv 0) rfl) pa_nil)))
      (pss_cons (ps_expr (pe_calR C_look_names hr (by decide) rfl passX (pa_cons (pe_fld (pv 0) rfl) (pa_cons (pe_fld (pv 0) rfl) pa_nil))))
      (pss_cons (ps_expr (pe_calR C_look_field hr (by decide) rfl passX (pa_cons (pv 3) pa_nil)))
      (pss_one (ps_expr (pe_calR C_look_size hr (by decide) rfl passX (pa_cons (pv 3) (pa_cons (pe_op op_cat (pe_fld (pv 0) rfl) (pe_lst (pa_cons (pe_op op_sub (pe_callB call_len_seq rfl hlen PySem.boot_len (pa_cons (pe_fld (pv 0) rfl) pa_nil)) pe_int) pa_nil))) pa_nil)))))))))  ?cut))) ?cut1)),?_⟩
  case cut =>
    rintro Dn σ H3 ⟨a',b',rfl,hg3,ha3,hb3,TS3,S3,aa,bb,qd⟩
    have vl:=TS.length
    refine ⟨_,rfl,g,C,dx,_,_,rfl,hg3,T.cl,T.nS,gf3_sw ..,a',rfl,⟨_,SqT.of ha3⟩,fun D hD=>?_⟩
    have D0:H D=none:=by
      cases e:H D with
      | none=>rfl
      | some o =>
        by_cases c:D=g
        · rw [c,hg3] at hD; cases hD
        · rw [S3 D o c e] at hD; cases hD
    have ts0:ts ≠ []:=fun e=>by
      rw [e] at t1
      exact absurd t1 (by decide)
    refine comp_tup (K:=K) (xs:=ns.map V.str) (fun i H'=>H' D=some (.lst (((ns.take i).map (degOf ts)).map V.int))∧Same H3 H') ⟨by rw [upd_same]; rfl,Same.new hD _⟩ (fun i H' _ h=>SqT.of (h.2 _ _ ha3)) ?_ ?_
    · rintro i z H4 hz ⟨hl,S4⟩
      have hi:i < (ns.map V.str).length:=(List.getElem?_eq_some_iff.mp hz).1
      rw [List.getElem?_map] at hz
      obtain ⟨x,hx,rfl⟩:=Option.map_eq_some_iff.mp hz
      refine ⟨_,rfl,_,rfl,g,C,dx,_,_,rfl,S4 _ _ hg3,T.cl,T.nT,gf3_tr ..,x,b',tv,ts,rfl,S4 _ _ hb3,TS3.mono (keepT_same S4),ts0,t10,tok,fun H5 S5=>?_⟩
      refine ⟨_,S5 _ _ hl,?_,Nx.of hi ⟨?_,fun b'' o' e'=>?_⟩⟩
      · rw [List.length_map,List.length_map,List.length_take]
        exact small1000 (by omega)
      · rw [upd_same,List.take_add_one,hx,List.map_append,List.map_append]
        rfl
      · rw [upd_ne (ne_of_none e' hD)]
        exact S5 _ _ (S4 _ _ e')
    rintro H4 ⟨hl,S4⟩
    rw [List.length_map,List.take_length] at hl
    refine ⟨_,rfl,g,C,dx,_,rfl,S4 _ _ hg3,T.cl,T.nD,?_,?_⟩
    · exact Nat.lt_of_le_of_lt (Nat.le_trans (putF_len _ _ _) (Nat.succ_le_succ (Nat.le_trans (putF_len _ _ _) (Nat.succ_le_succ (putF_len _ _ _))))) (by show 3 < 1000; decide)
    have nDg:D ≠ g:=fun z=>by rw [z,hg3] at hD; cases hD
    have hg5:upd H4 g (.ins C dx (gf a' b' p D)) g=some (.ins C dx (gf a' b' p D)):=upd_same
    have S35:SameBut g H3 (upd H4 g (.ins C dx (gf a' b' p D))):=(SameBut.of S4).trans (SameBut.upd _)
    have S5:=S3.trans S35
    have hD5:upd H4 g (.ins C dx (gf a' b' p D)) D=some (.lst ((ns.map (degOf ts)).map V.int)):=by rw [upd_ne nDg]; exact hl
    show _
    generalize he5:upd H4 g (.ins C dx (gf a' b' p D))=H5 at hg5 S5 hD5 S35
    have kT5:KeepT H3 H5:=fun c xs h=>S35 c _ (ne_of h hg3 (by intro z; cases z)) h
    rw [show upd H4 g (.ins C dx (putF "degrees" (.ref D) (gf3 a' b' p)))=H5 from he5]
    refine ⟨_,rfl,g,C,dx,_,_,rfl,hg5,T.cl,T.nS,gf_sw ..,a',ns,rfl,kT5 _ _ ha3,nl,nx,fun d0 H6 S6=>?_,fun x dx'=>(qr H5 S5).1 x dx'⟩
    have kT6:KeepT H3 H6:=fun c xs h=>S6 _ _ (kT5 c xs h)
    have S06:=S5.trans (SameBut.of S6)
    refine ⟨_,rfl,g,C,dx,_,_,rfl,S6 _ _ hg5,T.cl,T.nT,gf_tr ..,_,rfl,g,C,dx,_,_,rfl,S6 _ _ hg5,T.cl,T.nS,gf_sw ..,a',b',ns,tv,ts,rfl,kT6 _ _ ha3,kT6 _ _ hb3,TS3.mono kT6,tok,fun s0 H7 S7=>?_,fun x sx=>((qr H6 S06).2 d0).1 x sx⟩
    have S57:=S6.trans S7
    have S07:=S5.trans (SameBut.of S57)
    refine ⟨_,rfl,p,rfl,p0,p12,fun fo=>?_,fun fo=>(((qr H7 S07).2 d0).2 s0).1 fo⟩
    refine ⟨_,rfl,_,rfl,g,C,dx,_,_,rfl,S57 _ _ hg5,T.cl,T.nD,gf_de ..,_,rfl,g,C,dx,_,_,rfl,S57 _ _ hg5,T.cl,T.nT,gf_tr ..,b',_,rfl,.inr (SqT.of (S57 _ _ (kT5 _ _ hb3))),_,_,rfl,rfl,(by show 1≤sizeLine; decide),fun l hl2=>?_⟩
    have Gl:=Same.new hl2 (.lst [.int ((tv.length:Int) - 1)])
    refine ⟨D,l,_,_,rfl,rfl,Gl _ _ (S57 _ _ hD5),upd_same,?_,fun r hr0=>?_⟩
    · rw [List.length_map,List.length_map]
      exact small (by simp; omega)
    have Gr:=Same.new hr0 (.lst ((ns.map (degOf ts)).map V.int++[.int ((tv.length:Int) - 1)]))
    have S59:=S57.trans (Gl.trans Gr)
    have S09:=S5.trans (SameBut.of S59)
    have etl:(tv.length:Int) - 1=(ts.length:Int) - 1:=by rw [vl]
    refine ⟨p,r,ns.map (degOf ts)++[(ts.length:Int) - 1],rfl,?_,by simp,fun n hn=>?_,fun mp=>?_,fun mp=>(((qr _ S09).2 d0).2 s0).2 fo mp⟩
    · rw [upd_same,List.map_append]
      show some (HO.lst (_++[V.int ((tv.length:Int) - 1)]))=_
      rw [etl]
      rfl
    · rcases List.mem_append.mp hn with h | h
      · obtain ⟨x,hx,rfl⟩:=List.mem_map.mp h
        have:=maxD_mem (ns:=ts.map fun t=>(t.names.count x:Int)) (by simpa using ts0)
        obtain ⟨t,ht,e⟩:=List.mem_map.mp this
        unfold degOf
        rw [← e]
        have c1:=List.count_le_length (a:=x) (l:=t.names)
        have c2:=names_len t
        have c3:=(tok t ht).2.2
        omega
      · rw [List.mem_singleton.mp h]
        omega
    · exact qd _ _ (q ⟨d0,s0,fo,mp⟩ a' b' D _ D0 ⟨dx,S59 _ _ hg5⟩ (S59 _ _ (kT5 _ _ ha3)) (S59 _ _ (kT5 _ _ hb3)) (S59 _ _ hD5) aa bb S09)
  case cut1 =>
    rintro Dn σ H1 ⟨a',rfl,hg1,ha1,hb1,TS1,S1,aa,qd⟩
    have l1:(putF "switches" (.ref a') ([]:List (Str × V))).length < 1000:=Nat.lt_of_le_of_lt (putF_len _ _ _) (by show 1 < 1000; decide)
    have l2:∀ v:V,(putF "trees" v (putF "switches" (.ref a') [])).length < 1000:=fun v=>Nat.lt_of_le_of_lt (putF_len _ _ _) (Nat.lt_of_le_of_lt (Nat.succ_le_succ (putF_len _ _ _)) (by show 2 < 1000; decide))
    have fin:∀ {H2:Hp} {b':Addr},H2 g=some (.ins C dx (putF "switches" (.ref a') []))→H2 a'=some (.tup (ns.map V.str))→H2 b'=some (.tup tv)→TreesAt H2 tv ts→SameBut g H H2→(H b=some (.tup tv)→b'=b)→∀ H3,H3=upd (upd H2 g (.ins C dx (putF "trees" (.ref b') (putF "switches" (.ref a') [])))) g (.ins C dx (gf3 a' b' p)) →
        ∃ a'' b'':Addr,[some (V.ref g),some (V.ref a),some (V.ref b),some (V.int p)]=[some (V.ref g),some (V.ref a),some (V.ref b),some (V.int p)]∧H3 g=some (.ins C dx (gf3 a'' b'' p))∧H3 a''=some (.tup (ns.map V.str))∧H3 b''=some (.tup tv)∧TreesAt H3 tv ts∧SameBut g H H3∧(H a=some (.tup (ns.map V.str))→a''=a)∧(H b=some (.tup tv)→b''=b)∧∀ σ' H',Q .non H'→Dn.nx σ' H':=fun {H2 b'} g2 a2 b2 T2 S2 bb H3 e3=>by
      have n1:a' ≠ g:=ne_of a2 g2 (by intro z; cases z)
      have n2:b' ≠ g:=ne_of b2 g2 (by intro z; cases z)
      subst e3
      refine ⟨a',b',rfl,upd_same,by rw [upd_ne n1,upd_ne n1]; exact a2,by rw [upd_ne n2,upd_ne n2]; exact b2,T2.mono fun c xs h=>by rw [upd_ne (ne_of h g2 (by intro z; cases z)),upd_ne (ne_of h g2 (by intro z; cases z))]; exact h,S2.trans ((SameBut.upd _).trans (SameBut.upd _)),aa,bb,qd⟩
    rcases hb with hbt | hbl
    · have nbg:b ≠ g:=ne_of hbt hg (by intro z; cases z)
      have hb1':=S1 _ _ nbg hbt
      refine ⟨_,rfl,b,_,rfl,.inr ⟨SqT.of hb1',_,rfl,g,C,dx,_,rfl,hg1,T.cl,T.nT,l1,?_⟩⟩
      refine ⟨_,rfl,_,rfl,g,C,dx,_,rfl,upd_same,T.cl,T.nF,l2 _,?_⟩
      exact fin hg1 ha1 hb1' TS1 S1 (fun _=>rfl) _ rfl
    · have nbg:b ≠ g:=ne_of hbl hg (by intro z; cases z)
      have hb1':=S1 _ _ nbg hbl
      refine ⟨_,rfl,b,_,rfl,.inl ⟨SqL.of hb1',fun b' hb'=>?_⟩⟩
      have G:=Same.new hb' (.tup tv)
      refine ⟨_,rfl,g,C,dx,_,rfl,G _ _ hg1,T.cl,T.nT,l1,?_⟩
      refine ⟨_,rfl,_,rfl,g,C,dx,_,rfl,upd_same,T.cl,T.nF,l2 _,?_⟩
      exact fin (G _ _ hg1) (G _ _ ha1) upd_same (TS1.mono (keepT_same G)) (S1.trans (SameBut.of G)) (fun z=>by rw [hbl] at z; cases z) _ rfl
  have seqg:∀ {c:Addr} {xs:List V} {H1:Hp},SeqS H c xs→SameBut g H H1→SeqS H1 c xs:=fun {c xs H1} h S=>by
    rcases h with h | h
    · exact .inl (S _ _ (ne_of h hg (by intro z; cases z)) h)
    · exact .inr (S _ _ (ne_of h hg (by intro z; cases z)) h)
  have fin1:∀ {H1:Hp} {a':Addr},H1 g=some (.ins C dx [])→H1 a'=some (.tup (ns.map V.str))→SameBut g H H1→(H a=some (.tup (ns.map V.str))→a'=a)→∀ H2,H2=upd H1 g (.ins C dx (putF "switches" (.ref a') [])) →
      ∃ a'':Addr,[some (V.ref g),some (V.ref a),some (V.ref b),some (V.int p)]=[some (V.ref g),some (V.ref a),some (V.ref b),some (V.int p)]∧H2 g=some (.ins C dx (putF "switches" (.ref a'') []))∧H2 a''=some (.tup (ns.map V.str))∧SeqS H2 b tv∧TreesAt H2 tv ts∧SameBut g H H2∧(H a=some (.tup (ns.map V.str))→a''=a)∧∀ (σ':St) (H':Hp),Q .non H'→Q .non H':=fun {H1 a'} g1 a1 S1 aa H2 e2=>by
    have n1:a' ≠ g:=ne_of a1 g1 (by intro z; cases z)
    subst e2
    have S2:SameBut g H (upd H1 g (.ins C dx (putF "switches" (.ref a') []))):=S1.trans (SameBut.upd _)
    exact ⟨a',rfl,upd_same,by rw [upd_ne n1]; exact a1,seqg hb S2,TS.mono fun c xs h=>S2 _ _ (ne_of h hg (by intro z; cases z)) h,S2,aa,fun _ _ h=>h⟩
  rcases ha with hat | hal
  · refine ⟨_,rfl,a,_,rfl,.inr ⟨SqT.of hat,_,rfl,g,C,dx,[],rfl,hg,T.cl,T.nS,(by show 0 < 1000; decide),?_⟩⟩
    exact fin1 hg hat (SameBut.refl _ _) (fun _=>rfl) _ rfl
  · refine ⟨_,rfl,a,_,rfl,.inl ⟨SqL.of hal,fun a' ha'=>?_⟩⟩
    have G:=Same.new ha' (.tup (ns.map V.str))
    refine ⟨_,rfl,g,C,dx,[],rfl,G _ _ hg,T.cl,T.nS,(by show 0 < 1000; decide),?_⟩
    exact fin1 (G _ _ hg) upd_same (SameBut.of G) (fun z=>by rw [hal] at z; cases z) _ rfl
def atr (k:Nat):Str:=match k with | 0 => "name" | 1 => "name" | 2 => "number" | _ => "degree"
def wrd (k:Nat):Str:=match k with | 0 => "twice" | 1 => "name" | 2 => "field" | _ => "small"
def sorts (k:Nat):List V:=[.bl (decide (k=0)),.bl (decide (k=1)),.bl (decide (k=2)),.bl (decide (k=3))]
def spFT (K:PySem.W.Frag):Sp:=fun vs H Q _=>∃ (e dx C CA l:Addr) (k:Nat) (v:V),vs=[.ref e,.ref l]∧k < 4∧H l=some (.lst (sorts k))∧H e=some (ExcT C e dx)∧H dx=some (.xd [(atr k,v)])∧ClsX K C CA∧NoAttr K C (atr k)∧∀ c,H c=none→Q (.ref c) (upd H c (.tup [.str (wrd k),v]))
theorem sc_l_field_told:FnScope ["_law_e", "_law_sorts"] ["_law_e", "_law_sorts"] (defScope s_l_field_told):=⟨rfl,rfl,rfl,by decide +kernel,rfl,by decide +kernel,by decide +kernel⟩
theorem ok_l_field_told {f:Addr} {fd:FuncData} (F:Fun K "_law_field_told" "_law_field_told" s_l_field_told f fd):FnOkH P w K mg base 1 f fd ["_law_e", "_law_sorts"] (spFT K):=by
  refine F.okH sc_l_field_told (fun vs H Q E h=>?_) (fun cdv A outer s H vs Q E hr h=>?_)
  · obtain ⟨e,dx,C,CA,l,k,v,rfl,_⟩:=h
    rfl
  obtain ⟨e,dx,C,CA,l,k,v,rfl,k4,hl,he,hd,cl,na,q⟩:=h
  refine ⟨_,(pss_cons (ps_if (pt_val (pe_ix ix_list (pv 1) pe_int (fun _ _=>rfl))) (pss_one (ps_ret (pe_tup (pa_cons pe_str (pa_cons (pe_fldXK K (pv 0) rfl) pa_nil))))) pss_nil)
      (pss_cons (ps_if (pt_val (pe_ix ix_list (pv 1) pe_int (fun _ _=>rfl))) (pss_one (ps_ret (pe_tup (pa_cons pe_str (pa_cons (pe_fldXK K (pv 0) rfl) pa_nil))))) pss_nil)
      (pss_cons (ps_if (pt_val (pe_ix ix_list (pv 1) pe_int (fun _ _=>rfl))) (pss_one (ps_ret (pe_tup (pa_cons pe_str (pa_cons (pe_fldXK K (pv 0) rfl) pa_nil))))) pss_nil)
      (pss_one (ps_ret (pe_tup (pa_cons pe_str (pa_cons (pe_fldXK K (pv 0) rfl) pa_nil)))))))),?_⟩
  have s2:∀ {x:V} {y:V},[x,y].length≤sizeLine:=fun {x y}=>by show 2≤sizeLine; decide
  match k,k4,hl,hd,na,q with
  | 0,_,hl,hd,na,q =>
    refine ⟨_,rfl,l,_,0,_,rfl,rfl,SqL.of hl,at0 ..,true,rfl,iteT ?_⟩
    exact ⟨_,rfl,e,C,CA,dx,_,_,rfl,.inr he,hd,lk1 _ _,cl,na,s2,fun c hc=>q c hc⟩
  | 1,_,hl,hd,na,q =>
    refine ⟨_,rfl,l,_,0,_,rfl,rfl,SqL.of hl,at0 ..,false,rfl,iteF ?_⟩
    refine ⟨_,rfl,l,_,1,_,rfl,rfl,SqL.of hl,rfl,true,rfl,iteT ?_⟩
    exact ⟨_,rfl,e,C,CA,dx,_,_,rfl,.inr he,hd,lk1 _ _,cl,na,s2,fun c hc=>q c hc⟩
  | 2,_,hl,hd,na,q =>
    refine ⟨_,rfl,l,_,0,_,rfl,rfl,SqL.of hl,at0 ..,false,rfl,iteF ?_⟩
    refine ⟨_,rfl,l,_,1,_,rfl,rfl,SqL.of hl,rfl,false,rfl,iteF ?_⟩
    refine ⟨_,rfl,l,_,2,_,rfl,rfl,SqL.of hl,rfl,true,rfl,iteT ?_⟩
    exact ⟨_,rfl,e,C,CA,dx,_,_,rfl,.inr he,hd,lk1 _ _,cl,na,s2,fun c hc=>q c hc⟩
  | 3,_,hl,hd,na,q =>
    refine ⟨_,rfl,l,_,0,_,rfl,rfl,SqL.of hl,at0 ..,false,rfl,iteF ?_⟩
    refine ⟨_,rfl,l,_,1,_,rfl,rfl,SqL.of hl,rfl,false,rfl,iteF ?_⟩
    refine ⟨_,rfl,l,_,2,_,rfl,rfl,SqL.of hl,rfl,false,rfl,iteF ?_⟩
    exact ⟨_,rfl,e,C,CA,dx,_,_,rfl,.inr he,hd,lk1 _ _,cl,na,s2,fun c hc=>q c hc⟩
  | k+4,h,_,_,_,_=>exact absurd h (by omega)
theorem comp_listH {K:PySem.W.Frag} {a D e C dx:Addr} {xs:List V} {ix:List Nat} {tb:TBl} {σ:St} {H:Hp} {Q:VK} (Pv:Nat→Hp→Prop) (h0:Pv 0 (upd H D (.lst []))) (hl:∀ i H,i≤xs.length→Pv i H→SqL K H a xs∧H e=some (ExcT C e dx))
    (hs:∀ i x H,xs[i]?=some x→Pv i H→tb (some x::outs ix σ) H (Nx xs.length i Pv) fun z H'=>∃ ys,H' D=some (.lst ys)∧ys.length < sizeLine∧Nx xs.length i Pv (upd H' D (.lst (ys++[z])))) (hd:∀ H,Pv xs.length H→Q (.ref D) H) :
    CompEx (ItlH K a e) D ix tb σ H Q:=by
  refine ⟨fun i m H=>m=xs.length - i∧i≤xs.length∧Pv i H,⟨xs.length,by simp,Nat.zero_le _,h0⟩,?_⟩
  rintro i m H ⟨rfl,hi,p⟩
  obtain ⟨q,qe⟩:=hl i H hi p
  by_cases hlt:i < xs.length
  · refine .inr ⟨⟨xs,xs[i],q,by simp [hlt]⟩,fun x H' y=>?_⟩
    obtain ⟨e,y⟩:=y
    subst e
    exact hs i x _ (y xs q) p
  · have e:i=xs.length:=by omega
    subst e
    exact .inl ⟨⟨⟨xs,q,Nat.le_refl _⟩,C,dx,qe⟩,hd H p⟩
def sortB (k:Nat):List Bool:=[decide (k=0),decide (k=1),decide (k=2),decide (k=3)]
theorem sorts_bl (k:Nat):sorts k=(sortB k).map V.bl:=rfl
theorem one_true:∀ k:Nat,k < 4→((sortB k).filter id).length=1
  | 0,_=>rfl | 1,_=>rfl | 2,_=>rfl | 3,_=>rfl
  | k+4,h=>absurd h (by omega)
structure Exs (K:PySem.W.Frag) (mg:Str→Option Value) (CA c0 c1 c2 c3 c4 c5 c6 c7 c8 c9:Addr):Prop where
  g0:mg "NoText" = some (.ref c0)
  x0:ClsX K c0 CA
  n0:c0 ≠ CA
  g1:mg "Twice" = some (.ref c1)
  x1:ClsX K c1 CA
  n1:c1 ≠ CA
  g2:mg "NoName" = some (.ref c2)
  x2:ClsX K c2 CA
  n2:c2 ≠ CA
  g3:mg "NoField" = some (.ref c3)
  x3:ClsX K c3 CA
  n3:c3 ≠ CA
  g4:mg "SmallField" = some (.ref c4)
  x4:ClsX K c4 CA
  n4:c4 ≠ CA
  g5:mg "NoRow" = some (.ref c5)
  x5:ClsX K c5 CA
  n5:c5 ≠ CA
  g6:mg "NoTurn" = some (.ref c6)
  x6:ClsX K c6 CA
  n6:c6 ≠ CA
  g7:mg "NoCount" = some (.ref c7)
  x7:ClsX K c7 CA
  n7:c7 ≠ CA
  g8:mg "NoNumber" = some (.ref c8)
  x8:ClsX K c8 CA
  n8:c8 ≠ CA
  g9:mg "TooMany" = some (.ref c9)
  x9:ClsX K c9 CA
  n9:c9 ≠ CA
  gA:mg "AskError" = some (.ref CA)
  iA:isBaseX K CA
  nd:[c0,c1,c2,c3,c4,c5,c6,c7,c8,c9].Nodup
theorem kitAny_no {K:PySem.W.Frag} {t:Value} {Ds:List Addr} (h:∀ D ∈ Ds,PySem.W.kitOne K t (.ref D)=some false):PySem.W.kitAny K t (Ds.map Value.ref)=some false:=by
  induction Ds with
  | nil=>rfl
  | cons D r ih =>
    show (match PySem.W.kitOne K t (.ref D) with | some true=>some true | some false=>PySem.W.kitAny K t (r.map Value.ref) | none=>none)=_
    rw [h D List.mem_cons_self]
    exact ih fun D' hD=>h D' (List.mem_cons_of_mem _ hD)
variable {c0 c1 c2 c3 c4 c5 c6 c7 c8 c9:Addr}
structure SortOf (K:PySem.W.Frag) (CA c0 c1 c2 c3 c4 c5 c6 c7 c8 c9:Addr) (k:Nat) (C:Addr):Prop where
  k4:k < 4
  cl:ClsX K C CA
  na:NoAttr K C (atr k)
  a1:PySem.W.kitOne K (.ref C) (.ref c1)=some (decide (k=0))
  a2:PySem.W.kitOne K (.ref C) (.ref c2)=some (decide (k=1))
  a3:PySem.W.kitOne K (.ref C) (.ref c3)=some (decide (k=2))
  a4:PySem.W.kitOne K (.ref C) (.ref c4)=some (decide (k=3))
  ao:PySem.W.kitAny K (.ref C) ([c7,c8,c5,c0,c6,c9].map Value.ref)=some false
theorem sort_of {C:Addr} {k:Nat} (T:Exs K mg CA c0 c1 c2 c3 c4 c5 c6 c7 c8 c9) (k4:k < 4) (na:NoAttr K C (atr k)) (hC:C=[c1,c2,c3,c4].getD k c1):SortOf K CA c0 c1 c2 c3 c4 c5 c6 c7 c8 c9 k C:=by
  have nds:=T.nd
  simp only [List.nodup_cons,List.mem_cons,List.not_mem_nil,or_false,not_or] at nds
  have cC:ClsX K C CA:=by
    match k,k4 with
    | 0,_=>rw [hC]; exact T.x1
    | 1,_=>rw [hC]; exact T.x2
    | 2,_=>rw [hC]; exact T.x3
    | 3,_=>rw [hC]; exact T.x4
    | k+4,h=>exact absurd h (by omega)
  refine ⟨k4,cC,na,?_,?_,?_,?_,kitAny_no fun D hD=>?_⟩
  · rw [kit_is cC T.x1 T.n1]
    match k,k4 with
    | 0,_=>rw [hC]; simp
    | 1,_=>rw [hC]; simp; grind
    | 2,_=>rw [hC]; simp; grind
    | 3,_=>rw [hC]; simp; grind
    | k+4,h=>exact absurd h (by omega)
  · rw [kit_is cC T.x2 T.n2]
    match k,k4 with
    | 0,_=>rw [hC]; simp; grind
    | 1,_=>rw [hC]; simp
    | 2,_=>rw [hC]; simp; grind
    | 3,_=>rw [hC]; simp; grind
    | k+4,h=>exact absurd h (by omega)
  · rw [kit_is cC T.x3 T.n3]
    match k,k4 with
    | 0,_=>rw [hC]; simp; grind
    | 1,_=>rw [hC]; simp; grind
    | 2,_=>rw [hC]; simp
    | 3,_=>rw [hC]; simp; grind
    | k+4,h=>exact absurd h (by omega)
  · rw [kit_is cC T.x4 T.n4]
    match k,k4 with
    | 0,_=>rw [hC]; simp; grind
    | 1,_=>rw [hC]; simp; grind
    | 2,_=>rw [hC]; simp; grind
    | 3,_=>rw [hC]; simp
    | k+4,h=>exact absurd h (by omega)
  · have ne:∀ {E:Addr},E ≠ c1→E ≠ c2→E ≠ c3→E ≠ c4→(E == C)=false:=fun {E} h1 h2 h3 h4=>by
      rw [beq_eq_false_iff_ne,hC]
      match k,k4 with
      | 0,_=>exact h1
      | 1,_=>exact h2
      | 2,_=>exact h3
      | 3,_=>exact h4
      | k+4,h=>exact absurd h (by omega)
    simp only [List.mem_cons,List.not_mem_nil,or_false] at hD
    rcases hD with rfl | rfl | rfl | rfl | rfl | rfl
    · rw [kit_is cC T.x7 T.n7,ne (by grind) (by grind) (by grind) (by grind)]
    · rw [kit_is cC T.x8 T.n8,ne (by grind) (by grind) (by grind) (by grind)]
    · rw [kit_is cC T.x5 T.n5,ne (by grind) (by grind) (by grind) (by grind)]
    · rw [kit_is cC T.x0 T.n0,ne (by grind) (by grind) (by grind) (by grind)]
    · rw [kit_is cC T.x6 T.n6,ne (by grind) (by grind) (by grind) (by grind)]
    · rw [kit_is cC T.x9 T.n9,ne (by grind) (by grind) (by grind) (by grind)]
theorem none_of {H H':Hp} {a:Addr} (S:Same H H') (h:H' a=none):H a=none:=by
  cases e:H a with
  | none=>rfl
  | some o=>rw [S _ _ e] at h; cases h
def Verd (ns:List Str) (ts:List Tr) (p:Int) (k:Nat) (v:V):Prop :=
  (k=0∧∃ x,dupOf ns=some x∧v=.str x)∨(k=1∧dupOf ns=none∧∃ x,strayOf ns ts=some x∧v=.str x)∨(k=2∧dupOf ns=none∧strayOf ns ts=none∧¬ FieldOk p∧v=.int p) ∨
  (k=3∧dupOf ns=none∧strayOf ns ts=none∧FieldOk p∧p≤maxD (ns.map (degOf ts)++[(ts.length:Int) - 1]) 0∧v=.int (maxD (ns.map (degOf ts)++[(ts.length:Int) - 1]) 0))
theorem ok_of {ns:List Str}:∀ t:Tr,t.wf→(∀ x ∈ t.names,x ∈ ns)→t.ok ns
  | .is x,_,h=>h x (by simp [Tr.names])
  | .yes,_,_=>trivial
  | .no,_,_=>trivial
  | .not a,w,h=>ok_of a w h
  | .bin _ a b,w,h=>⟨w.1,ok_of a w.2.1 fun x hx=>h x (List.mem_append_left _ hx),ok_of b w.2.2 fun x hx=>h x (List.mem_append_right _ hx)⟩
theorem stray_ok {ns:List Str} {ts:List Tr} (h:strayOf ns ts=none) (wf:∀ t ∈ ts,t.wf):∀ t ∈ ts,t.ok ns:=fun t ht=>ok_of t (wf t ht) fun x hx=>by
  unfold strayOf strayL at h
  rw [List.find?_eq_none] at h
  have:=h x (List.mem_flatMap.mpr ⟨t,ht,hx⟩)
  simpa using this
def spTold (K:PySem.W.Frag):Sp:=fun vs H Q _=>∃ (a b:Addr) (ns:List Str) (tv:List V) (ts:List Tr) (p:Int),vs=[.ref a,.ref b,.int p]∧H a=some (.tup (ns.map V.str))∧ns.length≤20∧(∀ x ∈ ns,x.length≤20)∧H b=some (.tup tv)∧TreesAt H tv ts∧1≤ts.length∧ts.length≤10 ∧
  (∀ t ∈ ts,t.wf∧t.depth≤10∧t.size≤400)∧0≤p∧p < 1000000000000 ∧
  (GoodG ns ts p→∀ (w a' b':Addr) (H':Hp),Same H H'→H' w=some (.tup [.str "made", .ref a',.ref b',.int p])→H' a'=some (.tup (ns.map V.str))→H' b'=some (.tup tv)→Q (.ref w) H') ∧
  (∀ (k:Nat) (v:V) (w:Addr) (H':Hp),Verd ns ts p k v→Same H H'→H' w=some (.tup [.str (wrd k),v])→Q (.ref w) H')
theorem sc_l_told:FnScope ["_law_switches", "_law_trees", "_law_p", "_law_word", "_law_names_here", "_law_rows", "_law_game_here", "_law_point", "_law_others", "_law_sorts", "_law_e"] ["_law_switches", "_law_trees", "_law_p"] (defScope s_l_told):=⟨rfl,rfl,rfl,by decide +kernel,rfl,by decide +kernel,by decide +kernel⟩
theorem ok_l_told {f C fI fW:Addr} {fd fdI fdW:FuncData} (F:Fun K "_law_told" "_law_told" s_l_told f fd) (B:Bl mg) (hV:mg "ValueError" = none) (T:GTxt K mg C) (X:Exs K mg CA c0 c1 c2 c3 c4 c5 c6 c7 c8 c9) (MK:Mk K C fI) (GI:FnOk P w K mg base (CXr P w) 14 fI fdI ["self", "switches", "trees", "field"] (spGInitX C c1 c2 c3 c4)) (bI:Binds K fdI ["self", "switches", "trees", "field"] [])
    (mW:Meth K C "worth_at" fW) (GW:FnOk P w K mg base CX0 13 fW fdW ["self", "point", "s"] (spWAt C)) (bW:Binds K fdW ["self", "point", "s"] []) (n1:NoAttr K c1 "name") (n2:NoAttr K c2 "name") (n3:NoAttr K c3 "number") (n4:NoAttr K c4 "degree")
    (C_l_field_told:CalH P w K mg base 1 "_law_field_told" ["_law_e", "_law_sorts"] (spFT K)):FnOk P w K mg base CX0 16 f fd ["_law_switches", "_law_trees", "_law_p"] (spTold K):=by
  refine F.ok sc_l_told (fun vs H Q E h=>?_) (fun cdv A outer s H vs Q E hr h=>?_)
  · obtain ⟨a,b,ns,tv,ts,p,rfl,_⟩:=h
    rfl
  obtain ⟨a,b,ns,tv,ts,p,rfl,ha,nl,nx,hb,TS,t1,t10,tok,p0,p12,qg,qv⟩:=h
  have hr13:Room 13 _:=hr.mono (by decide)
  refine ⟨_,(pss_cons (ps_set (i:=3) sc_l_told.nd rfl (Or.inl rfl) (pe_tup (pa_cons pe_str pa_nil)))
      (pss_cons (ps_tryE (i:=10) (CA:=CA) (tb:=fun e D σ H'=>∃ (k:Nat) (v:V) (Ck dx:Addr) (x3 x4 x5 x6 x7 x8 x9:Option V),σ=[some (.ref a),some (.ref b),some (.int p),x3,x4,x5,x6,x7,x8,x9,some (.ref e)]∧SortOf K CA c0 c1 c2 c3 c4 c5 c6 c7 c8 c9 k Ck∧H' e=some (ExcT Ck e dx)∧H' dx=some (.xd [(atr k,v)]) ∧
            ∀ (w:Addr) (y8 y9:Option V) (H'':Hp),Same H' H''→H'' w=some (.tup [.str (wrd k),v])→D.nx [some (.ref a),some (.ref b),some (.int p),some (.ref w),x4,x5,x6,x7,y8,y9,some (.ref e)] H'') sc_l_told.nd rfl rfl rfl X.gA X.iA
        (psv_consN (ps_set (i:=4) sc_l_told.nd rfl (Or.inl rfl) (pe_callTy call_list_of rfl B.list boot_list' (pa_cons (pv 0) pa_nil)))
        (psv_consN (ps_set (i:=5) sc_l_told.nd rfl (Or.inl rfl) (pe_callTy call_list_of rfl B.list boot_list' (pa_cons (pv 1) pa_nil)))
        (psv_make (i:=6) sc_l_told.nd rfl (Or.inl rfl) MK GI hr rfl T.mgC bI (fun W=>pa_cons (pv 4) (pa_cons (pv 5) (pa_cons (pv 2) pa_nil)))
        (psv_consN (ps_expr (pe_bm PySem.F.plainAttrs_list PySem.F.slot_list_append PySem.F.type_list_append mt_append (pv 4) (pa_cons pe_str pa_nil)))
        (psv_consN (ps_expr (pe_bm0 PySem.F.plainAttrs_list PySem.F.slot_list_clear PySem.F.type_list_clear mt_clear (pv 5)))
        (psv_consN (ps_set (i:=3) sc_l_told.nd rfl (Or.inl rfl) (pe_tup (pa_cons pe_str (pa_cons (pe_fld (pv 6) rfl) (pa_cons (pe_fld (pv 6) rfl) (pa_cons (pe_fld (pv 6) rfl) pa_nil))))))
        (psv_consN (ps_set (i:=7) sc_l_told.nd rfl (Or.inl rfl) (pe_callTy call_tuple_of rfl B.tuple boot_tuple' (pa_cons (pe_comp (N:=[]) (ix:=[]) (cl:=[]) rfl (CompScope.closed (by with_unfolding_all rfl) (by decide) rfl (by decide) rfl (by with_unfolding_all rfl)) rfl
            (pi_range1 rfl B.range (pa_cons (pe_callB call_len_seq rfl B.len PySem.boot_len (pa_cons (pv 0) pa_nil)) pa_nil)) (fun _ _ _=>pb_all (pe_op op_mod (pv 0) pe_int))) pa_nil)))
        (psv_consN (ps_if (pt_cmpR op_ne (pe_meth (pv 6) T.cl mW GW hr13 bW .nil pass0 (pa_cons (pv 7) (pa_cons pe_int pa_nil))) (pe_meth (pe_make MK GI hr rfl T.mgC bI .nil noRaise (pa_cons (pv 0) (pa_cons (pv 1) (pa_cons (pv 2) pa_nil)))) T.cl mW GW hr13 bW .nil pass0 (pa_cons (pv 7) (pa_cons pe_int pa_nil))) (nomark _)) (pss_one (ps_set (i:=3) sc_l_told.nd rfl (Or.inl rfl) (pe_tup (pa_cons pe_str pa_nil)))) pss_nil)
        psv_nil))))))))
        (fun e=>pss_cut (t':=fun D σ H'=>∃ (k:Nat) (v:V) (Ck dx:Addr) (x3 x4 x5 x6 x7 x8 x9:Option V),σ=[some (.ref a),some (.ref b),some (.int p),x3,x4,x5,x6,x7,x8,x9,some (.ref e)]∧SortOf K CA c0 c1 c2 c3 c4 c5 c6 c7 c8 c9 k Ck∧H' e=some (ExcT Ck e dx)∧H' dx=some (.xd [(atr k,v)]) ∧
            ∀ (w:Addr) (y8 y9:Option V) (H'':Hp),Same H' H''→H'' w=some (.tup [.str (wrd k),v])→D.nx [some (.ref a),some (.ref b),some (.int p),some (.ref w),x4,x5,x6,x7,y8,y9,some (.ref e)] H'')
          (pss_cons (ps_set (i:=3) sc_l_told.nd rfl (Or.inl rfl) (pe_tup (pa_cons pe_str pa_nil)))
          (pss_cons (ps_set (i:=8) sc_l_told.nd rfl (Or.inl rfl) (pe_callB (call_isiXK K) rfl B.isinstance PyProof.Rows.boot_isinstance (pa_cons (pv 10) (pa_cons (pe_tup (pa_cons (pe_glob (v:=.ref c7) rfl X.g7 rfl) (pa_cons (pe_glob (v:=.ref c8) rfl X.g8 rfl) (pa_cons (pe_glob (v:=.ref c5) rfl X.g5 rfl) (pa_cons (pe_glob (v:=.ref c0) rfl X.g0 rfl) (pa_cons (pe_glob (v:=.ref c6) rfl X.g6 rfl) (pa_cons (pe_glob (v:=.ref c9) rfl X.g9 rfl) pa_nil))))))) pa_nil))))
          (pss_cons (ps_set (i:=9) sc_l_told.nd rfl (Or.inl rfl) (pe_lst (pa_cons (pe_callB (call_isiXK K) rfl B.isinstance PyProof.Rows.boot_isinstance (pa_cons (pv 10) (pa_cons (pe_glob (v:=.ref c1) rfl X.g1 rfl) pa_nil))) (pa_cons (pe_callB (call_isiXK K) rfl B.isinstance PyProof.Rows.boot_isinstance (pa_cons (pv 10) (pa_cons (pe_glob (v:=.ref c2) rfl X.g2 rfl) pa_nil))) (pa_cons (pe_callB (call_isiXK K) rfl B.isinstance PyProof.Rows.boot_isinstance (pa_cons (pv 10) (pa_cons (pe_glob (v:=.ref c3) rfl X.g3 rfl) pa_nil))) (pa_cons (pe_callB (call_isiXK K) rfl B.isinstance PyProof.Rows.boot_isinstance (pa_cons (pv 10) (pa_cons (pe_glob (v:=.ref c4) rfl X.g4 rfl) pa_nil))) pa_nil))))))
          (pss_one (ps_if (PW.pt (pw_and (pt_val (pe_callB (call_isiXK K) rfl B.isinstance PyProof.Rows.boot_isinstance (pa_cons (pv 10) (pa_cons (pe_bltn (v:=V.ty "ValueError") rfl hV boot_val rfl) pa_nil)))) (pw_and (pt_not (pt_val (pv 8))) (pw_and1 (pt_cmpR op_eq (pe_callB call_len_seq rfl B.len PySem.boot_len (pa_cons (pe_compH (e0:=e) (N:=[]) (ix:=[]) (cl:=[]) rfl (CompScope.closed (by with_unfolding_all rfl) (by decide) rfl (by decide) rfl (by with_unfolding_all rfl)) rfl
              (pi_listH (pv 9)) (fun _ _ _=>pb_if (pt_val (pv 0)) (pv 0))) pa_nil)) pe_int (nomark _)))))) (pss_one (ps_set (i:=3) sc_l_told.nd rfl (Or.inl rfl) (pe_calH C_l_field_told (Room.marked hr) (by decide) rfl (pa_cons (pv 10) (pa_cons (pv 9) pa_nil))))) pss_nil))))) (by
            rintro D σ H1 ⟨k,v,Ck,dx,x3,x4,x5,x6,x7,x8,x9,rfl,S,he,hd,qd⟩
            have k4:=S.k4
            refine ⟨(by show 1≤sizeLine; decide),fun w1 hw1=>?_⟩
            have G1:=Same.new hw1 (.tup [.str "other"])
            refine ⟨_,rfl,(by show 6≤sizeLine; decide),fun tp htp=>?_⟩
            have G2:=G1.trans (Same.new htp (.tup [.ref c7,.ref c8,.ref c5,.ref c0,.ref c6,.ref c9]))
            refine ⟨e,Ck,CA,dx,_,_,rfl,.inr (G2 _ _ he),S.cl,.inr (.inr ⟨tp,[c7,c8,c5,c0,c6,c9],rfl,upd_same,S.ao⟩),?_⟩
            generalize upd (upd H1 w1 (.tup [.str "other"])) tp (.tup [.ref c7,.ref c8,.ref c5,.ref c0,.ref c6,.ref c9])=H2 at G2
            have he2:=G2 _ _ he
            refine ⟨_,rfl,e,Ck,CA,dx,_,_,rfl,.inr he2,S.cl,.inl ⟨_,rfl,S.a1⟩,?_⟩
            refine ⟨_,rfl,e,Ck,CA,dx,_,_,rfl,.inr he2,S.cl,.inl ⟨_,rfl,S.a2⟩,?_⟩
            refine ⟨_,rfl,e,Ck,CA,dx,_,_,rfl,.inr he2,S.cl,.inl ⟨_,rfl,S.a3⟩,?_⟩
            refine ⟨_,rfl,e,Ck,CA,dx,_,_,rfl,.inr he2,S.cl,.inl ⟨_,rfl,S.a4⟩,(by show 4≤sizeLine; decide),fun l hl=>?_⟩
            have hl3:upd H2 l (.lst (sorts k)) l=some (.lst (sorts k)):=upd_same
            have G3:=G2.trans (Same.new hl (.lst (sorts k)))
            show _
            generalize hH3:upd H2 l (.lst (sorts k))=H3 at hl3 G3
            rw [show upd H2 l (.lst [.bl (decide (k=0)),.bl (decide (k=1)),.bl (decide (k=2)),.bl (decide (k=3))])=H3 from hH3]
            have he3:=G3 _ _ he
            refine ⟨_,rfl,e,Ck,CA,dx,_,_,rfl,.inr he3,S.cl,.inr (.inl ⟨_,rfl,kit_val S.cl⟩),_,rfl,iteT ?_⟩
            refine ⟨_,rfl,false,rfl,iteT ?_⟩
            refine ⟨_,rfl,l,rfl,⟨_,SqL.of hl3⟩,fun D2 hD2=>?_⟩
            refine comp_listH (K:=K) (C:=Ck) (dx:=dx) (xs:=sorts k) (fun i H'=>H' D2=some (.lst ((((sortB k).take i).filter id).map V.bl))∧Same H3 H') ⟨by rw [upd_same]; rfl,Same.new hD2 _⟩ (fun i H' _ h=>⟨SqL.of (h.2 _ _ hl3),h.2 _ _ he3⟩) ?_ ?_
            · rintro i z H4 hz ⟨hD4,S4⟩
              have hi:=(List.getElem?_eq_some_iff.mp hz).1
              rw [sorts_bl,List.getElem?_map] at hz
              obtain ⟨bz,hbz,rfl⟩:=Option.map_eq_some_iff.mp hz
              refine ⟨_,rfl,bz,rfl,?_⟩
              have i4:i < 4:=hi
              cases bz with
              | true =>
                refine iteT ?_
                refine ⟨_,rfl,_,hD4,small1000 (by rw [List.length_map]; exact Nat.le_trans (List.length_filter_le _ _) (by rw [List.length_take]; omega)),Nx.of hi ⟨?_,fun b' o' e'=>?_⟩⟩
                · rw [upd_same,List.take_add_one,hbz,List.filter_append,List.map_append]
                  rfl
                · rw [upd_ne (ne_of_none e' hD2)]
                  exact S4 _ _ e'
              | false =>
                refine iteF ?_
                refine Nx.of hi ⟨?_,S4⟩
                rw [hD4,List.take_add_one,hbz,List.filter_append,List.map_append]
                simp
            · rintro H4 ⟨hD4,S4⟩
              have e4:((sortB k).take (sorts k).length)=sortB k:=rfl
              rw [e4] at hD4
              refine ⟨D2,_,rfl,.inl (SqL.of hD4),rfl,_,rfl,?_⟩
              rw [List.length_map,one_true k k4]
              refine iteD rfl ?_
              refine ⟨_,rfl,_,rfl,e,dx,Ck,CA,l,k,v,rfl,k4,S4 _ _ hl3,S4 _ _ he3,S4 _ _ (G3 _ _ hd),S.cl,S.na,fun c hc=>?_⟩
              exact qd c _ _ _ (G3.trans (S4.trans (Same.new hc _))) upd_same)))
      (pss_one (ps_ret (pv 3))))),?_⟩
  refine ⟨(by show 1≤sizeLine; decide),fun w0 hw0=>?_⟩
  have G0:=Same.new hw0 (.tup [.str "made"])
  generalize upd H w0 (.tup [.str "made"])=H1 at G0
  refine ⟨_,rfl,a,_,rfl,.inr (SqT.of (G0 _ _ ha)),fun l1 hl1=>?_⟩
  have G1:=Same.new hl1 (.lst (ns.map V.str))
  have h11:upd H1 l1 (.lst (ns.map V.str)) l1=some (.lst (ns.map V.str)):=upd_same
  generalize upd H1 l1 (.lst (ns.map V.str))=H2 at G1 h11
  refine ⟨_,rfl,b,_,rfl,.inr (SqT.of (G1 _ _ (G0 _ _ hb))),fun l2 hl2=>?_⟩
  have G2:=Same.new hl2 (.lst tv)
  have h22:upd H2 l2 (.lst tv) l2=some (.lst tv):=upd_same
  have h12:=G2 _ _ h11
  have l12:l1 ≠ l2:=ne_of_none h11 hl2
  have l1f:H l1=none:=none_of G0 hl1
  have l2f:H l2=none:=none_of (G0.trans G1) hl2
  generalize upd H2 l2 (.lst tv)=H3 at G2 h22 h12
  have G03:=G0.trans (G1.trans G2)
  refine ⟨_,rfl,_,rfl,_,rfl,fun g dx ng ndx nne=>?_⟩
  have Gm:Same H3 (upd (upd H3 dx (.own g)) g (.ins C dx [])):=fun c o e=>by
    rw [upd_ne (ne_of_none e ng),upd_ne (ne_of_none e ndx)]
    exact e
  have gf0:H g=none:=none_of G03 ng
  have hgm:upd (upd H3 dx (.own g)) g (.ins C dx []) g=some (.ins C dx []):=upd_same
  generalize upd (upd H3 dx (.own g)) g (.ins C dx [])=Hm at Gm hgm
  have G0m:=G03.trans Gm
  have TSm:=TS.mono (keepT_same G0m)
  have rz:∀ {H5:Hp} {k:Nat} {v:V} {Ck:Addr},SameBut g Hm H5→Verd ns ts p k v→SortOf K CA c0 c1 c2 c3 c4 c5 c6 c7 c8 c9 k Ck→∀ (e dx:Addr) (H':Hp),Same H5 H'→H' e=some (ExcT Ck e dx)→H' dx=some (.xd [(atr k,v)]) →
      ∀ (w:Addr) (H'':Hp),Same H' H''→H'' w=some (.tup [.str (wrd k),v])→Q (.ref w) H'':=fun {H5 k v Ck} S5 vd so e dx H' S6 he hd w H'' S7 hw=>qv k v w H'' vd ((G0m.but gf0 S5).trans (S6.trans S7)) hw
  refine ⟨g,dx,l1,l2,ns,tv,ts,p,rfl,hgm,.inr (Gm _ _ h12),nl,nx,.inr (Gm _ _ h22),TSm,t1,t10,tok,p0,p12,fun good a' b' d H5 d0 GA ha5 hb5 hd5 _ _ S5=>⟨rfl,?_⟩,fun H5 S5=>⟨fun x hx=>?_,fun d0=>⟨fun x hx=>?_,fun s0=>⟨fun fo=>?_,fun fo mp=>?_⟩⟩⟩⟩
  rotate_left
  · have so:=sort_of (C:=c1) (k:=0) X (by decide) n1 rfl
    have vd:Verd ns ts p 0 (.str x):=.inl ⟨rfl,x,hx,rfl⟩
    exact fun e dx H6 S6 he hd=>⟨e,c1,dx,rfl,rfl,he,X.x1,0,.str x,c1,dx,_,_,_,_,_,_,_,rfl,so,he,hd,fun w y8 y9 H7 S7 hw=>⟨_,rfl,rz S5 vd so e dx H6 S6 he hd w H7 S7 hw⟩⟩
  · have so:=sort_of (C:=c2) (k:=1) X (by decide) n2 rfl
    have vd:Verd ns ts p 1 (.str x):=.inr (.inl ⟨rfl,d0,x,hx,rfl⟩)
    exact fun e dx H6 S6 he hd=>⟨e,c2,dx,rfl,rfl,he,X.x2,1,.str x,c2,dx,_,_,_,_,_,_,_,rfl,so,he,hd,fun w y8 y9 H7 S7 hw=>⟨_,rfl,rz S5 vd so e dx H6 S6 he hd w H7 S7 hw⟩⟩
  · have so:=sort_of (C:=c3) (k:=2) X (by decide) n3 rfl
    have vd:Verd ns ts p 2 (.int p):=.inr (.inr (.inl ⟨rfl,d0,s0,fo,rfl⟩))
    exact fun e dx H6 S6 he hd=>⟨e,c3,dx,rfl,rfl,he,X.x3,2,.int p,c3,dx,_,_,_,_,_,_,_,rfl,so,he,hd,fun w y8 y9 H7 S7 hw=>⟨_,rfl,rz S5 vd so e dx H6 S6 he hd w H7 S7 hw⟩⟩
  · have so:=sort_of (C:=c4) (k:=3) X (by decide) n4 rfl
    have vd:Verd ns ts p 3 (.int (maxD (ns.map (degOf ts)++[(ts.length:Int) - 1]) 0)):=.inr (.inr (.inr ⟨rfl,d0,s0,fo,mp,rfl⟩))
    exact fun e dx H6 S6 he hd=>⟨e,c4,dx,rfl,rfl,he,X.x4,3,_,c4,dx,_,_,_,_,_,_,_,rfl,so,he,hd,fun w y8 y9 H7 S7 hw=>⟨_,rfl,rz S5 vd so e dx H6 S6 he hd w H7 S7 hw⟩⟩
  obtain ⟨dg,hg5⟩:=GA
  have nlg:∀ {c:Addr} {xs:List V},H3 c=some (.lst xs)→c ≠ g:=fun {c xs} h=>ne_of_none h ng
  have h15:H5 l1=some (.lst (ns.map V.str)):=S5 _ _ (nlg h12) (Gm _ _ h12)
  have h25:H5 l2=some (.lst tv):=S5 _ _ (nlg h22) (Gm _ _ h22)
  have G05:Same H H5:=G0m.but gf0 S5
  refine ⟨_,rfl,.inl ⟨rfl,_,SqL.of h15⟩,l1,_,_,rfl,rfl,h15,small1000 (by rw [List.length_map]; omega),?_⟩
  refine ⟨_,rfl,.inl ⟨rfl,_,SqL.of (by rw [upd_ne (Ne.symm l12)]; exact h25)⟩,l2,_,rfl,rfl,(by rw [upd_ne (Ne.symm l12)]; exact h25),?_⟩
  have G07:Same H (upd (upd H5 l1 (.lst (ns.map V.str++[.str "bad"]))) l2 (.lst [])):=fun c o e=>by
    rw [upd_ne (ne_of_none e l2f),upd_ne (ne_of_none e l1f)]
    exact G05 _ _ e
  have k57:∀ {c:Addr} {o:HO},H5 c=some o→(∀ xs,o ≠ .lst xs)→upd (upd H5 l1 (.lst (ns.map V.str++[.str "bad"]))) l2 (.lst []) c=some o:=fun {c o} h hn=>by
    rw [upd_ne (fun z=>by rw [z,h25] at h; cases h; exact hn _ rfl),upd_ne (fun z=>by rw [z,h15] at h; cases h; exact hn _ rfl)]
    exact h
  have hg7:=k57 hg5 (fun _ z=>by cases z)
  have ha7:=k57 ha5 (fun _ z=>by cases z)
  have hb7:=k57 hb5 (fun _ z=>by cases z)
  generalize upd (upd H5 l1 (.lst (ns.map V.str++[.str "bad"]))) l2 (.lst [])=H7 at G07 hg7 ha7 hb7
  refine ⟨_,rfl,g,C,dg,_,_,rfl,hg7,T.cl,T.nS,gf_sw ..,_,rfl,g,C,dg,_,_,rfl,hg7,T.cl,T.nT,gf_tr ..,_,rfl,g,C,dg,_,_,rfl,hg7,T.cl,T.nF,gf_fi ..,(by show 4≤sizeLine; decide),fun w hw=>?_⟩
  have G8:=Same.new hw (.tup [.str "made", .ref a',.ref b',.int p])
  have hw8:upd H7 w (.tup [.str "made", .ref a',.ref b',.int p]) w=some (.tup [.str "made", .ref a',.ref b',.int p]):=upd_same
  generalize upd H7 w (.tup [.str "made", .ref a',.ref b',.int p])=H8 at G8 hw8
  have nl':(ns.map V.str).length=ns.length:=List.length_map _
  refine ⟨_,rfl,a,_,rfl,.inr (SqT.of (G8 _ _ (G07 _ _ ha))),_,rfl,by rw [nl']; omega,by rw [nl']; omega,fun D hD=>?_⟩
  refine comp_range (fun i H'=>∃ pt:List Int,H' D=some (.lst (pt.map V.int))∧pt.length=i∧PtOk pt 2∧Same H8 H') ⟨[],by rw [upd_same]; rfl,rfl,(fun x hx=>by cases hx),Same.new hD _⟩ ?_ ?_
  · rintro i H9 hi ⟨pt,hD9,pl,po,S9⟩
    rw [nl'] at hi
    have hi':i < ns.length:=by omega
    refine ⟨_,rfl,_,_,rfl,rfl,(by show (0:Int) < _; decide),_,hD9,small1000 (by rw [List.length_map]; omega),Nx.of (by rw [nl']; exact hi) ⟨pt++[(0+(i:Int)) % 2],by rw [upd_same,List.map_append]; rfl,by rw [List.length_append,List.length_singleton,pl],?_,fun b' o' e'=>?_⟩⟩
    · intro x hx
      rcases List.mem_append.mp hx with h | h
      · exact po x h
      · rw [List.mem_singleton.mp h]
        omega
    · rw [upd_ne (ne_of_none e' hD)]
      exact S9 _ _ e'
  · rintro H9 ⟨pt,hD9,pl,po,S9⟩
    have pl':pt.length=ns.length:=by
      rw [pl,nl']
      omega
    refine ⟨D,_,rfl,.inl ⟨SqL.of hD9,fun r hr0=>?_⟩⟩
    have Gr:=Same.new hr0 (.tup (pt.map V.int))
    have hr10:upd H9 r (.tup (pt.map V.int)) r=some (.tup (pt.map V.int)):=upd_same
    have G810:=S9.trans Gr
    generalize upd H9 r (.tup (pt.map V.int))=H10 at Gr hr10 G810
    have G710:=G8.trans G810
    have G010:=G07.trans G710
    have fo:=good.2.2.1
    have okT:=stray_ok good.2.1 fun t ht=>(tok t ht).1
    have po':PtOk pt p:=fun x hx=>by have:=po x hx; have:=fo.1; omega
    refine ⟨_,rfl,g,dg,_,rfl,G710 _ _ hg7,gf_no _ _ _ _ (by decide +kernel) (by decide +kernel) (by decide +kernel) (by decide +kernel),_,rfl,?_⟩
    refine ⟨g,a',b',d,r,ns,tv,ts,pt,2,p,rfl,⟨dg,G710 _ _ hg7⟩,by have:=fo.1; omega,by have:=fo.2.2; omega,G710 _ _ ha7,G710 _ _ hb7,TS.mono (keepT_same G010),t10,fun t ht=>⟨okT t ht,(tok t ht).2.1⟩,hr10,pl',po',fun H11 S11=>?_⟩
    have G011:=G010.trans S11
    refine ⟨_,rfl,_,rfl,_,rfl,fun g2 dx2 ng2 ndx2 nne2=>?_⟩
    have Gm2:Same H11 (upd (upd H11 dx2 (.own g2)) g2 (.ins C dx2 [])):=fun c o e=>by
      rw [upd_ne (ne_of_none e ng2),upd_ne (ne_of_none e ndx2)]
      exact e
    have hgm2:upd (upd H11 dx2 (.own g2)) g2 (.ins C dx2 []) g2=some (.ins C dx2 []):=upd_same
    generalize upd (upd H11 dx2 (.own g2)) g2 (.ins C dx2 [])=Hm2 at Gm2 hgm2
    have G0m2:=G011.trans Gm2
    refine ⟨g2,dx2,a,b,ns,tv,ts,p,rfl,hgm2,.inl (G0m2 _ _ ha),nl,nx,.inl (G0m2 _ _ hb),TS.mono (keepT_same G0m2),t1,t10,tok,p0,p12,fun _ a2 b2 d2 H12 d20 GA2 ha2 hb2 hd2 _ _ S12=>⟨rfl,?_⟩,fun H12 S12=>⟨fun x hx=>?_,fun _=>⟨fun x hx=>?_,fun _=>⟨fun nfo=>absurd fo nfo,fun _ mp=>?_⟩⟩⟩⟩
    rotate_left
    · rw [good.1] at hx
      cases hx
    · rw [good.2.1] at hx
      cases hx
    · have:=good.2.2.2
      omega
    obtain ⟨dg2,hg12⟩:=GA2
    have S1112:Same H11 H12:=fun c o e=>S12 c o (ne_of_none e ng2) (Gm2 _ _ e)
    refine ⟨g2,dg2,_,rfl,hg12,gf_no _ _ _ _ (by decide +kernel) (by decide +kernel) (by decide +kernel) (by decide +kernel),_,rfl,?_⟩
    refine ⟨g2,a2,b2,d2,r,ns,tv,ts,pt,2,p,rfl,⟨dg2,hg12⟩,by have:=fo.1; omega,by have:=fo.2.2; omega,ha2,hb2,TS.mono (keepT_same (G011.trans S1112)),t10,fun t ht=>⟨okT t ht,(tok t ht).2.1⟩,S1112 _ _ (S11 _ _ hr10),pl',po',fun H13 S13=>?_⟩
    refine ⟨rfl,_,rfl,?_⟩
    rw [decide_eq_true rfl]
    refine iteF ?_
    have G1013:=S11.trans (S1112.trans S13)
    have G713:=G710.trans G1013
    exact ⟨_,rfl,qg good w a' b' H13 (G07.trans G713) ((G810.trans G1013) _ _ hw8) (G713 _ _ ha7) (G713 _ _ hb7)⟩
def rCatS (K:PySem.W.Frag):R2:=fun x y H Q=>∃ a b xs ys,x=.ref a∧y=.ref b∧H a=some (.tup xs)∧H b=some (.tup ys)∧xs.length+ys.length≤sizeLine∧∀ p H',Same H H'→H' p=some (.tup (xs++ys))→Q (.ref p) H'
theorem op_catS {X:Cx}:OpR X (binaryOp .Add) (rCatS X.K):=by
  intro pins s σ H x y v u Q I rx ry h
  obtain ⟨a,b,xs,ys,rfl,rfl,ha,hb,hz,q⟩:=h
  refine (op_catT.or op_catT0) pins s σ H _ _ v u Q I rx ry ?_
  by_cases c:xs=[]
  · subst c
    exact .inr ⟨a,b,ys,rfl,rfl,SqT.of ha,SqT.of hb,q b H (Same.refl _) hb⟩
  · refine .inl ⟨a,b,xs,ys,rfl,rfl,SqT.of ha,SqT.of hb,c,hz,fun e=>?_,fun _ p hp=>q p _ (Same.new hp _) upd_same⟩
    subst e
    exact q a H (Same.refl _) (by rw [List.append_nil]; exact ha)
theorem TreesAt.take {H:Hp}:∀ {vs:List V} {ts:List Tr} (n:Nat),TreesAt H vs ts→TreesAt H (vs.take n) (ts.take n)
  | _,_,0,_=>by rw [List.take_zero,List.take_zero]; exact .nil
  | _,_,n+1,.nil=>.nil
  | _,_,n+1,.cons h r=>.cons h (r.take n)
theorem TreesAt.drop {H:Hp}:∀ {vs:List V} {ts:List Tr} (n:Nat),TreesAt H vs ts→TreesAt H (vs.drop n) (ts.drop n)
  | _,_,0,h=>h
  | _,_,n+1,.nil=>.nil
  | _,_,n+1,.cons h r=>r.drop n
def spOften:Sp:=fun vs H Q _=>∃ (x:Str) (m:Int),vs=[.str x,.int m]∧NmOk x∧1≤m∧m≤6∧∀ (v:V) (t:Tr) (H':Hp),TreeAt H' v t→t.wf→t.names=List.replicate m.toNat x→t.depth≤6→t.size≤12→Same H H'→Q v H'
theorem sc_l_often:FnScope ["_law_name", "_law_many", "_law_tree_here", "_law_k"] ["_law_name", "_law_many"] (defScope s_l_often):=⟨rfl,rfl,rfl,by decide +kernel,rfl,by decide +kernel,by decide +kernel⟩
theorem ok_l_often {f:Addr} {fd:FuncData} (F:Fun K "_law_often" "_law_often" s_l_often f fd) (B:Bl mg):FnOk P w K mg base CX0 1 f fd ["_law_name", "_law_many"] spOften:=by
  refine F.ok sc_l_often (fun vs H Q E h=>?_) (fun cdv A outer s H vs Q E hr h=>?_)
  · obtain ⟨x,m,rfl,_⟩:=h
    rfl
  obtain ⟨x,m,rfl,nx,m1,m6,q⟩:=h
  refine ⟨_,(pss_cons (ps_set (i:=2) sc_l_often.nd rfl (Or.inl rfl) (pe_tup (pa_cons pe_str (pa_cons (pv 0) pa_nil))))
      (pss_cons (ps_for PassesOwn.never rfl (pi_range1 rfl B.range (pa_cons (pe_op op_sub (pv 1) pe_int) pa_nil)) (pg_name (i:=3) sc_l_often.nd rfl (Or.inl rfl)) (pss_one (ps_set (i:=2) sc_l_often.nd rfl (Or.inl rfl) (pe_tup (pa_cons (pe_ix ix_list (pe_lst (pa_cons pe_str (pa_cons pe_str (pa_cons pe_str (pa_cons pe_str pa_nil))))) (pe_op op_mod (pv 3) pe_int) (fun _ _=>rfl)) (pa_cons (pv 2) (pa_cons (pe_tup (pa_cons pe_str (pa_cons (pv 0) pa_nil))) pa_nil)))))))
      (pss_one (ps_ret (pv 2))))),?_⟩
  refine ⟨_,rfl,(by show 2≤sizeLine; decide),fun a0 h0=>?_⟩
  refine ⟨_,rfl,_,_,rfl,rfl,_,rfl,by omega,by omega,?_⟩
  refine for_range (fun i σ H'=>∃ (v:V) (t:Tr) (x3:Option V),σ=[some (.str x),some (.int m),some v,x3]∧TreeAt H' v t∧t.wf∧t.names=List.replicate (i+1) x∧t.depth≤i+1∧t.size≤2*i+1∧Same H H') ⟨_,.is x,_,rfl,.is upd_same,nx,rfl,Nat.le_refl _,Nat.le_refl _,Same.new h0 _⟩ ?_ ?_
  · rintro i σ H1 hi ⟨v,t,x3,rfl,T,tw,tn,td,ts,S1⟩
    refine ⟨(by show 4≤sizeLine; decide),fun l hl=>?_⟩
    have Gl:=Same.new hl (.lst [.str "and", .str "or", .str "odd", .str "same"])
    refine ⟨_,rfl,_,_,rfl,rfl,(by show (0:Int) < _; decide),?_⟩
    obtain ⟨o,ho,om⟩:∃ o:Str,atI [V.str "and", V.str "or", V.str "odd", V.str "same"] ((0+(i:Int)) % 4)=some (.str o)∧o ∈ joinW:=by
      have r0:=Int.emod_nonneg (0+(i:Int)) (b:=4) (by decide)
      have r1:=Int.emod_lt_of_pos (0+(i:Int)) (b:=4) (by decide)
      have:(0+(i:Int)) % 4=0∨(0+(i:Int)) % 4=1∨(0+(i:Int)) % 4=2∨(0+(i:Int)) % 4=3:=by omega
      rcases this with h | h | h | h <;> (rw [h]; exact ⟨_,rfl,by decide +kernel⟩)
    refine ⟨l,_,_,_,rfl,rfl,SqL.of upd_same,ho,?_⟩
    refine ⟨_,rfl,_,rfl,(by show 2≤sizeLine; decide),fun b hb=>?_⟩
    have Gb:=Same.new hb (.tup [.str "is", .str x])
    refine ⟨(by show 3≤sizeLine; decide),fun c hc=>?_⟩
    have Gc:=Same.new hc (.tup [.str o,v,.ref b])
    refine ⟨_,.bin o t (.is x),_,rfl,.bin upd_same ((T.mono (keepT_same (Gl.trans Gb))).mono (keepT_same Gc)) (.is (Gc _ _ upd_same)),⟨om,tw,nx⟩,?_,?_,?_,S1.trans (Gl.trans (Gb.trans Gc))⟩
    · show t.names++[x]=_
      rw [tn,List.replicate_succ' (n:=i+1)]
    · show max t.depth 1+1≤i+1+1
      omega
    · show t.size+1+1≤2*(i+1)+1
      omega
  · rintro σ H1 ⟨v,t,x3,rfl,T,tw,tn,td,ts,S1⟩
    refine ⟨_,rfl,q v t H1 T tw ?_ (by omega) (by omega) S1⟩
    rw [tn]
    congr 1
    omega
theorem cutTo {xs:List V} {k:Nat}:cutV xs none (some (k:Int))=xs.take k:=by
  unfold cutV
  rw [HT.sIx_none,HT.sIx_nat,List.drop_zero,Nat.sub_zero]
  by_cases c:k≤xs.length
  · rw [Nat.min_eq_left c]
  · rw [Nat.min_eq_right (by omega),List.take_length,List.take_of_length_le (by omega)]
theorem cutFrom {xs:List V} {k:Nat}:cutV xs (some (k:Int)) none=xs.drop k:=by
  unfold cutV
  rw [HT.sIx_none,HT.sIx_nat]
  by_cases c:k≤xs.length
  · rw [Nat.min_eq_left c]
    exact List.take_of_length_le (by rw [List.length_drop]; exact Nat.le_refl _)
  · rw [Nat.min_eq_right (by omega),List.drop_length,List.drop_of_length_le (by omega),List.take_nil]
def Leaf (x:Str) (t t':Tr):Prop:=t'.wf∧x ∈ t'.names∧(∀ y ∈ t'.names,y=x∨y ∈ t.names)∧t'.depth≤t.depth∧t'.size≤t.size
def spLeaf (n:Nat):Sp:=fun vs H Q _=>∃ (f:Addr) (v:V) (t:Tr) (x:Str),vs=[.ref f,v,.str x]∧FeedAt H f∧TreeAt H v t∧t.wf∧t.depth≤n∧NmOk x∧∀ (v':V) (t':Tr) (H':Hp),TreeAt H' v' t'→Leaf x t t'→FeedAt H' f→SameBut f H H'→Q v' H'
theorem sc_l_spoilt_leaf:FnScope ["_law_feed_here", "_law_tree_here", "_law_stranger", "_law_at", "_law_part"] ["_law_feed_here", "_law_tree_here", "_law_stranger"] (defScope s_l_spoilt_leaf):=⟨rfl,rfl,rfl,by decide +kernel,rfl,by decide +kernel,by decide +kernel⟩
theorem yn_in:inV (.str "is") [.str "is", .str "yes", .str "no"]=true∧inV (.str "yes") [.str "is", .str "yes", .str "no"]=true∧inV (.str "no") [.str "is", .str "yes", .str "no"]=true∧inV (.str "not") [.str "is", .str "yes", .str "no"]=false:=by decide +kernel
theorem yn_out:∀ o ∈ joinW,inV (.str o) [.str "is", .str "yes", .str "no"]=false:=by decide +kernel
theorem lf_step {n:Nat} {f:Addr} {fd:FuncData} (F:Fun K "_law_spoilt_leaf" "_law_spoilt_leaf" s_l_spoilt_leaf f fd) (B:Bl mg) (C_l_take:Cal P w K mg base 1 "_law_take" ["_law_feed_here", "_law_many"] spTake) (C_l_leaf:Cal P w K mg base (n+2) "_law_spoilt_leaf" ["_law_feed_here", "_law_tree_here", "_law_stranger"] (spLeaf n)):FnOk P w K mg base CX0 (n+3) f fd ["_law_feed_here", "_law_tree_here", "_law_stranger"] (spLeaf (n+1)):=by
  refine F.ok sc_l_spoilt_leaf (fun vs H Q E h=>?_) (fun cdv A outer s H vs Q E hr h=>?_)
  · obtain ⟨f,v,t,x,rfl,_⟩:=h
    rfl
  obtain ⟨f,v,t,x,rfl,hF,T,tw,dn,nx,q⟩:=h
  refine ⟨_,(pss_cons (ps_if (pt_cmpR op_in_seq (pe_ix ix_tup (pv 1) pe_int (fun _ _=>rfl)) (pe_tup (pa_cons pe_str (pa_cons pe_str (pa_cons pe_str pa_nil)))) (by with_unfolding_all rfl)) (pss_one (ps_ret (pe_tup (pa_cons pe_str (pa_cons (pv 2) pa_nil))))) pss_nil)
      (pss_cons (ps_set (i:=3) sc_l_spoilt_leaf.nd rfl (Or.inl rfl) (pe_op op_add pe_int (pe_cal C_l_take hr (by omega) rfl (pa_cons (pv 0) (pa_cons (pe_op op_sub (pe_callB call_len_seq rfl B.len PySem.boot_len (pa_cons (pv 1) pa_nil)) pe_int) pa_nil)))))
      (pss_cons (ps_set (i:=4) sc_l_spoilt_leaf.nd rfl (Or.inl rfl) (pe_cal C_l_leaf hr (Nat.le_refl _) rfl (pa_cons (pv 0) (pa_cons (pe_ix ix_tup (pv 1) (pv 3) (fun _ _=>rfl)) (pa_cons (pv 2) pa_nil)))))
      (pss_cut (t':=fun D σ H1=>∃ (a:Addr) (xs:List V) (k:Nat) (part:V),σ=[some (.ref f),some (.ref a),some (.str x),some (.int (k:Int)),some part]∧H1 a=some (.tup xs)∧xs.length≤3∧k < xs.length∧∀ (c:Addr) (H':Hp),Same H1 H'→H' c=some (.tup (xs.take k++[part]++xs.drop (k+1)))→D.rt (.ref c) H')
        (pss_one (ps_ret (pe_op op_catS (pe_op op_catS (pe_slice sl_tupA (pv 1) po_none (po_some (pv 3))) (pe_tup (pa_cons (pv 4) pa_nil))) (pe_slice sl_tupA (pv 1) (po_some (pe_op op_add (pv 3) pe_int)) po_none)))) (by
          rintro D σ H1 ⟨a,xs,k,part,rfl,ha,x3,kx,qd⟩
          refine ⟨_,rfl,_,rfl,_,rfl,a,_,rfl,SqT.of ha,ha,fun c H2 S2 hc=>?_⟩
          rw [cutTo] at hc
          refine ⟨_,rfl,(by show 1≤sizeLine; decide),fun d hd=>?_⟩
          have Gd:=Same.new hd (.tup [part])
          refine ⟨c,d,_,_,rfl,rfl,Gd _ _ hc,upd_same,small (by rw [List.length_take,List.length_singleton]; omega),fun e H3 S3 he=>?_⟩
          have S13:=S2.trans (Gd.trans S3)
          refine ⟨_,rfl,_,rfl,_,_,rfl,rfl,_,rfl,a,_,rfl,SqT.of (S13 _ _ ha),S13 _ _ ha,fun g H4 S4 hg=>?_⟩
          have e1:cutV xs (some ((k:Int)+1)) none=xs.drop (k+1):=cutFrom (k:=k+1)
          rw [e1] at hg
          refine ⟨e,g,_,_,rfl,rfl,S4 _ _ he,hg,small (by rw [List.length_append,List.length_take,List.length_singleton,List.length_drop]; omega),fun h H5 S5 hh=>?_⟩
          exact qd h H5 (S13.trans (S4.trans S5)) hh))))),?_⟩
  have leaf:∀ {H1:Hp},Same H H1→1≤t.depth→1≤t.size→∀ c,H1 c=none→Q (.ref c) (upd H1 c (.tup [.str "is", .str x])):=fun {H1} S d1 s1 c hc =>
    q _ (.is x) _ (.is upd_same) ⟨nx,by simp [Tr.names],fun y hy=>.inl (by simpa [Tr.names] using hy),d1,s1⟩ (hF.same (S.trans (Same.new hc _))) (SameBut.of (S.trans (Same.new hc _)))
  cases T with
  | @is a y e =>
    refine ⟨_,rfl,a,_,0,_,rfl,rfl,SqT.of e,rfl,(by show 3≤sizeLine; decide),fun tp htp=>?_⟩
    refine ⟨tp,_,rfl,.inr (SqT.of upd_same),rfl,rfl,_,rfl,?_⟩
    show if inV (.str "is") [.str "is", .str "yes", .str "no"]=true then _ else _
    rw [yn_in.1]
    exact iteT ⟨_,rfl,(by show 2≤sizeLine; decide),fun c hc=>leaf (Same.new htp _) (Nat.le_refl _) (Nat.le_refl _) c hc⟩
  | @yes a e =>
    refine ⟨_,rfl,a,_,0,_,rfl,rfl,SqT.of e,rfl,(by show 3≤sizeLine; decide),fun tp htp=>?_⟩
    refine ⟨tp,_,rfl,.inr (SqT.of upd_same),rfl,rfl,_,rfl,?_⟩
    show if inV (.str "yes") [.str "is", .str "yes", .str "no"]=true then _ else _
    rw [yn_in.2.1]
    exact iteT ⟨_,rfl,(by show 2≤sizeLine; decide),fun c hc=>leaf (Same.new htp _) (Nat.le_refl _) (Nat.le_refl _) c hc⟩
  | @no a e =>
    refine ⟨_,rfl,a,_,0,_,rfl,rfl,SqT.of e,rfl,(by show 3≤sizeLine; decide),fun tp htp=>?_⟩
    refine ⟨tp,_,rfl,.inr (SqT.of upd_same),rfl,rfl,_,rfl,?_⟩
    show if inV (.str "no") [.str "is", .str "yes", .str "no"]=true then _ else _
    rw [yn_in.2.2.1]
    exact iteT ⟨_,rfl,(by show 2≤sizeLine; decide),fun c hc=>leaf (Same.new htp _) (Nat.le_refl _) (Nat.le_refl _) c hc⟩
  | @not a u r e g =>
    have dr:r.depth≤n:=Nat.le_of_succ_le_succ dn
    refine ⟨_,rfl,a,_,0,_,rfl,rfl,SqT.of e,rfl,(by show 3≤sizeLine; decide),fun tp htp=>?_⟩
    refine ⟨tp,_,rfl,.inr (SqT.of upd_same),rfl,rfl,_,rfl,?_⟩
    show if inV (.str "not") [.str "is", .str "yes", .str "no"]=true then _ else _
    rw [yn_in.2.2.2]
    refine iteF ?_
    have G1:=Same.new htp (.tup [.str "is", .str "yes", .str "no"])
    generalize upd H tp (.tup [.str "is", .str "yes", .str "no"])=H1 at G1
    refine ⟨_,rfl,_,rfl,a,_,rfl,.inr (SqT.of (G1 _ _ e)),_,_,rfl,rfl,f,_,rfl,hF.same G1,(by show (0:Int) < 1; decide),(by show (1:Int) < _; decide),fun d H2 d0 d1 F2 S2=>?_⟩
    have d00:d=0:=by
      have:d < (2:Int) - 1:=d1
      omega
    subst d00
    have k2:=keepT_feed (hF.same G1) S2
    have e2:=k2 _ _ (G1 _ _ e)
    refine ⟨_,_,rfl,rfl,?_⟩
    refine ⟨_,rfl,_,rfl,_,rfl,a,_,_,u,rfl,rfl,SqT.of e2,rfl,_,rfl,f,u,r,x,rfl,F2,(g.mono (keepT_same G1)).mono k2,tw,dr,nx,fun v' t' H3 T3 L3 F3 S3=>?_⟩
    have e3:=keepT_feed F2 S3 _ _ e2
    refine ⟨a,[.str "not", u],1,v',rfl,e3,by simp,by simp,fun c H' S' hc=>?_⟩
    obtain ⟨w',i',n',dd,ss⟩:=L3
    exact q _ (.not t') H' (.not hc (T3.mono (keepT_same S'))) ⟨w',i',n',Nat.succ_le_succ dd,Nat.succ_le_succ ss⟩ (F3.same S') ((SameBut.of G1).trans (S2.trans (S3.trans (SameBut.of S'))))
  | @bin a o u u2 r r2 e g g2 =>
    obtain ⟨oj,w1,w2⟩:=tw
    have dd:r.depth≤n∧r2.depth≤n:=by
      have:max r.depth r2.depth+1≤n+1:=dn
      omega
    refine ⟨_,rfl,a,_,0,_,rfl,rfl,SqT.of e,rfl,(by show 3≤sizeLine; decide),fun tp htp=>?_⟩
    refine ⟨tp,_,rfl,.inr (SqT.of upd_same),rfl,rfl,_,rfl,?_⟩
    show if inV (.str o) [.str "is", .str "yes", .str "no"]=true then _ else _
    rw [yn_out o oj]
    refine iteF ?_
    have G1:=Same.new htp (.tup [.str "is", .str "yes", .str "no"])
    generalize upd H tp (.tup [.str "is", .str "yes", .str "no"])=H1 at G1
    refine ⟨_,rfl,_,rfl,a,_,rfl,.inr (SqT.of (G1 _ _ e)),_,_,rfl,rfl,f,_,rfl,hF.same G1,(by show (0:Int) < 2; decide),(by show (2:Int) < _; decide),fun d H2 d0 d1 F2 S2=>?_⟩
    have k2:=keepT_feed (hF.same G1) S2
    have e2:=k2 _ _ (G1 _ _ e)
    have d01:d=0∨d=1:=by
      have:d < (3:Int) - 1:=d1
      omega
    refine ⟨_,_,rfl,rfl,?_⟩
    rcases d01 with rfl | rfl
    · refine ⟨_,rfl,_,rfl,_,rfl,a,_,_,u,rfl,rfl,SqT.of e2,rfl,_,rfl,f,u,r,x,rfl,F2,(g.mono (keepT_same G1)).mono k2,w1,dd.1,nx,fun v' t' H3 T3 L3 F3 S3=>?_⟩
      have k3:=keepT_feed F2 S3
      refine ⟨a,[.str o,u,u2],1,v',rfl,k3 _ _ e2,by simp,by simp,fun c H' S' hc=>?_⟩
      obtain ⟨w',i',n',d',s'⟩:=L3
      refine q _ (.bin o t' r2) H' (.bin hc (T3.mono (keepT_same S')) ((((g2.mono (keepT_same G1)).mono k2).mono k3).mono (keepT_same S'))) ⟨⟨oj,w',w2⟩,List.mem_append_left _ i',fun y hy=>?_,?_,?_⟩ (F3.same S') ((SameBut.of G1).trans (S2.trans (S3.trans (SameBut.of S'))))
      · rcases List.mem_append.mp hy with h | h
        · exact (n' y h).imp id (List.mem_append_left _)
        · exact .inr (List.mem_append_right _ h)
      · show max t'.depth r2.depth+1≤max r.depth r2.depth+1
        omega
      · show t'.size+r2.size+1≤r.size+r2.size+1
        omega
    · refine ⟨_,rfl,_,rfl,_,rfl,a,_,_,u2,rfl,rfl,SqT.of e2,rfl,_,rfl,f,u2,r2,x,rfl,F2,(g2.mono (keepT_same G1)).mono k2,w2,dd.2,nx,fun v' t' H3 T3 L3 F3 S3=>?_⟩
      have k3:=keepT_feed F2 S3
      refine ⟨a,[.str o,u,u2],2,v',rfl,k3 _ _ e2,by simp,by simp,fun c H' S' hc=>?_⟩
      obtain ⟨w',i',n',d',s'⟩:=L3
      refine q _ (.bin o r t') H' (.bin hc ((((g.mono (keepT_same G1)).mono k2).mono k3).mono (keepT_same S')) (T3.mono (keepT_same S'))) ⟨⟨oj,w1,w'⟩,List.mem_append_right _ i',fun y hy=>?_,?_,?_⟩ (F3.same S') ((SameBut.of G1).trans (S2.trans (S3.trans (SameBut.of S'))))
      · rcases List.mem_append.mp hy with h | h
        · exact .inr (List.mem_append_left _ h)
        · exact (n' y h).imp id (List.mem_append_right _)
      · show max r.depth t'.depth+1≤max r.depth r2.depth+1
        omega
      · show r.size+t'.size+1≤r.size+r2.size+1
        omega
theorem lf_zero {f:Addr} {fd:FuncData}:FnOk P w K mg base CX0 2 f fd ["_law_feed_here", "_law_tree_here", "_law_stranger"] (spLeaf 0):=by
  have no:∀ vs H Q E,¬ spLeaf 0 vs H Q E:=fun vs H Q E h=>by
    obtain ⟨f,v,t,x,_,_,_,_,h1,_⟩:=h
    have:=t.depth_pos
    omega
  exact ⟨fun vs H Q E h=>absurd h (no vs H Q E),fun A outer s H args us vs Q E _ _ _ _ h=>absurd h (no vs H Q E)⟩
theorem ok_l_spoilt_leaf {f:Addr} {fd:FuncData} (F:Fun K "_law_spoilt_leaf" "_law_spoilt_leaf" s_l_spoilt_leaf f fd) (B:Bl mg) (m:mg "_law_spoilt_leaf" = some (.ref f)) (C_l_take:Cal P w K mg base 1 "_law_take" ["_law_feed_here", "_law_many"] spTake) :
    ∀ n:Nat,FnOk P w K mg base CX0 (n+2) f fd ["_law_feed_here", "_law_tree_here", "_law_stranger"] (spLeaf n)
  | 0=>lf_zero
  | n+1=>lf_step F B C_l_take (Cal.of F (ok_l_spoilt_leaf F B m C_l_take n) m (fun _ _ _ _ _ _ us hl=>by obtain ⟨u0,u1,u2,rfl⟩:=len3 hl; rfl))
theorem stray_hit {ns l r:List Str} {x:Str} (hx:x ∉ ns) (hm:x ∈ l) (h:∀ y ∈ l,y=x∨y ∈ ns):strayL ns (l++r)=some x:=by
  induction l with
  | nil=>cases hm
  | cons a l ih =>
    unfold strayL
    by_cases c:a=x
    · subst c
      rw [List.cons_append,List.find?_cons_of_pos (by simp [hx])]
    · have an:a ∈ ns:=(h a List.mem_cons_self).resolve_left c
      rw [List.cons_append,List.find?_cons_of_neg (by simp [an])]
      refine ih ?_ fun y hy=>h y (List.mem_cons_of_mem _ hy)
      rcases List.mem_cons.mp hm with e | e
      · exact absurd e.symm c
      · exact e
theorem stray_skip {ns l r:List Str} (h:∀ y ∈ l,y ∈ ns):strayL ns (l++r)=strayL ns r:=by
  induction l with
  | nil=>rfl
  | cons a l ih =>
    have an:=h a List.mem_cons_self
    unfold strayL
    rw [List.cons_append,List.find?_cons_of_neg (by simp [an])]
    exact ih fun y hy=>h y (List.mem_cons_of_mem _ hy)
theorem stray_none {ns:List Str} {ts:List Tr} (h:∀ t ∈ ts,t.ok ns):strayOf ns ts=none:=by
  unfold strayOf strayL
  rw [List.find?_eq_none]
  intro x hx
  obtain ⟨t,ht,hxt⟩:=List.mem_flatMap.mp hx
  simp [names_ok t (h t ht) x hxt]
theorem dupF_none:∀ {l seen:List Str},l.Nodup→(∀ x ∈ l,x ∉ seen)→dupF seen l=none
  | [],_,_,_=>rfl
  | a::r,seen,nd,h=>by
    unfold dupF
    rw [if_neg (h a List.mem_cons_self)]
    have nd':=List.nodup_cons.mp nd
    refine dupF_none nd'.2 fun x hx hm=>?_
    rcases List.mem_append.mp hm with e | e
    · exact h x (List.mem_cons_of_mem _ hx) e
    · have:x=a:=by simpa using e
      subst this
      exact nd'.1 hx
theorem dup_none {ns:List Str} (nd:ns.Nodup):dupOf ns=none:=dupF_none nd fun _ _ h=>by cases h
def againL (seen:List Str):List Str→Nat→List Nat
  | [],_=>[]
  | x::r,i=>if x ∈ seen then i::againL (seen++[x]) r (i+1) else againL (seen++[x]) r (i+1)
theorem dupF_nodup:∀ {l seen:List Str},dupF seen l=none→l.Nodup∧∀ x ∈ l,x ∉ seen
  | [],_,_=>⟨List.nodup_nil,fun _ h=>by cases h⟩
  | a::r,seen,h=>by
    unfold dupF at h
    by_cases c:a ∈ seen
    · rw [if_pos c] at h
      cases h
    · rw [if_neg c] at h
      obtain ⟨n1,n2⟩:=dupF_nodup h
      refine ⟨List.nodup_cons.mpr ⟨fun hm=>n2 a hm (by simp),n1⟩,fun x hx=>?_⟩
      rcases List.mem_cons.mp hx with rfl | hx
      · exact c
      · exact fun hs=>n2 x hx (List.mem_append_left _ hs)
theorem field3:FieldOk 3∧FieldOk 5:=by
  refine ⟨⟨by decide,⟨by decide,fun k h1 h2 h3=>?_⟩,by decide⟩,⟨by decide,⟨by decide,fun k h1 h2 h3=>?_⟩,by decide⟩⟩
  · exfalso
    have:2*2≤k*k:=Int.mul_le_mul h1 h1 (by decide) (by omega)
    omega
  · have h4:k < 3:=by
      apply Int.not_le.mp
      intro h
      have:3*3≤k*k:=Int.mul_le_mul h h (by decide) (by omega)
      omega
    have:k=2:=by omega
    subst this
    decide
theorem nofield {p:Int} (h:p≤2∨1000000≤p∨∃ k,2≤k∧k≤1000∧k*k≤p∧p % k=0):¬ FieldOk p:=by
  rintro ⟨h1,h2,h3⟩
  rcases h with h | h | ⟨k,k1,k2,k3,k4⟩
  · omega
  · omega
  · exact h2.2 k k1 k2 k3 k4
theorem op_in_seqK {X:Cx} (K:PySem.W.Frag) (hK:X.K=K:=by rfl):OpR X (compareOp .In) (rIn K false):=by subst hK; exact op_in_seq
def DuesOk (H:Hp) (ds:List V) (ns:List Str) (ts:List Tr) (p:Int):Prop:=ds=[]∨∃ c rest k v,ds=V.ref c::rest∧H c=some (.tup [.str (wrd k),v])∧Verd ns ts p k v
theorem DuesOk.keep {H H':Hp} {ds:List V} {ns:List Str} {ts:List Tr} {p:Int} (h:DuesOk H ds ns ts p) (k:KeepT H H'):DuesOk H' ds ns ts p:=by
  rcases h with h | ⟨c,r,k0,v,e,hc,vd⟩
  · exact .inl h
  · exact .inr ⟨c,r,k0,v,e,k _ _ hc,vd⟩
def SmV (v:V):Prop:=(∃ n:Int,v=.int n)∨∃ x:Str,v=.str x∧NmOk x
def DueV (H:Hp) (d:V):Prop:=∃ c k v,d=V.ref c∧H c=some (.tup [.str (wrd k),v])∧SmV v
theorem DueV.keep {H H':Hp} {d:V} (h:DueV H d) (k:KeepT H H'):DueV H' d:=by
  obtain ⟨c,k0,v,e,hc,sv⟩:=h
  exact ⟨c,k0,v,e,k _ _ hc,sv⟩
structure W25 (H0:Hp) (f fl:Addr) (fs:List Int) (H:Hp) (a b L:Addr) (ns:List Str) (tv:List V) (ts:List Tr) (p:Int) (ds:List V):Prop where
  ha:H a=some (.tup (ns.map V.str))
  hb:H b=some (.tup tv)
  T:TreesAt H tv ts
  hL:H L=some (.lst ds)
  L0:H0 L=none
  Lf:L ≠ f
  Lfl:L ≠ fl
  dl:ds.length≤5
  F:FeedAt H f
  S:SameBut f H0 H
  hf:H fl=some (.lst (fs.map V.int))
  flf:fl ≠ f
  t1:1≤ts.length
  t4:ts.length≤4
  n4:ns.length≤10
  nn:∀ x ∈ ns,NmK x
  p0:0≤p
  p12:p < 1000000000000
  wf:∀ t ∈ ts,t.wf∧t.depth≤10∧t.size≤400
  al:∀ d ∈ ds,DueV H d
def Sp25 (H0:Hp) (f fl:Addr) (fs:List Int) (H:Hp) (a b L:Addr) (ns:List Str) (tv:List V) (ts:List Tr) (p:Int) (ds:List V):Prop:=W25 H0 f fl fs H a b L ns tv ts p ds∧DuesOk H ds ns ts p
section
variable {H0 H H':Hp} {f fl a b L:Addr} {fs:List Int} {ns:List Str} {tv:List V} {ts:List Tr} {p:Int} {ds:List V}
theorem W25.same (W:W25 H0 f fl fs H a b L ns tv ts p ds) (G:Same H H'):W25 H0 f fl fs H' a b L ns tv ts p ds :=
  ⟨G _ _ W.ha,G _ _ W.hb,W.T.mono (keepT_same G),G _ _ W.hL,W.L0,W.Lf,W.Lfl,W.dl,W.F.same G,W.S.trans (SameBut.of G),G _ _ W.hf,W.flf,W.t1,W.t4,W.n4,W.nn,W.p0,W.p12,W.wf,fun d hd=>(W.al d hd).keep (keepT_same G)⟩
theorem W25.feed (W:W25 H0 f fl fs H a b L ns tv ts p ds) (F:FeedAt H' f) (S:SameBut f H H'):W25 H0 f fl fs H' a b L ns tv ts p ds :=
  have k:=keepT_feed W.F S
  ⟨k _ _ W.ha,k _ _ W.hb,W.T.mono k,S _ _ W.Lf W.hL,W.L0,W.Lf,W.Lfl,W.dl,F,W.S.trans S,S _ _ W.flf W.hf,W.flf,W.t1,W.t4,W.n4,W.nn,W.p0,W.p12,W.wf,fun d hd=>(W.al d hd).keep k⟩
theorem W25.put (W:W25 H0 f fl fs H a b L ns tv ts p ds) {c:V} (d:ds.length≤4) (hv:DueV H c):W25 H0 f fl fs (upd H L (.lst (c::ds))) a b L ns tv ts p (c::ds):=by
  have k:KeepT H (upd H L (.lst (c::ds))):=keepT_lst W.hL
  exact ⟨k _ _ W.ha,k _ _ W.hb,W.T.mono k,upd_same,W.L0,W.Lf,W.Lfl,by rw [List.length_cons]; omega,feed_upd W.F W.Lf,fun x o hx e=>by rw [upd_ne (ne_of_none e W.L0)]; exact W.S x o hx e,by rw [upd_ne (Ne.symm W.Lfl)]; exact W.hf,W.flf,W.t1,W.t4,W.n4,W.nn,W.p0,W.p12,W.wf,fun d hd=>by
    rcases List.mem_cons.mp hd with rfl | h
    · exact hv.keep k
    · exact (W.al d h).keep k⟩
theorem W25.put' (W:W25 H0 f fl fs H a b L ns tv ts p ds) {c:Addr} {k:Nat} {v:V} (d:ds.length≤4) (hc:H c=some (.tup [.str (wrd k),v])) (vd:Verd ns ts p k v) (sv:SmV v):Sp25 H0 f fl fs (upd H L (.lst (.ref c::ds))) a b L ns tv ts p (.ref c::ds) :=
  ⟨W.put d ⟨c,k,v,rfl,hc,sv⟩,.inr ⟨c,ds,k,v,rfl,keepT_lst W.hL _ _ hc,vd⟩⟩
theorem W25.keepF (W:W25 H0 f fl fs H a b L ns tv ts p ds) (S:SameBut f H H'):KeepT H H':=keepT_feed W.F S
theorem flat_intsV (fs:List Int):(fs.map V.int).all flatV=true:=by
  rw [List.all_map]
  exact List.all_eq_true.mpr fun _ _=>rfl
theorem dup_skip {ns:List Str}:∀ i,i≤ns.length→(∀ j x,j < i→ns[j]?=some x→x ∉ ns.take j)→dupF (ns.take i) (ns.drop i)=dupOf ns
  | 0,_,_=>rfl
  | i+1,hi,h=>by
    have ih:=dup_skip i (by omega) fun j x hj=>h j x (by omega)
    have hi':i < ns.length:=by omega
    rw [List.drop_eq_getElem_cons hi'] at ih
    have hn:=h i ns[i] (by omega) (List.getElem?_eq_getElem hi')
    rw [← ih]
    show _=if ns[i] ∈ ns.take i then some ns[i] else _
    rw [if_neg hn,List.take_add_one,List.getElem?_eq_getElem hi']
    rfl
theorem dup_hit {ns:List Str} {k:Nat} {x:Str} (hx:ns[k]?=some x) (hm:x ∈ ns.take k) (h:∀ j y,j < k→ns[j]?=some y→y ∉ ns.take j):dupOf ns=some x:=by
  obtain ⟨hk1,hk2⟩:=List.getElem?_eq_some_iff.mp hx
  rw [← dup_skip k (by omega) h,List.drop_eq_getElem_cons hk1,hk2]
  show (if x ∈ ns.take k then some x else _)=_
  rw [if_pos hm]
theorem dup_nodup {ns:List Str} (h:∀ j x,j < ns.length→ns[j]?=some x→x ∉ ns.take j):ns.Nodup:=by
  have:=dup_skip ns.length (Nat.le_refl _) h
  rw [List.drop_length] at this
  exact (dupF_nodup (seen:=[]) (this.symm.trans rfl)).1
theorem ins_dup {ns:List Str} {x:Str} (k:Nat) (h:x ∈ ns):¬ (ns.take k++[x]++ns.drop k).Nodup:=by
  intro nd
  have nd':=List.nodup_append.mp nd
  rw [← List.take_append_drop k ns] at h
  rcases List.mem_append.mp h with h1 | h1
  · have n2:=List.nodup_append.mp nd'.1
    exact n2.2.2 x h1 x (by simp) rfl
  · exact nd'.2.2 x (by simp) x h1 rfl
end
structure Cl25 (ns:List Str) (ts:List Tr):Prop where
  nd:ns.Nodup
  n6:ns.length≤6
  ok:∀ t ∈ ts,t.ok ns∧t.depth≤9∧t.size≤30
theorem cutLast {xs:List V} (v:V):cutV (xs++[v]) none (some (-1))=xs:=by
  unfold cutV
  rw [HT.sIx_none]
  have e:HT.sIx (xs++[v]).length (xs++[v]).length (some (-1))=xs.length:=by
    show (if (-1:Int) < 0 then ((-1:Int)+((xs++[v]).length:Int)).toNat else min (-1:Int).toNat (xs++[v]).length)=_
    rw [if_pos (by decide),List.length_append,List.length_singleton]
    omega
  rw [e,List.drop_zero,Nat.sub_zero]
  simp
theorem TreesAt.snoc {H:Hp}:∀ {vs:List V} {ts:List Tr} {v:V},TreesAt H (vs++[v]) ts→∃ us t,ts=us++[t]∧TreesAt H vs us∧TreeAt H v t
  | [],_,_,.cons h .nil=>⟨[],_,rfl,.nil,h⟩
  | _::vs,_,_,.cons h r=>by
    obtain ⟨us,t,e,h1,h2⟩:=TreesAt.snoc (vs:=vs) r
    exact ⟨_::us,t,by rw [e]; rfl,.cons h h1,h2⟩
theorem fm_last (us:List Tr) (t:Tr) (x:Str):(us++[Tr.bin "and" t (.not (.is x))]).flatMap Tr.names=(us++[t]).flatMap Tr.names++[x]:=by
  rw [List.flatMap_append,List.flatMap_append]
  show _++((t.names++[x])++[])=(_++(t.names++[]))++[x]
  simp
theorem small_eq {ns:List Str} {ts:List Tr} {m:Int} (ts0:ts ≠ []) (mt:(ts.length:Int)≤m+1) (mc:∀ t ∈ ts,∀ x ∈ ns,(t.names.count x:Int)≤m) (ma:Att ts ns m) {x:Str} {t:Tr} (hx:x ∈ ns) (ht:t ∈ ts) (h3:3≤t.names.count x) :
    maxD [(ts.length:Int) - 1,m] 0=maxD (ns.map (degOf ts)++[(ts.length:Int) - 1]) 0∧(t.names.count x:Int)≤maxD (ns.map (degOf ts)++[(ts.length:Int) - 1]) 0:=by
  have deg:∀ {y:Str} {u:Tr},y ∈ ns→u ∈ ts→(u.names.count y:Int)≤maxD (ns.map (degOf ts)++[(ts.length:Int) - 1]) 0:=fun {y u} hy hu=>by
    have h1:(u.names.count y:Int)≤degOf ts y:=maxD_ge (List.mem_map.mpr ⟨u,hu,rfl⟩)
    have h2:degOf ts y≤maxD (ns.map (degOf ts)++[(ts.length:Int) - 1]) 0:=maxD_ge (List.mem_append_left _ (List.mem_map.mpr ⟨y,hy,rfl⟩))
    omega
  have hM:=deg hx ht
  have hl:(ts.length:Int) - 1≤maxD (ns.map (degOf ts)++[(ts.length:Int) - 1]) 0:=maxD_ge (by simp)
  refine ⟨?_,hM⟩
  have a1:maxD [(ts.length:Int) - 1,m] 0≤maxD (ns.map (degOf ts)++[(ts.length:Int) - 1]) 0:=by
    have h:=maxD_mem (ns:=[(ts.length:Int) - 1,m]) (by simp)
    simp only [List.mem_cons,List.not_mem_nil,or_false] at h
    rcases h with h | h
    · rw [h]; exact hl
    · rw [h]
      rcases ma with e | e | ⟨u,hu,y,hy,e⟩
      · omega
      · omega
      · rw [e]; exact deg hy hu
  have a2:maxD (ns.map (degOf ts)++[(ts.length:Int) - 1]) 0≤maxD [(ts.length:Int) - 1,m] 0:=by
    have b1:(ts.length:Int) - 1≤maxD [(ts.length:Int) - 1,m] 0:=maxD_ge (by simp)
    have b2:m≤maxD [(ts.length:Int) - 1,m] 0:=maxD_ge (by simp)
    rcases List.mem_append.mp (maxD_mem (ns:=ns.map (degOf ts)++[(ts.length:Int) - 1]) (by simp)) with h | h
    · obtain ⟨y,hy,e⟩:=List.mem_map.mp h
      rw [← e]
      obtain ⟨u,hu,e2⟩:=List.mem_map.mp (maxD_mem (ns:=ts.map fun t=>(t.names.count y:Int)) (by simpa using ts0))
      have:degOf ts y=(u.names.count y:Int):=e2.symm
      have:=mc u hu y hy
      omega
    · rw [List.mem_singleton.mp h]
      exact b1
  omega
def spSpoilt:Sp:=fun vs H Q _=>∃ (f g a b fl:Addr) (ns:List Str) (tv:List V) (ts:List Tr) (p:Int) (fs:List Int),vs=[.ref f,.ref g,.ref fl]∧FeedAt H f∧H g=some (.tup [.ref a,.ref b,.int p])∧H a=some (.tup (ns.map V.str))∧H b=some (.tup tv)∧TreesAt H tv ts∧H fl=some (.lst (fs.map V.int))∧fl ≠ f∧fs.length=2 ∧
  1≤ts.length∧ts.length≤4∧ns.length≤6∧(∀ x ∈ ns,NmK x)∧Cl25 ns ts∧0≤p∧p < 1000000 ∧
  ∀ (r s a' b' L:Addr) (ns':List Str) (tv':List V) (ts':List Tr) (p':Int) (ds:List V) (H':Hp),Sp25 H f fl fs H' a' b' L ns' tv' ts' p' ds→H' s=some (.tup [.ref a',.ref b',.int p'])→H' r=some (.tup [.ref s,.ref L])→Q (.ref r) H'
theorem sc_l_spoilt:FnScope ["_law_feed_here", "_law_game_here", "_law_forms", "_law_switches", "_law_trees", "_law_p", "_law_dues", "_law_many", "_law_at", "_law_name", "_law_some", "_law_first", "_law_other", "_law_spoilt_here", "_law_turn", "_law_again"] ["_law_feed_here", "_law_game_here", "_law_forms"] (defScope s_l_spoilt):=⟨rfl,rfl,rfl,by decide +kernel,rfl,by decide +kernel,by decide +kernel⟩
theorem ok_l_spoilt {f:Addr} {fd:FuncData} (F:Fun K "_law_spoilt" "_law_spoilt" s_l_spoilt f fd) (B:Bl mg) (C_l_take:Cal P w K mg base 1 "_law_take" ["_law_feed_here", "_law_many"] spTake) (C_l_often:Cal P w K mg base 1 "_law_often" ["_law_name", "_law_many"] spOften) (C_l_need:Cal P w K mg base 13 "_law_need" ["_law_names_here", "_law_trees"] spNeed) (C_l_leaf:Cal P w K mg base 12 "_law_spoilt_leaf" ["_law_feed_here", "_law_tree_here", "_law_stranger"] (spLeaf 10)):FnOk P w K mg base CX0 14 f fd ["_law_feed_here", "_law_game_here", "_law_forms"] spSpoilt:=by
  refine F.ok sc_l_spoilt (fun vs H Q E h=>?_) (fun cdv A outer s H vs Q E hr h=>?_)
  · obtain ⟨f,g,a,b,fl,ns,tv,ts,p,fs,rfl,_⟩:=h
    rfl
  obtain ⟨f,g,a0,b0,fl,ns0,tv0,ts0,p0,fs,rfl,hF,hg,ha0,hb0,TS0,hfl,flf,fsl,t1,t4,n6,nk,cl,pp0,pp6,q⟩:=h
  refine ⟨_,(pss_cons (ps_asg (pv 1) (pg_tup rfl (pgs_cons (pg_name (i:=3) sc_l_spoilt.nd rfl (by first | exact Or.inl rfl | exact Or.inr rfl)) (pgs_cons (pg_name (i:=4) sc_l_spoilt.nd rfl (Or.inl rfl)) (pgs_cons (pg_name (i:=5) sc_l_spoilt.nd rfl (Or.inl rfl)) pgs_nil)))))
      (pss_cons (ps_set (i:=6) sc_l_spoilt.nd rfl (Or.inl rfl) (pe_lst pa_nil))
      (pss_cons (ps_if (PW.pt (pw_and (pt_cmpR op_in_seq pe_int (pv 2) (by with_unfolding_all rfl)) (pw_and1 (pt_cmpR op_gt (pe_callB call_len_seq rfl B.len PySem.boot_len (pa_cons (pv 3) pa_nil)) pe_int (nomark _))))) (pss_cons (ps_set (i:=7) sc_l_spoilt.nd rfl (Or.inl rfl) (pe_op op_add pe_int (pe_cal C_l_take hr (by decide) rfl (pa_cons (pv 0) (pa_cons pe_int pa_nil)))))
        (pss_cons (ps_set (i:=8) sc_l_spoilt.nd rfl (Or.inl rfl) (pe_cal C_l_take hr (by decide) rfl (pa_cons (pv 0) (pa_cons (pe_callB call_len_seq rfl B.len PySem.boot_len (pa_cons (pv 4) pa_nil)) pa_nil))))
        (pss_cons (ps_set (i:=9) sc_l_spoilt.nd rfl (Or.inl rfl) (pe_ix ix_tup (pv 3) (pe_cal C_l_take hr (by decide) rfl (pa_cons (pv 0) (pa_cons (pe_callB call_len_seq rfl B.len PySem.boot_len (pa_cons (pv 3) pa_nil)) pa_nil))) (fun _ _=>rfl)))
        (pss_cons (ps_set (i:=4) sc_l_spoilt.nd rfl (Or.inl rfl) (pe_op op_catS (pe_op op_catS (pe_slice sl_tupA (pv 4) po_none (po_some (pv 8))) (pe_tup (pa_cons (pe_cal C_l_often hr (by decide) rfl (pa_cons (pv 9) (pa_cons (pv 7) pa_nil))) pa_nil))) (pe_slice sl_tupA (pv 4) (po_some (pe_op op_add (pv 8) pe_int)) po_none)))
        (pss_cons (ps_set (i:=5) sc_l_spoilt.nd rfl (Or.inl rfl) (pe_ix ix_list (pe_lst (pa_cons pe_int (pa_cons pe_int pa_nil))) (pe_callTy call_int1 rfl B.int boot_int' (pa_cons (pe_cmpR op_gt (pv 7) pe_int (nomark _)) pa_nil)) (fun _ _=>rfl)))
        (pss_one (ps_set (i:=6) sc_l_spoilt.nd rfl (Or.inl rfl) (pe_lst (pa_cons (pe_tup (pa_cons pe_str (pa_cons (pe_callB (call_max1 rfl) rfl B.max PyProof.Rows.boot_max (pa_cons (pe_lst (pa_cons (pe_op op_sub (pe_callB call_len_seq rfl B.len PySem.boot_len (pa_cons (pv 4) pa_nil)) pe_int) (pa_cons (pe_cal C_l_need hr (by decide) rfl (pa_cons (pv 3) (pa_cons (pv 4) pa_nil))) pa_nil))) pa_nil)) pa_nil))) pa_nil))))))))) pss_nil)
      (pss_cut (t':=fun D σ H'=>∃ (a b L:Addr) (ns:List Str) (tv:List V) (ts:List Tr) (p:Int) (ds:List V) (x7 x8 x9:Option V),σ=[some (.ref f),some (.ref g),some (.ref fl),some (.ref a),some (.ref b),some (.int p),some (.ref L),x7,x8,x9,none,none,none,none,none,none]∧Sp25 H f fl fs H' a b L ns tv ts p ds∧Cl25 ns ts∧ds.length≤2 ∧
          ∀ (r s a' b' L:Addr) (ns':List Str) (tv':List V) (ts':List Tr) (p':Int) (ds:List V) (H'':Hp),Sp25 H f fl fs H'' a' b' L ns' tv' ts' p' ds→H'' s=some (.tup [.ref a',.ref b',.int p'])→H'' r=some (.tup [.ref s,.ref L])→D.rt (.ref r) H'')
      (pss_cons (ps_if (pt_cmpR op_in_seq pe_int (pv 2) (by with_unfolding_all rfl)) (pss_cons (ps_set (i:=10) sc_l_spoilt.nd rfl (Or.inl rfl) (pe_lst (pa_cons pe_int (pa_cons pe_int (pa_cons pe_int (pa_cons (pe_op op_add pe_int (pe_op op_mul pe_int (pe_cal C_l_take hr (by decide) rfl (pa_cons (pv 0) (pa_cons pe_int pa_nil))))) (pa_cons pe_int (pa_cons pe_int (pa_cons pe_int (pa_cons pe_int pa_nil))))))))))
        (pss_cons (ps_set (i:=5) sc_l_spoilt.nd rfl (Or.inl rfl) (pe_ix ix_list (pe_op op_cat (pv 10) (pe_lst (pa_cons pe_int (pa_cons pe_int (pa_cons pe_int (pa_cons pe_int (pa_cons pe_int (pa_cons pe_int pa_nil)))))))) (pe_cal C_l_take hr (by decide) rfl (pa_cons (pv 0) (pa_cons pe_int pa_nil))) (fun _ _=>rfl)))
        (pss_one (ps_expr (pe_bm PySem.F.plainAttrs_list PySem.F.slot_list_insert PySem.F.type_list_insert mt_insert (pv 6) (pa_cons pe_int (pa_cons (pe_tup (pa_cons pe_str (pa_cons (pv 5) pa_nil))) pa_nil))))))) pss_nil)
      (pss_cut (t':=fun D σ H'=>∃ (a b L:Addr) (ns:List Str) (tv:List V) (ts:List Tr) (p:Int) (ds:List V) (x7 x8 x9 x10:Option V),σ=[some (.ref f),some (.ref g),some (.ref fl),some (.ref a),some (.ref b),some (.int p),some (.ref L),x7,x8,x9,x10,none,none,none,none,none]∧Sp25 H f fl fs H' a b L ns tv ts p ds∧Cl25 ns ts∧ds.length≤3 ∧
          ∀ (r s a' b' L:Addr) (ns':List Str) (tv':List V) (ts':List Tr) (p':Int) (ds:List V) (H'':Hp),Sp25 H f fl fs H'' a' b' L ns' tv' ts' p' ds→H'' s=some (.tup [.ref a',.ref b',.int p'])→H'' r=some (.tup [.ref s,.ref L])→D.rt (.ref r) H'')
      (pss_cons (ps_if (pt_cmpR op_in_seq pe_int (pv 2) (by with_unfolding_all rfl)) (pss_cons (ps_set (i:=8) sc_l_spoilt.nd rfl (Or.inl rfl) (pe_cal C_l_take hr (by decide) rfl (pa_cons (pv 0) (pa_cons (pe_callB call_len_seq rfl B.len PySem.boot_len (pa_cons (pv 4) pa_nil)) pa_nil))))
        (pss_cons (ps_asg (pe_ix ix_list (pe_lst (pa_cons (pe_tup (pa_cons pe_str (pa_cons pe_str pa_nil))) (pa_cons (pe_tup (pa_cons pe_str (pa_cons pe_str pa_nil))) pa_nil))) (pe_cal C_l_take hr (by decide) rfl (pa_cons (pv 0) (pa_cons pe_int pa_nil))) (fun _ _=>rfl)) (pg_tup rfl (pgs_cons (pg_name (i:=11) sc_l_spoilt.nd rfl (Or.inl rfl)) (pgs_cons (pg_name (i:=12) sc_l_spoilt.nd rfl (Or.inl rfl)) pgs_nil))))
        (pss_cons (ps_set (i:=13) sc_l_spoilt.nd rfl (Or.inl rfl) (pe_cal C_l_leaf hr (by decide) rfl (pa_cons (pv 0) (pa_cons (pe_ix ix_tup (pv 4) (pv 8) (fun _ _=>rfl)) (pa_cons (pv 11) pa_nil)))))
        (pss_cons (ps_set (i:=4) sc_l_spoilt.nd rfl (Or.inl rfl) (pe_op op_catS (pe_op op_catS (pe_slice sl_tupA (pv 4) po_none (po_some (pv 8))) (pe_tup (pa_cons (pv 13) pa_nil))) (pe_slice sl_tupA (pv 4) (po_some (pe_op op_add (pv 8) pe_int)) po_none)))
        (pss_cons (ps_set (i:=4) sc_l_spoilt.nd rfl (Or.inl rfl) (pe_op op_catS (pe_slice sl_tupA (pv 4) po_none (po_some (pe_un un_neg pe_int))) (pe_tup (pa_cons (pe_tup (pa_cons pe_str (pa_cons (pe_ix ix_tup (pv 4) (pe_un un_neg pe_int) (fun _ _=>rfl)) (pa_cons (pe_tup (pa_cons pe_str (pa_cons (pe_tup (pa_cons pe_str (pa_cons (pv 12) pa_nil))) pa_nil))) pa_nil)))) pa_nil))))
        (pss_one (ps_expr (pe_bm PySem.F.plainAttrs_list PySem.F.slot_list_insert PySem.F.type_list_insert mt_insert (pv 6) (pa_cons pe_int (pa_cons (pe_tup (pa_cons pe_str (pa_cons (pv 11) pa_nil))) pa_nil)))))))))) pss_nil)
      (pss_cut (t':=fun D σ H'=>∃ (a b L:Addr) (ns:List Str) (tv:List V) (ts:List Tr) (p:Int) (ds:List V) (x7 x8 x9 x10 x11 x12 x13:Option V),σ=[some (.ref f),some (.ref g),some (.ref fl),some (.ref a),some (.ref b),some (.int p),some (.ref L),x7,x8,x9,x10,x11,x12,x13,none,none]∧Sp25 H f fl fs H' a b L ns tv ts p ds∧ns.Nodup∧ns.length≤6∧ds.length≤4 ∧
          ∀ (r s a' b' L:Addr) (ns':List Str) (tv':List V) (ts':List Tr) (p':Int) (ds:List V) (H'':Hp),Sp25 H f fl fs H'' a' b' L ns' tv' ts' p' ds→H'' s=some (.tup [.ref a',.ref b',.int p'])→H'' r=some (.tup [.ref s,.ref L])→D.rt (.ref r) H'')
      (pss_cons (ps_if (PW.pt (pw_and (pt_cmpR op_in_seq pe_int (pv 2) (by with_unfolding_all rfl)) (pw_and1 (pt_cmpR op_gt (pe_callB call_len_seq rfl B.len PySem.boot_len (pa_cons (pv 3) pa_nil)) pe_int (nomark _))))) (pss_cons (ps_for PassesOwn.never rfl (pi_range1 rfl B.range (pa_cons (pe_op op_add pe_int (pe_cal C_l_take hr (by decide) rfl (pa_cons (pv 0) (pa_cons pe_int pa_nil)))) pa_nil)) (pg_name (i:=14) sc_l_spoilt.nd rfl (Or.inl rfl)) (pss_cons (ps_set (i:=9) sc_l_spoilt.nd rfl (Or.inl rfl) (pe_ix ix_tup (pv 3) (pe_cal C_l_take hr (by decide) rfl (pa_cons (pv 0) (pa_cons (pe_callB call_len_seq rfl B.len PySem.boot_len (pa_cons (pv 3) pa_nil)) pa_nil))) (fun _ _=>rfl)))
          (pss_cons (ps_set (i:=8) sc_l_spoilt.nd rfl (Or.inl rfl) (pe_cal C_l_take hr (by decide) rfl (pa_cons (pv 0) (pa_cons (pe_op op_add (pe_callB call_len_seq rfl B.len PySem.boot_len (pa_cons (pv 3) pa_nil)) pe_int) pa_nil))))
          (pss_one (ps_set (i:=3) sc_l_spoilt.nd rfl (by first | exact Or.inl rfl | exact Or.inr rfl) (pe_op op_catS (pe_op op_catS (pe_slice sl_tupA (pv 3) po_none (po_some (pv 8))) (pe_tup (pa_cons (pv 9) pa_nil))) (pe_slice sl_tupA (pv 3) (po_some (pv 8)) po_none)))))))
        (pss_cons (ps_comp (i:=15) (N:=["_law_switches"]) (ix:=[3]) sc_l_spoilt.nd rfl (Or.inl rfl) rfl
            (CompScope.one (by with_unfolding_all rfl) (by decide) rfl (by decide) rfl (by decide +kernel) (by with_unfolding_all rfl) (by with_unfolding_all rfl) (by with_unfolding_all rfl) rfl rfl) rfl
            (pi_range1 rfl B.range (pa_cons (pe_callB call_len_seq rfl B.len PySem.boot_len (pa_cons (pv 3) pa_nil)) pa_nil))
            (fun _ _ _=>pb_if (pt_cmpR (op_in_seqK K) (pe_ix (ix_tupK K) (pv 1) (pv 0) (fun _ _=>rfl)) (pe_slice (sl_tupAK K) (pv 1) po_none (po_some (pv 0))) (by with_unfolding_all rfl)) (pv 0)))
        (pss_one (ps_expr (pe_bm PySem.F.plainAttrs_list PySem.F.slot_list_insert PySem.F.type_list_insert mt_insert (pv 6) (pa_cons pe_int (pa_cons (pe_tup (pa_cons pe_str (pa_cons (pe_ix ix_tup (pv 3) (pe_ix ix_list (pv 15) pe_int (fun _ _=>rfl)) (fun _ _=>rfl)) pa_nil))) pa_nil))))))) pss_nil)
      (pss_one (ps_ret (pe_tup (pa_cons (pe_tup (pa_cons (pv 3) (pa_cons (pv 4) (pa_cons (pv 5) pa_nil)))) (pa_cons (pv 6) pa_nil)))))) (by
        rintro D σ H1 ⟨a,b,L,ns,tv,ts,p,ds,x7,x8,x9,x10,x11,x12,x13,rfl,⟨W,du⟩,nd,n6,d3,qd⟩
        refine ⟨_,rfl,fl,_,rfl,.inl (SqL.of W.hf),rfl,flat_intsV _,_,rfl,?_⟩
        have ret:∀ {a b L:Addr} {ns:List Str} {tv:List V} {ts:List Tr} {p:Int} {ds:List V} {H2:Hp},Sp25 H f fl fs H2 a b L ns tv ts p ds→∀ s,H2 s=none→∀ r,upd H2 s (.tup [.ref a,.ref b,.int p]) r=none→D.rt (.ref r) (upd (upd H2 s (.tup [.ref a,.ref b,.int p])) r (.tup [.ref s,.ref L])):=fun {a b L ns tv ts p ds H2} S s hs r hr=>by
          have G1:=Same.new hs (.tup [.ref a,.ref b,.int p])
          have G2:=Same.new hr (.tup [.ref s,.ref L])
          exact qd r s a b L ns tv ts p ds _ ⟨(S.1.same G1).same G2,(S.2.keep (keepT_same G1)).keep (keepT_same G2)⟩ (G2 _ _ upd_same) upd_same
        show if inV (.int 0) (fs.map V.int)=true then _ else _
        cases c0:inV (.int 0) (fs.map V.int) with
        | false =>
          refine iteF (iteF ?_)
          exact ⟨_,rfl,_,rfl,_,rfl,(by show 3≤sizeLine; decide),fun s hs=>⟨_,rfl,(by show 2≤sizeLine; decide),fun r hr=>ret ⟨W,du⟩ s hs r hr⟩⟩
        | true =>
          refine iteT ?_
          refine ⟨_,rfl,a,_,rfl,.inr (SqT.of W.ha),_,_,rfl,rfl,_,rfl,?_⟩
          by_cases cl:(0:Int) < ((ns.map V.str).length:Int)
          rotate_left
          · refine iteDF cl ?_
            exact ⟨_,rfl,_,rfl,_,rfl,(by show 3≤sizeLine; decide),fun s hs=>⟨_,rfl,(by show 2≤sizeLine; decide),fun r hr=>ret ⟨W,du⟩ s hs r hr⟩⟩
          refine iteD cl ?_
          rw [List.length_map] at cl
          refine ⟨_,rfl,f,2,rfl,W.F,by decide,by decide,fun d H2 d0 d2 F2 S2=>⟨_,_,rfl,rfl,_,rfl,by omega,by omega,?_⟩⟩
          have W2:=W.feed F2 S2
          refine for_range (n:=(1+d).toNat) (fun i σ H'=>∃ (a':Addr) (ns':List Str) (y8 y9 y14:Option V),σ=[some (.ref f),some (.ref g),some (.ref fl),some (.ref a'),some (.ref b),some (.int p),some (.ref L),x7,y8,y9,x10,x11,x12,x13,y14,none]∧W25 H f fl fs H' a' b L ns' tv ts p ds∧ns'.length=ns.length+i∧(1≤i→¬ ns'.Nodup)) ⟨a,ns,_,_,_,rfl,W2,rfl,fun h=>absurd h (by decide)⟩ ?_ ?_
          · rintro i σ H3 hi ⟨a',ns',y8,y9,y14,rfl,W3,nl,_⟩
            have l3:(ns'.map V.str).length=ns'.length:=List.length_map _
            refine ⟨_,rfl,_,rfl,_,rfl,a',_,rfl,.inr (SqT.of W3.ha),f,_,rfl,W3.F,by rw [l3]; omega,by rw [l3]; omega,fun e H4 e0 e1 F4 S4=>?_⟩
            rw [l3] at e1
            have W4:=W3.feed F4 S4
            obtain ⟨k,rfl⟩:∃ k:Nat,e=(k:Int):=⟨e.toNat,by omega⟩
            have hk:k < ns'.length:=by omega
            refine ⟨a',_,_,.str ns'[k],rfl,rfl,SqT.of W4.ha,atI_nat (by rw [List.getElem?_map,List.getElem?_eq_getElem hk]; rfl),?_⟩
            refine ⟨_,rfl,_,rfl,a',_,rfl,.inr (SqT.of W4.ha),_,_,rfl,rfl,f,_,rfl,W4.F,by rw [l3]; omega,by rw [l3]; omega,fun e H5 e0 e1 F5 S5=>?_⟩
            rw [l3] at e1
            have W5:=W4.feed F5 S5
            obtain ⟨j,rfl⟩:∃ j:Nat,e=(j:Int):=⟨e.toNat,by omega⟩
            refine ⟨_,rfl,_,rfl,_,rfl,a',_,rfl,SqT.of W5.ha,W5.ha,fun c H6 S6 hc=>?_⟩
            rw [cutTo] at hc
            refine ⟨_,rfl,(by show 1≤sizeLine; decide),fun c2 hc2=>?_⟩
            have G7:=Same.new hc2 (.tup [.str ns'[k]])
            refine ⟨c,c2,_,_,rfl,rfl,G7 _ _ hc,upd_same,small (by rw [List.length_take,List.length_map,List.length_singleton]; have:=W5.n4; omega),fun c3 H8 S8 hc3=>?_⟩
            have S58:=S6.trans (G7.trans S8)
            refine ⟨_,rfl,_,rfl,_,rfl,a',_,rfl,SqT.of (S58 _ _ W5.ha),S58 _ _ W5.ha,fun c4 H9 S9 hc4=>?_⟩
            rw [cutFrom] at hc4
            refine ⟨c3,c4,_,_,rfl,rfl,S9 _ _ hc3,hc4,small (by simp only [List.length_append,List.length_take,List.length_map,List.length_singleton,List.length_drop]; have:=W5.n4; omega),fun c5 H10 S10 hc5=>?_⟩
            have W10:=W5.same (S58.trans (S9.trans S10))
            have en:(ns'.map V.str).take j++[V.str ns'[k]]++(ns'.map V.str).drop j=(ns'.take j++[ns'[k]]++ns'.drop j).map V.str:=by
              simp only [List.map_append,List.map_take,List.map_drop,List.map_cons,List.map_nil]
            rw [en] at hc5
            have ln:(ns'.take j++[ns'[k]]++ns'.drop j).length=ns'.length+1:=by
              simp only [List.length_append,List.length_take,List.length_singleton,List.length_drop]
              omega
            refine ⟨c5,ns'.take j++[ns'[k]]++ns'.drop j,_,_,_,rfl,{ W10 with ha:=hc5,n4:=by rw [ln]; omega,nn:=fun x hx=>?_ },by rw [ln]; omega,fun _=>ins_dup j (List.getElem_mem hk)⟩
            rcases List.mem_append.mp hx with h | h
            · rcases List.mem_append.mp h with h | h
              · exact W5.nn x (List.mem_of_mem_take h)
              · rw [List.mem_singleton.mp h]
                exact W5.nn _ (List.getElem_mem hk)
            · exact W5.nn x (List.mem_of_mem_drop h)
          · rintro σ H3 ⟨a',ns',y8,y9,y14,rfl,W3,nl,nnd⟩
            have nn1:=nnd (by omega)
            have l3:(ns'.map V.str).length=ns'.length:=List.length_map _
            refine ⟨_,rfl,a',_,rfl,.inr (SqT.of W3.ha),_,rfl,by rw [l3]; have:=W3.n4; omega,by rw [l3]; have:=W3.n4; omega,fun D2 hD2=>?_⟩
            refine comp_range (fun i H'=>∃ ks:List Nat,H' D2=some (.lst ((ks.map fun k:Nat=>((k:Nat):Int)).map V.int))∧ks.length≤i∧(ks=[]→∀ j x,j < i→ns'[j]?=some x→x ∉ ns'.take j)∧(∀ k r,ks=k::r→k < i∧(∃ x,ns'[k]?=some x∧x ∈ ns'.take k)∧∀ j x,j < k→ns'[j]?=some x→x ∉ ns'.take j)∧Same H3 H') ⟨[],by rw [upd_same]; rfl,Nat.le_refl _,(fun _ j x h=>absurd h (Nat.not_lt_zero _)),(fun _ _ h=>by cases h),Same.new hD2 _⟩ ?_ ?_
            · rintro i H4 hi ⟨ks,hD4,kl,kn,kc,S4⟩
              rw [l3] at hi
              have hi':i < ns'.length:=by omega
              have z0:(0+(i:Int))=((i:Nat):Int):=by omega
              rw [z0]
              refine ⟨_,rfl,_,rfl,a',_,_,.str ns'[i],rfl,rfl,SqT.of (S4 _ _ W3.ha),atI_nat (by rw [List.getElem?_map,List.getElem?_eq_getElem hi']; rfl),?_⟩
              refine ⟨_,rfl,_,rfl,_,rfl,a',_,rfl,SqT.of (S4 _ _ W3.ha),S4 _ _ W3.ha,fun c H5 S5 hc=>?_⟩
              rw [cutTo,← List.map_take] at hc
              refine ⟨c,_,rfl,.inr (SqT.of hc),rfl,flat_strs _,_,rfl,?_⟩
              show if inV (.str ns'[i]) ((ns'.take i).map V.str)=true then _ else _
              rw [in_strs]
              have hx:=List.getElem?_eq_getElem hi'
              by_cases cx:ns'[i] ∈ ns'.take i
              · rw [decide_eq_true cx]
                refine iteT ?_
                refine ⟨_,rfl,_,S5 _ _ hD4,small1000 (by rw [List.length_map,List.length_map]; have:=W3.n4; omega),Nx.of (by rw [l3]; exact hi) ⟨ks++[i],by rw [upd_same,List.map_append,List.map_append]; rfl,by rw [List.length_append,List.length_singleton]; omega,(fun h=>absurd h (by simp)),fun k r h=>?_,fun b' o' e'=>?_⟩⟩
                · cases ks with
                  | nil =>
                    have:i=k:=(List.cons.inj h).1
                    subst this
                    exact ⟨Nat.lt_succ_self _,⟨_,hx,cx⟩,fun j x hj=>kn rfl j x hj⟩
                  | cons k0 r0 =>
                    have:k0=k:=(List.cons.inj h).1
                    subst this
                    obtain ⟨h1,h2,h3⟩:=kc k0 r0 rfl
                    exact ⟨Nat.lt_succ_of_lt h1,h2,h3⟩
                · rw [upd_ne (ne_of_none e' hD2)]
                  exact S5 _ _ (S4 _ _ e')
              · rw [decide_eq_false cx]
                refine iteF ?_
                refine Nx.of (by rw [l3]; exact hi) ⟨ks,S5 _ _ hD4,by omega,fun h j x hj hjx=>?_,fun k r h=>?_,S4.trans S5⟩
                · rcases Nat.lt_succ_iff_lt_or_eq.mp hj with h1 | h1
                  · exact kn h j x h1 hjx
                  · subst h1
                    rw [hx] at hjx
                    cases hjx
                    exact cx
                · obtain ⟨h1,h2,h3⟩:=kc k r h
                  exact ⟨Nat.lt_succ_of_lt h1,h2,h3⟩
            · rintro H4 ⟨ks,hD4,kl,kn,kc,S4⟩
              rw [l3] at kn
              have W4:=W3.same S4
              cases ks with
              | nil=>exact absurd (dup_nodup fun j x hj=>kn rfl j x (by omega)) nn1
              | cons k r =>
                obtain ⟨h1,⟨x,hx,hm⟩,h3⟩:=kc k r rfl
                refine ⟨_,rfl,.inl ⟨rfl,_,SqL.of W4.hL⟩,_,rfl,_,rfl,D2,_,_,.int (k:Int),rfl,rfl,SqL.of hD4,at0 ..,a',_,_,.str x,rfl,rfl,SqT.of W4.ha,atI_nat (by rw [List.getElem?_map,hx]; rfl),(by show 2≤sizeLine; decide),fun c hc=>?_⟩
                have G5:=Same.new hc (.tup [.str "twice", .str x])
                have W5:=W4.same G5
                refine ⟨L,_,0,_,rfl,rfl,W5.hL,small1000 (by have:=W5.dl; omega),by decide,by decide,?_⟩
                have S6:=W5.put' (k:=0) (v:=.str x) d3 upd_same (.inl ⟨rfl,x,dup_hit hx hm h3,rfl⟩) (.inr ⟨x,rfl,(W5.nn x (List.mem_of_getElem? hx)).1⟩)
                exact ⟨_,rfl,_,rfl,_,rfl,(by show 3≤sizeLine; decide),fun s hs=>⟨_,rfl,(by show 2≤sizeLine; decide),fun r hr=>ret S6 s hs r hr⟩⟩))) (by
        rintro D σ H1 ⟨a,b,L,ns,tv,ts,p,ds,x7,x8,x9,x10,rfl,⟨W,du⟩,cl,d3,qd⟩
        refine ⟨_,rfl,fl,_,rfl,.inl (SqL.of W.hf),rfl,flat_intsV _,_,rfl,?_⟩
        show if inV (.int 1) (fs.map V.int)=true then _ else _
        cases c0:inV (.int 1) (fs.map V.int) with
        | false =>
          refine iteF ?_
          exact ⟨a,b,L,ns,tv,ts,p,ds,x7,x8,x9,x10,none,none,none,rfl,⟨W,du⟩,cl.nd,cl.n6,by omega,qd⟩
        | true =>
          refine iteT ?_
          have vl:=W.T.length
          refine ⟨_,rfl,_,rfl,b,_,rfl,.inr (SqT.of W.hb),f,_,rfl,W.F,by have:=W.t1; omega,by have:=W.t4; omega,fun e H2 e0 e1 F2 S2=>?_⟩
          have W2:=W.feed F2 S2
          obtain ⟨k,rfl⟩:∃ k:Nat,e=(k:Int):=⟨e.toNat,by omega⟩
          have hk:k < tv.length:=by omega
          have hkt:k < ts.length:=by omega
          refine ⟨(by show 2≤sizeLine; decide),fun q1 hq1=>?_⟩
          have G3:=Same.new hq1 (.tup [.str "bad", .str "bed"])
          refine ⟨(by show 2≤sizeLine; decide),fun q2 hq2=>?_⟩
          have G4:=Same.new hq2 (.tup [.str "bed", .str "bad"])
          refine ⟨(by show 2≤sizeLine; decide),fun l hl=>?_⟩
          have G5:=Same.new hl (.lst [.ref q1,.ref q2])
          have W5:=W2.same (G3.trans (G4.trans G5))
          have lf:=((W2.F.same G3).same G4).ne hl
          refine ⟨_,rfl,f,2,rfl,W5.F,by decide,by decide,fun e H6 e0 e2 F6 S6=>?_⟩
          have W6:=W5.feed F6 S6
          have kt6:=W5.keepF S6
          obtain ⟨qq,x1,x2,hat,hqq,n1,n2,k1,k2⟩:∃ (qq:Addr) (x1 x2:Str),atI [V.ref q1,V.ref q2] e=some (.ref qq)∧H6 qq=some (.tup [.str x1,.str x2])∧x1 ∉ ns∧x2 ∉ ns∧NmOk x1∧NmOk x2:=by
            have nb:∀ z:Str,(z = "bad" ∨ z = "bed")→z ∉ ns:=fun z hz hm=>(W.nn z hm).2.2.2 (by rcases hz with rfl | rfl <;> decide +kernel)
            have ob:NmOk "bad" ∧ NmOk "bed" := ⟨⟨by decide +kernel,by decide +kernel,by decide +kernel⟩,⟨by decide +kernel,by decide +kernel,by decide +kernel⟩⟩
            have:e=0∨e=1:=by omega
            rcases this with rfl | rfl
            · exact ⟨q1,_,_,rfl,kt6 _ _ (G5 _ _ (G4 _ _ upd_same)),nb _ (.inl rfl),nb _ (.inr rfl),ob.1,ob.2⟩
            · exact ⟨q2,_,_,rfl,kt6 _ _ (G5 _ _ upd_same),nb _ (.inr rfl),nb _ (.inl rfl),ob.2,ob.1⟩
          refine ⟨l,_,_,_,rfl,rfl,SqL.of (S6 _ _ lf upd_same),hat,qq,_,rfl,SqT.of hqq,rfl,_,_,rfl,_,_,rfl,rfl,?_⟩
          obtain ⟨t,ht,T6⟩:=W6.T.get (List.getElem?_eq_getElem hk)
          have tm:=List.mem_of_getElem? ht
          have ctk:=cl.ok t tm
          refine ⟨_,rfl,_,rfl,_,rfl,b,_,_,tv[k],rfl,rfl,SqT.of W6.hb,atI_nat (List.getElem?_eq_getElem hk),_,rfl,f,tv[k],t,x1,rfl,W6.F,T6,(W6.wf t tm).1,(W6.wf t tm).2.1,k1,fun v' t' H7 T7 Lf F7 S7=>?_⟩
          have W7:=W6.feed F7 S7
          obtain ⟨lw,li,ln,ld,lsz⟩:=Lf
          refine ⟨_,rfl,_,rfl,_,rfl,b,_,rfl,SqT.of W7.hb,W7.hb,fun c H8 S8 hc=>?_⟩
          rw [cutTo] at hc
          refine ⟨_,rfl,(by show 1≤sizeLine; decide),fun c2 hc2=>?_⟩
          have G9:=Same.new hc2 (.tup [v'])
          have t4:=W.t4
          refine ⟨c,c2,_,_,rfl,rfl,G9 _ _ hc,upd_same,small (by rw [List.length_take,List.length_singleton]; omega),fun c3 H10 S10 hc3=>?_⟩
          have S710:=S8.trans (G9.trans S10)
          refine ⟨_,rfl,_,rfl,_,_,rfl,rfl,_,rfl,b,_,rfl,SqT.of (S710 _ _ W7.hb),S710 _ _ W7.hb,fun c4 H11 S11 hc4=>?_⟩
          have e1':cutV tv (some ((k:Int)+1)) none=tv.drop (k+1):=cutFrom (k:=k+1)
          rw [e1'] at hc4
          refine ⟨c3,c4,_,_,rfl,rfl,S11 _ _ hc3,hc4,small (by simp only [List.length_append,List.length_take,List.length_singleton,List.length_drop]; omega),fun c5 H12 S12 hc5=>?_⟩
          have S712:=S710.trans (S11.trans S12)
          have W12:=W7.same S712
          have T12:TreesAt H12 (tv.take k++[v']++tv.drop (k+1)) (ts.take k++[t']++ts.drop (k+1)):=((W12.T.take k).append (.cons (T7.mono (keepT_same S712)) .nil)).append (W12.T.drop (k+1))
          obtain ⟨ui,ul,eu⟩:∃ ui ul,tv.take k++[v']++tv.drop (k+1)=ui++[ul]:=⟨_,_,(List.dropLast_concat_getLast (by simp)).symm⟩
          have lu:(ui++[ul]).length=tv.length:=by
            rw [← eu]
            simp only [List.length_append,List.length_take,List.length_singleton,List.length_drop]
            omega
          rw [eu] at hc5 T12
          obtain ⟨us,tl,et,TU,TL⟩:=T12.snoc
          refine ⟨_,rfl,_,rfl,_,rfl,c5,_,rfl,SqT.of hc5,hc5,fun c6 H13 S13 hc6=>?_⟩
          rw [cutLast] at hc6
          refine ⟨_,rfl,_,rfl,c5,_,_,ul,rfl,rfl,SqT.of (S13 _ _ hc5),atI_last _ _,_,rfl,(by show 2≤sizeLine; decide),fun i1 h1=>?_⟩
          have G14:=Same.new h1 (.tup [.str "is", .str x2])
          refine ⟨(by show 2≤sizeLine; decide),fun i2 h2=>?_⟩
          have G15:=Same.new h2 (.tup [.str "not", .ref i1])
          refine ⟨(by show 3≤sizeLine; decide),fun i3 h3=>?_⟩
          have G16:=Same.new h3 (.tup [.str "and", ul,.ref i2])
          refine ⟨(by show 1≤sizeLine; decide),fun i4 h4=>?_⟩
          have G17:=Same.new h4 (.tup [.ref i3])
          have S1317:=G14.trans (G15.trans (G16.trans G17))
          rw [List.length_append,List.length_singleton] at lu
          refine ⟨c6,i4,_,_,rfl,rfl,S1317 _ _ hc6,upd_same,small (by rw [List.length_singleton]; omega),fun c7 H18 S18 hc7=>?_⟩
          have S1218:=S13.trans (S1317.trans S18)
          have W18:=W12.same S1218
          have TA:TreeAt H18 (.ref i3) (.bin "and" tl (.not (.is x2))):=.bin (S18 _ _ (G17 _ _ upd_same)) (TL.mono (keepT_same S1218)) (.not (S18 _ _ (G17 _ _ (G16 _ _ upd_same))) (.is (S18 _ _ (G17 _ _ (G16 _ _ (G15 _ _ upd_same))))))
          have T18:TreesAt H18 (ui++[V.ref i3]) (us++[Tr.bin "and" tl (.not (.is x2))]):=(TU.mono (keepT_same S1218)).append (.cons TA .nil)
          have tall:∀ u ∈ ts.take k++[t']++ts.drop (k+1),u.wf∧u.depth≤9∧u.size≤30:=fun u hu=>by
            rcases List.mem_append.mp hu with h | h
            · rcases List.mem_append.mp h with h | h
              · have hm:=List.mem_of_mem_take h
                exact ⟨(W.wf u hm).1,(cl.ok u hm).2⟩
              · rw [List.mem_singleton.mp h]
                exact ⟨lw,by omega,by omega⟩
            · have hm:=List.mem_of_mem_drop h
              exact ⟨(W.wf u hm).1,(cl.ok u hm).2⟩
          rw [et] at tall
          have lt:us.length+1=ts.length:=by
            have:=congrArg List.length et
            simp only [List.length_append,List.length_take,List.length_singleton,List.length_drop] at this
            omega
          have st:strayOf ns (us++[Tr.bin "and" tl (.not (.is x2))])=some x1:=by
            unfold strayOf
            rw [fm_last,← et,List.flatMap_append,List.flatMap_append,List.append_assoc,List.append_assoc]
            rw [stray_skip fun y hy=>by
              obtain ⟨u,hu,hyu⟩:=List.mem_flatMap.mp hy
              exact names_ok u (cl.ok u (List.mem_of_mem_take hu)).1 y hyu]
            have e2:([t']:List Tr).flatMap Tr.names=t'.names:=by simp
            rw [e2]
            exact stray_hit n1 li fun y hy=>(ln y hy).imp id (names_ok t ctk.1 y)
          have wfN:∀ u ∈ us++[Tr.bin "and" tl (.not (.is x2))],u.wf∧u.depth≤10∧u.size≤400:=fun u hu=>by
            rcases List.mem_append.mp hu with h | h
            · have:=tall u (List.mem_append_left _ h)
              exact ⟨this.1,by omega,by omega⟩
            · rw [List.mem_singleton.mp h]
              have:=tall tl (by simp)
              refine ⟨⟨by decide +kernel,this.1,k2⟩,?_,?_⟩
              · show max tl.depth (1+1)+1≤10
                omega
              · show tl.size+(1+1)+1≤400
                omega
          have lN:(us++[Tr.bin "and" tl (.not (.is x2))]).length=ts.length:=by
            rw [List.length_append,List.length_singleton]
            omega
          have WN:W25 H f fl fs H18 a c7 L ns (ui++[V.ref i3]) (us++[Tr.bin "and" tl (.not (.is x2))]) p ds:={ W18 with hb:=hc7,T:=T18,t1:=by omega,t4:=by omega,wf:=wfN }
          refine ⟨_,rfl,.inl ⟨rfl,_,SqL.of WN.hL⟩,_,rfl,(by show 2≤sizeLine; decide),fun c8 hc8=>?_⟩
          have W19:=WN.same (Same.new hc8 (.tup [.str "name", .str x1]))
          refine ⟨L,_,0,_,rfl,rfl,W19.hL,small1000 (by have:=W19.dl; omega),by decide,by decide,?_⟩
          have S20:=W19.put' (k:=1) (v:=.str x1) (by omega) upd_same (.inr (.inl ⟨rfl,dup_none cl.nd,x1,st,rfl⟩)) (.inr ⟨x1,rfl,k1⟩)
          exact ⟨a,c7,L,ns,_,_,p,_,x7,_,x9,x10,_,_,_,rfl,S20,cl.nd,cl.n6,by rw [List.length_cons]; omega,qd⟩))) (by
        rintro D σ H1 ⟨a,b,L,ns,tv,ts,p,ds,x7,x8,x9,rfl,⟨W,du⟩,cl,d2,qd⟩
        refine ⟨_,rfl,fl,_,rfl,.inl (SqL.of W.hf),rfl,flat_intsV _,_,rfl,?_⟩
        show if inV (.int 2) (fs.map V.int)=true then _ else _
        cases c0:inV (.int 2) (fs.map V.int) with
        | false =>
          refine iteF ?_
          exact ⟨a,b,L,ns,tv,ts,p,ds,x7,x8,x9,none,rfl,⟨W,du⟩,cl,by omega,qd⟩
        | true =>
          refine iteT ?_
          refine ⟨_,rfl,f,499997,rfl,W.F,by decide,by decide,fun e H2 e0 e1 F2 S2=>?_⟩
          have W2:=W.feed F2 S2
          refine ⟨_,_,rfl,rfl,.inl ⟨by omega,by omega⟩,_,_,rfl,rfl,(by show 8≤sizeLine; decide),fun l hl=>?_⟩
          have G3:=Same.new hl (.lst ([4,9,15,4+2*e,999981,1001,169,0].map V.int))
          have hl3:upd H2 l (.lst ([4,9,15,4+2*e,999981,1001,169,0].map V.int)) l=some (.lst ([4,9,15,4+2*e,999981,1001,169,0].map V.int)):=upd_same
          have W3:=W2.same G3
          refine ⟨_,rfl,(by show 6≤sizeLine; decide),fun l2 hl2=>?_⟩
          have G4:=Same.new hl2 (.lst ([1,2,1000003,999999999989,982081,527].map V.int))
          have W4:=W3.same G4
          refine ⟨l,l2,_,_,rfl,rfl,G4 _ _ hl3,upd_same,(by show 14≤sizeLine; decide),fun l3 hl3'=>?_⟩
          have G5:=Same.new hl3' (.lst ([4,9,15,4+2*e,999981,1001,169,0].map V.int++[1,2,1000003,999999999989,982081,527].map V.int))
          have W5:=W4.same G5
          have l3f:=W4.F.ne hl3'
          refine ⟨_,rfl,f,14,rfl,W5.F,by decide,by decide,fun d H6 d0 d1 F6 S6=>?_⟩
          have W6:=W5.feed F6 S6
          obtain ⟨p',hp',p0',p12',np⟩:∃ p':Int,atI ([4,9,15,4+2*e,999981,1001,169,0].map V.int++[1,2,1000003,999999999989,982081,527].map V.int) d=some (.int p')∧0≤p'∧p' < 1000000000000∧¬ FieldOk p':=by
            have:d=0∨d=1∨d=2∨d=3∨d=4∨d=5∨d=6∨d=7∨d=8∨d=9∨d=10∨d=11∨d=12∨d=13:=by omega
            rcases this with rfl | rfl | rfl | rfl | rfl | rfl | rfl | rfl | rfl | rfl | rfl | rfl | rfl | rfl
            · exact ⟨4,rfl,by decide,by decide,nofield (.inr (.inr ⟨2,by decide,by decide,by decide,by decide⟩))⟩
            · exact ⟨9,rfl,by decide,by decide,nofield (.inr (.inr ⟨3,by decide,by decide,by decide,by decide⟩))⟩
            · exact ⟨15,rfl,by decide,by decide,nofield (.inr (.inr ⟨3,by decide,by decide,by decide,by decide⟩))⟩
            · exact ⟨4+2*e,rfl,by omega,by omega,nofield (.inr (.inr ⟨2,by decide,by decide,by omega,by omega⟩))⟩
            · exact ⟨999981,rfl,by decide,by decide,nofield (.inr (.inr ⟨3,by decide,by decide,by decide,by decide⟩))⟩
            · exact ⟨1001,rfl,by decide,by decide,nofield (.inr (.inr ⟨7,by decide,by decide,by decide,by decide⟩))⟩
            · exact ⟨169,rfl,by decide,by decide,nofield (.inr (.inr ⟨13,by decide,by decide,by decide,by decide⟩))⟩
            · exact ⟨0,rfl,by decide,by decide,nofield (.inl (by decide))⟩
            · exact ⟨1,rfl,by decide,by decide,nofield (.inl (by decide))⟩
            · exact ⟨2,rfl,by decide,by decide,nofield (.inl (by decide))⟩
            · exact ⟨1000003,rfl,by decide,by decide,nofield (.inr (.inl (by decide)))⟩
            · exact ⟨999999999989,rfl,by decide,by decide,nofield (.inr (.inl (by decide)))⟩
            · exact ⟨982081,rfl,by decide,by decide,nofield (.inr (.inr ⟨991,by decide,by decide,by decide,by decide⟩))⟩
            · exact ⟨527,rfl,by decide,by decide,nofield (.inr (.inr ⟨17,by decide,by decide,by decide,by decide⟩))⟩
          refine ⟨l3,_,_,_,rfl,rfl,SqL.of (S6 _ _ l3f upd_same),hp',?_⟩
          have W7:W25 H f fl fs H6 a b L ns tv ts p' ds:={ W6 with p0:=p0',p12:=p12' }
          refine ⟨_,rfl,.inl ⟨rfl,_,SqL.of W7.hL⟩,_,rfl,(by show 2≤sizeLine; decide),fun c hc=>?_⟩
          have W8:=W7.same (Same.new hc (.tup [.str "field", .int p']))
          refine ⟨L,_,0,_,rfl,rfl,W8.hL,small1000 (by have:=W8.dl; omega),by decide,by decide,?_⟩
          have S9:=W8.put' (k:=2) (v:=.int p') (by omega) upd_same (.inr (.inr (.inl ⟨rfl,dup_none cl.nd,stray_none fun t ht=>(cl.ok t ht).1,np,rfl⟩))) (.inl ⟨p',rfl⟩)
          exact ⟨a,b,L,ns,tv,ts,p',_,x7,x8,x9,_,rfl,S9,cl,by rw [List.length_cons]; omega,qd⟩))))),?_⟩
  have L0':True:=trivial
  refine ⟨_,rfl,g,_,rfl,SqT.of hg,rfl,_,_,rfl,_,_,rfl,_,_,rfl,rfl,?_⟩
  refine ⟨(by show 0≤sizeLine; decide),fun L hL=>?_⟩
  have G1:=Same.new hL (.lst [])
  have W:W25 H f fl fs (upd H L (.lst [])) a0 b0 L ns0 tv0 ts0 p0 []:=⟨G1 _ _ ha0,G1 _ _ hb0,TS0.mono (keepT_same G1),upd_same,hL,hF.ne hL,(fun z=>by rw [z,hfl] at hL; cases hL),Nat.zero_le _,hF.same G1,SameBut.of G1,G1 _ _ hfl,flf,t1,t4,by omega,nk,pp0,by omega,fun t ht=>⟨Tr.ok_wf (fun x hx=>(nk x hx).1) t (cl.ok t ht).1,by have:=(cl.ok t ht).2.1; omega,by have:=(cl.ok t ht).2.2; omega⟩,(fun d hd=>by cases hd)⟩
  generalize upd H L (.lst [])=H1 at W
  refine ⟨_,rfl,fl,_,rfl,.inl (SqL.of W.hf),rfl,flat_intsV _,_,rfl,?_⟩
  show if inV (.int 3) (fs.map V.int)=true then _ else _
  cases c0:inV (.int 3) (fs.map V.int) with
  | false =>
    refine iteF (iteF ?_)
    exact ⟨a0,b0,L,ns0,tv0,ts0,p0,[],none,none,none,rfl,⟨W,.inl rfl⟩,cl,by decide,q⟩
  | true =>
    refine iteT ?_
    refine ⟨_,rfl,a0,_,rfl,.inr (SqT.of W.ha),_,_,rfl,rfl,_,rfl,?_⟩
    by_cases c1:(0:Int) < ((ns0.map V.str).length:Int)
    rotate_left
    · refine iteDF c1 ?_
      exact ⟨a0,b0,L,ns0,tv0,ts0,p0,[],none,none,none,rfl,⟨W,.inl rfl⟩,cl,by decide,q⟩
    refine iteD c1 ?_
    have nl:(ns0.map V.str).length=ns0.length:=List.length_map _
    rw [nl] at c1
    have vl:=W.T.length
    refine ⟨_,rfl,f,4,rfl,W.F,by decide,by decide,fun d H2 d0 d4 F2 S2=>⟨_,_,rfl,rfl,?_⟩⟩
    have W2:=W.feed F2 S2
    refine ⟨_,rfl,_,rfl,b0,_,rfl,.inr (SqT.of W2.hb),f,_,rfl,W2.F,by omega,by omega,fun e H3 e0 e1 F3 S3=>?_⟩
    have W3:=W2.feed F3 S3
    obtain ⟨k,rfl⟩:∃ k:Nat,e=(k:Int):=⟨e.toNat,by omega⟩
    have hk:k < tv0.length:=by omega
    refine ⟨_,rfl,_,rfl,_,rfl,a0,_,rfl,.inr (SqT.of W3.ha),f,_,rfl,W3.F,by rw [nl]; omega,by rw [nl]; omega,fun e H4 e0' e1' F4 S4=>?_⟩
    rw [nl] at e1'
    have W4:=W3.feed F4 S4
    obtain ⟨j,rfl⟩:∃ j:Nat,e=(j:Int):=⟨e.toNat,by omega⟩
    have hj:j < ns0.length:=by omega
    have xm:ns0[j] ∈ ns0:=List.getElem_mem hj
    refine ⟨a0,_,_,.str ns0[j],rfl,rfl,SqT.of W4.ha,atI_nat (by rw [List.getElem?_map,List.getElem?_eq_getElem hj]; rfl),?_⟩
    refine ⟨_,rfl,_,rfl,_,rfl,b0,_,rfl,SqT.of W4.hb,W4.hb,fun c H5 S5 hc=>?_⟩
    rw [cutTo] at hc
    have W5:=W4.same S5
    refine ⟨_,rfl,_,rfl,ns0[j],3+d,rfl,(nk _ xm).1,by omega,by omega,fun v t H6 T6 tw tn td tz S6=>?_⟩
    have W6:=W5.same S6
    refine ⟨(by show 1≤sizeLine; decide),fun c2 hc2=>?_⟩
    have G7:=Same.new hc2 (.tup [v])
    have W7:=W6.same G7
    refine ⟨c,c2,_,_,rfl,rfl,G7 _ _ (S6 _ _ hc),upd_same,small (by rw [List.length_take,List.length_singleton]; omega),fun c3 H8 S8 hc3=>?_⟩
    have W8:=W7.same S8
    refine ⟨_,rfl,_,rfl,_,_,rfl,rfl,_,rfl,b0,_,rfl,SqT.of W8.hb,W8.hb,fun c4 H9 S9 hc4=>?_⟩
    have e1'':cutV tv0 (some ((k:Int)+1)) none=tv0.drop (k+1):=cutFrom (k:=k+1)
    rw [e1''] at hc4
    refine ⟨c3,c4,_,_,rfl,rfl,S9 _ _ hc3,hc4,small (by simp only [List.length_append,List.length_take,List.length_singleton,List.length_drop]; omega),fun c5 H10 S10 hc5=>?_⟩
    have S910:=S9.trans S10
    have W10:=W8.same S910
    have S610:=G7.trans (S8.trans S910)
    have T10:TreesAt H10 (tv0.take k++[v]++tv0.drop (k+1)) (ts0.take k++[t]++ts0.drop (k+1)):=((W10.T.take k).append (.cons (T6.mono (keepT_same S610)) .nil)).append (W10.T.drop (k+1))
    have lu:(ts0.take k++[t]++ts0.drop (k+1)).length=ts0.length:=by
      simp only [List.length_append,List.length_take,List.length_singleton,List.length_drop]
      omega
    have tok:t.ok ns0:=ok_of t tw fun x hx=>by
      rw [tn] at hx
      rw [List.eq_of_mem_replicate hx]
      exact xm
    have tall:∀ u ∈ ts0.take k++[t]++ts0.drop (k+1),u.ok ns0∧u.depth≤9∧u.size≤30:=fun u hu=>by
      rcases List.mem_append.mp hu with h | h
      · rcases List.mem_append.mp h with h | h
        · exact cl.ok u (List.mem_of_mem_take h)
        · rw [List.mem_singleton.mp h]
          exact ⟨tok,by omega,by omega⟩
      · exact cl.ok u (List.mem_of_mem_drop h)
    have tmem:t ∈ ts0.take k++[t]++ts0.drop (k+1):=by simp
    have tcount:t.names.count ns0[j]=(3+d).toNat:=by rw [tn,List.count_replicate_self]
    have WN:W25 H f fl fs H10 a0 c5 L ns0 _ (ts0.take k++[t]++ts0.drop (k+1)) p0 []:={ W10 with hb:=hc5,T:=T10,t1:=by omega,t4:=by omega,wf:=fun u hu=>⟨Tr.ok_wf (fun x hx=>(nk x hx).1) u (tall u hu).1,by have:=(tall u hu).2.1; omega,by have:=(tall u hu).2.2; omega⟩ }
    have clN:Cl25 ns0 (ts0.take k++[t]++ts0.drop (k+1)):=⟨cl.nd,cl.n6,tall⟩
    have lvu:(tv0.take k++[v]++tv0.drop (k+1)).length=(ts0.take k++[t]++ts0.drop (k+1)).length:=T10.length
    generalize ts0.take k++[t]++ts0.drop (k+1)=ts at WN clN tmem lu lvu
    generalize tv0.take k++[v]++tv0.drop (k+1)=tv at WN lvu
    refine ⟨(by show 2≤sizeLine; decide),fun l hl=>?_⟩
    have W11:=WN.same (Same.new hl (.lst [.int 3,.int 5]))
    refine ⟨_,rfl,_,_,rfl,rfl,.inr ⟨_,rfl,?_⟩⟩
    obtain ⟨p',hp',pf,pm,pb⟩:∃ p':Int,atI [V.int 3,V.int 5] (if decide ((4:Int) < 3+d)=true then 1 else 0)=some (.int p')∧FieldOk p'∧p'≤3+d∧0≤p'∧p' < 1000000000000:=by
      by_cases c4:(4:Int) < 3+d
      · rw [decide_eq_true c4]
        exact ⟨5,rfl,field3.2,by omega,by decide,by decide⟩
      · rw [decide_eq_false c4]
        exact ⟨3,rfl,field3.1,by omega,by decide,by decide⟩
    refine ⟨l,_,_,_,rfl,rfl,SqL.of upd_same,hp',?_⟩
    have W12:W25 H f fl fs _ a0 c5 L ns0 tv ts p' []:={ W11 with p0:=pb.1,p12:=pb.2 }
    refine ⟨_,rfl,c5,_,rfl,.inr (SqT.of W12.hb),_,_,rfl,rfl,?_⟩
    refine ⟨_,rfl,_,rfl,a0,c5,ns0,tv,ts,rfl,.inl W12.ha,.inl W12.hb,W12.T,by have:=W12.t4; omega,W12.wf,fun m H13 S13 m2 m4 mt mc ma=>?_⟩
    have W13:=W12.same S13
    refine ⟨(by show 2≤sizeLine; decide),fun l2 hl2=>?_⟩
    have G14:=Same.new hl2 (.lst ([(tv.length:Int) - 1,m].map V.int))
    have W14:=W13.same G14
    refine ⟨l2,[(tv.length:Int) - 1,m],rfl,SqL.of upd_same,by simp,?_⟩
    have ts0n:ts ≠ []:=fun z=>by rw [z] at tmem; cases tmem
    have se:=small_eq (m:=m) ts0n mt mc ma xm tmem (by rw [tcount]; omega)
    have se1:maxD [(tv.length:Int) - 1,m] 0=maxD (ns0.map (degOf ts)++[(ts.length:Int) - 1]) 0:=by rw [lvu]; exact se.1
    rw [se1]
    refine ⟨(by show 2≤sizeLine; decide),fun c6 hc6=>?_⟩
    have G15:=Same.new hc6 (.tup [.str "small", .int (maxD (ns0.map (degOf ts)++[(ts.length:Int) - 1]) 0)])
    refine ⟨(by show 1≤sizeLine; decide),fun L2 hL2=>?_⟩
    have G16:=Same.new hL2 (.lst [.ref c6])
    have W15:=(W14.same G15)
    have W16:=W15.same G16
    have pM:p'≤maxD (ns0.map (degOf ts)++[(ts.length:Int) - 1]) 0:=by
      have:=se.2
      rw [tcount] at this
      omega
    have L2H:H L2=none:=by
      cases ez:H L2 with
      | none=>rfl
      | some o =>
        by_cases cz:L2=f
        · have:=W15.F.ne hL2
          exact absurd cz this
        · rw [W15.S L2 o cz ez] at hL2
          cases hL2
    have L2fl:L2 ≠ fl:=fun z=>by
      rw [z,W15.hf] at hL2
      cases hL2
    have al1:∀ d ∈ [V.ref c6],DueV (upd (upd (upd H13 l2 (.lst ([(tv.length:Int) - 1,m].map V.int))) c6 (.tup [.str "small", .int (maxD (ns0.map (degOf ts)++[(ts.length:Int) - 1]) 0)])) L2 (.lst [.ref c6])) d:=fun d hd=>by
      rw [List.mem_singleton.mp hd]
      exact ⟨c6,3,_,rfl,G16 _ _ upd_same,.inl ⟨_,rfl⟩⟩
    have dl1:([V.ref c6]:List V).length≤5:=by simp
    refine ⟨a0,c5,L2,ns0,tv,ts,p',[.ref c6],_,_,_,rfl,⟨{ W16 with hL:=upd_same,L0:=L2H,Lf:=W15.F.ne hL2,Lfl:=L2fl,dl:=dl1,al:=al1 },.inr ⟨c6,[],3,_,rfl,G16 _ _ upd_same,.inr (.inr (.inr ⟨rfl,dup_none cl.nd,stray_none fun u hu=>(clN.ok u hu).1,pf,pM,rfl⟩))⟩⟩,clN,by simp,q⟩
theorem tok_of {ns:List Str} {ts:List Tr} (nk:∀ x ∈ ns,NmK x) (h:∀ t ∈ ts,t.ok ns∧t.depth≤9∧(t.size:Int)≤8):∀ t ∈ ts,t.wf∧t.depth≤10∧t.size≤400:=fun t ht=>⟨Tr.ok_wf (fun x hx=>(nk x hx).1) t (h t ht).1,by have:=(h t ht).2.1; omega,by have:=(h t ht).2.2; omega⟩
theorem good_of {ns:List Str} {ts:List Tr} {p:Int} (nd:ns.Nodup) (ok:∀ t ∈ ts,t.ok ns) (t1:1≤ts.length) (pp:Pr p) (p2:2 < p) (p9:p≤999983) (tp:(ts.length:Int)≤p) (tc:∀ t ∈ ts,∀ x ∈ ns,(t.names.count x:Int) < p):GoodG ns ts p:=by
  refine ⟨dup_none nd,stray_none ok,⟨p2,pp,by omega⟩,?_⟩
  rcases List.mem_append.mp (maxD_mem (ns:=ns.map (degOf ts)++[(ts.length:Int) - 1]) (by simp)) with h | h
  · obtain ⟨y,hy,e⟩:=List.mem_map.mp h
    rw [← e]
    exact degOf_lt (fun z=>by rw [z] at t1; exact absurd t1 (by decide)) fun t ht=>tc t ht y hy
  · rw [List.mem_singleton.mp h]
    omega
theorem four_small:Verd ["b"] [.is "b", .yes,.no,.is "b"] 3 3 (.int 3):=by
  have hm:maxD ((["b"]:List Str).map (degOf [.is "b", .yes,.no,.is "b"])++[(([.is "b", .yes,.no,.is "b"]:List Tr).length:Int) - 1]) 0=3:=by decide +kernel
  refine .inr (.inr (.inr ⟨rfl,by decide +kernel,by decide +kernel,field3.1,?_,?_⟩))
  · rw [hm]; decide
  · rw [hm]
theorem three_good:GoodG ["b"] [.is "b", .yes,.no] 3:=by
  have hm:maxD ((["b"]:List Str).map (degOf [.is "b", .yes,.no])++[(([.is "b", .yes,.no]:List Tr).length:Int) - 1]) 0=2:=by decide +kernel
  refine ⟨by decide +kernel,by decide +kernel,field3.1,?_⟩
  rw [hm]
  decide
def mData (ns:List Str) (ts:List Tr) (p:Int):PyData:=.tuple [.str "made", .tuple (ns.map PyData.str),.tuple (ts.map Tr.data),.int p]
theorem mData_rep {K:PySem.W.Frag} {H:Hp} {w a b:Addr} {ns:List Str} {tv:List V} {ts:List Tr} {p:Int} (hw:H w=some (.tup [.str "made", .ref a,.ref b,.int p])) (ha:H a=some (.tup (ns.map V.str))) (hb:H b=some (.tup tv)) (TS:TreesAt H tv ts):Rep K H (.ref w) (mData ns ts p) :=
  .tup (SqT.of hw) (.cons (.str _) (.cons (.tup (SqT.of ha) (rep_strs ns)) (.cons (.tup (SqT.of hb) (rep_trees TS)) (.cons (.int p) .nil))))
def vData:V→PyData
  | .int n=>.int n
  | .str x=>.str x
  | _=>.none
def dData (w:Str) (v:V):PyData:=.tuple [.str w,vData v]
theorem dData_rep {K:PySem.W.Frag} {H:Hp} {c:Addr} {w:Str} {v:V} (hc:H c=some (.tup [.str w,v])) (sv:SmV v):Rep K H (.ref c) (dData w v):=by
  rcases sv with ⟨n,rfl⟩ | ⟨x,rfl,_⟩
  · exact .tup (SqT.of hc) (.cons (.str _) (.cons (.int _) .nil))
  · exact .tup (SqT.of hc) (.cons (.str _) (.cons (.str _) .nil))
theorem wrd_ok (k:Nat):PyData.strOk (wrd k)=true:=by
  match k with
  | 0=>decide +kernel
  | 1=>decide +kernel
  | 2=>decide +kernel
  | n+3=>exact (by decide +kernel:PyData.strOk "small" = true)
theorem dData_shaped {k:Nat} {v:V} (sv:SmV v):SeqAt.shaped (dData (wrd k) v)=true∧PyData.canLay0 (dData (wrd k) v)=true∧PyData.depth (dData (wrd k) v)≤2:=by
  have w0:=wrd_ok k
  rcases sv with ⟨n,rfl⟩ | ⟨x,rfl,hx⟩
  · refine ⟨?_,?_,?_⟩ <;> simp [dData,vData,SeqAt.shaped,PyData.canLay0,PyData.canLayAll0,PyData.depth,PyData.depthAll,w0]
  · have:=strOk_nm hx
    refine ⟨?_,?_,?_⟩ <;> simp [dData,vData,SeqAt.shaped,PyData.canLay0,PyData.canLayAll0,PyData.depth,PyData.depthAll,w0,this]
theorem trees_lay {ts:List Tr} (h:∀ t ∈ ts,t.wf∧t.depth≤10):PyData.canLayAll0 (ts.map Tr.data)=true∧PyData.depthAll (ts.map Tr.data)≤11:=by
  induction ts with
  | nil=>simp [PyData.canLayAll0,PyData.depthAll]
  | cons a r ih =>
    have i1:=ih fun t ht=>h t (List.mem_cons_of_mem _ ht)
    have ha:=h a List.mem_cons_self
    have i2:=data_ok a ha.1
    rw [List.map_cons,PyData.canLayAll0,PyData.depthAll,i1.1,i2.1]
    refine ⟨rfl,?_⟩
    omega
theorem mData_shaped {ns:List Str} {ts:List Tr} {p:Int} (hx:∀ x ∈ ns,NmOk x) (ht:∀ t ∈ ts,t.wf∧t.depth≤10):SeqAt.shaped (mData ns ts p)=true:=by
  have h1:=shaped_strs hx
  have h2:=trees_lay ht
  have w0:PyData.strOk "made" = true:=by decide +kernel
  simp [mData,SeqAt.shaped,PyData.canLay0,PyData.canLayAll0,PyData.depth,PyData.depthAll,h1.1,h1.2,h2.1,w0]
  omega
theorem dues_rep {K:PySem.W.Frag} {H:Hp}:∀ {ds:List V},(∀ d ∈ ds,DueV H d)→∃ es,RepAll K H ds es∧es.length=ds.length∧PyData.canLayAll0 es=true∧PyData.depthAll es≤2
  | [],_=>⟨[],.nil,rfl,by simp [PyData.canLayAll0],by simp [PyData.depthAll]⟩
  | d::r,h=>by
    obtain ⟨es,h1,h2,h3,h4⟩:=dues_rep (ds:=r) fun x hx=>h x (List.mem_cons_of_mem _ hx)
    obtain ⟨c,k,v,rfl,hc,sv⟩:=h d List.mem_cons_self
    have sh:=dData_shaped (k:=k) sv
    refine ⟨dData (wrd k) v::es,.cons (dData_rep hc sv) h1,by rw [List.length_cons,List.length_cons,h2],?_,?_⟩
    · rw [PyData.canLayAll0,sh.2.1,h3]; rfl
    · rw [PyData.depthAll]; have:=sh.2.2; omega
theorem list_shaped {es:List PyData} (h:PyData.canLayAll0 es=true) (h2:PyData.depthAll es≤2):SeqAt.shaped (.list es)=true:=by
  simp [SeqAt.shaped,PyData.canLay0,PyData.depth,h]
  omega
theorem list_ne (e:PyData) (es:List PyData):PyData.eqv (.list (e::es)) (.list [])=false:=by simp [PyData.eqv,PyData.eqvAll]
theorem list_nil:PyData.eqv (.list []) (.list [])=true:=by simp [PyData.eqv,PyData.eqvAll]
@[irreducible] def fourE:Expr:=valOf (stm s_law 1)
theorem law_body:∃ p1 p2,defBody s_law=[stm s_law 0,.Assign [.Name "_law_four" p1] fourE p2,stm s_law 2]:=⟨_,_,by with_unfolding_all rfl⟩
def tFour:TE:=fun _ H Q=>∀ (c:Addr) (tv:List V) (H':Hp),Same H H'→H' c=some (.tup tv)→TreesAt H' tv [.is "b", .yes,.no,.is "b"]→Q (.ref c) H'
theorem pe_four {X:Cx}:PE X fourE tFour:=by
  unfold fourE
  intro pins s σ H Q I h
  have r:PE X (valOf (stm s_law 1)) _:=(pe_tup (pa_cons (pe_tup (pa_cons pe_str (pa_cons pe_str pa_nil))) (pa_cons (pe_tup (pa_cons pe_str pa_nil)) (pa_cons (pe_tup (pa_cons pe_str pa_nil)) (pa_cons (pe_tup (pa_cons pe_str (pa_cons pe_str pa_nil))) pa_nil)))))
  refine r pins s σ H Q I ?_
  refine ⟨(by show 2≤sizeLine; decide),fun a1 h1=>?_⟩
  have G1:=Same.new h1 (.tup [.str "is", .str "b"])
  refine ⟨(by show 1≤sizeLine; decide),fun a2 h2=>?_⟩
  have G2:=Same.new h2 (.tup [.str "yes"])
  refine ⟨(by show 1≤sizeLine; decide),fun a3 h3=>?_⟩
  have G3:=Same.new h3 (.tup [.str "no"])
  refine ⟨(by show 2≤sizeLine; decide),fun a4 h4=>?_⟩
  have G4:=Same.new h4 (.tup [.str "is", .str "b"])
  refine ⟨(by show 4≤sizeLine; decide),fun c hc=>?_⟩
  have G5:=Same.new hc (.tup [.ref a1,.ref a2,.ref a3,.ref a4])
  exact h c _ _ (G1.trans (G2.trans (G3.trans (G4.trans G5)))) upd_same (.cons (.is ((G2.trans (G3.trans (G4.trans G5))) _ _ upd_same)) (.cons (.yes ((G3.trans (G4.trans G5)) _ _ upd_same)) (.cons (.no ((G4.trans G5) _ _ upd_same)) (.cons (.is (G5 _ _ upd_same)) .nil))))
theorem sc_law:FnScope ["_law_script", "_law_k", "_law_feed_here", "_law_game_here", "_law_spoilt_here", "_law_dues", "_law_four"] ["_law_script"] (defScope s_law):=⟨rfl,rfl,rfl,by decide +kernel,rfl,by decide +kernel,by decide +kernel⟩
theorem ok_law {f:Addr} {fd:FuncData} (F:Fun K "law" "law" s_law f fd) (B:Bl mg) (C_l_feed:Cal P w K mg base 1 "_law_feed" ["_law_script", "_law_k"] (spFeed K)) (C_l_take:Cal P w K mg base 1 "_law_take" ["_law_feed_here", "_law_many"] spTake) (C_l_game:Cal P w K mg base 14 "_law_game" ["_law_feed_here", "_law_most", "_law_room"] spGame) (C_l_told:Cal P w K mg base 16 "_law_told" ["_law_switches", "_law_trees", "_law_p"] (spTold K)) (C_l_spoilt:Cal P w K mg base 14 "_law_spoilt" ["_law_feed_here", "_law_game_here", "_law_forms"] spSpoilt):FnOk P w K mg base CX0 17 f fd ["_law_script"] (spLaw K):=by
  refine F.ok sc_law (fun vs H Q E h=>?_) (fun cdv A outer s H vs Q E hr h=>?_)
  · obtain ⟨a,ns,rfl,_⟩:=h
    rfl
  obtain ⟨a,ss,rfl,hS,h63,q⟩:=h
  obtain ⟨p1,p2,eb⟩:=law_body
  rw [eb]
  refine ⟨_,(pss_cons (ps_for PassesOwn.never rfl (pi_range1 rfl B.range (pa_cons (pe_callB (call_max2 rfl) rfl B.max PyProof.Rows.boot_max (pa_cons pe_int (pa_cons (pe_callB (call_min2 rfl) rfl B.min PyProof.Rows.boot_min (pa_cons pe_int (pa_cons (pe_callB call_len_seq rfl B.len PySem.boot_len (pa_cons (pv 0) pa_nil)) pa_nil))) pa_nil))) pa_nil)) (pg_name (i:=1) sc_law.nd rfl (Or.inl rfl)) (pss_cons (ps_set (i:=2) sc_law.nd rfl (Or.inl rfl) (pe_cal C_l_feed hr (by decide) rfl (pa_cons (pv 0) (pa_cons (pv 1) pa_nil))))
        (pss_cons (ps_set (i:=3) sc_law.nd rfl (Or.inl rfl) (pe_cal C_l_game hr (by decide) rfl (pa_cons (pv 2) (pa_cons pe_int (pa_cons pe_int pa_nil)))))
        (pss_cons (ps_if (pt_cmpR (op_neD hr.units) (pe_cal C_l_told hr (by decide) rfl (pa_cons (pe_ix ix_tup (pv 3) pe_int (fun _ _=>rfl)) (pa_cons (pe_ix ix_tup (pv 3) pe_int (fun _ _=>rfl)) (pa_cons (pe_ix ix_tup (pv 3) pe_int (fun _ _=>rfl)) pa_nil)))) (pe_op op_catS (pe_tup (pa_cons pe_str pa_nil)) (pv 3)) (nomark _)) (pss_one (ps_ret pe_bl)) pss_nil)
        (pss_cons (ps_asg (pe_cal C_l_spoilt hr (by decide) rfl (pa_cons (pv 2) (pa_cons (pv 3) (pa_cons (pe_lst (pa_cons (pe_cal C_l_take hr (by decide) rfl (pa_cons (pv 2) (pa_cons pe_int pa_nil))) (pa_cons (pe_cal C_l_take hr (by decide) rfl (pa_cons (pv 2) (pa_cons pe_int pa_nil))) pa_nil))) pa_nil)))) (pg_tup rfl (pgs_cons (pg_name (i:=4) sc_law.nd rfl (Or.inl rfl)) (pgs_cons (pg_name (i:=5) sc_law.nd rfl (Or.inl rfl)) pgs_nil))))
        (pss_one (ps_if (PW.pt (pw_and (pt_cmpR (op_neD hr.units) (pv 5) (pe_lst pa_nil) (nomark _)) (pw_and1 (pt_cmpR (op_neD hr.units) (pe_cal C_l_told hr (by decide) rfl (pa_cons (pe_ix ix_tup (pv 4) pe_int (fun _ _=>rfl)) (pa_cons (pe_ix ix_tup (pv 4) pe_int (fun _ _=>rfl)) (pa_cons (pe_ix ix_tup (pv 4) pe_int (fun _ _=>rfl)) pa_nil)))) (pe_ix ix_list (pv 5) pe_int (fun _ _=>rfl)) (nomark _))))) (pss_one (ps_ret pe_bl)) pss_nil)))))))
      (pss_cons (ps_set (i:=6) sc_law.nd rfl (Or.inl rfl) pe_four (by unfold fourE; rfl))
      (pss_one (ps_ret (pe_and (pe_cmpR (op_eqD hr.units) (pe_cal C_l_told hr (by decide) rfl (pa_cons (pe_tup (pa_cons pe_str pa_nil)) (pa_cons (pv 6) (pa_cons pe_int pa_nil)))) (pe_tup (pa_cons pe_str (pa_cons pe_int pa_nil))) (nomark _)) (pe_one (pe_cmpR op_eq (pe_ix ix_tup (pe_cal C_l_told hr (by decide) rfl (pa_cons (pe_tup (pa_cons pe_str pa_nil)) (pa_cons (pe_slice sl_tupA (pv 6) po_none (po_some pe_int)) (pa_cons pe_int pa_nil)))) pe_int (fun _ _=>rfl)) pe_str (nomark _)))))))),?_⟩
  refine ⟨_,rfl,a,_,rfl,.inl hS,_,_,rfl,_,_,rfl,_,rfl,by (repeat' split) <;> omega,by (repeat' split) <;> omega,?_⟩
  refine for_range (fun i σ H'=>∃ x1 x2 x3 x4 x5:Option V,σ=[some (.ref a),x1,x2,x3,x4,x5,none]∧Same H H') ⟨_,_,_,_,_,rfl,Same.refl _⟩ ?_ ?_
  · rintro i σ H1 hi ⟨x1,x2,x3,x4,x5,rfl,S1⟩
    have i100:i < 100:=by
      revert hi
      (repeat' split) <;> omega
    refine ⟨_,rfl,_,rfl,a,ss,_,rfl,S1.seq hS,h63,by omega,by omega,fun f0 H2 f00 s2 F2=>?_⟩
    refine ⟨_,rfl,f0,4,8,rfl,F2,by decide,by decide,by decide,by decide,fun g ga gb ns tv ts p H3 hg hga nl nk nd hgb TS t1 t4 tok pp p2 p9 tp tc F3 S3=>?_⟩
    have S03:Same H1 H3:=s2.but f00 S3
    have tw:=tok_of nk tok
    have good:=good_of nd (fun t ht=>(tok t ht).1) t1 pp p2 p9 tp tc
    have nx:∀ x ∈ ns,x.length≤20:=fun x hx=>(nk x hx).1.1
    have sh:=mData_shaped (p:=p) (fun x hx=>(nk x hx).1) fun t ht=>⟨(tw t ht).1,(tw t ht).2.1⟩
    refine ⟨_,rfl,g,_,_,_,rfl,rfl,SqT.of hg,at0 ..,_,rfl,g,_,_,_,rfl,rfl,SqT.of hg,rfl,_,rfl,g,_,_,_,rfl,rfl,SqT.of hg,rfl,?_⟩
    refine ⟨ga,gb,ns,tv,ts,p,rfl,hga,by omega,nx,hgb,TS,t1,by omega,tw,by omega,by omega,fun _ wa a' b' H4 S4 hw ha' hb'=>?_,fun k v wa H4 vd=>?_⟩
    rotate_left
    · exfalso
      rcases vd with ⟨_,x,e,_⟩ | ⟨_,_,x,e,_⟩ | ⟨_,_,_,e,_⟩ | ⟨_,_,_,_,e,_⟩
      · rw [good.1] at e; cases e
      · rw [good.2.1] at e; cases e
      · exact e good.2.2.1
      · have:=good.2.2.2; omega
    have hg4:=S4 _ _ hg
    refine ⟨(by show 1≤sizeLine; decide),fun m1 hm1=>?_⟩
    have G5:=Same.new hm1 (.tup [.str "made"])
    refine ⟨_,rfl,m1,g,_,_,rfl,rfl,upd_same,G5 _ _ hg4,(by show 4≤sizeLine; decide),fun m2 H6 S6 hm2=>?_⟩
    have S46:=G5.trans S6
    have S36:=S4.trans S46
    refine ⟨_,_,mData_rep (S46 _ _ hw) (S46 _ _ ha') (S46 _ _ hb') (TS.mono (keepT_same S36)),mData_rep hm2 (S36 _ _ hga) (S36 _ _ hgb) (TS.mono (keepT_same S36)),sh,sh,?_⟩
    rw [SeqAt.eqv_refl _ (SeqAt.canLay_of_shaped sh)]
    refine ⟨false,rfl,iteF ?_⟩
    have F6:=F3.same S36
    refine ⟨_,rfl,_,rfl,_,rfl,f0,4,rfl,F6,by decide,by decide,fun d1 H7 d10 d14 F7 S7=>?_⟩
    refine ⟨_,rfl,f0,4,rfl,F7,by decide,by decide,fun d2 H8 d20 d24 F8 S8=>?_⟩
    have S68:=S7.trans S8
    have k68:=keepT_feed F6 S68
    refine ⟨(by show 2≤sizeLine; decide),fun fl hfl=>?_⟩
    have G9:=Same.new hfl (.lst ([d1,d2].map V.int))
    have k69:KeepT H6 (upd H8 fl (.lst ([d1,d2].map V.int))):=fun c xs h=>G9 _ _ (k68 _ _ h)
    refine ⟨f0,g,ga,gb,fl,ns,tv,ts,p,[d1,d2],rfl,F8.same G9,k69 _ _ (S36 _ _ hg),k69 _ _ (S36 _ _ hga),k69 _ _ (S36 _ _ hgb),(TS.mono (keepT_same S36)).mono k69,upd_same,F8.ne hfl,rfl,t1,t4,by omega,nk,⟨nd,by omega,fun t ht=>⟨(tok t ht).1,(tok t ht).2.1,by have:=(tok t ht).2.2; omega⟩⟩,by omega,by omega,fun r s a'' b'' L ns' tv' ts' p' ds H10 SP hs hr0=>?_⟩
    obtain ⟨W,du⟩:=SP
    have S110:Same H1 H10:=((s2.but f00 (S3.trans ((SameBut.of S36).trans (S68.trans (SameBut.of G9))))).but f00 W.S)
    refine ⟨r,_,rfl,SqT.of hr0,rfl,_,_,rfl,_,_,rfl,rfl,?_⟩
    refine ⟨_,rfl,(by show 0≤sizeLine; decide),fun e0 he0=>?_⟩
    have G11:=Same.new he0 (.lst [])
    have W11:=W.same G11
    obtain ⟨es,re,el,ec,ed⟩:=dues_rep (K:=K) W11.al
    refine ⟨_,_,.lst (SqL.of W11.hL) re,.lst (SqL.of upd_same) .nil,list_shaped ec ed,list_shaped (by simp [PyData.canLayAll0]) (by simp [PyData.depthAll]),?_⟩
    cases ds with
    | nil =>
      cases es with
      | cons _ _=>cases el
      | nil =>
        rw [list_nil]
        exact ⟨false,rfl,iteF (iteF ⟨_,_,_,_,_,rfl,S1.trans (S110.trans G11)⟩)⟩
    | cons d0 dr =>
      cases es with
      | nil=>cases el
      | cons e1 er =>
        rw [list_ne]
        refine ⟨true,rfl,iteT ?_⟩
        rcases du with du | ⟨c,rest,k,v,e,hc,vd⟩
        · cases du
        cases e
        have hs11:=G11 _ _ hs
        refine ⟨_,rfl,s,_,_,_,rfl,rfl,SqT.of hs11,at0 ..,_,rfl,s,_,_,_,rfl,rfl,SqT.of hs11,rfl,_,rfl,s,_,_,_,rfl,rfl,SqT.of hs11,rfl,?_⟩
        refine ⟨a'',b'',ns',tv',ts',p',rfl,W11.ha,by have:=W11.n4; omega,fun x hx=>(W11.nn x hx).1.1,W11.hb,W11.T,W11.t1,by have:=W11.t4; omega,W11.wf,W11.p0,W11.p12,fun gd=>?_,fun k2 v2 wa H12 vd2 S12 hw2=>?_⟩
        · exfalso
          rcases vd with ⟨_,x,e,_⟩ | ⟨_,_,x,e,_⟩ | ⟨_,_,_,e,_⟩ | ⟨_,_,_,_,e,_⟩
          · rw [gd.1] at e; cases e
          · rw [gd.2.1] at e; cases e
          · exact e gd.2.2.1
          · have:=gd.2.2.2; omega
        have ek:k2=k∧v2=v:=by
          rcases vd with ⟨rfl,x,e,rfl⟩ | ⟨rfl,d0,x,e,rfl⟩ | ⟨rfl,d0,s0,e,rfl⟩ | ⟨rfl,d0,s0,fo,e,rfl⟩ <;> rcases vd2 with ⟨rfl,x2,e2,rfl⟩ | ⟨rfl,d02,x2,e2,rfl⟩ | ⟨rfl,d02,s02,e2,rfl⟩ | ⟨rfl,d02,s02,fo2,e2,rfl⟩ <;> simp_all
        obtain ⟨rfl,rfl⟩:=ek
        obtain ⟨c',k',v',ec',hc',sv⟩:=W11.al _ List.mem_cons_self
        cases ec'
        have hcc:=G11 _ _ hc
        rw [hc'] at hcc
        have sv':SmV v2:=by
          have:=HO.tup.inj (Option.some.inj hcc)
          simp at this
          rw [← this.2]
          exact sv
        refine ⟨_,rfl,L,_,_,_,rfl,rfl,SqL.of (S12 _ _ W11.hL),at0 ..,?_⟩
        have shd:=(dData_shaped (k:=k2) sv').1
        refine ⟨_,_,dData_rep hw2 sv',dData_rep (S12 _ _ (G11 _ _ hc)) sv',shd,shd,?_⟩
        rw [SeqAt.eqv_refl _ (SeqAt.canLay_of_shaped shd)]
        exact ⟨false,rfl,iteF ⟨_,_,_,_,_,rfl,S1.trans (S110.trans (G11.trans S12))⟩⟩
  · rintro σ H1 ⟨x1,x2,x3,x4,x5,rfl,S1⟩
    refine fun c tv H2 S2 hc TS=>?_
    have vl:=TS.length
    have nb:NmOk "b" := ⟨by decide +kernel,by decide +kernel,by decide +kernel⟩
    have wf4:∀ t ∈ ([.is "b", .yes,.no,.is "b"]:List Tr),t.wf∧t.depth≤10∧t.size≤400:=fun t ht=>by
      simp only [List.mem_cons,List.not_mem_nil,or_false] at ht
      rcases ht with rfl | rfl | rfl | rfl
      · exact ⟨nb,by decide,by decide⟩
      · exact ⟨trivial,by decide,by decide⟩
      · exact ⟨trivial,by decide,by decide⟩
      · exact ⟨nb,by decide,by decide⟩
    have lb:∀ x ∈ (["b"]:List Str),x.length≤20:=by decide +kernel
    refine ⟨(by show 1≤sizeLine; decide),fun b1 hb1=>?_⟩
    have G3:=Same.new hb1 (.tup ((["b"]:List Str).map V.str))
    refine ⟨_,rfl,b1,c,["b"],tv,_,3,rfl,upd_same,by decide,lb,G3 _ _ hc,TS.mono (keepT_same G3),by decide,by decide,wf4,by decide,by decide,fun gd=>?_,fun k v wa H4 vd S4 hw=>?_⟩
    · exfalso
      rcases four_small with ⟨e,_⟩ | ⟨e,_⟩ | ⟨e,_⟩ | ⟨_,_,_,_,e,_⟩
      · cases e
      · cases e
      · cases e
      · have:=gd.2.2.2; omega
    have ek:k=3∧v=.int 3:=by
      rcases four_small with ⟨e,_⟩ | ⟨e,_⟩ | ⟨e,_⟩ | ⟨_,d0,s0,fo,e,ev⟩
      · cases e
      · cases e
      · cases e
      rcases vd with ⟨_,x2,e2,_⟩ | ⟨_,_,x2,e2,_⟩ | ⟨_,_,_,e2,_⟩ | ⟨rfl,_,_,_,_,rfl⟩
      · rw [d0] at e2; cases e2
      · rw [s0] at e2; cases e2
      · exact absurd fo e2
      · exact ⟨rfl,ev.symm⟩
    obtain ⟨rfl,rfl⟩:=ek
    refine ⟨(by show 2≤sizeLine; decide),fun d hd=>?_⟩
    have G5:=Same.new hd (.tup [.str "small", .int 3])
    have sv:SmV (.int 3):=.inl ⟨3,rfl⟩
    have shd:=(dData_shaped (k:=3) sv).1
    refine ⟨_,_,dData_rep (G5 _ _ hw) sv,dData_rep (w:=wrd 3) upd_same sv,shd,shd,?_⟩
    rw [SeqAt.eqv_refl _ (SeqAt.canLay_of_shaped shd)]
    refine ⟨true,rfl,iteT ?_⟩
    have S25:=G3.trans (S4.trans G5)
    refine ⟨(by show 1≤sizeLine; decide),fun b2 hb2=>?_⟩
    have G6:=Same.new hb2 (.tup ((["b"]:List Str).map V.str))
    have S26:=S25.trans G6
    refine ⟨_,rfl,3,rfl,c,_,rfl,SqT.of (S26 _ _ hc),S26 _ _ hc,fun c2 H7 S7 hc2=>?_⟩
    have e3:cutV tv none (some 3)=tv.take 3:=cutTo (k:=3)
    rw [e3] at hc2
    have S27:=S26.trans S7
    have T3:TreesAt H7 (tv.take 3) [.is "b", .yes,.no]:=(TS.mono (keepT_same S27)).take 3
    refine ⟨b2,c2,["b"],tv.take 3,_,3,rfl,S7 _ _ upd_same,by decide,lb,hc2,T3,by decide,by decide,fun t ht=>wf4 t (by
      simp only [List.mem_cons,List.not_mem_nil,or_false] at ht ⊢
      rcases ht with rfl | rfl | rfl <;> simp),by decide,by decide,fun _ wa2 a' b' H8 S8 hw8 _ _=>?_,fun k v wa2 H8 vd=>?_⟩
    rotate_left
    · exfalso
      have good:=three_good
      rcases vd with ⟨_,x,e,_⟩ | ⟨_,_,x,e,_⟩ | ⟨_,_,_,e,_⟩ | ⟨_,_,_,_,e,_⟩
      · rw [good.1] at e; cases e
      · rw [good.2.1] at e; cases e
      · exact e good.2.2.1
      · have:=good.2.2.2; omega
    refine ⟨wa2,_,_,_,rfl,rfl,SqT.of hw8,at0 ..,rfl,?_⟩
    rw [decide_eq_true rfl]
    exact q H8
theorem clsfc {K:PySem.W.Frag} {C g:Addr} {m:Str} (h:PySem.W.findCls K (.ref C) (.type "type") m=some (.val (.ref g))):(match PySem.W.findCls K (.ref C) (.type "type") m with | some (.val v)=>some v | _=>none)=some (.ref g):=by
  rw [h]
end
theorem all_mk {l:PySem.W.OpenLaw} {w:World} {K:PySem.W.Frag} {h:Heap} {mg:Str→Option Value} {fa f0 f1 f2 f3 f4 f5 f6 f7 f8 f9 f10 f11 f12 f13 f14 f15 f16 f17 f18 f19 f20 f21 f22 f23 f24:Addr} (X:K.In h) (G:h.Ns mainGlobals mg) (hfa:mg "law" = some (.ref fa))
    {od0 an0 od1 an1 od2 an2 od3 an3 od4 an4 od5 an5 od6 an6 od7 an7 od8 an8 od9 an9 od10 an10 od11 an11 od12 an12 od13 an13 od14 an14 od15 an15 od16 an16 od17 an17 od18 an18 od19 an19 od20 an20 od21 an21 od22 an22 od23 an23 od24 an24:Option Addr} {sl0 sl1 sl2 sl3 sl4 sl5 sl6 sl7 sl8 sl9 sl10 sl11 sl12 sl13 sl14 sl15 sl16 sl17 sl18 sl19 sl20 sl21 sl22 sl23 sl24:Array (Option Value)} {oc0 kV0 dc0 pm0 cd0 ct0 oc1 kV1 dc1 pm1 cd1 ct1 oc2 kV2 dc2 pm2 cd2 ct2 oc3 kV3 dc3 pm3 cd3 ct3 oc4 kV4 dc4 pm4 cd4 ct4 oc5 kV5 dc5 pm5 cd5 ct5 oc6 kV6 dc6 pm6 cd6 ct6 oc7 kV7 dc7 pm7 cd7 ct7 oc8 kV8 dc8 pm8 cd8 ct8 oc9 kV9 dc9 pm9 cd9 ct9 oc10 kV10 dc10 pm10 cd10 ct10 oc11 kV11 dc11 pm11 cd11 ct11 oc12 kV12 dc12 pm12 cd12 ct12 oc13 kV13 dc13 pm13 cd13 ct13 oc14 kV14 dc14 pm14 cd14 ct14 oc15 kV15 dc15 pm15 cd15 ct15 oc16 kV16 dc16 pm16 cd16 ct16 oc17 kV17 dc17 pm17 cd17 ct17 oc18 kV18 dc18 pm18 cd18 ct18 oc19 kV19 dc19 pm19 cd19 ct19 oc20 kV20 dc20 pm20 cd20 ct20 oc21 kV21 dc21 pm21 cd21 ct21 oc22 kV22 dc22 pm22 cd22 ct22 oc23 kV23 dc23 pm23 cd23 ct23 oc24 kV24 dc24 pm24 cd24 ct24:Value}
    (a0:PySem.W.nsIn K mainGlobals "is_field" = some (some (.ref f0))) (l0:K.lookup f0=some ⟨oc0,od0,.func (PySem.W.fnOf "is_field" "is_field" (defArgs s_is_field) (defBody s_is_field) (defScope s_is_field) .none kV0 dc0 pm0 an0 cd0 ct0),sl0⟩) (c0:PySem.W.codeIn K cd0 "is_field" = true) (k0:PySem.W.keepIn K (.ref f0)=true)
    (a1:PySem.W.nsIn K mainGlobals "trees_within" = some (some (.ref f1))) (l1:K.lookup f1=some ⟨oc1,od1,.func (PySem.W.fnOf "trees_within" "trees_within" (defArgs s_trees_within) (defBody s_trees_within) (defScope s_trees_within) .none kV1 dc1 pm1 an1 cd1 ct1),sl1⟩) (c1:PySem.W.codeIn K cd1 "trees_within" = true) (k1:PySem.W.keepIn K (.ref f1)=true)
    (a2:PySem.W.nsIn K mainGlobals "names_in" = some (some (.ref f2))) (l2:K.lookup f2=some ⟨oc2,od2,.func (PySem.W.fnOf "names_in" "names_in" (defArgs s_names_in) (defBody s_names_in) (defScope s_names_in) .none kV2 dc2 pm2 an2 cd2 ct2),sl2⟩) (c2:PySem.W.codeIn K cd2 "names_in" = true) (k2:PySem.W.keepIn K (.ref f2)=true)
    (a3:PySem.W.nsIn K mainGlobals "worth_of" = some (some (.ref f3))) (l3:K.lookup f3=some ⟨oc3,od3,.func (PySem.W.fnOf "worth_of" "worth_of" (defArgs s_worth_of) (defBody s_worth_of) (defScope s_worth_of) .none kV3 dc3 pm3 an3 cd3 ct3),sl3⟩) (c3:PySem.W.codeIn K cd3 "worth_of" = true) (k3:PySem.W.keepIn K (.ref f3)=true)
    (a4:PySem.W.nsIn K mainGlobals "joined_worth" = some (some (.ref f4))) (l4:K.lookup f4=some ⟨oc4,od4,.func (PySem.W.fnOf "joined_worth" "joined_worth" (defArgs s_joined_worth) (defBody s_joined_worth) (defScope s_joined_worth) .none kV4 dc4 pm4 an4 cd4 ct4),sl4⟩) (c4:PySem.W.codeIn K cd4 "joined_worth" = true) (k4:PySem.W.keepIn K (.ref f4)=true)
    (a5:PySem.W.nsIn K mainGlobals "degree_of" = some (some (.ref f5))) (l5:K.lookup f5=some ⟨oc5,od5,.func (PySem.W.fnOf "degree_of" "degree_of" (defArgs s_degree_of) (defBody s_degree_of) (defScope s_degree_of) .none kV5 dc5 pm5 an5 cd5 ct5),sl5⟩) (c5:PySem.W.codeIn K cd5 "degree_of" = true) (k5:PySem.W.keepIn K (.ref f5)=true)
    (a6:PySem.W.nsIn K mainGlobals "look_switches" = some (some (.ref f6))) (l6:K.lookup f6=some ⟨oc6,od6,.func (PySem.W.fnOf "look_switches" "look_switches" (defArgs s_look_switches) (defBody s_look_switches) (defScope s_look_switches) .none kV6 dc6 pm6 an6 cd6 ct6),sl6⟩) (c6:PySem.W.codeIn K cd6 "look_switches" = true) (k6:PySem.W.keepIn K (.ref f6)=true)
    (a7:PySem.W.nsIn K mainGlobals "look_names" = some (some (.ref f7))) (l7:K.lookup f7=some ⟨oc7,od7,.func (PySem.W.fnOf "look_names" "look_names" (defArgs s_look_names) (defBody s_look_names) (defScope s_look_names) .none kV7 dc7 pm7 an7 cd7 ct7),sl7⟩) (c7:PySem.W.codeIn K cd7 "look_names" = true) (k7:PySem.W.keepIn K (.ref f7)=true)
    (a8:PySem.W.nsIn K mainGlobals "look_field" = some (some (.ref f8))) (l8:K.lookup f8=some ⟨oc8,od8,.func (PySem.W.fnOf "look_field" "look_field" (defArgs s_look_field) (defBody s_look_field) (defScope s_look_field) .none kV8 dc8 pm8 an8 cd8 ct8),sl8⟩) (c8:PySem.W.codeIn K cd8 "look_field" = true) (k8:PySem.W.keepIn K (.ref f8)=true)
    (a9:PySem.W.nsIn K mainGlobals "look_size" = some (some (.ref f9))) (l9:K.lookup f9=some ⟨oc9,od9,.func (PySem.W.fnOf "look_size" "look_size" (defArgs s_look_size) (defBody s_look_size) (defScope s_look_size) .none kV9 dc9 pm9 an9 cd9 ct9),sl9⟩) (c9:PySem.W.codeIn K cd9 "look_size" = true) (k9:PySem.W.keepIn K (.ref f9)=true)
    (a10:PySem.W.nsIn K mainGlobals "_law_feed" = some (some (.ref f10))) (l10:K.lookup f10=some ⟨oc10,od10,.func (PySem.W.fnOf "_law_feed" "_law_feed" (defArgs s_l_feed) (defBody s_l_feed) (defScope s_l_feed) .none kV10 dc10 pm10 an10 cd10 ct10),sl10⟩) (c10:PySem.W.codeIn K cd10 "_law_feed" = true) (k10:PySem.W.keepIn K (.ref f10)=true)
    (a11:PySem.W.nsIn K mainGlobals "_law_take" = some (some (.ref f11))) (l11:K.lookup f11=some ⟨oc11,od11,.func (PySem.W.fnOf "_law_take" "_law_take" (defArgs s_l_take) (defBody s_l_take) (defScope s_l_take) .none kV11 dc11 pm11 an11 cd11 ct11),sl11⟩) (c11:PySem.W.codeIn K cd11 "_law_take" = true) (k11:PySem.W.keepIn K (.ref f11)=true)
    (a12:PySem.W.nsIn K mainGlobals "_law_names" = some (some (.ref f12))) (l12:K.lookup f12=some ⟨oc12,od12,.func (PySem.W.fnOf "_law_names" "_law_names" (defArgs s_l_names) (defBody s_l_names) (defScope s_l_names) .none kV12 dc12 pm12 an12 cd12 ct12),sl12⟩) (c12:PySem.W.codeIn K cd12 "_law_names" = true) (k12:PySem.W.keepIn K (.ref f12)=true)
    (a13:PySem.W.nsIn K mainGlobals "_law_tree" = some (some (.ref f13))) (l13:K.lookup f13=some ⟨oc13,od13,.func (PySem.W.fnOf "_law_tree" "_law_tree" (defArgs s_l_tree) (defBody s_l_tree) (defScope s_l_tree) .none kV13 dc13 pm13 an13 cd13 ct13),sl13⟩) (c13:PySem.W.codeIn K cd13 "_law_tree" = true) (k13:PySem.W.keepIn K (.ref f13)=true)
    (a14:PySem.W.nsIn K mainGlobals "_law_names_of" = some (some (.ref f14))) (l14:K.lookup f14=some ⟨oc14,od14,.func (PySem.W.fnOf "_law_names_of" "_law_names_of" (defArgs s_l_names_of) (defBody s_l_names_of) (defScope s_l_names_of) .none kV14 dc14 pm14 an14 cd14 ct14),sl14⟩) (c14:PySem.W.codeIn K cd14 "_law_names_of" = true) (k14:PySem.W.keepIn K (.ref f14)=true)
    (a15:PySem.W.nsIn K mainGlobals "_law_need" = some (some (.ref f15))) (l15:K.lookup f15=some ⟨oc15,od15,.func (PySem.W.fnOf "_law_need" "_law_need" (defArgs s_l_need) (defBody s_l_need) (defScope s_l_need) .none kV15 dc15 pm15 an15 cd15 ct15),sl15⟩) (c15:PySem.W.codeIn K cd15 "_law_need" = true) (k15:PySem.W.keepIn K (.ref f15)=true)
    (a16:PySem.W.nsIn K mainGlobals "_law_is_prime" = some (some (.ref f16))) (l16:K.lookup f16=some ⟨oc16,od16,.func (PySem.W.fnOf "_law_is_prime" "_law_is_prime" (defArgs s_l_is_prime) (defBody s_l_is_prime) (defScope s_l_is_prime) .none kV16 dc16 pm16 an16 cd16 ct16),sl16⟩) (c16:PySem.W.codeIn K cd16 "_law_is_prime" = true) (k16:PySem.W.keepIn K (.ref f16)=true)
    (a17:PySem.W.nsIn K mainGlobals "_law_field" = some (some (.ref f17))) (l17:K.lookup f17=some ⟨oc17,od17,.func (PySem.W.fnOf "_law_field" "_law_field" (defArgs s_l_field) (defBody s_l_field) (defScope s_l_field) .none kV17 dc17 pm17 an17 cd17 ct17),sl17⟩) (c17:PySem.W.codeIn K cd17 "_law_field" = true) (k17:PySem.W.keepIn K (.ref f17)=true)
    (a18:PySem.W.nsIn K mainGlobals "_law_game" = some (some (.ref f18))) (l18:K.lookup f18=some ⟨oc18,od18,.func (PySem.W.fnOf "_law_game" "_law_game" (defArgs s_l_game) (defBody s_l_game) (defScope s_l_game) .none kV18 dc18 pm18 an18 cd18 ct18),sl18⟩) (c18:PySem.W.codeIn K cd18 "_law_game" = true) (k18:PySem.W.keepIn K (.ref f18)=true)
    (a19:PySem.W.nsIn K mainGlobals "_law_told" = some (some (.ref f19))) (l19:K.lookup f19=some ⟨oc19,od19,.func (PySem.W.fnOf "_law_told" "_law_told" (defArgs s_l_told) (defBody s_l_told) (defScope s_l_told) .none kV19 dc19 pm19 an19 cd19 ct19),sl19⟩) (c19:PySem.W.codeIn K cd19 "_law_told" = true) (k19:PySem.W.keepIn K (.ref f19)=true)
    (a20:PySem.W.nsIn K mainGlobals "_law_field_told" = some (some (.ref f20))) (l20:K.lookup f20=some ⟨oc20,od20,.func (PySem.W.fnOf "_law_field_told" "_law_field_told" (defArgs s_l_field_told) (defBody s_l_field_told) (defScope s_l_field_told) .none kV20 dc20 pm20 an20 cd20 ct20),sl20⟩) (c20:PySem.W.codeIn K cd20 "_law_field_told" = true) (k20:PySem.W.keepIn K (.ref f20)=true)
    (a21:PySem.W.nsIn K mainGlobals "_law_often" = some (some (.ref f21))) (l21:K.lookup f21=some ⟨oc21,od21,.func (PySem.W.fnOf "_law_often" "_law_often" (defArgs s_l_often) (defBody s_l_often) (defScope s_l_often) .none kV21 dc21 pm21 an21 cd21 ct21),sl21⟩) (c21:PySem.W.codeIn K cd21 "_law_often" = true) (k21:PySem.W.keepIn K (.ref f21)=true)
    (a22:PySem.W.nsIn K mainGlobals "_law_spoilt_leaf" = some (some (.ref f22))) (l22:K.lookup f22=some ⟨oc22,od22,.func (PySem.W.fnOf "_law_spoilt_leaf" "_law_spoilt_leaf" (defArgs s_l_spoilt_leaf) (defBody s_l_spoilt_leaf) (defScope s_l_spoilt_leaf) .none kV22 dc22 pm22 an22 cd22 ct22),sl22⟩) (c22:PySem.W.codeIn K cd22 "_law_spoilt_leaf" = true) (k22:PySem.W.keepIn K (.ref f22)=true)
    (a23:PySem.W.nsIn K mainGlobals "_law_spoilt" = some (some (.ref f23))) (l23:K.lookup f23=some ⟨oc23,od23,.func (PySem.W.fnOf "_law_spoilt" "_law_spoilt" (defArgs s_l_spoilt) (defBody s_l_spoilt) (defScope s_l_spoilt) .none kV23 dc23 pm23 an23 cd23 ct23),sl23⟩) (c23:PySem.W.codeIn K cd23 "_law_spoilt" = true) (k23:PySem.W.keepIn K (.ref f23)=true)
    (a24:PySem.W.nsIn K mainGlobals "law" = some (some (.ref f24))) (l24:K.lookup f24=some ⟨oc24,od24,.func (PySem.W.fnOf "law" "law" (defArgs s_law) (defBody s_law) (defScope s_law) .none kV24 dc24 pm24 an24 cd24 ct24),sl24⟩) (c24:PySem.W.codeIn K cd24 "law" = true) (k24:PySem.W.keepIn K (.ref f24)=true)
    {CA gA TA NA cc0 N0 cc1 N1 cc2 N2 cc3 N3 cc4 N4 cc5 N5 cc6 N6 cc7 N7 cc8 N8 cc9 N9 g1 g2 g3 g4:Addr} {odA anA tdA ddA dd0 dd1 dd2 dd3 dd4 dd5 dd6 dd7 dd8 dd9 od_1 an_1 od_2 an_2 od_3 an_3 od_4 an_4:Option Addr} {slA tslA sl_1 sl_2 sl_3 sl_4:Array (Option Value)} {ocA kVA dcA pmA cdA ctA kV_1 dc_1 pm_1 cd_1 ct_1 kV_2 dc_2 pm_2 cd_2 ct_2 kV_3 dc_3 pm_3 cd_3 ct_3 kV_4 dc_4 pm_4 cd_4 ct_4:Value} {tkA:Tok} {tnA:Nat} {nmA qnA nm0 qn0 nm1 qn1 nm2 qn2 nm3 qn3 nm4 qn4 nm5 qn5 nm6 qn6 nm7 qn7 nm8 qn8 nm9 qn9:Str} {bsA subA bs0 sub0 bs1 sub1 bs2 sub2 bs3 sub3 bs4 sub4 bs5 sub5 bs6 sub6 bs7 sub7 bs8 sub8 bs9 sub9:List Value} {snA sn0 sn1 sn2 sn3 sn4 sn5 sn6 sn7 sn8 sn9:List Str} {abA ab0 ab1 ab2 ab3 ab4 ab5 ab6 ab7 ab8 ab9:Bool} {colA col0 col1 col2 col3 col4 col5 col6 col7 col8 col9:Option Bool} {q0A q1A q2A q3A q5A q00 q10 q20 q30 q50 q01 q11 q21 q31 q51 q02 q12 q22 q32 q52 q03 q13 q23 q33 q53 q04 q14 q24 q34 q54 q05 q15 q25 q35 q55 q06 q16 q26 q36 q56 q07 q17 q27 q37 q57 q08 q18 q28 q38 q58 q09 q19 q29 q39 q59:Option Value} {C gI gM gW:Addr} {odI anI odM anM odW anW:Option Addr} {slI slM slW:Array (Option Value)} {ocI kVI dcI pmI cdI ctI ocM kVM dcM pmM cdM ctM ocW kVW dcW pmW cdW ctW:Value} {te:Tok}
    (gAs:PySem.W.nsIn K mainGlobals "AskError" = some (some (.ref CA)))
    (iAs0:K.lookup CA=some (excClassObj nmA qnA CA NA bsA bmV true snA subA abA colA ddA q0A q1A q2A q3A q5A "ValueError.__new__"))
    (xga:PySem.W.specialIn K (.ref CA) "__getattribute__" = some (some (.builtin "type.__getattribute__")))
    (xrd:PySem.W.readsIn K CA (.type "type")=true)
    (xfc0:PySem.W.findCls K (.ref CA) (.type "type") "__init__" = some (.val (.ref gA)))
    (xlk:K.lookup gA=some ⟨ocA,odA,.func (PySem.W.fnOf "__init__" "AskError.__init__" (defArgs s_AskError) (defBody s_AskError) (defScope s_AskError) (.ref TA) kVA dcA pmA anA cdA ctA),slA⟩)
    (xtp:K.lookup TA=some ⟨.type "tuple", tdA,.seq #[.str "" tkA] tnA,tslA⟩)
    (xcd:PySem.W.codeIn K cdA "AskError.__init__" = true)
    (xkp:PySem.W.keepIn K (.ref gA)=true)
    (yg0:PySem.W.nsIn K mainGlobals "NoText" = some (some (.ref cc0)))
    (yo0:K.lookup cc0=some (excClassObj nm0 qn0 cc0 N0 bs0 (.ref CA::bmV) true sn0 sub0 ab0 col0 dd0 q00 q10 q20 q30 q50 "ValueError.__new__"))
    (ys0:PySem.W.findIn K (.ref cc0) "__setattr__" = some (some (.builtin "object.__setattr__")))
    (ya0:PySem.W.findIn K (.ref cc0) "__getattribute__" = some (some (.builtin "BaseException.__getattribute__")))
    (yt0:PySem.W.findIn K (.ref cc0) "__getattr__" = some none)
    (yc0:PySem.W.findIn K (.ref cc0) "__class__" = some (some (.builtin "object.__class__")))
    (ye0:cc0 ≠ CA)
    (yg1:PySem.W.nsIn K mainGlobals "Twice" = some (some (.ref cc1)))
    (yo1:K.lookup cc1=some (excClassObj nm1 qn1 cc1 N1 bs1 (.ref CA::bmV) true sn1 sub1 ab1 col1 dd1 q01 q11 q21 q31 q51 "ValueError.__new__"))
    (ys1:PySem.W.findIn K (.ref cc1) "__setattr__" = some (some (.builtin "object.__setattr__")))
    (ya1:PySem.W.findIn K (.ref cc1) "__getattribute__" = some (some (.builtin "BaseException.__getattribute__")))
    (yt1:PySem.W.findIn K (.ref cc1) "__getattr__" = some none)
    (yc1:PySem.W.findIn K (.ref cc1) "__class__" = some (some (.builtin "object.__class__")))
    (yi1:PySem.W.findIn K (.ref cc1) "__init__" = some (some (.ref g1)))
    (yl1:K.lookup g1=some ⟨.type "function", od_1,.func (PySem.W.fnOf "__init__" "Twice.__init__" (defArgs s_Twice) (defBody s_Twice) (defScope s_Twice) .none kV_1 dc_1 pm_1 an_1 cd_1 ct_1),sl_1⟩)
    (yk1:PySem.W.codeIn K cd_1 "Twice.__init__" = true)
    (yp1:PySem.W.keepIn K (.ref g1)=true)
    (yq1:PySem.W.keepIn K (.ref cc1)=true)
    (yn1:PySem.W.findIn K (.ref cc1) "name" = some none)
    (ye1:cc1 ≠ CA)
    (yg2:PySem.W.nsIn K mainGlobals "NoName" = some (some (.ref cc2)))
    (yo2:K.lookup cc2=some (excClassObj nm2 qn2 cc2 N2 bs2 (.ref CA::bmV) true sn2 sub2 ab2 col2 dd2 q02 q12 q22 q32 q52 "ValueError.__new__"))
    (ys2:PySem.W.findIn K (.ref cc2) "__setattr__" = some (some (.builtin "object.__setattr__")))
    (ya2:PySem.W.findIn K (.ref cc2) "__getattribute__" = some (some (.builtin "BaseException.__getattribute__")))
    (yt2:PySem.W.findIn K (.ref cc2) "__getattr__" = some none)
    (yc2:PySem.W.findIn K (.ref cc2) "__class__" = some (some (.builtin "object.__class__")))
    (yi2:PySem.W.findIn K (.ref cc2) "__init__" = some (some (.ref g2)))
    (yl2:K.lookup g2=some ⟨.type "function", od_2,.func (PySem.W.fnOf "__init__" "NoName.__init__" (defArgs s_NoName) (defBody s_NoName) (defScope s_NoName) .none kV_2 dc_2 pm_2 an_2 cd_2 ct_2),sl_2⟩)
    (yk2:PySem.W.codeIn K cd_2 "NoName.__init__" = true)
    (yp2:PySem.W.keepIn K (.ref g2)=true)
    (yq2:PySem.W.keepIn K (.ref cc2)=true)
    (yn2:PySem.W.findIn K (.ref cc2) "name" = some none)
    (ye2:cc2 ≠ CA)
    (yg3:PySem.W.nsIn K mainGlobals "NoField" = some (some (.ref cc3)))
    (yo3:K.lookup cc3=some (excClassObj nm3 qn3 cc3 N3 bs3 (.ref CA::bmV) true sn3 sub3 ab3 col3 dd3 q03 q13 q23 q33 q53 "ValueError.__new__"))
    (ys3:PySem.W.findIn K (.ref cc3) "__setattr__" = some (some (.builtin "object.__setattr__")))
    (ya3:PySem.W.findIn K (.ref cc3) "__getattribute__" = some (some (.builtin "BaseException.__getattribute__")))
    (yt3:PySem.W.findIn K (.ref cc3) "__getattr__" = some none)
    (yc3:PySem.W.findIn K (.ref cc3) "__class__" = some (some (.builtin "object.__class__")))
    (yi3:PySem.W.findIn K (.ref cc3) "__init__" = some (some (.ref g3)))
    (yl3:K.lookup g3=some ⟨.type "function", od_3,.func (PySem.W.fnOf "__init__" "NoField.__init__" (defArgs s_NoField) (defBody s_NoField) (defScope s_NoField) .none kV_3 dc_3 pm_3 an_3 cd_3 ct_3),sl_3⟩)
    (yk3:PySem.W.codeIn K cd_3 "NoField.__init__" = true)
    (yp3:PySem.W.keepIn K (.ref g3)=true)
    (yq3:PySem.W.keepIn K (.ref cc3)=true)
    (yn3:PySem.W.findIn K (.ref cc3) "number" = some none)
    (ye3:cc3 ≠ CA)
    (yg4:PySem.W.nsIn K mainGlobals "SmallField" = some (some (.ref cc4)))
    (yo4:K.lookup cc4=some (excClassObj nm4 qn4 cc4 N4 bs4 (.ref CA::bmV) true sn4 sub4 ab4 col4 dd4 q04 q14 q24 q34 q54 "ValueError.__new__"))
    (ys4:PySem.W.findIn K (.ref cc4) "__setattr__" = some (some (.builtin "object.__setattr__")))
    (ya4:PySem.W.findIn K (.ref cc4) "__getattribute__" = some (some (.builtin "BaseException.__getattribute__")))
    (yt4:PySem.W.findIn K (.ref cc4) "__getattr__" = some none)
    (yc4:PySem.W.findIn K (.ref cc4) "__class__" = some (some (.builtin "object.__class__")))
    (yi4:PySem.W.findIn K (.ref cc4) "__init__" = some (some (.ref g4)))
    (yl4:K.lookup g4=some ⟨.type "function", od_4,.func (PySem.W.fnOf "__init__" "SmallField.__init__" (defArgs s_SmallField) (defBody s_SmallField) (defScope s_SmallField) .none kV_4 dc_4 pm_4 an_4 cd_4 ct_4),sl_4⟩)
    (yk4:PySem.W.codeIn K cd_4 "SmallField.__init__" = true)
    (yp4:PySem.W.keepIn K (.ref g4)=true)
    (yq4:PySem.W.keepIn K (.ref cc4)=true)
    (yn4:PySem.W.findIn K (.ref cc4) "degree" = some none)
    (ye4:cc4 ≠ CA)
    (yg5:PySem.W.nsIn K mainGlobals "NoRow" = some (some (.ref cc5)))
    (yo5:K.lookup cc5=some (excClassObj nm5 qn5 cc5 N5 bs5 (.ref CA::bmV) true sn5 sub5 ab5 col5 dd5 q05 q15 q25 q35 q55 "ValueError.__new__"))
    (ys5:PySem.W.findIn K (.ref cc5) "__setattr__" = some (some (.builtin "object.__setattr__")))
    (ya5:PySem.W.findIn K (.ref cc5) "__getattribute__" = some (some (.builtin "BaseException.__getattribute__")))
    (yt5:PySem.W.findIn K (.ref cc5) "__getattr__" = some none)
    (yc5:PySem.W.findIn K (.ref cc5) "__class__" = some (some (.builtin "object.__class__")))
    (ye5:cc5 ≠ CA)
    (yg6:PySem.W.nsIn K mainGlobals "NoTurn" = some (some (.ref cc6)))
    (yo6:K.lookup cc6=some (excClassObj nm6 qn6 cc6 N6 bs6 (.ref CA::bmV) true sn6 sub6 ab6 col6 dd6 q06 q16 q26 q36 q56 "ValueError.__new__"))
    (ys6:PySem.W.findIn K (.ref cc6) "__setattr__" = some (some (.builtin "object.__setattr__")))
    (ya6:PySem.W.findIn K (.ref cc6) "__getattribute__" = some (some (.builtin "BaseException.__getattribute__")))
    (yt6:PySem.W.findIn K (.ref cc6) "__getattr__" = some none)
    (yc6:PySem.W.findIn K (.ref cc6) "__class__" = some (some (.builtin "object.__class__")))
    (ye6:cc6 ≠ CA)
    (yg7:PySem.W.nsIn K mainGlobals "NoCount" = some (some (.ref cc7)))
    (yo7:K.lookup cc7=some (excClassObj nm7 qn7 cc7 N7 bs7 (.ref CA::bmV) true sn7 sub7 ab7 col7 dd7 q07 q17 q27 q37 q57 "ValueError.__new__"))
    (ys7:PySem.W.findIn K (.ref cc7) "__setattr__" = some (some (.builtin "object.__setattr__")))
    (ya7:PySem.W.findIn K (.ref cc7) "__getattribute__" = some (some (.builtin "BaseException.__getattribute__")))
    (yt7:PySem.W.findIn K (.ref cc7) "__getattr__" = some none)
    (yc7:PySem.W.findIn K (.ref cc7) "__class__" = some (some (.builtin "object.__class__")))
    (ye7:cc7 ≠ CA)
    (yg8:PySem.W.nsIn K mainGlobals "NoNumber" = some (some (.ref cc8)))
    (yo8:K.lookup cc8=some (excClassObj nm8 qn8 cc8 N8 bs8 (.ref CA::bmV) true sn8 sub8 ab8 col8 dd8 q08 q18 q28 q38 q58 "ValueError.__new__"))
    (ys8:PySem.W.findIn K (.ref cc8) "__setattr__" = some (some (.builtin "object.__setattr__")))
    (ya8:PySem.W.findIn K (.ref cc8) "__getattribute__" = some (some (.builtin "BaseException.__getattribute__")))
    (yt8:PySem.W.findIn K (.ref cc8) "__getattr__" = some none)
    (yc8:PySem.W.findIn K (.ref cc8) "__class__" = some (some (.builtin "object.__class__")))
    (ye8:cc8 ≠ CA)
    (yg9:PySem.W.nsIn K mainGlobals "TooMany" = some (some (.ref cc9)))
    (yo9:K.lookup cc9=some (excClassObj nm9 qn9 cc9 N9 bs9 (.ref CA::bmV) true sn9 sub9 ab9 col9 dd9 q09 q19 q29 q39 q59 "ValueError.__new__"))
    (ys9:PySem.W.findIn K (.ref cc9) "__setattr__" = some (some (.builtin "object.__setattr__")))
    (ya9:PySem.W.findIn K (.ref cc9) "__getattribute__" = some (some (.builtin "BaseException.__getattribute__")))
    (yt9:PySem.W.findIn K (.ref cc9) "__getattr__" = some none)
    (yc9:PySem.W.findIn K (.ref cc9) "__class__" = some (some (.builtin "object.__class__")))
    (ye9:cc9 ≠ CA)
    (hV0:PySem.W.nsIn K mainGlobals "ValueError" = some none)
    (ynd:[cc0,cc1,cc2,cc3,cc4,cc5,cc6,cc7,cc8,cc9].Nodup)
    (gg:PySem.W.nsIn K mainGlobals "Game" = some (some (.ref C)))
    (aI:PySem.W.findIn K (.ref C) "__init__" = some (some (.ref gI)))
    (iI:PySem.W.isFn K (.ref gI)=true)
    (lI:K.lookup gI=some ⟨ocI,odI,.func (PySem.W.fnOf "__init__" "Game.__init__" (defArgs s_ginit) (defBody s_ginit) (defScope s_ginit) .none kVI dcI pmI anI cdI ctI),slI⟩)
    (cI:PySem.W.codeIn K cdI "Game.__init__" = true)
    (kI:PySem.W.keepIn K (.ref gI)=true)
    (aM:PySem.W.findIn K (.ref C) "mix" = some (some (.ref gM)))
    (iM:PySem.W.isFn K (.ref gM)=true)
    (lM:K.lookup gM=some ⟨ocM,odM,.func (PySem.W.fnOf "mix" "Game.mix" (defArgs s_gmix) (defBody s_gmix) (defScope s_gmix) .none kVM dcM pmM anM cdM ctM),slM⟩)
    (cM:PySem.W.codeIn K cdM "Game.mix" = true)
    (kM:PySem.W.keepIn K (.ref gM)=true)
    (aW:PySem.W.findIn K (.ref C) "worth_at" = some (some (.ref gW)))
    (iW:PySem.W.isFn K (.ref gW)=true)
    (lW:K.lookup gW=some ⟨ocW,odW,.func (PySem.W.fnOf "worth_at" "Game.worth_at" (defArgs s_gworth) (defBody s_gworth) (defScope s_gworth) .none kVW dcW pmW anW cdW ctW),slW⟩)
    (cW:PySem.W.codeIn K cdW "Game.worth_at" = true)
    (kW:PySem.W.keepIn K (.ref gW)=true)
    (pg:PySem.W.plainGet K C Str.empty=true)
    (hdi:PySem.W.hasDictIn K C=true)
    (pov:PySem.W.plainOver K C=true)
    (sat:PySem.W.findIn K (.ref C) "__setattr__" = some (some (.builtin "object.__setattr__")))
    (mki:PySem.W.makesIn K C=true)
    (kcl:PySem.W.keepIn K (.ref C)=true)
    (nS:PySem.W.findIn K (.ref C) "switches" = some none)
    (nT:PySem.W.findIn K (.ref C) "trees" = some none)
    (nF:PySem.W.findIn K (.ref C) "field" = some none)
    (nD:PySem.W.findIn K (.ref C) "degrees" = some none)
    (ge:PySem.W.nsIn K mainGlobals "FIELDS_END" = some (some (.int 1000000 te)))
    (z0:PySem.W.nsIn K mainGlobals "len" = some none) (z1:PySem.W.nsIn K mainGlobals "range" = some none) (z2:PySem.W.nsIn K mainGlobals "isinstance" = some none) (z3:PySem.W.nsIn K mainGlobals "int" = some none) (z4:PySem.W.nsIn K mainGlobals "bool" = some none) (z5:PySem.W.nsIn K mainGlobals "list" = some none) (z6:PySem.W.nsIn K mainGlobals "tuple" = some none) (z7:PySem.W.nsIn K mainGlobals "max" = some none) (z8:PySem.W.nsIn K mainGlobals "min" = some none) (z9:PySem.W.nsIn K mainGlobals "reversed" = some none) (z10:PySem.W.nsIn K mainGlobals "enumerate" = some none) (z11:PySem.W.nsIn K mainGlobals "sum" = some none) (z12:PySem.W.nsIn K mainGlobals "all" = some none) (z13:PySem.W.nsIn K mainGlobals "zip" = some none) :
    ∃ fd:FuncData,(∀ (s:Shared) (v:Value),BindsTo s fd ⟨[v],[]⟩ [("_law_script", v)])∧∀ base:Heap,K.In base→base.Ns mainGlobals mg→FnOk l.prog w K mg base CX0 17 fa fd ["_law_script"] (spLaw K):=by
  have e:=hfa.symm.trans (PySem.W.mg_of X G a24)
  cases e
  have F_is_field:=fun_mk (st:=s_is_field) l0 c0 k0
  have m_is_field:=PySem.W.mg_of X G a0
  have F_trees_within:=fun_mk (st:=s_trees_within) l1 c1 k1
  have m_trees_within:=PySem.W.mg_of X G a1
  have F_names_in:=fun_mk (st:=s_names_in) l2 c2 k2
  have m_names_in:=PySem.W.mg_of X G a2
  have F_worth_of:=fun_mk (st:=s_worth_of) l3 c3 k3
  have m_worth_of:=PySem.W.mg_of X G a3
  have F_joined_worth:=fun_mk (st:=s_joined_worth) l4 c4 k4
  have m_joined_worth:=PySem.W.mg_of X G a4
  have F_degree_of:=fun_mk (st:=s_degree_of) l5 c5 k5
  have m_degree_of:=PySem.W.mg_of X G a5
  have F_look_switches:=fun_mk (st:=s_look_switches) l6 c6 k6
  have m_look_switches:=PySem.W.mg_of X G a6
  have F_look_names:=fun_mk (st:=s_look_names) l7 c7 k7
  have m_look_names:=PySem.W.mg_of X G a7
  have F_look_field:=fun_mk (st:=s_look_field) l8 c8 k8
  have m_look_field:=PySem.W.mg_of X G a8
  have F_look_size:=fun_mk (st:=s_look_size) l9 c9 k9
  have m_look_size:=PySem.W.mg_of X G a9
  have F_l_feed:=fun_mk (st:=s_l_feed) l10 c10 k10
  have m_l_feed:=PySem.W.mg_of X G a10
  have F_l_take:=fun_mk (st:=s_l_take) l11 c11 k11
  have m_l_take:=PySem.W.mg_of X G a11
  have F_l_names:=fun_mk (st:=s_l_names) l12 c12 k12
  have m_l_names:=PySem.W.mg_of X G a12
  have F_l_tree:=fun_mk (st:=s_l_tree) l13 c13 k13
  have m_l_tree:=PySem.W.mg_of X G a13
  have F_l_names_of:=fun_mk (st:=s_l_names_of) l14 c14 k14
  have m_l_names_of:=PySem.W.mg_of X G a14
  have F_l_need:=fun_mk (st:=s_l_need) l15 c15 k15
  have m_l_need:=PySem.W.mg_of X G a15
  have F_l_is_prime:=fun_mk (st:=s_l_is_prime) l16 c16 k16
  have m_l_is_prime:=PySem.W.mg_of X G a16
  have F_l_field:=fun_mk (st:=s_l_field) l17 c17 k17
  have m_l_field:=PySem.W.mg_of X G a17
  have F_l_game:=fun_mk (st:=s_l_game) l18 c18 k18
  have m_l_game:=PySem.W.mg_of X G a18
  have F_l_told:=fun_mk (st:=s_l_told) l19 c19 k19
  have m_l_told:=PySem.W.mg_of X G a19
  have F_l_field_told:=fun_mk (st:=s_l_field_told) l20 c20 k20
  have m_l_field_told:=PySem.W.mg_of X G a20
  have F_l_often:=fun_mk (st:=s_l_often) l21 c21 k21
  have m_l_often:=PySem.W.mg_of X G a21
  have F_l_spoilt_leaf:=fun_mk (st:=s_l_spoilt_leaf) l22 c22 k22
  have m_l_spoilt_leaf:=PySem.W.mg_of X G a22
  have F_l_spoilt:=fun_mk (st:=s_l_spoilt) l23 c23 k23
  have m_l_spoilt:=PySem.W.mg_of X G a23
  have F_law:=fun_mk (st:=s_law) l24 c24 k24
  have B:Bl mg:=⟨PySem.W.mg_none_of X G z0,PySem.W.mg_none_of X G z1,PySem.W.mg_none_of X G z2,PySem.W.mg_none_of X G z3,PySem.W.mg_none_of X G z4,PySem.W.mg_none_of X G z5,PySem.W.mg_none_of X G z6,PySem.W.mg_none_of X G z7,PySem.W.mg_none_of X G z8,PySem.W.mg_none_of X G z9,PySem.W.mg_none_of X G z10,PySem.W.mg_none_of X G z11,PySem.W.mg_none_of X G z12,PySem.W.mg_none_of X G z13⟩
  refine ⟨PySem.W.fnOf "law" "law" (defArgs s_law) (defBody s_law) (defScope s_law) .none kV24 dc24 pm24 an24 cd24 ct24,fun s v=>.of_eq rfl,fun base _ _=>?_⟩
  have iAs:isBaseX K CA:=⟨_,_,_,_,_,_,_,_,_,_,_,_,_,_,iAs0⟩
  have xfc:=clsfc xfc0
  have hV:=PySem.W.mg_none_of X G hV0
  have F_A:=funD_mk (st:=s_AskError) xlk xcd xkp
  have K_A:AskC l.prog w K mg base CA gA _:=⟨PySem.W.mg_of X G gAs,⟨xga,xrd,xfc,xkp⟩,ok_AskError (P:=l.prog) (w:=w) (base:=base) F_A hV,fun s us KX hl=>match us,hl with | [_,_],_=>PySem.W.binds_K KX rfl xtp rfl rfl rfl⟩
  have L_0:ClsX K cc0 CA:=⟨⟨_,_,_,_,_,_,_,_,_,_,_,_,_,_,yo0⟩,ys0,ya0,yt0,yc0⟩
  have L_1:ClsX K cc1 CA:=⟨⟨_,_,_,_,_,_,_,_,_,_,_,_,_,_,yo1⟩,ys1,ya1,yt1,yc1⟩
  have J_1:MkX K cc1 g1:=L_1.mk' yi1 ⟨_,yl1,rfl⟩ yq1
  have F_1:=funD_mk (st:=s_Twice) yl1 yk1 yp1
  have M_1:Mkr l.prog w K mg base cc1 "name" g1 _:=⟨J_1,ok_Twice (P:=l.prog) (w:=w) (base:=base) F_1 K_A J_1 L_1 yn1,.all fun us hl=>by obtain ⟨u0,u1,rfl⟩:=len2 hl; rfl,yn1⟩
  have L_2:ClsX K cc2 CA:=⟨⟨_,_,_,_,_,_,_,_,_,_,_,_,_,_,yo2⟩,ys2,ya2,yt2,yc2⟩
  have J_2:MkX K cc2 g2:=L_2.mk' yi2 ⟨_,yl2,rfl⟩ yq2
  have F_2:=funD_mk (st:=s_NoName) yl2 yk2 yp2
  have M_2:Mkr l.prog w K mg base cc2 "name" g2 _:=⟨J_2,ok_NoName (P:=l.prog) (w:=w) (base:=base) F_2 K_A J_2 L_2 yn2,.all fun us hl=>by obtain ⟨u0,u1,rfl⟩:=len2 hl; rfl,yn2⟩
  have L_3:ClsX K cc3 CA:=⟨⟨_,_,_,_,_,_,_,_,_,_,_,_,_,_,yo3⟩,ys3,ya3,yt3,yc3⟩
  have J_3:MkX K cc3 g3:=L_3.mk' yi3 ⟨_,yl3,rfl⟩ yq3
  have F_3:=funD_mk (st:=s_NoField) yl3 yk3 yp3
  have M_3:Mkr l.prog w K mg base cc3 "number" g3 _:=⟨J_3,ok_NoField (P:=l.prog) (w:=w) (base:=base) F_3 K_A J_3 L_3 yn3,.all fun us hl=>by obtain ⟨u0,u1,rfl⟩:=len2 hl; rfl,yn3⟩
  have L_4:ClsX K cc4 CA:=⟨⟨_,_,_,_,_,_,_,_,_,_,_,_,_,_,yo4⟩,ys4,ya4,yt4,yc4⟩
  have J_4:MkX K cc4 g4:=L_4.mk' yi4 ⟨_,yl4,rfl⟩ yq4
  have F_4:=funD_mk (st:=s_SmallField) yl4 yk4 yp4
  have M_4:Mkr l.prog w K mg base cc4 "degree" g4 _:=⟨J_4,ok_SmallField (P:=l.prog) (w:=w) (base:=base) F_4 K_A J_4 L_4 yn4,.all fun us hl=>by obtain ⟨u0,u1,rfl⟩:=len2 hl; rfl,yn4⟩
  have L_5:ClsX K cc5 CA:=⟨⟨_,_,_,_,_,_,_,_,_,_,_,_,_,_,yo5⟩,ys5,ya5,yt5,yc5⟩
  have L_6:ClsX K cc6 CA:=⟨⟨_,_,_,_,_,_,_,_,_,_,_,_,_,_,yo6⟩,ys6,ya6,yt6,yc6⟩
  have L_7:ClsX K cc7 CA:=⟨⟨_,_,_,_,_,_,_,_,_,_,_,_,_,_,yo7⟩,ys7,ya7,yt7,yc7⟩
  have L_8:ClsX K cc8 CA:=⟨⟨_,_,_,_,_,_,_,_,_,_,_,_,_,_,yo8⟩,ys8,ya8,yt8,yc8⟩
  have L_9:ClsX K cc9 CA:=⟨⟨_,_,_,_,_,_,_,_,_,_,_,_,_,_,yo9⟩,ys9,ya9,yt9,yc9⟩
  have TX:Exs K mg CA cc0 cc1 cc2 cc3 cc4 cc5 cc6 cc7 cc8 cc9:=⟨PySem.W.mg_of X G yg0,L_0,ye0,PySem.W.mg_of X G yg1,L_1,ye1,PySem.W.mg_of X G yg2,L_2,ye2,PySem.W.mg_of X G yg3,L_3,ye3,PySem.W.mg_of X G yg4,L_4,ye4,PySem.W.mg_of X G yg5,L_5,ye5,PySem.W.mg_of X G yg6,L_6,ye6,PySem.W.mg_of X G yg7,L_7,ye7,PySem.W.mg_of X G yg8,L_8,ye8,PySem.W.mg_of X G yg9,L_9,ye9,PySem.W.mg_of X G gAs,iAs,ynd⟩
  have T:GTxt K mg C:=⟨⟨pg,hdi,pov,sat⟩,nS,nT,nF,nD,PySem.W.mg_of X G gg⟩
  have F_gI:=fun_mk (st:=s_ginit) lI cI kI
  have b_gI:=F_gI.binds (ps:=["self", "switches", "trees", "field"]) fun _ _ _ _ _ _ us hl=>by obtain ⟨u0,u1,u2,u3,rfl⟩:=len4 hl; rfl
  have F_gM:=fun_mk (st:=s_gmix) lM cM kM
  have b_gM:=F_gM.binds (ps:=["self", "numbers", "s"]) fun _ _ _ _ _ _ us hl=>by obtain ⟨u0,u1,u2,rfl⟩:=len3 hl; rfl
  have F_gW:=fun_mk (st:=s_gworth) lW cW kW
  have b_gW:=F_gW.binds (ps:=["self", "point", "s"]) fun _ _ _ _ _ _ us hl=>by obtain ⟨u0,u1,u2,rfl⟩:=len3 hl; rfl
  have C_l_feed:=Cal.of (P:=l.prog) (w:=w) (base:=base) F_l_feed (ok_l_feed F_l_feed B.len) m_l_feed (fun _ _ _ _ _ _ us hl=>by obtain ⟨u0,u1,rfl⟩:=len2 hl; rfl)
  have C_l_take:=Cal.of (P:=l.prog) (w:=w) (base:=base) F_l_take (ok_l_take F_l_take ) m_l_take (fun _ _ _ _ _ _ us hl=>by obtain ⟨u0,u1,rfl⟩:=len2 hl; rfl)
  have C_is_field:=Cal.of (P:=l.prog) (w:=w) (base:=base) F_is_field (ok_is_field F_is_field ) m_is_field (fun _ _ _ _ _ _ us hl=>by obtain ⟨u0,rfl⟩:=len1 hl; rfl)
  have C_trees_within:=Cal.of (P:=l.prog) (w:=w) (base:=base) F_trees_within (ok_trees_within F_trees_within ) m_trees_within (fun _ _ _ _ _ _ us hl=>by obtain ⟨u0,rfl⟩:=len1 hl; rfl)
  have C_names_in:=Cal.of (P:=l.prog) (w:=w) (base:=base) F_names_in (ok_names_in F_names_in m_names_in C_trees_within 10) m_names_in (fun _ _ _ _ _ _ us hl=>by obtain ⟨u0,rfl⟩:=len1 hl; rfl)
  have C_joined_worth:=Cal.of (P:=l.prog) (w:=w) (base:=base) F_joined_worth (ok_joined_worth F_joined_worth ) m_joined_worth (fun _ _ _ _ _ _ us hl=>by obtain ⟨u0,u1,u2,u3,rfl⟩:=len4 hl; rfl)
  have C_worth_of:=Cal.of (P:=l.prog) (w:=w) (base:=base) F_worth_of (ok_worth_of F_worth_of m_worth_of C_joined_worth 10) m_worth_of (fun _ _ _ _ _ _ us hl=>by obtain ⟨u0,u1,u2,u3,rfl⟩:=len4 hl; rfl)
  have C_degree_of:=Cal.of (P:=l.prog) (w:=w) (base:=base) F_degree_of (ok_degree_of F_degree_of B.max C_names_in) m_degree_of (fun _ _ _ _ _ _ us hl=>by obtain ⟨u0,u1,rfl⟩:=len2 hl; rfl)
  have C_look_switches:=CalR.of (P:=l.prog) (w:=w) (base:=base) F_look_switches (ok_look_switchesX F_look_switches B.enumerate (PySem.W.mg_of X G yg1) L_1 M_1) m_look_switches (fun _ _ _ _ _ _ us hl=>by obtain ⟨u0,rfl⟩:=len1 hl; rfl)
  have C_look_names:=CalR.of (P:=l.prog) (w:=w) (base:=base) F_look_names (ok_look_namesX F_look_names (PySem.W.mg_of X G yg2) L_2 M_2 C_names_in) m_look_names (fun _ _ _ _ _ _ us hl=>by obtain ⟨u0,u1,rfl⟩:=len2 hl; rfl)
  have C_look_field:=CalR.of (P:=l.prog) (w:=w) (base:=base) F_look_field (ok_look_fieldX F_look_field ⟨te,PySem.W.mg_of X G ge⟩ (PySem.W.mg_of X G yg3) L_3 M_3 C_is_field) m_look_field (fun _ _ _ _ _ _ us hl=>by obtain ⟨u0,rfl⟩:=len1 hl; rfl)
  have C_look_size:=CalR.of (P:=l.prog) (w:=w) (base:=base) F_look_size (ok_look_sizeX F_look_size B.max (PySem.W.mg_of X G yg4) L_4 M_4) m_look_size (fun _ _ _ _ _ _ us hl=>by obtain ⟨u0,u1,rfl⟩:=len2 hl; rfl)
  have C_l_names:=Cal.of (P:=l.prog) (w:=w) (base:=base) F_l_names (ok_l_names F_l_names B.range C_l_take) m_l_names (fun _ _ _ _ _ _ us hl=>by obtain ⟨u0,u1,rfl⟩:=len2 hl; rfl)
  have C_l_tree:=Cal.of (P:=l.prog) (w:=w) (base:=base) F_l_tree (ok_l_tree F_l_tree B.len m_l_tree C_l_take 10) m_l_tree (fun _ _ _ _ _ _ us hl=>by obtain ⟨u0,u1,u2,u3,rfl⟩:=len4 hl; rfl)
  have C_l_names_of:=Cal.of (P:=l.prog) (w:=w) (base:=base) F_l_names_of (ok_l_names_of F_l_names_of m_l_names_of 10) m_l_names_of (fun _ _ _ _ _ _ us hl=>by obtain ⟨u0,rfl⟩:=len1 hl; rfl)
  have C_l_need:=Cal.of (P:=l.prog) (w:=w) (base:=base) F_l_need (ok_l_need F_l_need B.len B.max C_l_names_of) m_l_need (fun _ _ _ _ _ _ us hl=>by obtain ⟨u0,u1,rfl⟩:=len2 hl; rfl)
  have C_l_is_prime:=Cal.of (P:=l.prog) (w:=w) (base:=base) F_l_is_prime (ok_l_is_prime F_l_is_prime B.range) m_l_is_prime (fun _ _ _ _ _ _ us hl=>by obtain ⟨u0,rfl⟩:=len1 hl; rfl)
  have C_l_field:=Cal.of (P:=l.prog) (w:=w) (base:=base) F_l_field (ok_l_field F_l_field C_l_take C_l_is_prime) m_l_field (fun _ _ _ _ _ _ us hl=>by obtain ⟨u0,u1,rfl⟩:=len2 hl; rfl)
  have C_l_game:=Cal.of (P:=l.prog) (w:=w) (base:=base) F_l_game (ok_l_game F_l_game B.range B.tuple C_l_take C_l_names C_l_tree C_l_need C_l_field) m_l_game (fun _ _ _ _ _ _ us hl=>by obtain ⟨u0,u1,u2,rfl⟩:=len3 hl; rfl)
  have G_gI:=ok_ginitX (P:=l.prog) (w:=w) (base:=base) F_gI T B.tuple B.len C_degree_of C_look_switches C_look_names C_look_field C_look_size
  have G_gM:=ok_gmix (P:=l.prog) (w:=w) (base:=base) F_gM T B.reversed
  have m_gM:Meth K C "mix" gM:=⟨aM,iM,kM⟩
  have G_gW:=ok_gworth F_gW T m_gM G_gM b_gM C_worth_of
  have C_l_field_told:=CalH.of (P:=l.prog) (w:=w) (base:=base) F_l_field_told (ok_l_field_told F_l_field_told) m_l_field_told (fun _ _ _ _ _ _ us hl=>by obtain ⟨u0,u1,rfl⟩:=len2 hl; rfl)
  have C_l_told:=Cal.of (P:=l.prog) (w:=w) (base:=base) F_l_told (ok_l_told F_l_told B hV T TX ⟨mki,aI,iI,kcl⟩ G_gI b_gI ⟨aW,iW,kW⟩ G_gW b_gW yn1 yn2 yn3 yn4 C_l_field_told) m_l_told (fun _ _ _ _ _ _ us hl=>by obtain ⟨u0,u1,u2,rfl⟩:=len3 hl; rfl)
  have C_l_often:=Cal.of (P:=l.prog) (w:=w) (base:=base) F_l_often (ok_l_often F_l_often B) m_l_often (fun _ _ _ _ _ _ us hl=>by obtain ⟨u0,u1,rfl⟩:=len2 hl; rfl)
  have C_l_spoilt_leaf:=Cal.of (P:=l.prog) (w:=w) (base:=base) F_l_spoilt_leaf (ok_l_spoilt_leaf F_l_spoilt_leaf B m_l_spoilt_leaf C_l_take 10) m_l_spoilt_leaf (fun _ _ _ _ _ _ us hl=>by obtain ⟨u0,u1,u2,rfl⟩:=len3 hl; rfl)
  have C_l_spoilt:=Cal.of (P:=l.prog) (w:=w) (base:=base) F_l_spoilt (ok_l_spoilt F_l_spoilt B C_l_take C_l_often C_l_need C_l_spoilt_leaf) m_l_spoilt (fun _ _ _ _ _ _ us hl=>by obtain ⟨u0,u1,u2,rfl⟩:=len3 hl; rfl)
  exact ok_law F_law B C_l_feed C_l_take C_l_game C_l_told C_l_spoilt
theorem walk {l:PySem.W.OpenLaw} {q:Program} {loose:List Str} {XP:(Str→Option Value)→Heap→Prop} {YP:World→Heap→Prop} {d:DefRec} {K:Params→PySem.W.Frag} (hn:l.most=some 63) (hdf:d.params.defaults=[])
    (hY:∀ (w:World) (h:Heap),YP w h→(K w.params).In h)
    (F:∀ (w:World) (mg:Str→Option Value) (fa:Addr) (h:Heap),(K w.params).In h→h.Ns mainGlobals mg→mg d.name=some (.ref fa) →
      ∃ fd:FuncData,(∀ (s:Shared) (u:Value),BindsTo s fd ⟨[u],[]⟩ [("_law_script", u)])∧∀ base:Heap,(K w.params).In base→base.Ns mainGlobals mg→FnOk l.prog w (K w.params) mg base CX0 17 fa fd ["_law_script"] (spLaw (K w.params))) :
    PySem.W.WalkO q loose XP YP l.row.toRowW d [] (fun f vs=>PySem.call f vs) :=
  L2.walk_of (n:=63) (k:=17) (x := "_law_script") (CX:=fun _=>CX0) (sp:=fun w=>spLaw (K w.params)) hn (by decide) hdf ⟨rfl,by decide,by decide⟩ hY F (fun _ _ a ns hl _ hS=>⟨a,ns,rfl,hS,hl,fun _=>rfl⟩) fun _ _ _ _ _ z=>z
end Mine
namespace PySem.W.Fast
def tw5263899971607860634:=()
def tw9038545651863643104:=()
def tw13734227800978205318:=()
def tw13129095584456238509:=()
def tw5290569004134971129:=()
def tw1734609581064116711:=()
def tw10396369282754970668:=()
def tw11745696220277942103:=()
def tw10145650364803960038:=()
def tw14220166879280218387:=()
def tw14307609981813098413:=()
def tw64483359965310867:=()
def tw2630335308500395041:=()
def tw16673517991666737207:=()
def tw10030041325814014355:=()
def tw11360274113952701945:=()
def tw7723714427220194231:=()
def tw10404731887948271806:=()
def tw10653666895392576927:=()
def tw4017346290441150864:=()
def tw8425666126560643662:=()
def tw15537235621376294948:=()
def tw15464865406008504254:=()
def tw9924596378913706368:=()
def tw17246173048591362954:=()
def tw2563179324834298201:=()
def tw7320000127631048258:=()
def tw949918261496680311:=()
def tw15934016748776939122:=()
def tw2025124228803075912:=()
def tw4069616485278345329:=()
def tw11836097913644465130:=()
def tw14106664074556705550:=()
def tw10376240916573914177:=()
def tw7658926589097741780:=()
def tw16173338294945431448:=()
def tw2454888892412022738:=()
def tw14576492703657010868:=()
def tw17088797519939423079:=()
def tw15129228223745061156:=()
def tw12954122932317977364:=()
def tw13933844885980267275:=()
def tw9361902095404311353:=()
def tw14767912597148588365:=()
def tw12078425452334186759:=()
def tw7061503952541952816:=()
def tw11325611765025838386:=()
def tw11224718347734563753:=()
def tw8192920426151915873:=()
def tw6660069050878713228:=()
def tw11618447285591763346:=()
def tw7032034918984159573:=()
def tw15274455553349624951:=()
def tw6303648665515716303:=()
def tw345101032450835336:=()
def tw8704016798940279114:=()
def tw5441034018134061565:=()
def tw16688546322349703444:=()
def tw16502091205421630653:=()
def tw9072956174450148680:=()
def tw4814276781449399636:=()
def tw3505172457694707781:=()
def tw5670601483020986228:=()
def tw17161314608116068207:=()
def tw13107695482278044265:=()
def tw7830877751018636823:=()
def tw2499441548966478547:=()
def tw17387698742081448461:=()
def tw12055570061398628093:=()
def tw7552741319684926678:=()
def tw7584515972801496022:=()
def tw17613183929601193507:=()
def tw13374222575151782196:=()
def tw486422890552356954:=()
def tw8558450011049428667:=()
def tw13881180757029010251:=()
def tw6008569920146535105:=()
def tw10959168483313209013:=()
def tw10889401895594097479:=()
def tw1184122119229393494:=()
def tw6746505821793138924:=()
def tw11117521879711064752:=()
def tw8822342362341131264:=()
def tw1959224818156472794:=()
def tw8832618034179324052:=()
def tw12026538362184385242:=()
def tw15264179332064493982:=()
def tw18005558797968060639:=()
def tw3900095174707634314:=()
def tw578680925522497038:=()
def tw10941792286007444908:=()
def tw1891551707108407457:=()
def tw13837014475972322253:=()
def tw1669605448926384726:=()
def tw9604340993908126436:=()
def tw13859118905306729257:=()
def tw15977175959378698635:=()
def tw13476383633145329356:=()
def tw7505128025643775234:=()
def tw6812892356407642171:=()
def tw11362950959823609665:=()
def tw11973663675356771246:=()
def tw14682522569634166798:=()
def tw12025169260624909628:=()
def tw9903900176634649791:=()
def tw9509225916687260718:=()
def tw1702985673985564517:=()
def tw6071298474051572337:=()
def tw10337684905557618505:=()
def tw11046071173891796477:=()
def tw1858663274547378525:=()
def tw11049744937212208377:=()
def tw15779907278566147456:=()
def tw4903574446831526789:=()
def tw3713449076794499961:=()
def tw17317448812063248678:=()
def tw3945474841799481235:=()
def tw16596972944619637222:=()
def tw240517371032537468:=()
def tw1401552637004105817:=()
def tw906505389377294527:=()
def tw13065297841580277192:=()
def tw3692271968796253527:=()
def tw15180116004586590937:=()
def tw7129029465994791254:=()
def tw630682498777213766:=()
def tw13863466163592108903:=()
def tw2956779115624527958:=()
def tw10599198128015728139:=()
def tw15548933419178485602:=()
def tw13185045841163051924:=()
def tw605453721463764095:=()
def tw13347275036367653847:=()
def tw15404930686306382727:=()
def tw5255647471198404351:=()
def tw12484955353075720756:=()
def tw16097632699960385405:=()
def tw3649409431224521796:=()
def tw13582947387586739327:=()
def tw2448754169322762897:=()
def tw14766728892262386467:=()
def tw8039522936558291727:=()
def tw6524853643531091619:=()
def tw12395385287638980043:=()
def tw13358081411335310345:=()
def tw5392626773114716667:=()
def tw1031961388135079966:=()
def tw2219971565523010583:=()
def tw15291553575789327241:=()
def tw11926143956311136644:=()
def tw17466987222705643718:=()
def tw561554726495999145:=()
def tw4224996500995264542:=()
def tw5764531658740765278:=()
def tw11393270962017357198:=()
def tw5461735040385367152:=()
def tw9185794618061610778:=()
def tw4110109609899086762:=()
def tw14863456654823358014:=()
def tw12658646463137870073:=()
def tw3422426107023498405:=()
def tw7849193414745995698:=()
def tw10740738748667041849:=()
def tw13989681561146934516:=()
def tw3342382213205030128:=()
def tw2419197296635242767:=()
def tw274910798559110993:=()
def tw11037593018186744659:=()
def tw17625660162473035021:=()
def tw13710800657867965443:=()
def tw2777593520619005121:=()
def tw81975202012661448:=()
def tw18019842523872278232:=()
def tw11007002653528538370:=()
def tw14614338977988418865:=()
def tw5558589474019791713:=()
def tw17913079867666629030:=()
def tw12349511336643405086:=()
def tw15399873272542343603:=()
def tw12825931405323841112:=()
def tw3482799455449513607:=()
def tw10968284265293243705:=()
def tw2097656163484903894:=()
def tw11093687188577222189:=()
def tw9142052421454406880:=()
def tw7770659024761738278:=()
def tw13102510332779044242:=()
def tw3784738795584745657:=()
def tw9576484335457373165:=()
def tw5971933542236531096:=()
def tw3863239744040344104:=()
def tw11774167315479241684:=()
def tw6480334634429138195:=()
def tw2418334525511456859:=()
def tw2968000321217305719:=()
def tw203097763527951015:=()
def tw6080713858185198242:=()
def tw10882815636293988858:=()
def tw7204435891250943599:=()
def tw12046990008236631181:=()
def tw9691861557440080906:=()
def tw5316263215410372519:=()
def tw14120590715590460639:=()
def tw6988071824439409476:=()
def tw6933225684320751434:=()
def tw17295042800093327793:=()
def tw14045764576587504581:=()
def tw8706852455190003435:=()
def tw7375916409730677663:=()
def tw3189934898767590329:=()
def tw10935385144331634743:=()
def tw16910502772707187728:=()
def tw8871954765217969797:=()
def tw292732983045857823:=()
def tw11823288919400780610:=()
def tw15883108663545464132:=()
def tw9836835846905414701:=()
def tw5222388826960855317:=()
def tw4446538843369402810:=()
def tw5783694835849168395:=()
def tw11077418580856469960:=()
def tw5579375012095362804:=()
def tw13876416895897308678:=()
def tw7914830004764900111:=()
def tw2498839067262362954:=()
def tw4708646786730895919:=()
def tw10118700794412378004:=()
def tw11379173282528286470:=()
def tw6848636468272483110:=()
def tw6984292502783842794:=()
def tw6248375331343337991:=()
def tw12218891852723557162:=()
def tw5752544919381775103:=()
def tw13961326606503139112:=()
def tw330092817871540781:=()
def tw6343293486391626220:=()
def tw15551660697563406863:=()
def tw17590781070480363695:=()
def tw18167598733316539937:=()
def tw3333323398509937354:=()
def tw11086824115045971053:=()
def tw5856634412885965782:=()
def tw2323709611711953985:=()
def tw3163590619566845431:=()
def tw6455994242728616750:=()
def tw10731690201054631610:=()
def tw3386792192546976758:=()
def tw13017701024393953592:=()
def tw13435571726970641663:=()
def tw12429102675163212517:=()
def tw14030370116306803696:=()
def tw1440789104734905786:=()
def tw4881506944787373765:=()
def tw16604464884342001760:=()
def tw16289378957112004090:=()
def tw17587639298991798652:=()
def tw7351961968867859551:=()
def tw17364835672617177195:=()
def tw18218990487462573362:=()
def tw1746719610418124521:=()
def tw15529452835000812120:=()
def tw13637027888780985205:=()
def tw2856934674313594631:=()
def tw7567461738908784746:=()
def tw6760243886904827871:=()
def tw10190267068628576030:=()
def tw11244650884129470895:=()
def tw16432078705951991205:=()
def tw14579112481645722341:=()
def tw15378359437464192340:=()
def tw7224781095215372191:=()
def tw5154911692424036755:=()
def tw465263375534428588:=()
def tw1087898306569936626:=()
def tw16686641028170724540:=()
def tw14540980174673800453:=()
def tw8803104260072886838:=()
def tw12247079977434434468:=()
def tw2852087420927644876:=()
def tw3704744913667651291:=()
def tw2436648096976683551:=()
def tw2074657974891947061:=()
def tw8332423661569867252:=()
def tw12096359820725314339:=()
def tw17476559609796295967:=()
def tw16002734974129588821:=()
def tw3993331852116301087:=()
def tw16062821804191375469:=()
def tw6471727450684681785:=()
def tw3302592871753791487:=()
def tw12038297084314165359:=()
def tw7527878785215270058:=()
def tw9442194256174662658:=()
def tw13650183067799585628:=()
def tw16892836202408819806:=()
def tw11417673897213274837:=()
def tw12728028603693490122:=()
def tw11916504092558929845:=()
def tw11119643492071837753:=()
def tw8405881081565289112:=()
def tw18430819176323637406:=()
def tw14530889797549658832:=()
def tw17296477852536696076:=()
def tw1958938489537120221:=()
def tw10640451737338446497:=()
def tw6915164555701717074:=()
def tw5921907067769630911:=()
def tw17269972334978159550:=()
def tw952586250324482128:=()
def tw7833689971428045473:=()
def tw5541407109613358332:=()
def tw5432014983430456157:=()
def tw2379569061012620523:=()
def tw10747943483298808350:=()
def tw14380882032244284962:=()
def tw14076675541880649599:=()
def tw668304926215060218:=()
def tw769335614175333226:=()
def tw17765341218918416954:=()
def tw12956119985331560801:=()
def tw16769535524316988366:=()
def tw13376488103089292737:=()
def tw15845116058667545946:=()
def tw11736815674694856110:=()
def tw8127684970279204080:=()
def tw2312810526159792144:=()
def tw4662414470488112253:=()
def tw14575187859689377943:=()
def tw5940408268729484231:=()
def tw10259644142796313673:=()
def tw16032451691624445386:=()
def tw7059291711099172019:=()
def tw9197270848653590379:=()
def tw13833108272089527098:=()
def tw5078826478580936874:=()
def tw6958120121917083638:=()
def tw8061188721248967691:=()
def tw16644515825443869987:=()
def tw10026616511421537623:=()
def tw18341736331808089727:=()
def tw7874093666025240404:=()
def tw1450447047736649163:=()
def tw16932330489696905482:=()
def tw177855081475270492:=()
def tw9159728866151542578:=()
def tw934135868476707439:=()
def tw6976256639223049054:=()
def tw18420168847501478866:=()
def tw10216573672063945427:=()
def tw16097744439983169598:=()
def tw8593697583347410299:=()
def tw3715147706963978744:=()
def tw17841265878692303733:=()
def tw2917774869221809121:=()
def tw13425706443604114807:=()
def tw17128452626957496595:=()
def tw4842228268600673368:=()
def tw6511329977236270013:=()
def tw16809147443607493249:=()
def tw9672431520420875635:=()
def tw4120499796303840784:=()
def tw641159094984869364:=()
def tw2784844687433384920:=()
def tw12218673965011571298:=()
def tw5858728667804664838:=()
def tw2889782143070220761:=()
def tw10658897237884780029:=()
def tw8348126038136629447:=()
def tw1694510275810208910:=()
def tw12830327386400949397:=()
def tw5940496689488094887:=()
def tw16308732494914130870:=()
def tw12139958362107833974:=()
def tw4731182148453614280:=()
def tw17756737885649427818:=()
def tw11119019808924823678:=()
def tw15511566634416555327:=()
def tw168204329096328612:=()
def tw2852669243830082427:=()
def tw15139712142536537710:=()
def tw8187997768229757224:=()
def tw2759002752685554559:=()
def tw13546786950820953976:=()
def tw16750300685997015926:=()
def tw6242726735296532934:=()
def tw14343726024208883544:=()
def tw11018130541146997656:=()
def tw13285252381724932169:=()
def tw11703334091291481706:=()
def tw9841803572205175823:=()
def tw17047341772050832624:=()
def tw5805566145440504422:=()
def tw14008318182083552551:=()
def tw9002789760346549827:=()
def tw10654045523607914128:=()
def tw5215798125656961826:=()
def tw2974427716053750863:=()
def tw8043530895882403718:=()
def tw15952481636930850541:=()
def tw16064099510583076636:=()
def tw7968760770536483509:=()
def tw8843157134745885185:=()
def tw7711405584205224159:=()
def tw6204797991906649630:=()
def tw12343272044301137016:=()
def tw11776088725961347319:=()
def tw6612188123109078706:=()
def tw12073856180117309669:=()
def tw4433746380776241364:=()
def tw1439490147684674205:=()
def tw11296652152283500378:=()
def tw15591869196160673121:=()
def tw7320425586083840442:=()
def tw7086338379268451865:=()
def tw11883194414113413804:=()
def tw18264919404409873299:=()
def tw10125170254586013312:=()
def tw16384327906200467785:=()
def tw4120098852660946848:=()
def tw9451276894838147418:=()
def tw17479700858488572086:=()
def tw12634960600592078606:=()
def tw12287433863170456252:=()
def tw17048304077319544035:=()
def tw10106955140618581980:=()
def tw13908456427074342585:=()
def tw715684686273314739:=()
def tw5851030806281359649:=()
end PySem.W.Fast
open PySem PySem.W PyProof.Rows
set_option maxRecDepth 100000 in
set_option maxHeartbeats 0 in
theorem PySem.Challenge.cw_asktally_k25_games_refused_holds : PySem.Challenge.rw_asktally_k25_games_refused.Holds := by
  w_on; o_law; k_head; (case hw=>w_witness2)
  k_fill
  refine Mine.walk (l:=PySem.Challenge.rw_asktally_k25_games_refused) rfl rfl (fun w h Y=>PySem.W.kIn_of Y) ?F
  case F =>
    intro w mg fa h KX G hmg
    refine' Mine.all_mk KX G hmg ?a0 ?l0 ?c0 ?k0 ?a1 ?l1 ?c1 ?k1 ?a2 ?l2 ?c2 ?k2 ?a3 ?l3 ?c3 ?k3 ?a4 ?l4 ?c4 ?k4 ?a5 ?l5 ?c5 ?k5 ?a6 ?l6 ?c6 ?k6 ?a7 ?l7 ?c7 ?k7 ?a8 ?l8 ?c8 ?k8 ?a9 ?l9 ?c9 ?k9 ?a10 ?l10 ?c10 ?k10 ?a11 ?l11 ?c11 ?k11 ?a12 ?l12 ?c12 ?k12 ?a13 ?l13 ?c13 ?k13 ?a14 ?l14 ?c14 ?k14 ?a15 ?l15 ?c15 ?k15 ?a16 ?l16 ?c16 ?k16 ?a17 ?l17 ?c17 ?k17 ?a18 ?l18 ?c18 ?k18 ?a19 ?l19 ?c19 ?k19 ?a20 ?l20 ?c20 ?k20 ?a21 ?l21 ?c21 ?k21 ?a22 ?l22 ?c22 ?k22 ?a23 ?l23 ?c23 ?k23 ?a24 ?l24 ?c24 ?k24 ?gAs ?iAs0 ?xga ?xrd ?xfc0 ?xlk ?xtp ?xcd ?xkp ?yg0 ?yo0 ?ys0 ?ya0 ?yt0 ?yc0 ?ye0 ?yg1 ?yo1 ?ys1 ?ya1 ?yt1 ?yc1 ?yi1 ?yl1 ?yk1 ?yp1 ?yq1 ?yn1 ?ye1 ?yg2 ?yo2 ?ys2 ?ya2 ?yt2 ?yc2 ?yi2 ?yl2 ?yk2 ?yp2 ?yq2 ?yn2 ?ye2 ?yg3 ?yo3 ?ys3 ?ya3 ?yt3 ?yc3 ?yi3 ?yl3 ?yk3 ?yp3 ?yq3 ?yn3 ?ye3 ?yg4 ?yo4 ?ys4 ?ya4 ?yt4 ?yc4 ?yi4 ?yl4 ?yk4 ?yp4 ?yq4 ?yn4 ?ye4 ?yg5 ?yo5 ?ys5 ?ya5 ?yt5 ?yc5 ?ye5 ?yg6 ?yo6 ?ys6 ?ya6 ?yt6 ?yc6 ?ye6 ?yg7 ?yo7 ?ys7 ?ya7 ?yt7 ?yc7 ?ye7 ?yg8 ?yo8 ?ys8 ?ya8 ?yt8 ?yc8 ?ye8 ?yg9 ?yo9 ?ys9 ?ya9 ?yt9 ?yc9 ?ye9 ?hV0 ?ynd ?gg ?aI ?iI ?lI ?cI ?kI ?aM ?iM ?lM ?cM ?kM ?aW ?iW ?lW ?cW ?kW ?pg ?hdi ?pov ?sat ?mki ?kcl ?nS ?nT ?nF ?nD ?ge ?z0 ?z1 ?z2 ?z3 ?z4 ?z5 ?z6 ?z7 ?z8 ?z9 ?z10 ?z11 ?z12 ?z13
    (case a0=>k_is); (case l0=>k_is); (case c0=>k_is); (case k0=>k_is)
    (case a1=>k_is); (case l1=>k_is); (case c1=>k_is); (case k1=>k_is)
    (case a2=>k_is); (case l2=>k_is); (case c2=>k_is); (case k2=>k_is)
    (case a3=>k_is); (case l3=>k_is); (case c3=>k_is); (case k3=>k_is)
    (case a4=>k_is); (case l4=>k_is); (case c4=>k_is); (case k4=>k_is)
    (case a5=>k_is); (case l5=>k_is); (case c5=>k_is); (case k5=>k_is)
    (case a6=>k_is); (case l6=>k_is); (case c6=>k_is); (case k6=>k_is)
    (case a7=>k_is); (case l7=>k_is); (case c7=>k_is); (case k7=>k_is)
    (case a8=>k_is); (case l8=>k_is); (case c8=>k_is); (case k8=>k_is)
    (case a9=>k_is); (case l9=>k_is); (case c9=>k_is); (case k9=>k_is)
    (case a10=>k_is); (case l10=>k_is); (case c10=>k_is); (case k10=>k_is)
    (case a11=>k_is); (case l11=>k_is); (case c11=>k_is); (case k11=>k_is)
    (case a12=>k_is); (case l12=>k_is); (case c12=>k_is); (case k12=>k_is)
    (case a13=>k_is); (case l13=>k_is); (case c13=>k_is); (case k13=>k_is)
    (case a14=>k_is); (case l14=>k_is); (case c14=>k_is); (case k14=>k_is)
    (case a15=>k_is); (case l15=>k_is); (case c15=>k_is); (case k15=>k_is)
    (case a16=>k_is); (case l16=>k_is); (case c16=>k_is); (case k16=>k_is)
    (case a17=>k_is); (case l17=>k_is); (case c17=>k_is); (case k17=>k_is)
    (case a18=>k_is); (case l18=>k_is); (case c18=>k_is); (case k18=>k_is)
    (case a19=>k_is); (case l19=>k_is); (case c19=>k_is); (case k19=>k_is)
    (case a20=>k_is); (case l20=>k_is); (case c20=>k_is); (case k20=>k_is)
    (case a21=>k_is); (case l21=>k_is); (case c21=>k_is); (case k21=>k_is)
    (case a22=>k_is); (case l22=>k_is); (case c22=>k_is); (case k22=>k_is)
    (case a23=>k_is); (case l23=>k_is); (case c23=>k_is); (case k23=>k_is)
    (case a24=>k_is); (case l24=>k_is); (case c24=>k_is); (case k24=>k_is)
    (case gAs=>k_is)
    (case iAs0=>k_is)
    (case xga=>k_is)
    (case xrd=>k_is)
    (case xfc0=>k_is)
    (case xlk=>k_is)
    (case xtp=>k_is)
    (case xcd=>k_is)
    (case xkp=>k_is)
    (case yg0=>k_is)
    (case yo0=>k_is)
    (case ys0=>k_is)
    (case ya0=>k_is)
    (case yt0=>k_is)
    (case yc0=>k_is)
    (case ye0=>decide)
    (case yg1=>k_is)
    (case yo1=>k_is)
    (case ys1=>k_is)
    (case ya1=>k_is)
    (case yt1=>k_is)
    (case yc1=>k_is)
    (case yi1=>k_is)
    (case yl1=>k_is)
    (case yk1=>k_is)
    (case yp1=>k_is)
    (case yq1=>k_is)
    (case yn1=>k_is)
    (case ye1=>decide)
    (case yg2=>k_is)
    (case yo2=>k_is)
    (case ys2=>k_is)
    (case ya2=>k_is)
    (case yt2=>k_is)
    (case yc2=>k_is)
    (case yi2=>k_is)
    (case yl2=>k_is)
    (case yk2=>k_is)
    (case yp2=>k_is)
    (case yq2=>k_is)
    (case yn2=>k_is)
    (case ye2=>decide)
    (case yg3=>k_is)
    (case yo3=>k_is)
    (case ys3=>k_is)
    (case ya3=>k_is)
    (case yt3=>k_is)
    (case yc3=>k_is)
    (case yi3=>k_is)
    (case yl3=>k_is)
    (case yk3=>k_is)
    (case yp3=>k_is)
    (case yq3=>k_is)
    (case yn3=>k_is)
    (case ye3=>decide)
    (case yg4=>k_is)
    (case yo4=>k_is)
    (case ys4=>k_is)
    (case ya4=>k_is)
    (case yt4=>k_is)
    (case yc4=>k_is)
    (case yi4=>k_is)
    (case yl4=>k_is)
    (case yk4=>k_is)
    (case yp4=>k_is)
    (case yq4=>k_is)
    (case yn4=>k_is)
    (case ye4=>decide)
    (case yg5=>k_is)
    (case yo5=>k_is)
    (case ys5=>k_is)
    (case ya5=>k_is)
    (case yt5=>k_is)
    (case yc5=>k_is)
    (case ye5=>decide)
    (case yg6=>k_is)
    (case yo6=>k_is)
    (case ys6=>k_is)
    (case ya6=>k_is)
    (case yt6=>k_is)
    (case yc6=>k_is)
    (case ye6=>decide)
    (case yg7=>k_is)
    (case yo7=>k_is)
    (case ys7=>k_is)
    (case ya7=>k_is)
    (case yt7=>k_is)
    (case yc7=>k_is)
    (case ye7=>decide)
    (case yg8=>k_is)
    (case yo8=>k_is)
    (case ys8=>k_is)
    (case ya8=>k_is)
    (case yt8=>k_is)
    (case yc8=>k_is)
    (case ye8=>decide)
    (case yg9=>k_is)
    (case yo9=>k_is)
    (case ys9=>k_is)
    (case ya9=>k_is)
    (case yt9=>k_is)
    (case yc9=>k_is)
    (case ye9=>decide)
    (case hV0=>k_is)
    (case ynd=>decide)
    (case gg=>k_is)
    (case aI=>k_is)
    (case iI=>k_is)
    (case lI=>k_is)
    (case cI=>k_is)
    (case kI=>k_is)
    (case aM=>k_is)
    (case iM=>k_is)
    (case lM=>k_is)
    (case cM=>k_is)
    (case kM=>k_is)
    (case aW=>k_is)
    (case iW=>k_is)
    (case lW=>k_is)
    (case cW=>k_is)
    (case kW=>k_is)
    (case pg=>k_is)
    (case hdi=>k_is)
    (case pov=>k_is)
    (case sat=>k_is)
    (case mki=>k_is)
    (case kcl=>k_is)
    (case nS=>k_is)
    (case nT=>k_is)
    (case nF=>k_is)
    (case nD=>k_is)
    (case ge=>k_is)
    (case z0=>k_is)
    (case z1=>k_is)
    (case z2=>k_is)
    (case z3=>k_is)
    (case z4=>k_is)
    (case z5=>k_is)
    (case z6=>k_is)
    (case z7=>k_is)
    (case z8=>k_is)
    (case z9=>k_is)
    (case z10=>k_is)
    (case z11=>k_is)
    (case z12=>k_is)
    (case z13=>k_is)
