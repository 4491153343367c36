import PyProof.Rows.All
import Wide.All
import OpenK.AllK
import Wide.FinOn
import Lean
import PyProof.EqAt
import PyProof.EqKinds
import PyProof.TupleCall
import PyProof.Rows.SortKey
import PyProof.SetKind
import PyProof.DictStraight
import PyProof.WalksS
import PyProof.MakeMany
import PyProof.DictWalks
import PyProof.ForAny
import PyProof.CollectWalk
import PyProof.FactsAll.set_1
import PyProof.Rows.TupIn
import PyProof.SetRoads
import PyProof.Rows.SetFrom
import PyProof.Draws
import KE.KSortKey
import PySem.Builtin.Int.W1All
import PySem.Challenge.RW_pickhouse_k19_texts_refused
import PyProof.StrLawsReplace
import KE.KTryMore
import PyProof.Rows.StrSplitJoin
import PyProof.Rows.StrClip
import PyProof.Rows.SeqMore
import KE.KDictList
import OpenK.ZGo
set_option Elab.async false
set_option linter.all false
set_option maxRecDepth 100000
set_option maxHeartbeats 4000000
theorem au0 (h:True:=by first | exact .inl rfl | exact .inr rfl | assumption):True:=h
theorem au1 (h:True:=by decide):True:=h
theorem au2 (h:True:=by intro _;rfl):True:=h
theorem au3 (h:True:=by rfl):True:=h
section
local macro_rules | `(tactic| omega)=>`(tactic| lia)
namespace L2
open PySem PySem.Spec PyProof.Rows
noncomputable abbrev Key:=Sum Int Str
noncomputable def keyIs:Key→Value→Bool
 | .inl k,v=>Value.isInt k v
 | .inr x,v=>Value.isStrOf x v
noncomputable def keyH (w:World):Key→Int
 | .inl k=>hashInt k
 | .inr x=>hashStr w x
theorem keyIs_shape:∀ {k:Key}{v:Value},keyIs k v=true→(∃ i t,k=Sum.inl i∧v=Value.int i t)∨(∃ x t,k=Sum.inr x∧v=Value.str x t)
 | .inl i,v,h=>by
  obtain ⟨t,e⟩:=Value.isInt_shape (k:=i) (v:=v) h
  exact .inl ⟨i,t,rfl,e⟩
 | .inr x,v,h=>by
  obtain ⟨t,e⟩:=Value.isStrOf_shape (x:=x) (v:=v) h
  exact .inr ⟨x,t,rfl,e⟩
theorem key_ll (a b:Int):decide ((Sum.inl a:Key)=Sum.inl b)=(a == b):=by
 by_cases e:a=b
 ·subst e;simp
 ·have h:¬ (Sum.inl a:Key)=Sum.inl b:=fun q=>e (Sum.inl.inj q)
  rw [decide_eq_false h]
  exact (beq_eq_false_iff_ne.mpr e).symm
theorem key_rr (a b:Str):decide ((Sum.inr a:Key)=Sum.inr b)=decide (a=b):=by
 by_cases e:a=b
 ·subst e;simp
 ·have h:¬ (Sum.inr a:Key)=Sum.inr b:=fun q=>e (Sum.inr.inj q)
  rw [decide_eq_false h,decide_eq_false e]
theorem key_lr (a:Int) (b:Str):decide ((Sum.inl a:Key)=Sum.inr b)=false:=decide_eq_false (fun q=>nomatch q)
theorem key_rl (a:Str) (b:Int):decide ((Sum.inr a:Key)=Sum.inl b)=false:=decide_eq_false (fun q=>nomatch q)
noncomputable def mixKind (prog:Program) (w:World):PySem.KeyKind prog w Key where
 is:=keyIs
 hash:=keyH w
 inj:=fun v a b ha hb=>by
  rcases keyIs_shape ha with ⟨i,t,rfl,rfl⟩ | ⟨x,t,rfl,rfl⟩
  ·rcases keyIs_shape hb with ⟨j,u,rfl,e⟩ | ⟨y,u,rfl,e⟩
   ·injection e with e1 _;rw [e1]
   ·exact nomatch e
  ·rcases keyIs_shape hb with ⟨j,u,rfl,e⟩ | ⟨y,u,rfl,e⟩
   ·exact nomatch e
   ·injection e with e1 _;rw [e1]
 byValue:=fun k v h=>by
  rcases keyIs_shape h with ⟨i,t,rfl,rfl⟩ | ⟨x,t,rfl,rfl⟩ <;> rfl
 pyHash:=fun hv h=>by
  rcases keyIs_shape hv with ⟨i,t,rfl,rfl⟩ | ⟨x,t,rfl,rfl⟩
  ·exact wpAny_pyHash_int h
  ·exact wpAny_pyHash_str h
 eqBool:=fun hu hv h=>by
  rcases keyIs_shape hu with ⟨i,t,rfl,rfl⟩ | ⟨x,t,rfl,rfl⟩
  ·rcases keyIs_shape hv with ⟨j,u,rfl,rfl⟩ | ⟨y,u,rfl,rfl⟩
   ·rw [key_ll] at h;exact wpAny_eqBool_int h
   ·rw [key_lr] at h;exact SeqAt.EqAt.int_str i t y u _ _ _ _ h
  ·rcases keyIs_shape hv with ⟨j,u,rfl,rfl⟩ | ⟨y,u,rfl,rfl⟩
   ·rw [key_rl] at h;exact SeqAt.EqAt.str_int x t j u _ _ _ _ h
   ·rw [key_rr] at h;exact wpAny_eqBool_str h
 «strs»:=fun k x t v h=>by
  rcases keyIs_shape h with ⟨i,u,rfl,e⟩ | ⟨y,u,rfl,e⟩
  ·exact nomatch e
  ·injection e with e1 _
   subst e1
   cases v <;> rfl
end L2
namespace L2
open PySem PySem.Spec PyProof.Rows
inductive V where
 | non | bl (b:Bool) | int (i:Int) | str (x:Str) | byt (b:Array UInt8) | flt (b:UInt64) | ref (a:Addr) | ty (n:String)
 deriving DecidableEq
noncomputable def RelV:V→Value→Prop
 | .non,u=>u=Value.none
 | .bl b,u=>u=Value.bool b
 | .int i,u=>∃ t,u=Value.int i t
 | .str x,u=>∃ t,u=Value.str x t
 | .byt b,u=>∃ t,u=Value.bytes b t
 | .flt b,u=>∃ t,u=Value.float b t
 | .ref a,u=>u=Value.ref a
 | .ty n,u=>u=Value.type n
noncomputable abbrev Vals:List V→List Value→Prop:=Paired RelV
theorem Vals.length {xs:List V}{us:List Value} (r:Vals xs us):xs.length=us.length:=Paired.length r
theorem Vals.get:∀ {xs:List V}{us:List Value}{i:Nat}{x:V},Vals xs us→xs[i]? = some x→∃ u,us[i]? = some u∧RelV x u
 | _,_,_,_,.nil,e=>by simp at e
 | _,_,0,_,.cons r _,e=>by simp at e;subst e;exact ⟨_,rfl,r⟩
 | _,_,i + 1,x,.cons _ t,e=>by
  obtain ⟨u,h1,h2⟩:=Vals.get (i:=i) (x:=x) t (by simpa using e)
  exact ⟨u,by simpa using h1,h2⟩
theorem Vals.set {x:V}{u:Value} (r:RelV x u):∀ {xs:List V}{us:List Value} (i:Nat),Vals xs us→Vals (xs.set i x) (us.set i u)
 | _,_,_,.nil=>.nil
 | _,_,0,.cons _ t=>.cons r t
 | _,_,i + 1,.cons q t=>.cons q (Vals.set r i t)
theorem Vals.append:∀ {xs ys:List V}{us ws:List Value},Vals xs us→Vals ys ws→Vals (xs++ys) (us++ws)
 | _,_,_,_,.nil,s=>s
 | _,_,_,_,.cons r t,s=>.cons r (Vals.append t s)
theorem Vals.take:∀ {xs:List V}{us:List Value} (n:Nat),Vals xs us→Vals (xs.take n) (us.take n)
 | _,_,0,_=>.nil
 | _,_,_ + 1,.nil=>.nil
 | _,_,n + 1,.cons r t=>.cons r (Vals.take n t)
theorem Vals.drop:∀ {xs:List V}{us:List Value} (n:Nat),Vals xs us→Vals (xs.drop n) (us.drop n)
 | _,_,0,r=>r
 | _,_,_ + 1,.nil=>.nil
 | _,_,n + 1,.cons _ t=>Vals.drop n t
noncomputable def RelO:Option V→Option Value→Prop
 | some v,some u=>RelV v u
 | none,none=>True
 | _,_=>False
noncomputable def KV {κ:Type}:List (κ × V)→List (κ × Value)→Prop:=Paired fun (p:κ × V) (q:κ × Value)=>p.1=q.1∧RelV p.2 q.2
noncomputable def kV:Key→V
 | .inl i=>.int i
 | .inr x=>.str x
inductive HO where
  | lst (xs:List V)
  | tup (xs:List V)
  | dK (kvs:List (Key × V)) | dT (kvs:List (List Key × V))
  | set (S:Int→Bool) (n:Nat)
  | ins (C dx:Addr) (fs:List (Str × V))
  | own (x:Addr)
  | xd (fs:List (Str × V))
  | met (f x:Addr)
  | rng (lo hi:Int)
  | frz (o:Obj) (u:HO)
  | tbl (ps:Array Value)
  | ext (φ:Heap→Prop)
noncomputable abbrev Hp:=Addr→Option HO
noncomputable def upd (H:Hp) (a:Addr) (o:HO):Hp:=fun b=>if b=a then some o else H b
theorem upd_same {H:Hp}{a:Addr}{o:HO}:upd H a o a=some o:=by unfold upd;rw [if_pos rfl]
theorem upd_ne {H:Hp}{a b:Addr}{o:HO} (h:b≠a):upd H a o b=H b:=by unfold upd;rw [if_neg h]
theorem ne_of_none {H:Hp}{a b:Addr}{o:HO} (h:H a=some o) (h':H b=none):a≠b:=by
 intro e;subst e;rw [h] at h';cases h'
section
variable (P:Program) (w:World)
noncomputable def ObjOk (H:Hp) (h:Heap) (a:Addr):HO→Prop
 | .lst xs=>xs.length≤sizeLine∧∃ (its:List Value) (n:Nat),Vals xs its∧h.get? a=some { cls:=.type "list",data:=.seq its.toArray n }
 | .tup xs=>xs.length≤sizeLine∧∃ its:List Value,Vals xs its∧IsTup h a its.toArray
 | .dK kvs=>kvs.length≤sizeLine∧(a == sysModules)=false∧∃ vs,KV kvs vs∧h.DictOf (mixKind P w) a vs
 | .dT kvs=>kvs.length≤sizeLine∧(a == sysModules)=false∧∃ xs:List (List Key × Addr × Value),
   Paired (fun (p:List Key × V) (q:List Key × Addr × Value)=>p.1=q.1∧H q.2.1=some (.tup (p.1.map kV))∧RelV p.2 q.2.2) kvs xs ∧
   ∃ o es ep,h.get? a=some o∧o.ExactDict∧o.data = .dict es ep∧es.toList=xs.map (entryOfKey (tupleKind (mixKind P w)))∧(xs.map (·.1)).Nodup
 | .set S n=>h.SetOf (intKind P w) a S n
 | .ins C dx fs=>H dx=some (.own a)∧fs.length≤1000∧dx≠a∧h.get? a=some (PySem.W.instObj C dx) ∧
   ∃ mA,h.Ns1 dx mA∧(∀ f,RelO (fs.lookup f) (mA f))∧PySem.Within mA (fs.map (·.1))
 | .own _=>∃ o,h.get? a=some o
 | .xd fs=>∃ mA,h.Ns1 a mA∧∀ f,RelO (fs.lookup f) (mA f)
 | .rng lo hi=>∃ t u v,h.get? a=some { cls:=.type "range",data:=.fields #[.int lo t,.int hi u,.int 1 v] }
 | .frz o u=>h.get? a=some o∧ObjOk H h a u
 | .tbl ps=>h.get? a=some { cls:=.none,data:=.fields ps }
 | .met f x=>h.get? a=some (PySem.W.methodObj (.ref f) (.ref x))
 | .ext φ=>φ h∧(∃ o,h.get? a=some o)∧∀ h1 h2:Heap,φ h1→(∀ o,h1.get? a=some o→h2.get? a=some o)→φ h2
noncomputable def HOk (H:Hp) (h:Heap):Prop:=∀ a o,H a=some o→ObjOk P w H h a o
end
section
variable {P:Program}{w:World}{H H':Hp}{h h':Heap}{a:Addr}{o:HO}
theorem ObjOk.lt (x:ObjOk P w H h a o):a < h.objs.size:=by
 cases o with
 | lst xs=>obtain ⟨_,_,_,_,e⟩:=x;exact Heap.lt_size e
 | tup xs=>obtain ⟨_,_,_,p⟩:=x;exact p.lt
 | dK kvs=>obtain ⟨_,_,_,_,o,_,_,e,_⟩:=x;exact Heap.lt_size e
 | dT kvs=>obtain ⟨_,_,_,_,o,_,_,e,_⟩:=x;exact Heap.lt_size e
 | set S n=>obtain ⟨o,_,_,_,e,_⟩:=x;exact Heap.lt_size e
 | ins C dx fs=>obtain ⟨_,_,_,e,_⟩:=x;exact Heap.lt_size e
 | own y=>obtain ⟨_,e⟩:=x;exact Heap.lt_size e
 | xd fs=>obtain ⟨_,⟨_,_,_,e,_⟩,_⟩:=x;exact Heap.lt_size e
 | rng lo hi=>obtain ⟨_,_,_,e⟩:=x;exact Heap.lt_size e
 | frz ob u=>obtain ⟨e,_⟩:=x;exact Heap.lt_size e
 | tbl ps=>exact Heap.lt_size (show h.get? a=some _ from x)
 | met f y=>exact Heap.lt_size (show h.get? a=some _ from x)
 | ext φ=>obtain ⟨_,⟨_,e⟩,_⟩:=x;exact Heap.lt_size e
theorem Paired.mapP {α β:Type}{F G:α→β→Prop}:∀ {l₁:List α}{l₂:List β},Paired F l₁ l₂→(∀ a b,F a b→G a b)→Paired G l₁ l₂
 | _,_,.nil,_=>.nil
 | _,_,.cons r t,f=>.cons (f _ _ r) (Paired.mapP t f)
theorem ObjOk.stay (x:ObjOk P w H h a o) (k:∀ b u,(b=a∨H b=some (.own a))→h.get? b=some u→h'.get? b=some u)
  (ho:∀ b,H b=some (.own a)→H' b=some (.own a)) (ht:∀ b xs,H b=some (.tup xs)→H' b=some (.tup xs)):ObjOk P w H' h' a o:=by
 induction o with
 | lst xs=>obtain ⟨z,its,n,r,e⟩:=x;exact ⟨z,its,n,r,k _ _ (.inl rfl) e⟩
 | tup xs=>obtain ⟨z,its,r,ob,e,c⟩:=x;exact ⟨z,its,r,ob,k _ _ (.inl rfl) e,c⟩
 | dK kvs=>obtain ⟨z,y,vs,r,ob,es,ep,e,c⟩:=x;exact ⟨z,y,vs,r,ob,es,ep,k _ _ (.inl rfl) e,c⟩
 | dT kvs=>
  obtain ⟨z,y,xs,r,ob,es,ep,e,c⟩:=x
  exact ⟨z,y,xs,Paired.mapP r fun p q z=>⟨z.1,ht _ _ z.2.1,z.2.2⟩,ob,es,ep,k _ _ (.inl rfl) e,c⟩
 | set S n=>obtain ⟨ob,es,ep,t,e,c⟩:=x;exact ⟨ob,es,ep,t,k _ _ (.inl rfl) e,c⟩
 | ins C dx fs=>
  obtain ⟨d,z,ne,e,mA,⟨od,es,ep,e2,c⟩,r⟩:=x
  exact ⟨ho _ d,z,ne,k _ _ (.inl rfl) e,mA,⟨od,es,ep,k _ _ (.inr d) e2,c⟩,r⟩
 | own y=>obtain ⟨ob,e⟩:=x;exact ⟨ob,k _ _ (.inl rfl) e⟩
 | xd fs=>obtain ⟨mA,⟨od,es,ep,e,c⟩,r⟩:=x;exact ⟨mA,⟨od,es,ep,k _ _ (.inl rfl) e,c⟩,r⟩
 | rng lo hi=>obtain ⟨t,u,v,e⟩:=x;exact ⟨t,u,v,k _ _ (.inl rfl) e⟩
 | frz ob u ih=>obtain ⟨e,q⟩:=x;exact ⟨k _ _ (.inl rfl) e,ih q⟩
 | tbl ps=>
  have e:h.get? a=some { cls:=.none,data:=.fields ps }:=x
  show h'.get? a=some { cls:=.none,data:=.fields ps }
  exact k a _ (.inl rfl) e
 | met f y=>
  have e:h.get? a=some (PySem.W.methodObj (.ref f) (.ref y)):=x
  show h'.get? a=some (PySem.W.methodObj (.ref f) (.ref y))
  exact k a _ (.inl rfl) e
 | ext φ=>obtain ⟨p,⟨o,e⟩,st⟩:=x;exact ⟨st _ _ p fun o q=>k _ _ (.inl rfl) q,⟨o,k _ _ (.inl rfl) e⟩,st⟩
theorem HOk.lt (x:HOk P w H h) (e:H a=some o):a < h.objs.size:=(x a o e).lt
theorem HOk.fresh (x:HOk P w H h) (e:h.objs.size≤a):H a=none:=by
 cases q:H a with
 | none=>rfl
 | some u=>exact absurd (Nat.lt_of_lt_of_le (x.lt q) e) (Nat.lt_irrefl _)
theorem HOk.kept (x:HOk P w H h) (k:∀ b u,h.get? b=some u→h'.get? b=some u):HOk P w H h':=fun a o e=>
 (x a o e).stay (fun b u _ q=>k b u q) (fun _ q=>q) fun _ _ q=>q
theorem HOk.laid (x:HOk P w H h) (k:∀ b u,h.get? b=some u→h'.get? b=some u) (hp:h.objs.size≤a) (new:ObjOk P w (upd H a o) h' a o):HOk P w (upd H a o) h':=fun b u e=>by
 have hn:=x.fresh hp
 by_cases hb:b=a
 ·subst hb;rw [upd_same] at e;cases e;exact new
 ·rw [upd_ne hb] at e
  exact (x b u e).stay (fun c v _ q=>k c v q) (fun c q=>by rw [upd_ne (ne_of_none q hn)];exact q) fun c xs q=>by rw [upd_ne (ne_of_none q hn)];exact q
end
noncomputable def Rd (H:Hp) (a:Addr) (u:HO):Prop:=H a=some u∨∃ o,H a=some (.frz o u)
theorem Rd.ok {P:Program}{w:World}{H:Hp}{h:Heap}{a:Addr}{u:HO} (r:Rd H a u) (x:HOk P w H h):ObjOk P w H h a u:=by
 rcases r with r | ⟨o,r⟩
 ·exact x a u r
 ·obtain ⟨_,q⟩:=x a _ r
  exact q
noncomputable def Mut:Option HO→Prop
 | some (.lst _)=>True
 | some (.dK _)=>True
 | some (.dT _)=>True
 | some (.set _ _)=>True
 | some (.ins _ _ _)=>True
 | some (.ext _)=>True
 | _=>False
section
variable {P:Program}{w:World}{H:Hp}{h h':Heap}{x e:Addr}{o':HO}
theorem HOk.write (ok:HOk P w H h) (mu:Mut (H x)) (he:e=x∨H e=some (.own x)) (k:∀ b u,b≠e→h.get? b=some u→h'.get? b=some u) (heo:∃ u,h'.get? e=some u)
  (new:ObjOk P w (upd H x o') h' x o'):HOk P w (upd H x o') h':=fun b u q=>by
 have nown:∀ c y,H c=some (.own y)→c≠x:=fun c y r z=>by subst z;rw [r] at mu;exact mu
 have ntup:∀ c xs,H c=some (.tup xs)→c≠x:=fun c xs r z=>by subst z;rw [r] at mu;exact mu
 by_cases hb:b=x
 ·subst hb;rw [upd_same] at q;cases q;exact new
 ·rw [upd_ne hb] at q
  by_cases hbe:b=e
  ·have q':H b=some (.own x):=by
    rcases he with z | z
    ·exact absurd (hbe.trans z) hb
    ·rw [hbe];exact z
   rw [q] at q';cases q'
   obtain ⟨v,hv⟩:=heo
   exact ⟨v,by rw [hbe];exact hv⟩
  ·refine (ok b u q).stay (fun c v hc r=>k c v ?_ r) (fun c r=>by rw [upd_ne (nown c b r)];exact r) fun c xs r=>by rw [upd_ne (ntup c xs r)];exact r
   rcases hc with rfl | hc
   ·exact hbe
   ·rintro rfl
    rcases he with z | z
    ·exact nown c b hc z
    ·rw [hc] at z;cases z;exact hb rfl
end
structure Un (fs ex:List Addr) (H H':Hp) (h h':Heap):Prop where
 keep:∀ b o,h.get? b=some o→H b=none→b ∉ fs→b ∉ ex→h'.get? b=some o
 slot:∀ b o,h.get? b=some o→H b=none→b∈fs→b ∉ ex→∃ sl,h'.get? b=some { o with slots:=sl }
 free:∀ b o,h.get? b=some o→H b=none→b ∉ ex→H' b=none
 there:∀ b o,h.get? b=some o→b ∉ ex→∃ o',h'.get? b=some o'
 tups:∀ b xs,H b=some (.tup xs)→H' b=some (.tup xs)
 frzs:∀ b o u,H b=some (.frz o u)→H' b=some (.frz o u)
 tbls:∀ b ps,H b=some (.tbl ps)→∃ more,H' b=some (.tbl (ps++more))
section
variable {fs fs' ex ex':List Addr}{H H1 H2:Hp}{h h1 h2 h':Heap}{a x e:Addr}{o:HO}
theorem Un.any (u:Un fs ex H H1 h h1) {b:Addr}{ob:Obj} (q:h.get? b=some ob) (n:H b=none) (hx:b ∉ ex):∃ sl,h1.get? b=some { ob with slots:=sl }:=by
 by_cases hb:b∈fs
 ·exact u.slot b ob q n hb hx
 ·exact ⟨ob.slots,u.keep b ob q n hb hx⟩
theorem Un.kept (k:∀ b u,h.get? b=some u→h'.get? b=some u):Un fs ex H H h h':=
 ⟨fun b ob q _ _ _=>k b ob q,fun b ob q _ _ _=>⟨ob.slots,k b ob q⟩,fun _ _ _ n _=>n,fun b ob q _=>⟨ob,k b ob q⟩,fun _ _ q=>q,fun _ _ _ q=>q,fun _ ps q=>⟨#[],by rw [q];simp⟩⟩
theorem Un.refl:Un fs ex H H h h:=Un.kept fun _ _ q=>q
theorem Un.laid (k:∀ b u,h.get? b=some u→h'.get? b=some u) (hp:h.objs.size≤a) (hn:H a=none):Un fs ex H (upd H a o) h h' where
 keep:=fun b u q _ _ _=>k b u q
 slot:=fun b u q _ _ _=>⟨u.slots,k b u q⟩
 free:=fun b u q n _=>by rw [upd_ne (Nat.ne_of_lt (Nat.lt_of_lt_of_le (Heap.lt_size q) hp))];exact n
 there:=fun b u q _=>⟨u,k b u q⟩
 tups:=fun b xs q=>by rw [upd_ne (ne_of_none q hn)];exact q
 frzs:=fun b u xs q=>by rw [upd_ne (ne_of_none q hn)];exact q
 tbls:=fun b ps q=>⟨#[],by rw [upd_ne (ne_of_none q hn),q];simp⟩
theorem Un.write (mu:Mut (H x)) (he:e=x∨H e=some (.own x)) (k:∀ b u,b≠e→h.get? b=some u→h'.get? b=some u) (heo:∃ u,h'.get? e=some u):Un fs ex H (upd H x o) h h':=by
 have hx:∀ b,H b=none→b≠x:=fun b n z=>by subst z;rw [n] at mu;exact mu
 have hb:∀ b,H b=none→b≠e:=fun b n z=>by
  subst z
  rcases he with r | r
  ·exact hx b n r
  ·rw [n] at r;cases r
 have hm:∀ b u,H b=some u→¬ Mut (some u)→b≠x:=fun b u q nm z=>by subst z;rw [q] at mu;exact nm mu
 refine ⟨fun b u q n _ _=>k b u (hb b n) q,fun b u q n _ _=>⟨u.slots,k b u (hb b n) q⟩,fun b u q n _=>by rw [upd_ne (hx b n)];exact n,fun b u q _=>?_,
  fun b xs q=>by rw [upd_ne (hm b _ q fun z=>z)];exact q,fun b u xs q=>by rw [upd_ne (hm b _ q fun z=>z)];exact q,fun b ps q=>⟨#[],by rw [upd_ne (hm b _ q fun z=>z),q];simp⟩⟩
 by_cases hbe:b=e
 ·subst hbe;exact heo
 ·exact ⟨u,k b u hbe q⟩
end
noncomputable def trk (h:Heap) (H:Hp):List Addr:=(List.range h.objs.size).filter fun a=>(H a).isSome
noncomputable def hidT (h:Heap) (H:Hp):Heap:=PySem.W.hideAll h (trk h H)
theorem hidT_size (h:Heap) (H:Hp):(hidT h H).objs.size=h.objs.size:=PySem.W.hideAll_size _ _
theorem hidT_get {h:Heap}{H:Hp}{b:Addr}{o:Obj} (e:h.get? b=some o) (n:H b=none):(hidT h H).get? b=some o:=
 PySem.W.hideAll_get _ e fun hm=>by
  have q:(H b).isSome=true:=(List.mem_filter.mp hm).2
  rw [n] at q;simp at q
theorem of_hidT {h:Heap}{H:Hp}{b:Addr}{o:Obj} (e:(hidT h H).get? b=some o):h.get? b=some o∧H b=none:=by
 have e':h.get? b=some o:=PySem.W.of_hideAll (trk h H) e
 refine ⟨e',?_⟩
 cases q:H b with
 | none=>rfl
 | some x=>
  have hm:b∈trk h H:=List.mem_filter.mpr ⟨List.mem_range.mpr (Heap.lt_size e'),by simp [q]⟩
  have z:(hidT h H).get? b=none:=PySem.W.hideAll_none (trk h H) hm
  rw [z] at e;cases e
end L2
namespace L2
open PySem PySem.Spec PyProof.Rows
structure Mod (K:PySem.W.Frag) (mg:Str→Option Value) (base:Heap):Prop where
 kin:K.In base
 glob:base.Ns mainGlobals mg
 blt:∃ mb,base.Ns builtinsNs mb∧∀ x:Str,x≠"__name__"→mb x=bootBuiltins x
 nolimit:base.NoLimit
structure Cx where
 prog:Program
 w:World
 K:PySem.W.Frag
 mg:Str→Option Value
 base:Heap
 A:Around
 N:List Str
 s₀:Shared
 H₀:Hp
 env:Env
 outer:List Env
 stack:List Env
 ex:List Addr
 fn:Str→Bool
 calm:Bool
 pn:List (Addr × Obj)
 xe:Value→Shared→Prop
noncomputable def frs (l:List Env):List Addr:=l.filterMap (·.frame)
noncomputable abbrev Cx.fs (X:Cx):List Addr:=frs X.outer
noncomputable def Vis (sc:Scope) (x:Str):Prop:=sc.names.lookup x=some .local∨sc.names.lookup x=some .cell∨sc.names.lookup x=some .free
noncomputable def Loc (sc:Scope) (x:Str):Prop:=sc.names.lookup x=some .local∨sc.names.lookup x=some .cell
noncomputable def Look (env:Env) (h:Heap) (m:Str→Option Value) (x:Str) (u:Value):Prop:=
 (env.kindOf x=some .local∧m x=some u)∨((env.kindOf x=some .cell∨env.kindOf x=some .free)∧∃ c,env.cells.lookup x=some c∧h.IsCell c (some u))
structure Cx.Ok (X:Cx):Prop where
 mod:Mod X.K X.mg X.base
 kind:X.env.scope.kind = .function
 glob:X.env.globals=mainGlobals
 blt:X.env.builtins=builtinsNs
 above:X.s₀.heap.objs.size≤X.env.locals
 inj:∀ x y c,X.env.cells.lookup x=some c→X.env.cells.lookup y=some c→x=y
 has:∀ x,(X.env.kindOf x=some .cell∨X.env.kindOf x=some .free)→∃ c,X.env.cells.lookup x=some c
 cab:∀ x c,X.fn x=true→X.env.cells.lookup x=some c→X.s₀.heap.objs.size≤c
 hd:X.calm=true→X.A.handled=none
 frames:X.A.frames=some X.stack
 stk:X.stack=X.outer∨(X.stack=X.env::X.outer∧X.env.frame=some X.env.locals)
 exf:∀ b∈X.ex,b≠X.env.locals∧∀ x c,X.env.cells.lookup x=some c→c≠b
 bs:∀ b o,X.base.get? b=some o→X.s₀.heap.get? b=some o∧X.H₀ b=none
 bsz:X.base.objs.size≤X.s₀.heap.objs.size
 noex:∀ b o,X.base.get? b=some o→b ∉ X.ex
 exfs:∀ b∈X.ex,b ∉ X.fs
 funs:X.s₀.heap.FunFrames X.base X.outer
 frf:∀ b∈X.fs,X.H₀ b=none
structure Inv (X:Cx) (pins:List (Addr × Obj)) (σ:List (Option V)) (H:Hp) (s:Shared):Prop where
 ok:X.Ok
 os:s.os=X.s₀.os
 bare:AllBare s.gens
 base:Un X.fs X.ex X.H₀ H X.s₀.heap s.heap
 loc:∃ m,s.heap.Ns X.env.locals m∧∀ (i:Nat) (x:Str) (v:V),X.N[i]? = some x→σ[i]? = some (some v)→Vis X.env.scope x→∃ u,RelV v u∧Look X.env s.heap m x u
 cell:∀ x c,X.env.cells.lookup x=some c→∃ v,s.heap.IsCell c v
 free:H X.env.locals=none
 freeC:∀ x c,X.env.cells.lookup x=some c→H c=none
 pin:∀ p∈X.pn++pins,s.heap.get? p.1=some p.2∧H p.1=none∧p.1≠X.env.locals∧p.1 ∉ X.fs∧∀ v,p.2.data≠.cell v
 hok:HOk X.prog X.w H s.heap
 len:σ.length=X.N.length
section
variable {X:Cx}{pins:List (Addr × Obj)}{σ:List (Option V)}{H H':Hp}{s:Shared}{h':Heap}
theorem Cx.Ok.nofr (ok:X.Ok) {b:Addr}{o:Obj} (e:X.base.get? b=some o):b ∉ X.fs:=fun hb=>by
 have:=(ok.funs.mem hb).1
 rw [e] at this;cases this
theorem Inv.bs (I:Inv X pins σ H s):∀ b o,X.base.get? b=some o→s.heap.get? b=some o∧H b=none:=fun b o e=>
 ⟨I.base.keep b o (I.ok.bs b o e).1 (I.ok.bs b o e).2 (I.ok.nofr e) (I.ok.noex b o e),I.base.free b o (I.ok.bs b o e).1 (I.ok.bs b o e).2 (I.ok.noex b o e)⟩
theorem Inv.bk (I:Inv X pins σ H s):∀ b o,X.base.get? b=some o→s.heap.get? b=some o:=fun b o e=>(I.bs b o e).1
theorem Inv.mod (I:Inv X pins σ H s):Mod X.K X.mg X.base:=I.ok.mod
theorem Inv.kIn (I:Inv X pins σ H s):X.K.In s.heap:=I.ok.mod.kin.keeps I.bk
theorem Inv.lt (I:Inv X pins σ H s):X.env.locals < s.heap.objs.size:=let ⟨_,hn,_⟩:=I.loc;hn.lt
theorem Inv.sz (I:Inv X pins σ H s):X.s₀.heap.objs.size≤s.heap.objs.size:=Nat.le_trans I.ok.above (Nat.le_of_lt I.lt)
theorem Inv.nofs (I:Inv X pins σ H s) {a:Addr} (h:s.heap.objs.size≤a):a ∉ X.fs:=fun hb=>by
 obtain ⟨_,o,ho,_⟩:=I.ok.funs.mem hb
 exact absurd (Nat.lt_of_lt_of_le (Heap.lt_size ho) (Nat.le_trans I.sz h)) (Nat.lt_irrefl _)
theorem Inv.cne (I:Inv X pins σ H s):∀ x c,X.env.cells.lookup x=some c→c≠X.env.locals:=fun x c e z=>by
 obtain ⟨v,o,ho,hd⟩:=I.cell x c e
 obtain ⟨m,⟨o',es,ep,ho',hd',_⟩,_⟩:=I.loc
 rw [z,ho'] at ho;cases ho;rw [hd'] at hd;cases hd
theorem Inv.funs (I:Inv X pins σ H s):s.heap.FunFrames X.base X.outer:=by
 have all:∀ (l:List Env),(∀ b∈frs l,b∈X.fs)→X.s₀.heap.FunFrames X.base l→s.heap.FunFrames X.base l:=by
  intro l
  induction l with
  | nil=>intro _ _;trivial
  | cons env r ih=>
   intro hs hl
   obtain ⟨hk,⟨L,o,hf,hn,ho,hd⟩,hr⟩:=hl
   have hL:L∈X.fs:=hs L (by unfold frs;rw [List.filterMap_cons,hf];exact List.mem_cons_self)
   obtain ⟨sl,e⟩:=I.base.slot L o ho (I.ok.frf L hL) hL fun z=>I.ok.exfs L z hL
   exact ⟨hk,⟨L,_,hf,hn,e,hd⟩,ih (fun b hb=>hs b (by unfold frs;rw [List.filterMap_cons,hf];exact List.mem_cons_of_mem _ hb)) hr⟩
 exact all X.outer (fun _ hb=>hb) I.ok.funs
theorem Inv.stack (I:Inv X pins σ H s):s.heap.FunFrames X.base X.stack:=by
 rcases I.ok.stk with e | ⟨e,hf⟩
 ·rw [e];exact I.funs
 ·rw [e]
  obtain ⟨m,hn,_⟩:=I.loc
  refine .cons (by rw [I.ok.kind];decide) hf hn ?_ I.funs
  exact Heap.get?_none_of_le (Nat.le_trans I.ok.bsz I.ok.above)
theorem Inv.stkSub (I:Inv X pins σ H s):∀ b∈frs X.stack,b∈X.env.locals::X.fs:=fun b hb=>by
 rcases I.ok.stk with e | ⟨e,hf⟩
 ·rw [e] at hb;exact List.mem_cons_of_mem _ hb
 ·rw [e] at hb
  unfold frs at hb
  rw [List.filterMap_cons,hf] at hb
  exact hb
theorem Inv.stkFree (I:Inv X pins σ H s):∀ b∈frs X.stack,H b=none:=fun b hb=>by
 rcases List.mem_cons.mp (I.stkSub b hb) with e | hb
 ·rw [e];exact I.free
 ·obtain ⟨_,o,ho,_⟩:=I.ok.funs.mem hb
  exact I.base.free b o ho (I.ok.frf b hb) fun z=>I.ok.exfs b z hb
theorem Inv.step {g':Array GenState}{t':Nat}{d':Drawn}{ch:List Addr} (I:Inv X pins σ H s)
  (hch:∀ b∈ch,(b∈X.ex∨X.s₀.heap.objs.size≤b)∧b≠X.env.locals∧(∀ x c,X.env.cells.lookup x=some c→c≠b)∧∀ p∈X.pn++pins,p.1≠b)
  (keep:∀ b o,b≠X.env.locals→b ∉ X.fs→b ∉ ch→s.heap.get? b=some o→H b=none→h'.get? b=some o)
  (slot:∀ b o,b≠X.env.locals→b∈X.fs→b ∉ ch→s.heap.get? b=some o→H b=none→∃ sl,h'.get? b=some { o with slots:=sl }) (free:∀ b o,b ∉ ch→s.heap.get? b=some o→H b=none→H' b=none)
  (there:∀ b o,b ∉ ch→s.heap.get? b=some o→∃ o',h'.get? b=some o')
  (tups:∀ b xs,H b=some (.tup xs)→H' b=some (.tup xs)) (frzs:∀ b o u,H b=some (.frz o u)→H' b=some (.frz o u)) (tbls:∀ b ps,H b=some (.tbl ps)→∃ more,H' b=some (.tbl (ps++more)))
  (ns:∀ m,s.heap.Ns X.env.locals m→h'.Ns X.env.locals m) (hok:HOk X.prog X.w H' h') (hg:AllBare g') :
  Inv X pins σ H' { s with heap:=h',gens:=g',drawn:=d',toks:=t' }:=by
 have neL:∀ b o,X.s₀.heap.get? b=some o→b≠X.env.locals:=fun b o e=>Nat.ne_of_lt (Nat.lt_of_lt_of_le (Heap.lt_size e) I.ok.above)
 have neC:∀ b o,X.s₀.heap.get? b=some o→b ∉ X.ex→b ∉ ch:=fun b o e hx hb=>by
  rcases (hch b hb).1 with z | z
  ·exact hx z
  ·exact absurd (Nat.lt_of_lt_of_le (Heap.lt_size e) z) (Nat.lt_irrefl _)
 have cellK:∀ x c,X.env.cells.lookup x=some c→∀ v,s.heap.IsCell c v→h'.IsCell c v:=fun x c e v ⟨o,ho,hd⟩=>by
  have nch:c ∉ ch:=fun z=>(hch c z).2.2.1 x c e rfl
  by_cases hc:c∈X.fs
  ·obtain ⟨sl,q⟩:=slot c o (I.cne x c e) hc nch ho (I.freeC x c e)
   exact ⟨_,q,hd⟩
  ·exact ⟨o,keep c o (I.cne x c e) hc nch ho (I.freeC x c e),hd⟩
 refine ⟨I.ok,I.os,hg,⟨fun b o e n hb hx=>?_,fun b o e n hb hx=>?_,fun b o e n hx=>?_,fun b o e hx=>?_,fun b xs e=>tups b xs (I.base.tups b xs e),fun b o xs e=>frzs b o xs (I.base.frzs b o xs e),fun b ps e=>?_⟩,?_,fun x c e=>?_,?_,fun x c e=>?_,fun p hp=>?_,hok,I.len⟩
 ·exact keep b o (neL b o e) hb (neC b o e hx) (I.base.keep b o e n hb hx) (I.base.free b o e n hx)
 ·obtain ⟨sl,e1⟩:=I.base.slot b o e n hb hx
  obtain ⟨sl',e2⟩:=slot b _ (neL b o e) hb (neC b o e hx) e1 (I.base.free b o e n hx)
  exact ⟨sl',e2⟩
 ·obtain ⟨o',e1⟩:=I.base.there b o e hx
  exact free b o' (neC b o e hx) e1 (I.base.free b o e n hx)
 ·obtain ⟨o',e1⟩:=I.base.there b o e hx
  exact there b o' (neC b o e hx) e1
 ·obtain ⟨m1,e1⟩:=I.base.tbls b ps e
  obtain ⟨m2,e2⟩:=tbls b _ e1
  exact ⟨m1++m2,by rw [e2,Array.append_assoc]⟩
 ·obtain ⟨m,hn,hl⟩:=I.loc
  refine ⟨m,ns m hn,fun i x v e1 e2 e3=>?_⟩
  obtain ⟨u,r,l⟩:=hl i x v e1 e2 e3
  refine ⟨u,r,?_⟩
  rcases l with l | ⟨k,c,e,z⟩
  ·exact .inl l
  ·exact .inr ⟨k,c,e,cellK x c e _ z⟩
 ·obtain ⟨v,z⟩:=I.cell x c e
  exact ⟨v,cellK x c e v z⟩
 ·obtain ⟨m,⟨o,_,_,ho,_⟩,_⟩:=I.loc
  exact free _ o (fun z=>(hch _ z).2.1 rfl) ho I.free
 ·obtain ⟨v,o,ho,hd⟩:=I.cell x c e
  exact free c o (fun z=>(hch c z).2.2.1 x c e rfl) ho (I.freeC x c e)
 ·obtain ⟨e,n,ne,nf,d⟩:=I.pin p hp
  have nch:p.1 ∉ ch:=fun z=>(hch p.1 z).2.2.2 p hp rfl
  exact ⟨keep p.1 p.2 ne nf nch e n,free p.1 p.2 nch e n,ne,nf,d⟩
theorem Inv.un {t':Nat} (I:Inv X pins σ H s) (u:Un X.fs [] H H' s.heap h') (hok:HOk X.prog X.w H' h'):Inv X pins σ H' { s with heap:=h',toks:=t' }:=by
 obtain ⟨m,⟨o,es,ep,ho,r⟩,_⟩:=id I.loc
 obtain ⟨sl,hL⟩:=u.any ho I.free (by simp)
 exact I.step (g':=s.gens) (d':=s.drawn) (ch:=[]) (fun _ z=>nomatch z) (fun b o _ hb _ e n=>u.keep b o e n hb (by simp)) (fun b o _ hb _ e n=>u.slot b o e n hb (by simp)) (fun b o _ e n=>u.free b o e n (by simp)) (fun b o _ e=>u.there b o e (by simp)) u.tups u.frzs u.tbls (fun m' hm=>by
  obtain ⟨o',es',ep',ho',r'⟩:=hm
  rw [ho] at ho';cases ho'
  exact ⟨_,es',ep',hL,r'⟩) hok I.bare
theorem Inv.call {g':Array GenState}{t':Nat}{d':Drawn}{ch:List Addr} (I:Inv X pins σ H s) (u:Un (frs X.stack) ch H H' s.heap h') (hok:HOk X.prog X.w H' h') (hg:AllBare g')
  (hch:∀ b∈ch,(b∈X.ex∨X.s₀.heap.objs.size≤b)∧b≠X.env.locals∧(∀ x c,X.env.cells.lookup x=some c→c≠b)∧∀ p∈X.pn++pins,p.1≠b) :
  Inv X pins σ H' { s with heap:=h',gens:=g',drawn:=d',toks:=t' }:=by
 obtain ⟨m,⟨o,es,ep,ho,r⟩,_⟩:=id I.loc
 obtain ⟨sl,hL⟩:=u.any ho I.free fun z=>(hch _ z).2.1 rfl
 exact I.step (ch:=ch) hch (fun b o hL hb hc e n=>u.keep b o e n (fun z=>(List.mem_cons.mp (I.stkSub b z)).elim hL hb) hc) (fun b o _ _ hc e n=>u.any e n hc) (fun b o hc e n=>u.free b o e n hc) (fun b o hc e=>u.there b o e hc) u.tups u.frzs u.tbls (fun m' hm=>by
  obtain ⟨o',es',ep',ho',r'⟩:=hm
  rw [ho] at ho';cases ho'
  exact ⟨_,es',ep',hL,r'⟩) hok hg
theorem Inv.turned {t':Nat}{it:Addr} (I:Inv X pins σ H s) (k:∀ b o,b≠it→s.heap.get? b=some o→h'.get? b=some o) (hn:H it=none) (hL:it≠X.env.locals)
  (h1:it∈X.ex∨X.s₀.heap.objs.size≤it) (h2:∀ x c,X.env.cells.lookup x=some c→c≠it) (h3:∀ p∈X.pn++pins,p.1≠it):Inv X pins σ H { s with heap:=h',toks:=t' }:=by
 have nit:∀ b u,H b=some u→b≠it:=fun b u e z=>by rw [z,hn] at e;cases e
 refine I.step (g':=s.gens) (d':=s.drawn) (ch:=[it]) (fun b hb=>?_) (fun b o _ _ hc e _=>k b o (fun z=>hc (by simp [z])) e) (fun b o _ _ hc e _=>⟨o.slots,k b o (fun z=>hc (by simp [z])) e⟩) (fun _ _ _ _ n=>n)
  (fun b o hc e=>⟨o,k b o (fun z=>hc (by simp [z])) e⟩) (fun _ _ e=>e) (fun _ _ _ e=>e) (fun b ps e=>⟨#[],by rw [e];simp⟩) (fun m hm=>?_) (fun b u e=>?_) I.bare
 ·have e:b=it:=by simpa using hb
  subst e
  exact ⟨h1,hL,h2,h3⟩
 ·obtain ⟨o,es,ep,ho,r⟩:=hm
  exact ⟨o,es,ep,k _ o (Ne.symm hL) ho,r⟩
 ·refine (I.hok b u e).stay (fun c v hc q=>k c v ?_ q) (fun _ q=>q) fun _ _ q=>q
  rcases hc with z | z
  ·rw [z];exact nit b u e
  ·exact nit c _ z
theorem Inv.tok (I:Inv X pins σ H s) (t:Nat):Inv X pins σ H { s with toks:=t }:=I.un (h':=s.heap) (t':=t) Un.refl I.hok
theorem Inv.kept {t':Nat} (I:Inv X pins σ H s) (k:∀ b u,s.heap.get? b=some u→h'.get? b=some u):Inv X pins σ H { s with heap:=h',toks:=t' }:=I.un (Un.kept k) (I.hok.kept k)
theorem Inv.laid {a:Addr}{o:HO}{t':Nat} (I:Inv X pins σ H s) (k:∀ b u,s.heap.get? b=some u→h'.get? b=some u) (hp:s.heap.objs.size≤a) (new:ObjOk X.prog X.w (upd H a o) h' a o) :
  Inv X pins σ (upd H a o) { s with heap:=h',toks:=t' }:=I.un (Un.laid k hp (I.hok.fresh hp)) (I.hok.laid k hp new)
theorem Inv.write {x e:Addr}{o:HO}{t':Nat} (I:Inv X pins σ H s) (mu:Mut (H x)) (he:e=x∨H e=some (.own x)) (k:∀ b u,b≠e→s.heap.get? b=some u→h'.get? b=some u) (heo:∃ u,h'.get? e=some u)
  (new:ObjOk X.prog X.w (upd H x o) h' x o):Inv X pins σ (upd H x o) { s with heap:=h',toks:=t' }:=I.un (Un.write mu he k heo) (I.hok.write mu he k heo new)
theorem Inv.weak {σ':List (Option V)} (I:Inv X pins σ H s) (hl:σ'.length=σ.length) (w:∀ (i:Nat) v,σ'[i]? = some (some v)→σ[i]? = some (some v)):Inv X pins σ' H s:=
 ⟨I.ok,I.os,I.bare,I.base,let ⟨m,hn,hl'⟩:=I.loc;⟨m,hn,fun i x v e1 e2 e3=>hl' i x v e1 (w i v e2) e3⟩,I.cell,I.free,I.freeC,I.pin,I.hok,hl.trans I.len⟩
theorem Inv.pins_of {pins':List (Addr × Obj)} (I:Inv X pins σ H s) (h:∀ p∈pins',s.heap.get? p.1=some p.2∧H p.1=none∧p.1≠X.env.locals∧p.1 ∉ X.fs∧∀ v,p.2.data≠.cell v):Inv X pins' σ H s:=
 ⟨I.ok,I.os,I.bare,I.base,I.loc,I.cell,I.free,I.freeC,fun p hp=>(List.mem_append.mp hp).elim (fun z=>I.pin p (List.mem_append_left _ z)) (h p),I.hok,I.len⟩
theorem nodup_ix {N:List Str} (hN:N.Nodup) {i j:Nat}{x:Str} (a:N[i]? = some x) (b:N[j]? = some x):i=j:=by
 obtain ⟨h1,e1⟩:=List.getElem?_eq_some_iff.mp a
 obtain ⟨h2,e2⟩:=List.getElem?_eq_some_iff.mp b
 exact (List.getElem_inj hN).mp (e1.trans e2.symm)
theorem store_ok2 {M:Model}{A:Around}{E:Value→Shared→Prop}{i:Nat}{x:Str}{v:V}{u:Value}{Q:Unit→Shared→Prop} (I:Inv X pins σ H s) (hN:X.N.Nodup) (hi:X.N[i]? = some x) (hx:Loc X.env.scope x) (r:RelV v u)
  (h:∀ s',Inv X pins (σ.set i (some v)) H s'→(∃ a,Heap.SameBut a s.heap s'.heap∧(a=X.env.locals∨X.env.cells.lookup x=some a))→Q () s') (hf:autoParam (X.fn x=true∨X.env.scope.names.lookup x=some .local) au0._auto_1):wpAny M A (storeName X.env x u) Q E s:=by
 obtain ⟨m,hn,hl⟩:=id I.loc
 have hcls:(X.env.scope.kind == .class || (X.env.scope.kind == .module && X.env.locals != X.env.globals))=false:=by rw [I.ok.kind];rfl
 have hiσ:i < σ.length:=by rw [I.len];exact (List.getElem?_eq_some_iff.mp hi).1
 have cne:=I.cne
 have tracked:∀ {a:Addr}{h':Heap},(∃ o,s.heap.get? a=some o∧H a=none)→Heap.SameBut a s.heap h'→HOk X.prog X.w H h':=fun {a h'} ha hs b ob e=>by
  obtain ⟨_,_,hfree⟩:=ha
  refine (I.hok b ob e).stay (fun c w' hc q=>(hs.2 c ?_).trans q) (fun _ q=>q) fun _ _ q=>q
  rintro rfl
  rcases hc with rfl | hc
  ·rw [hfree] at e;cases e
  ·rw [hfree] at hc;cases hc
 rcases hx with hk | hk
 ·refine wpAny_storeName_local hk hn (fun h' hn' hs=>?_) hcls
  obtain ⟨oL,_,_,hoL,_⟩:=id hn
  refine h _ ⟨I.ok,I.os,I.bare,⟨fun b o e n hb hx=>?_,fun b o e n hb hx=>?_,I.base.free,fun b o e hx=>?_,I.base.tups,I.base.frzs,I.base.tbls⟩,⟨_,hn',fun j y v' e1 e2 e3=>?_⟩,fun y c e=>?_,I.free,I.freeC,fun p hp=>?_,tracked ⟨oL,hoL,I.free⟩ hs,by simpa using I.len⟩ ⟨_,hs,.inl rfl⟩
  ·exact (hs.2 b (Nat.ne_of_lt (Nat.lt_of_lt_of_le (Heap.lt_size e) I.ok.above))).trans (I.base.keep b o e n hb hx)
  ·obtain ⟨sl,e1⟩:=I.base.slot b o e n hb hx
   exact ⟨sl,(hs.2 b (Nat.ne_of_lt (Nat.lt_of_lt_of_le (Heap.lt_size e) I.ok.above))).trans e1⟩
  ·obtain ⟨o',e1⟩:=I.base.there b o e hx
   exact ⟨o',(hs.2 b (Nat.ne_of_lt (Nat.lt_of_lt_of_le (Heap.lt_size e) I.ok.above))).trans e1⟩
  ·by_cases hj:j=i
   ·subst hj
    rw [hi] at e1;cases e1
    rw [List.getElem?_set_self hiσ] at e2
    cases e2
    exact ⟨u,r,.inl ⟨hk,by simp⟩⟩
   ·rw [List.getElem?_set_ne (Ne.symm hj)] at e2
    obtain ⟨u',r',q⟩:=hl j y v' e1 e2 e3
    refine ⟨u',r',?_⟩
    rcases q with ⟨k,e⟩ | ⟨k,c,e,z⟩
    ·refine .inl ⟨k,?_⟩
     have:y≠x:=fun e=>hj (nodup_ix hN e1 (e ▸ hi))
     simp [this,e]
    ·exact .inr ⟨k,c,e,z.sameBut hs (cne y c e)⟩
  ·obtain ⟨w',z⟩:=I.cell y c e
   exact ⟨w',z.sameBut hs (cne y c e)⟩
  ·obtain ⟨e,n,ne,nf,d⟩:=I.pin p hp
   exact ⟨(hs.2 p.1 ne).trans e,n,ne,nf,d⟩
 ·have hfn:X.fn x=true:=by
   rcases hf with z | z
   ·exact z
   ·rw [z] at hk;cases hk
  obtain ⟨c,hc⟩:=I.ok.has x (.inl hk)
  obtain ⟨w',z⟩:=I.cell x c hc
  refine wpAny_storeName_cell I.ok.kind hk hc z (fun h' hc' hs=>?_)
  obtain ⟨oc,hoc,hocd⟩:=id z
  refine h { s with heap:=h' } ⟨I.ok,I.os,I.bare,⟨fun b o e n hb hx=>?_,fun b o e n hb hx=>?_,I.base.free,fun b o e hx=>?_,I.base.tups,I.base.frzs,I.base.tbls⟩,⟨m,hn.sameBut hs (Ne.symm (cne x c hc)),fun j y v' e1 e2 e3=>?_⟩,fun y c' e=>?_,I.free,I.freeC,fun p hp=>?_,tracked ⟨oc,hoc,I.freeC x c hc⟩ hs,by simpa using I.len⟩ ⟨c,hs,.inr hc⟩
  ·exact (hs.2 b (Nat.ne_of_lt (Nat.lt_of_lt_of_le (Heap.lt_size e) (I.ok.cab x c hfn hc)))).trans (I.base.keep b o e n hb hx)
  ·obtain ⟨sl,e1⟩:=I.base.slot b o e n hb hx
   exact ⟨sl,(hs.2 b (Nat.ne_of_lt (Nat.lt_of_lt_of_le (Heap.lt_size e) (I.ok.cab x c hfn hc)))).trans e1⟩
  ·obtain ⟨o',e1⟩:=I.base.there b o e hx
   exact ⟨o',(hs.2 b (Nat.ne_of_lt (Nat.lt_of_lt_of_le (Heap.lt_size e) (I.ok.cab x c hfn hc)))).trans e1⟩
  ·by_cases hj:j=i
   ·subst hj
    rw [hi] at e1;cases e1
    rw [List.getElem?_set_self hiσ] at e2
    cases e2
    exact ⟨u,r,.inr ⟨.inl hk,c,hc,hc'⟩⟩
   ·rw [List.getElem?_set_ne (Ne.symm hj)] at e2
    obtain ⟨u',r',q⟩:=hl j y v' e1 e2 e3
    refine ⟨u',r',?_⟩
    rcases q with q | ⟨k,c',e,z'⟩
    ·exact .inl q
    ·refine .inr ⟨k,c',e,z'.sameBut hs ?_⟩
     rintro rfl
     exact hj (nodup_ix hN e1 (I.ok.inj _ _ _ e hc ▸ hi))
  ·by_cases hcc:c'=c
   ·subst hcc;exact ⟨_,hc'⟩
   ·obtain ⟨w2,z2⟩:=I.cell y c' e
    exact ⟨w2,z2.sameBut hs hcc⟩
  ·obtain ⟨e,n,ne,nf,d⟩:=I.pin p hp
   refine ⟨(hs.2 p.1 ?_).trans e,n,ne,nf,d⟩
   intro q
   rw [q,hoc] at e
   have q':oc=p.2:=Option.some.inj e
   exact d w' (by rw [← q'];exact hocd)
theorem store_ok {M:Model}{A:Around}{E:Value→Shared→Prop}{i:Nat}{x:Str}{v:V}{u:Value}{Q:Unit→Shared→Prop} (I:Inv X pins σ H s) (hN:X.N.Nodup) (hi:X.N[i]? = some x) (hx:Loc X.env.scope x) (r:RelV v u)
  (h:∀ s',Inv X pins (σ.set i (some v)) H s'→Q () s') (hf:autoParam (X.fn x=true∨X.env.scope.names.lookup x=some .local) au0._auto_1):wpAny M A (storeName X.env x u) Q E s:=
 store_ok2 I hN hi hx r (fun s' I' _=>h s' I') hf
theorem Inv.call' {s':Shared}{ch:List Addr} (I:Inv X pins σ H s) (ho:s'.os=s.os) (u:Un (frs X.stack) ch H H' s.heap s'.heap) (hok:HOk X.prog X.w H' s'.heap) (hg:AllBare s'.gens)
  (hch:∀ b∈ch,(b∈X.ex∨X.s₀.heap.objs.size≤b)∧b≠X.env.locals∧(∀ x c,X.env.cells.lookup x=some c→c≠b)∧∀ p∈X.pn++pins,p.1≠b):Inv X pins σ H' s':=by
 obtain ⟨h',g',d',t',o'⟩:=s'
 have e:o'=s.os:=ho
 subst e
 exact I.call (g':=g') (t':=t') (d':=d') u hok hg hch
end
noncomputable abbrev XK:=Value→Option Addr→Hp→Prop
noncomputable abbrev St:=List (Option V)
noncomputable abbrev VK:=V→Hp→Prop
noncomputable abbrev TE:=St→Hp→VK→Prop
noncomputable abbrev TT:=St→Hp→(Bool→Hp→Prop)→Prop
noncomputable abbrev TA:=St→Hp→(List V→Hp→Prop)→Prop
structure Ends where
 nx:St→Hp→Prop
 rt:VK
 bk:St→Hp→Prop:=fun _ _=>False
 ct:St→Hp→Prop:=fun _ _=>False
noncomputable abbrev TS:=Ends→St→Hp→Prop
noncomputable def EP (X:Cx) (pins:List (Addr × Obj)) (σ:St) (Q:VK) (u:Value) (s':Shared):Prop:=∃ v H',Inv X pins σ H' s'∧RelV v u∧Q v H'
noncomputable def TP (X:Cx) (pins:List (Addr × Obj)) (σ:St) (Q:Bool→Hp→Prop) (b:Bool) (s':Shared):Prop:=∃ H',Inv X pins σ H' s'∧Q b H'
noncomputable def AP (X:Cx) (pins:List (Addr × Obj)) (σ:St) (Q:List V→Hp→Prop) (us:List Value) (s':Shared):Prop:=∃ vs H',Inv X pins σ H' s'∧Vals vs us∧Q vs H'
noncomputable def SP (X:Cx) (pins:List (Addr × Obj)) (D:Ends) (f:Flow) (s':Shared):Prop:=
 match f with
 | .next=>∃ σ' H',Inv X pins σ' H' s'∧D.nx σ' H'
 | .brk=>∃ σ' H',Inv X pins σ' H' s'∧D.bk σ' H'
 | .cont=>∃ σ' H',Inv X pins σ' H' s'∧D.ct σ' H'
 | .ret u=>∃ v σ' H',Inv X pins σ' H' s'∧RelV v u∧D.rt v H'
noncomputable def PE (X:Cx) (e:Expr) (t:TE):Prop:=
 ∀ (pins:List (Addr × Obj)) (s:Shared) (σ:St) (H:Hp) (Q:VK),Inv X pins σ H s→t σ H Q→wpAny (model X.prog X.w) X.A (eval e X.env) (EP X pins σ Q) X.xe s
noncomputable def PT (X:Cx) (e:Expr) (t:TT):Prop:=
 ∀ (pins:List (Addr × Obj)) (s:Shared) (σ:St) (H:Hp) (Q:Bool→Hp→Prop),Inv X pins σ H s→t σ H Q→wpAny (model X.prog X.w) X.A (isTrue e X.env (eval e X.env)) (TP X pins σ Q) X.xe s
noncomputable def PW (X:Cx) (e:Expr) (t:TT):Prop:=
 ∀ (whole:Sem Value) (pins:List (Addr × Obj)) (s:Shared) (σ:St) (H:Hp) (Q:Bool→Hp→Prop),Inv X pins σ H s→t σ H Q→wpAny (model X.prog X.w) X.A (isTrue e X.env whole) (TP X pins σ Q) X.xe s
theorem PW.pt {X:Cx}{e:Expr}{t:TT} (h:PW X e t):PT X e t:=h _
noncomputable def PA (X:Cx) (es:List Expr) (t:TA):Prop:=
 ∀ (pos:Pos) (pins:List (Addr × Obj)) (s:Shared) (σ:St) (H:Hp) (Q:List V→Hp→Prop),Inv X pins σ H s→t σ H Q→wpAny (model X.prog X.w) X.A (spliced (backTo pos (starEach es X.env))) (AP X pins σ Q) X.xe s
noncomputable def PS (X:Cx) (st:Stmt) (t:TS):Prop:=
 ∀ (pins:List (Addr × Obj)) (s:Shared) (σ:St) (H:Hp) (D:Ends),Inv X pins σ H s→t D σ H→wpAny (model X.prog X.w) X.A (exec st X.env) (SP X pins D) X.xe s
noncomputable def PSs (X:Cx) (st:List Stmt) (t:TS):Prop:=
 ∀ (pins:List (Addr × Obj)) (s:Shared) (σ:St) (H:Hp) (D:Ends),Inv X pins σ H s→t D σ H→wpAny (model X.prog X.w) X.A (execs st X.env) (SP X pins D) X.xe s
theorem thn {α:Type}{t:Sem α}{Q Q':α→Shared→Prop}{M:Model}{A:Around}{E:Value→Shared→Prop}{s:Shared} (h:wpAny M A t Q E s) (hQ:∀ a s,Q a s→Q' a s):wpAny M A t Q' E s:=wpAny_mono h hQ fun _ _ x=>x
end L2
namespace L2
open PySem PySem.Spec PyProof.Rows
section
variable {X:Cx}
noncomputable def tVar (i:Nat):TE:=fun σ H Q=>∃ v,σ[i]? = some (some v)∧Q v H
noncomputable def tC (v:V):TE:=fun _ H Q=>Q v H
theorem pe_var {i:Nat}{x:Str}{pos:Pos} (hN:X.N[i]? = some x) (hv:Vis X.env.scope x) (hd:autoParam ((x == ("__debug__":Str))=false) au1._auto_1) (hcd:autoParam ((x == ("__classdict__":Str))=false) au1._auto_1):PE X (.Name x pos) (tVar i):=by
 intro pins s σ H Q I h
 obtain ⟨v,e,h⟩:=h
 obtain ⟨m,hn,hl⟩:=I.loc
 obtain ⟨u,r,l⟩:=hl i x v hN e hv
 have fin:EP X pins σ Q u s:=⟨v,H,I,r,h⟩
 rcases l with ⟨hk,hm⟩ | ⟨hk,c,hc,hcell⟩
 ·exact wpAny_Name (wpAny_loadName_local I.ok.kind hk hn hm fin) hd
 ·rcases hk with hk | hk
  ·exact wpAny_Name (wpAny_loadName_cell I.ok.kind hk hc hcell fin) hd
  ·exact wpAny_Name (wpAny_loadName_free I.ok.kind hk hc hcell fin hcd) hd
theorem pe_int {i j pos}:PE X (.Constant (.int i) j pos) (tC (.int i)):=fun _ _ _ H _ I h=>wpAny_Constant_int ⟨.int i,H,I.tok _,⟨_,rfl⟩,h⟩
theorem pe_bl {b j pos}:PE X (.Constant (.bool b) j pos) (tC (.bl b)):=fun _ _ _ H _ I h=>Constant_bool ⟨.bl b,H,I,rfl,h⟩
theorem pe_non {j pos}:PE X (.Constant .none j pos) (tC .non):=fun _ _ _ H _ I h=>Constant_none ⟨.non,H,I,rfl,h⟩
theorem pe_str {x j pos}:PE X (.Constant (.str x) j pos) (tC (.str x)):=fun _ _ _ H _ I h=>Calls.Constant_str ⟨.str x,H,I.tok _,⟨_,rfl⟩,h⟩
noncomputable def Gl (X:Cx) (x:Str):Prop:=X.env.kindOf x=some .globalImplicit
theorem ld_glob {E:Value→Shared→Prop}{pins:List (Addr × Obj)}{s:Shared}{σ:St}{H:Hp}{x:Str}{u:Value}{pos:Pos}{Q:Value→Shared→Prop} (I:Inv X pins σ H s) (hg:Gl X x) (hm:X.mg x=some u) (h:Q u s)
  (hd:autoParam ((x == ("__debug__":Str))=false) au1._auto_1):wpAny (model X.prog X.w) X.A (eval (.Name x pos) X.env) Q E s:=
 Calls.Name_function_global I.ok.kind hg (Calls.loadGlobal_global (by rw [I.ok.glob];exact I.mod.glob.keeps I.bk) hm h) hd
theorem ld_blt {E:Value→Shared→Prop}{pins:List (Addr × Obj)}{s:Shared}{σ:St}{H:Hp}{x:Str}{u:Value}{pos:Pos}{Q:Value→Shared→Prop} (I:Inv X pins σ H s) (hg:Gl X x) (hm:X.mg x=none) (hv:bootBuiltins x=some u) (h:Q u s)
  (hn:autoParam (x≠"__name__") au1._auto_1) (hd:autoParam ((x == ("__debug__":Str))=false) au1._auto_1):wpAny (model X.prog X.w) X.A (eval (.Name x pos) X.env) Q E s:=by
 obtain ⟨mb,h1,h2⟩:=I.mod.blt
 exact Calls.Name_function_global I.ok.kind hg (Calls.loadGlobal_builtin (by rw [I.ok.glob];exact I.mod.glob.keeps I.bk) hm (by rw [I.ok.blt];exact h1.keeps I.bk) ((h2 x hn).trans hv) h) hd
theorem pe_glob {x:Str}{v:V}{u:Value}{pos:Pos} (hg:Gl X x) (hm:X.mg x=some u) (r:RelV v u) (hd:autoParam ((x == ("__debug__":Str))=false) au1._auto_1):PE X (.Name x pos) (tC v):=
 fun _ _ _ H _ I h=>ld_glob I hg hm ⟨v,H,I,r,h⟩ hd
theorem pe_bltn {x:Str}{v:V}{u:Value}{pos:Pos} (hg:Gl X x) (hm:X.mg x=none) (hv:bootBuiltins x=some u) (r:RelV v u) (hn:autoParam (x≠"__name__") au1._auto_1) (hd:autoParam ((x == ("__debug__":Str))=false) au1._auto_1):PE X (.Name x pos) (tC v):=
 fun _ _ _ H _ I h=>ld_blt I hg hm hv ⟨v,H,I,r,h⟩ hn hd
variable {a b:Expr}{ta tb:TE}{pos:Pos}
noncomputable def tB (t:TE):TT:=fun σ H Q=>t σ H fun x H1=>∃ c,x = .bl c∧Q c H1
theorem pt_val {e:Expr}{t:TE} (h:PE X e t) (he:autoParam (∀ whole,isTrue e X.env whole=(do let v ← whole;standAt e.pos;holding [v] (truthy v))) au2._auto_1):PT X e (tB t):=by
 intro pins s σ H Q I hw
 refine isTrue_plain (thn (h pins s σ H _ I hw) fun v s1 ⟨x,H1,I1,r1,q1⟩=>?_) (he _)
 obtain ⟨d,rfl,q⟩:=q1
 cases r1
 exact wpAny_truthy_bool ⟨H1,I1,q⟩
variable {tA tB':TT}{rest:List Expr}
noncomputable def tAnd (t u:TT):TT:=fun σ H Q=>t σ H fun c H1=>if c=true then u σ H1 Q else Q false H1
noncomputable def tOr (t u:TT):TT:=fun σ H Q=>t σ H fun c H1=>if c=true then Q true H1 else u σ H1 Q
noncomputable def tNot (t:TT):TT:=fun σ H Q=>t σ H fun c H1=>Q (!c) H1
theorem pw_and1 (ha:PT X a tA):PW X (.BoolOp .And [a] pos) tA:=by
 intro wh pins s σ H Q I h
 refine isTrue_and (thn (ha pins s σ H Q I h) fun c s1 e=>?_)
 cases c with
 | true=>exact isTrue_and_nil e
 | false=>exact e
theorem pw_or1 (ha:PT X a tA):PW X (.BoolOp .Or [a] pos) tA:=by
 intro wh pins s σ H Q I h
 refine isTrue_or (thn (ha pins s σ H Q I h) fun c s1 e=>?_)
 cases c with
 | false=>exact isTrue_or_nil e
 | true=>exact e
theorem pw_and (ha:PT X a tA) (hb:PW X (.BoolOp .And (b::rest) pos) tB'):PW X (.BoolOp .And (a::b::rest) pos) (tAnd tA tB'):=by
 intro wh pins s σ H Q I h
 refine isTrue_and (thn (ha pins s σ H _ I h) fun c s1 ⟨H1,I1,q1⟩=>?_)
 cases c with
 | true=>exact hb wh pins s1 σ H1 Q I1 q1
 | false=>exact ⟨H1,I1,q1⟩
theorem pw_or (ha:PT X a tA) (hb:PW X (.BoolOp .Or (b::rest) pos) tB'):PW X (.BoolOp .Or (a::b::rest) pos) (tOr tA tB'):=by
 intro wh pins s σ H Q I h
 refine isTrue_or (thn (ha pins s σ H _ I h) fun c s1 ⟨H1,I1,q1⟩=>?_)
 cases c with
 | true=>exact ⟨H1,I1,q1⟩
 | false=>exact hb wh pins s1 σ H1 Q I1 q1
theorem pt_not (ha:PT X a tA):PT X (.UnaryOp .Not a pos) (tNot tA):=by
 intro pins s σ H Q I h
 exact isTrue_not (ha pins s σ H (fun c H1=>Q (!c) H1) I h)
noncomputable def tAndV (ta tb:TE):TE:=fun σ H Q=>ta σ H fun x H1=>∃ c,x = .bl c∧if c=true then tb σ H1 Q else Q (.bl false) H1
noncomputable def tOrV (ta tb:TE):TE:=fun σ H Q=>ta σ H fun x H1=>∃ c,x = .bl c∧if c=true then Q (.bl true) H1 else tb σ H1 Q
theorem pe_one {op}{t:TE} (h:PE X a t):PE X (.BoolOp op [a] pos) t:=fun pins s σ H Q I hw=>BoolOp_one (h pins s σ H Q I hw)
theorem pe_and (ha:PE X a ta) (hb:PE X (.BoolOp .And (b::rest) pos) tb):PE X (.BoolOp .And (a::b::rest) pos) (tAndV ta tb):=by
 intro pins s σ H Q I h
 refine BoolOp_and (thn (ha pins s σ H _ I h) fun v s1 ⟨x,H1,I1,r1,q1⟩=>?_)
 obtain ⟨c,rfl,q1⟩:=q1
 cases r1
 refine wpAny_truthy_bool ?_
 cases c with
 | true=>exact hb pins s1 σ H1 Q I1 q1
 | false=>exact ⟨.bl false,H1,I1,rfl,q1⟩
theorem pe_or (ha:PE X a ta) (hb:PE X (.BoolOp .Or (b::rest) pos) tb):PE X (.BoolOp .Or (a::b::rest) pos) (tOrV ta tb):=by
 intro pins s σ H Q I h
 refine BoolOp_or (thn (ha pins s σ H _ I h) fun v s1 ⟨x,H1,I1,r1,q1⟩=>?_)
 obtain ⟨c,rfl,q1⟩:=q1
 cases r1
 refine wpAny_truthy_bool ?_
 cases c with
 | false=>exact hb pins s1 σ H1 Q I1 q1
 | true=>exact ⟨.bl true,H1,I1,rfl,q1⟩
noncomputable def tIf (t:TT) (ta tb:TE):TE:=fun σ H Q=>t σ H fun c H1=>if c=true then ta σ H1 Q else tb σ H1 Q
theorem pe_ifExp {c:Expr} (hc:PT X c tA) (ha:PE X a ta) (hb:PE X b tb):PE X (.IfExp c a b pos) (tIf tA ta tb):=by
 intro pins s σ H Q I h
 refine wpAny_IfExp (thn (hc pins s σ H _ I h) fun d s1 ⟨H1,I1,q1⟩=>?_)
 cases d with
 | true=>exact ha pins s1 σ H1 Q I1 q1
 | false=>exact hb pins s1 σ H1 Q I1 q1
end
end L2
namespace L2
open PySem PySem.Spec PyProof.Rows
noncomputable def SqL (K:PySem.W.Frag) (H:Hp) (a:Addr) (xs:List V):Prop:=
 Rd H a (.lst xs) ∨
  ∃ (o:Obj) (its:Array Value) (n:Nat),K.lookup a=some o∧o.cls = .type "list"∧o.dict=none∧o.data = .seq its n∧its.size≤sizeLine∧Vals xs its.toList
noncomputable def SqT (K:PySem.W.Frag) (H:Hp) (a:Addr) (xs:List V):Prop:=
 Rd H a (.tup xs) ∨
  ∃ (o:Obj) (its:Array Value) (n:Nat),K.lookup a=some o∧o.cls = .type "tuple"∧o.data = .seq its n∧its.size≤sizeLine∧Vals xs its.toList
noncomputable def absV:Value→Option V
 | .none=>some .non
 | .bool b=>some (.bl b)
 | .int i _=>some (.int i)
 | .str x _=>some (.str x)
 | .bytes b _=>some (.byt b)
 | .float b _=>some (.flt b)
 | .ref a=>some (.ref a)
 | .type n=>some (.ty n)
 | _=>none
theorem RelV.abs {x:V}{u:Value} (r:RelV x u):absV u=some x:=by
 cases x with
 | non=>cases r;rfl
 | bl _=>cases r;rfl
 | int _=>obtain ⟨t,rfl⟩:=r;rfl
 | str _=>obtain ⟨t,rfl⟩:=r;rfl
 | byt _=>obtain ⟨t,rfl⟩:=r;rfl
 | flt _=>obtain ⟨t,rfl⟩:=r;rfl
 | ref _=>cases r;rfl
 | ty _=>cases r;rfl
theorem RelV.inj {x y:V}{u:Value} (r:RelV x u) (q:RelV y u):x=y:=Option.some.inj (r.abs.symm.trans q.abs)
theorem Vals.inj {xs ys:List V}{us:List Value} (h:Vals xs us):Vals ys us→xs=ys:=by
 induction h generalizing ys with
 | nil=>intro g;cases g;rfl
 | cons r t ih=>
  intro g
  cases g with
  | cons r' t'=>rw [r.inj r',ih t']
section
variable {X:Cx}{pins:List (Addr × Obj)}{σ:St}{H:Hp}{s:Shared}{a:Addr}{xs ys:List V}
theorem SqL.of {K:PySem.W.Frag} (h:H a=some (.lst xs)):SqL K H a xs:=.inl (.inl h)
theorem Inv.list (I:Inv X pins σ H s) (h:SqL X.K H a xs):∃ its:List Value,Vals xs its∧PlainL s.heap a its.toArray∧xs.length≤sizeLine:=by
 rcases h with h | ⟨o,its,n,hk,hc,hd,hs,hz,r⟩
 ·obtain ⟨z,its,n,r,e⟩:=h.ok I.hok
  exact ⟨its,r,⟨_,n,e,rfl,rfl,rfl⟩,z⟩
 ·refine ⟨its.toList,r,⟨o,n,I.kIn a o hk,hc,hd,by simpa using hs⟩,?_⟩
  have e:=r.length
  simp only [Array.length_toList] at e
  omega
theorem Inv.tuple (I:Inv X pins σ H s) (h:SqT X.K H a xs):∃ its:List Value,Vals xs its∧IsTup s.heap a its.toArray∧xs.length≤sizeLine:=by
 rcases h with h | ⟨o,its,n,hk,hc,hs,hz,r⟩
 ·obtain ⟨z,its,r,p⟩:=h.ok I.hok
  exact ⟨its,r,p,z⟩
 ·refine ⟨its.toList,r,⟨o,I.kIn a o hk,hc,n,by simpa using hs⟩,?_⟩
  have e:=r.length
  simp only [Array.length_toList] at e
  omega
theorem Inv.list_inj (I:Inv X pins σ H s) (h:SqL X.K H a xs) (h':SqL X.K H a ys):xs=ys:=by
 obtain ⟨its,r,⟨o,n,e,_,_,d⟩,_⟩:=I.list h
 obtain ⟨its',r',⟨o',n',e',_,_,d'⟩,_⟩:=I.list h'
 rw [e] at e';cases e'
 rw [d] at d'
 injection d' with d1 _
 have:its=its':=by simpa using congrArg Array.toList d1
 subst this
 exact r.inj r'
theorem Inv.tuple_inj (I:Inv X pins σ H s) (h:SqT X.K H a xs) (h':SqT X.K H a ys):xs=ys:=by
 obtain ⟨its,r,⟨o,e,_,n,d⟩,_⟩:=I.tuple h
 obtain ⟨its',r',⟨o',e',_,n',d'⟩,_⟩:=I.tuple h'
 rw [e] at e';cases e'
 rw [d] at d'
 injection d' with d1 _
 have:its=its':=by simpa using congrArg Array.toList d1
 subst this
 exact r.inj r'
end
noncomputable abbrev Cx.wish (X:Cx) (E:Value→Shared→Prop):Cx:={ X with xe:=E }
noncomputable abbrev Cx.nox (X:Cx):Cx:=X.wish fun _ _=>False
theorem Cx.Ok.wish {X:Cx} (ok:X.Ok) (E:Value→Shared→Prop):(X.wish E).Ok:=
 ⟨ok.mod,ok.kind,ok.glob,ok.blt,ok.above,ok.inj,ok.has,ok.cab,ok.hd,ok.frames,ok.stk,ok.exf,ok.bs,ok.bsz,ok.noex,ok.exfs,ok.funs,ok.frf⟩
theorem Cx.Ok.unwish {X:Cx}{E:Value→Shared→Prop} (ok:(X.wish E).Ok):X.Ok:=
 ⟨ok.mod,ok.kind,ok.glob,ok.blt,ok.above,ok.inj,ok.has,ok.cab,ok.hd,ok.frames,ok.stk,ok.exf,ok.bs,ok.bsz,ok.noex,ok.exfs,ok.funs,ok.frf⟩
section
variable {X:Cx}{pins:List (Addr × Obj)}{σ:St}{H:Hp}{s:Shared}{E:Value→Shared→Prop}
theorem Inv.wish (I:Inv X pins σ H s) (E:Value→Shared→Prop):Inv (X.wish E) pins σ H s:=⟨I.ok.wish E,I.os,I.bare,I.base,I.loc,I.cell,I.free,I.freeC,I.pin,I.hok,I.len⟩
theorem Inv.unwish (I:Inv (X.wish E) pins σ H s):Inv X pins σ H s:=⟨I.ok.unwish,I.os,I.bare,I.base,I.loc,I.cell,I.free,I.freeC,I.pin,I.hok,I.len⟩
theorem SP.unwish {D:Ends}{f:Flow}{s':Shared} (h:SP (X.wish E) pins D f s'):SP X pins D f s':=by
 cases f with
 | next=>obtain ⟨σ',H',I,q⟩:=h;exact ⟨σ',H',I.unwish,q⟩
 | brk=>obtain ⟨σ',H',I,q⟩:=h;exact ⟨σ',H',I.unwish,q⟩
 | cont=>obtain ⟨σ',H',I,q⟩:=h;exact ⟨σ',H',I.unwish,q⟩
 | ret u=>obtain ⟨v,σ',H',I,r,q⟩:=h;exact ⟨v,σ',H',I.unwish,r,q⟩
theorem PSs.nox {st:List Stmt}{t:TS} (h:PSs X.nox st t):PSs X st t:=fun pins s σ H D I hw=>
 wpAny_mono (h pins s σ H D (I.wish _) hw) (fun _ _ q=>q.unwish) fun _ _ z=>False.elim z
end
section
variable {X:Cx}{st:Stmt}{rest:List Stmt}{t u:TS}{e:Expr}{te:TE}{pos:Pos}
noncomputable def tNext:TS:=fun D σ H=>D.nx σ H
noncomputable def tSeq (t u:TS):TS:=fun D σ H=>t { D with nx:=u D } σ H
theorem pss_nil:PSs X [] tNext:=fun _ _ σ H _ I h=>wpAny_execs_nil ⟨σ,H,I,h⟩
theorem pss_cons (h1:PS X st t) (h2:PSs X rest u):PSs X (st::rest) (tSeq t u):=by
 intro pins s σ H D I h
 refine wpAny_execs_cons (thn (h1 pins s σ H { D with nx:=u D } I h) fun f s1 q=>?_)
 cases f with
 | next=>
  obtain ⟨σ',H',I',q⟩:=q
  exact h2 pins s1 σ' H' D I' q
 | ret v=>exact q
 | brk=>exact q
 | cont=>exact q
theorem Inv.quiet {pins:List (Addr × Obj)}{σ:St}{H:Hp}{s:Shared} (I:Inv X pins σ H s):interactive X.env=false:=by simp [interactive,I.ok.kind]
noncomputable def tDrop (te:TE):TS:=fun D σ H=>te σ H fun _ H1=>D.nx σ H1
theorem ps_expr (he:PE X e te) (hs:autoParam (swapsWith e none pos.line X.env=pure false) au3._auto_1):PS X (.Expr e pos) (tDrop te):=by
 intro pins s σ H D I h
 exact wpAny_Expr_any (thn (he pins s σ H _ I h) fun v s1 ⟨x,H1,I1,r1,q1⟩=>⟨σ,H1,I1,q1⟩) I.quiet hs
noncomputable def tRet (te:TE):TS:=fun D σ H=>te σ H D.rt
theorem ps_ret (he:PE X e te):PS X (.Return (some e) pos) (tRet te):=by
 intro pins s σ H D I h
 exact wpAny_Return_some (thn (he pins s σ H _ I h) fun v s1 ⟨x,H1,I1,r1,q1⟩=>⟨x,σ,H1,I1,r1,q1⟩)
noncomputable def tIfS (c:TT) (t u:TS):TS:=fun D σ H=>c σ H fun b H1=>if b=true then t D σ H1 else u D σ H1
theorem ps_if {c:Expr}{a b:List Stmt}{tc:TT} (hc:PT X c tc) (ha:PSs X a t) (hb:PSs X b u):PS X (.If c a b pos) (tIfS tc t u):=by
 intro pins s σ H D I h
 refine wpAny_If (thn (hc pins s σ H _ I h) fun d s1 ⟨H1,I1,q1⟩=>?_)
 cases d with
 | true=>exact ha pins s1 σ H1 D I1 q1
 | false=>exact hb pins s1 σ H1 D I1 q1
end
noncomputable abbrev TG:=V→St→Hp→(St→Hp→Prop)→Prop
noncomputable abbrev TGs:=List V→St→Hp→(St→Hp→Prop)→Prop
noncomputable def PG (X:Cx) (target:Expr) (t:TG):Prop:=
 ∀ (pins:List (Addr × Obj)) (s:Shared) (σ:St) (H:Hp) (v:V) (u:Value) (Q:St→Hp→Prop),Inv X pins σ H s→RelV v u→t v σ H Q →
  wpAny (model X.prog X.w) X.A (assign target X.env u) (fun _ s'=>∃ σ' H',Inv X pins σ' H' s'∧Q σ' H') X.xe s
noncomputable def PGs (X:Cx) (ts:List Expr) (t:TGs):Prop:=
 ∀ (pins:List (Addr × Obj)) (s:Shared) (σ:St) (H:Hp) (vs:List V) (us:List Value) (Q:St→Hp→Prop),Inv X pins σ H s→Vals vs us→t vs σ H Q →
  wpAny (model X.prog X.w) X.A (assignInOrder ((assignEach ts X.env).map (·.2)) us) (fun _ s'=>∃ σ' H',Inv X pins σ' H' s'∧Q σ' H') X.xe s
noncomputable abbrev TSet:=V→V→V→Hp→(Hp→Prop)→Prop
noncomputable def PSet (X:Cx) (t:TSet):Prop:=
 ∀ (pins:List (Addr × Obj)) (s:Shared) (σ:St) (H:Hp) (o i v:V) (ov iv u:Value) (Q:Hp→Prop),Inv X pins σ H s→RelV o ov→RelV i iv→RelV v u→t o i v H Q →
  wpAny (model X.prog X.w) X.A (setItem ov iv u) (fun _ s'=>∃ H',Inv X pins σ H' s'∧Q H') X.xe s
section
variable {X:Cx}{pos:Pos}
noncomputable def gName (i:Nat):TG:=fun v σ H Q=>Q (σ.set i (some v)) H
theorem pg_name {i:Nat}{x:Str} (hN:X.N.Nodup) (hi:X.N[i]? = some x) (hx:Loc X.env.scope x) (hf:autoParam (X.fn x=true∨X.env.scope.names.lookup x=some .local) au0._auto_1):PG X (.Name x pos) (gName i):=by
 intro pins s σ H v u Q I r h
 exact wpAny_assign_Name (store_ok I hN hi hx r (fun s' I'=>⟨_,H,I',h⟩) hf)
noncomputable def gNil:TGs:=fun vs σ H Q=>vs=[]∧Q σ H
noncomputable def gCons (t:TG) (u:TGs):TGs:=fun vs σ H Q=>∃ v r,vs=v::r∧t v σ H fun σ' H'=>u r σ' H' Q
theorem pgs_nil:PGs X [] gNil:=by
 intro pins s σ H vs us Q I r h
 obtain ⟨e,h⟩:=h
 subst e
 cases r
 exact assignInOrder_nil ⟨σ,H,I,h⟩
theorem pgs_cons {e:Expr}{es:List Expr}{t:TG}{u:TGs} (h1:PG X e t) (h2:PGs X es u)
  (hs:autoParam ((assignEach (e::es) X.env).map (·.2)=assign e X.env::(assignEach es X.env).map (·.2)) au3._auto_1):PGs X (e::es) (gCons t u):=by
 intro pins s σ H vs us Q I r h
 obtain ⟨v,vr,e1,h⟩:=h
 subst e1
 cases r with
 | cons r rr=>
  rw [hs]
  refine assignInOrder_cons (thn (h1 pins s σ H _ _ _ I r h) fun _ s1 ⟨σ1,H1,I1,q1⟩=>?_)
  exact h2 pins s1 σ1 H1 _ _ Q I1 rr q1
noncomputable def gTup (K:PySem.W.Frag) (n:Nat) (t:TGs):TG:=fun v σ H Q=>∃ a xs,v = .ref a∧SqT K H a xs∧xs.length=n∧t xs σ H Q
theorem pg_tup {es:List Expr}{k:Nat}{t:TGs}{n:Nat} (hc:X.calm=true) (h:PGs X es t)
  (hn:autoParam ((assignEach es X.env).length=n) au3._auto_1) (hst:autoParam ((assignEach es X.env).findIdx? (·.1)=none) au3._auto_1):PG X (.Tuple es k pos) (gTup X.K n t):=by
 intro pins s σ H v u Q I r hw
 obtain ⟨a,xs,e1,hq,hl,hw⟩:=hw
 subst e1
 cases r
 obtain ⟨its,rv,ht,hz⟩:=I.tuple hq
 refine assign_Tuple_tuple (I.ok.hd hc) ht (by simp [hn,← hl,rv.length]) hst fun h' hx=>?_
 have I1:Inv X pins σ H { s with heap:=h' }:=I.kept (t':=s.toks) fun b o e=>hx b o (Nat.ne_of_lt (Heap.lt_size e)) e
 exact h pins _ σ H xs _ Q I1 (by simpa using rv) hw
noncomputable def gSub (to ti:TE) (t:TSet):TG:=fun v σ H Q=>to σ H fun o H1=>ti σ H1 fun i H2=>t o i v H2 fun H3=>Q σ H3
theorem pg_sub {o i:Expr}{to ti:TE}{t:TSet} (ho:PE X o to) (hi:PE X i ti) (hs:PSet X t)
  (ha:autoParam (∀ v,assign (.Subscript o i pos) X.env v=(do
   let ov ← holding [v] (eval o X.env)
   let iv ← holding [v,ov] (eval i X.env)
   standAt pos
   holding [v,ov,iv] (setItem ov iv v)
   release [v,ov,iv] [])) au2._auto_1):PG X (.Subscript o i pos) (gSub to ti t):=by
 intro pins s σ H v u Q I r h
 rw [ha]
 refine wpAny_bind (wpAny_holding (thn (ho pins s σ H _ I h) fun ov s1 ⟨x,H1,I1,r1,q1⟩=>?_))
 refine wpAny_bind (wpAny_holding (thn (hi pins s1 σ H1 _ I1 q1) fun iv s2 ⟨y,H2,I2,r2,q2⟩=>?_))
 refine wpAny_bind (wpAny_standAt (wpAny_bind (wpAny_holding (thn (hs pins s2 σ H2 x y v ov iv u _ I2 r1 r2 r q2) fun _ s3 ⟨H3,I3,q3⟩=>?_))))
 exact wpAny_release ⟨σ,H3,I3,q3⟩
noncomputable def tAsg (te:TE) (g:TG):TS:=fun D σ H=>te σ H fun x H1=>g x σ H1 D.nx
theorem ps_asg {tg e:Expr}{te:TE}{g:TG} (he:PE X e te) (hg:PG X tg g) (hs:autoParam (swapsWithSole [tg] e pos.line X.env=pure false) au3._auto_1) (hw:autoParam (swappedStores [tg] e X.env=pure none) au3._auto_1)
  (h1:autoParam ((assignEach [tg] X.env).map (·.2)=[assign tg X.env]) au3._auto_1):PS X (.Assign [tg] e pos) (tAsg te g):=by
 intro pins s σ H D I h
 refine wpAny_Assign_stores (thn (he pins s σ H _ I h) fun v s1 ⟨x,H1,I1,r1,q1⟩=>?_) hs hw
 rw [h1]
 exact thn (hg pins s1 σ H1 x v _ I1 r1 q1) fun _ s2 q=>q
theorem ps_set {i:Nat}{x:Str}{e:Expr}{te:TE}{pos':Pos} (hN:X.N.Nodup) (hi:X.N[i]? = some x) (hx:Loc X.env.scope x) (he:PE X e te) (hs:autoParam (swapsWith e (some (.Name x pos')) pos.line X.env=pure false) au3._auto_1) (hf:autoParam (X.fn x=true∨X.env.scope.names.lookup x=some .local) au0._auto_1) :
  PS X (.Assign [.Name x pos'] e pos) (tAsg te (gName i)):=by
 intro pins s σ H D I h
 refine wpAny_Assign_Name (thn (he pins s σ H _ I h) fun v s1 ⟨y,H1,I1,r1,q1⟩=>?_) hs
 exact store_ok I1 hN hi hx r1 (fun s2 I2=>⟨_,H1,I2,q1⟩) hf
end
section
variable {X:Cx}{pos:Pos}
end
structure It where
 go:Nat→Hp→Prop
 yld:Nat→Hp→V→Hp→Prop
 stop:Nat→Hp→Prop
noncomputable def FpOk (X:Cx) (pins:List (Addr × Obj)) (H:Hp) (b:Addr):Prop:=
 H b=none∧b≠X.env.locals∧b ∉ X.fs∧(b∈X.ex∨X.s₀.heap.objs.size≤b)∧(∀ x c,X.env.cells.lookup x=some c→c≠b)∧∀ p∈X.pn++pins,p.1≠b
theorem Inv.fpOk {X:Cx}{pins:List (Addr × Obj)}{σ:St}{H H':Hp}{s:Shared}{b:Addr} (I:Inv X pins σ H s) (hb:s.heap.objs.size≤b) (hn:H' b=none):FpOk X pins H' b:=by
 refine ⟨hn,Nat.ne_of_gt (Nat.lt_of_lt_of_le I.lt hb),I.nofs hb,.inr (Nat.le_trans I.sz hb),fun x c e z=>?_,fun p hp z=>?_⟩
 ·obtain ⟨v,q⟩:=I.cell x c e
  exact absurd (Nat.lt_of_lt_of_le q.lt (by rw [z];exact hb)) (Nat.lt_irrefl _)
 ·exact absurd (Nat.lt_of_lt_of_le (Heap.lt_size (I.pin p hp).1) (by rw [z];exact hb)) (Nat.lt_irrefl _)
structure Turn (P:Program) (w:World) (K:PySem.W.Frag) (tg:Expr) (J:It) (fp:List Addr) (it:Addr) (tn:Nat→Heap→Prop):Prop where
 mem:it∈fp
 obj:∀ i h,tn i h→∀ b∈fp,∃ o,h.get? b=some o∧∀ v,o.data≠.cell v
 keep:∀ i h h',tn i h→(∀ b∈fp,∀ o,h.get? b=some o→h'.get? b=some o)→tn i h'
 item:∀ (X:Cx),X.prog=P→X.w=w→X.K=K→X.calm=true→∀ (i:Nat) (pins:List (Addr × Obj)) (s:Shared) (σ:St) (H:Hp) (E:Value→Shared→Prop),Inv X pins σ H s→(∀ b∈fp,FpOk X pins H b)→tn i s.heap→J.go i H →
  wpAny (model P w) X.A (pyNext (.ref it)) (fun r s1=>∃ u,r=some u ∧
   wpAny (model P w) X.A (letOwnedTupleGo tg (.ref it) u) (fun _ s2=>∃ x H',Inv X pins σ H' s2∧RelV x u∧J.yld i H x H'∧tn (i + 1) s2.heap∧∀ b∈fp,H' b=none) E s1) E s
 done:∀ (X:Cx),X.prog=P→X.w=w→X.K=K→X.calm=true→∀ (i:Nat) (pins:List (Addr × Obj)) (s:Shared) (σ:St) (H:Hp) (E:Value→Shared→Prop),Inv X pins σ H s→(∀ b∈fp,FpOk X pins H b)→tn i s.heap→J.stop i H →
  wpAny (model P w) X.A (pyNext (.ref it)) (fun r s1=>r=none∧Inv X pins σ H s1) E s
 self:∀ (A:Around) (i:Nat) (s:Shared) (Q:Value→Shared→Prop) (E:Value→Shared→Prop),tn i s.heap→Q (.ref it) s→wpAny (model P w) A (pyIter (.ref it)) Q E s
noncomputable abbrev TI:=St→Hp→(It→Hp→Prop)→Prop
noncomputable def PIE (X:Cx) (pins:List (Addr × Obj)) (σ:St) (tg:Expr) (R:It→Hp→Prop) (itv:Value) (s2:Shared):Prop:=
 ∃ (it:Addr) (fp:List Addr) (tn:Nat→Heap→Prop) (J:It) (H':Hp),itv = .ref it∧Inv X pins σ H' s2∧Turn X.prog X.w X.K tg J fp it tn∧tn 0 s2.heap∧(∀ b∈fp,FpOk X pins H' b)∧R J H'
noncomputable def PI (X:Cx) (tg iter:Expr) (wi:TI):Prop:=
 ∀ (pins:List (Addr × Obj)) (s:Shared) (σ:St) (H:Hp) (R:It→Hp→Prop),Inv X pins σ H s→wi σ H R →
  wpAny (model X.prog X.w) X.A (eval iter X.env) (fun v s1=>wpAny (model X.prog X.w) X.A (pyIter v) (PIE X pins σ tg R) X.xe s1) X.xe s
theorem go_of {M:Model}{A:Around}{E:Value→Shared→Prop}{s:Shared}{tg:Expr}{it:Addr}{u:Value}{o:Obj}{n:String}{vs:Array Value}{Q:Unit→Shared→Prop} (ho:s.heap.get? it=some o) (hc:o.cls = .type n) (hd:o.data = .fields vs)
  (hn:["enumerate","zip","dict_itemiterator","dict_reverseitemiterator","odict_iterator","itertools.zip_longest","itertools.pairwise"].contains n=false) (hQ:Q () s):wpAny M A (letOwnedTupleGo tg (.ref it) u) Q E s:=by
 unfold letOwnedTupleGo
 cases tg <;> first
  | exact wpAny_pure hQ
  | (cases u <;> first
    | exact wpAny_pure hQ
    | (refine wpAny_bind (wpAny_load ho ?_)
       rw [hc,hd]
       show wpAny M A (if (["enumerate","zip","dict_itemiterator","dict_reverseitemiterator","odict_iterator","itertools.zip_longest","itertools.pairwise"].contains n && vs[0]? == some (rawInt _))=true then _ else _) Q E s
       rw [if_neg (by intro h;rw [hn,Bool.false_and] at h;cases h)]
       exact wpAny_pure hQ))
noncomputable def Itl (K:PySem.W.Frag) (a:Addr):It:=
 ⟨fun i H=>∃ xs x,SqL K H a xs∧xs[i]? = some x,fun i H x H'=>H'=H∧∀ xs,SqL K H a xs→xs[i]? = some x,fun i H=>∃ xs,SqL K H a xs∧xs.length≤i⟩
noncomputable def Itr (lo:Int) (n:Nat):It:=⟨fun i _=>i < n,fun i H x H'=>H'=H∧x = .int (lo + i),fun i _=>n≤i⟩
theorem turn_list {P:Program}{w:World}{K:PySem.W.Frag}{tg:Expr} (a it:Addr):Turn P w K tg (Itl K a) [it] it (fun i h=>h.IsListIter it a i) where
 mem:=by simp
 obj:=fun i h st b hb=>by
  have e:b=it:=by simpa using hb
  subst e
  obtain ⟨o,e,c,d⟩:=st
  exact ⟨o,e,fun v z=>by rw [d] at z;cases z⟩
 keep:=fun i h h' st k=>st.at fun o e=>k it (by simp) o e
 item:=by
  intro X hP hw hK hc i pins s σ H E I hf st hg
  subst hP hw hK
  obtain ⟨xs,x,hq,hx⟩:=hg
  obtain ⟨its,rv,p,hz⟩:=I.list hq
  obtain ⟨u,hu,ru⟩:=rv.get hx
  obtain ⟨f0,f1,f2,f3,f4,f5⟩:=hf it (by simp)
  refine wpAny_pyNext_list_item st p.isList (x:=u) (by simpa using hu) fun h' st' sb=>?_
  have I1:Inv X pins σ H { s with heap:=h' }:=I.turned (t':=s.toks) (fun b o hb e=>(sb.2 b hb).trans e) f0 f1 f3 f4 f5
  obtain ⟨o,e,c,d⟩:=id st'
  exact ⟨u,rfl,go_of (s:={ s with heap:=h' }) e c d (by decide) ⟨x,H,I1,ru,⟨rfl,fun ys hy=>by rw [I.list_inj hy hq];exact hx⟩,st',fun b hb=>(hf b hb).1⟩⟩
 done:=by
  intro X hP hw hK hc i pins s σ H E I hf st hg
  subst hP hw hK
  obtain ⟨xs,hq,hx⟩:=hg
  obtain ⟨its,rv,p,hz⟩:=I.list hq
  obtain ⟨f0,f1,f2,f3,f4,f5⟩:=hf it (by simp)
  have hl:=rv.length
  exact wpAny_pyNext_list_end (I.ok.hd hc) st p.isList (by simp;omega) fun h' eb=>⟨rfl,I.turned (t':=s.toks) (fun b o hb e=>eb b o hb e) f0 f1 f3 f4 f5⟩
 self:=fun _ _ _ _ _ st h=>wpAny_pyIter_listiter st h
theorem turn_range {P:Program}{w:World}{K:PySem.W.Frag}{tg:Expr} (it:Addr) (lo:Int) (n:Nat):Turn P w K tg (Itr lo n) [it] it (fun i h=>IsRangeIter h it (lo + (i:Nat) * 1) ((n:Int) - (i:Nat)) 1) where
 mem:=by simp
 obj:=fun i h st b hb=>by
  have e:b=it:=by simpa using hb
  subst e
  exact ⟨_,st,fun v z=>by
   have z':Data.fields _=Data.cell v:=z
   cases z'⟩
 keep:=fun i h h' st k=>k it (by simp) _ st
 item:=by
  intro X hP hw hK hc i pins s σ H E I hf st hg
  subst hP hw hK
  obtain ⟨f0,f1,f2,f3,f4,f5⟩:=hf it (by simp)
  have W:=Walks.range (prog:=X.prog) (w:=X.w) (I.ok.hd hc) it lo 1 n
  refine W.item i s _ _ hg st fun v h' tk hv st' kk=>?_
  obtain ⟨t,rfl⟩:=hv
  have I1:Inv X pins σ H { s with heap:=h',toks:=tk }:=I.turned (fun b o hb e=>kk b o (by simpa using hb) e) f0 f1 f3 f4 f5
  refine ⟨_,rfl,go_of (s:={ s with heap:=h',toks:=tk }) (n:="range_iterator") st' rfl rfl (by decide) ⟨.int (lo + i),H,I1,⟨t,?_⟩,⟨rfl,rfl⟩,st',fun b hb=>(hf b hb).1⟩⟩
  rw [Int.mul_one]
 done:=by
  intro X hP hw hK hc i pins s σ H E I hf st hg
  subst hP hw hK
  obtain ⟨f0,f1,f2,f3,f4,f5⟩:=hf it (by simp)
  exact wpAny_pyNext_range_end (I.ok.hd hc) st (by have:n≤i:=hg;omega) fun h' eb=>⟨rfl,I.turned (t':=s.toks) (fun b o hb e=>eb b o hb e) f0 f1 f3 f4 f5⟩
 self:=fun _ _ _ _ _ st h=>wpAny_pyIter_rangeiter st h
end L2
namespace L2
open PySem PySem.Spec PyProof.Rows
section
variable {X:Cx}{tg:Expr}
noncomputable def iList (K:PySem.W.Frag) (tl:TE):TI:=fun σ H R=>tl σ H fun x H1=>∃ a,x = .ref a∧(∃ xs,SqL K H1 a xs)∧R (Itl K a) H1
theorem pi_list {l:Expr}{tl:TE} (hl:PE X l tl):PI X tg l (iList X.K tl):=by
 intro pins s σ H R I h
 refine thn (hl pins s σ H _ I h) fun v s1 ⟨x,H1,I1,r1,q1⟩=>?_
 obtain ⟨a,e,⟨xs,hq⟩,q⟩:=q1
 subst e
 cases r1
 obtain ⟨its,rv,p,hz⟩:=I1.list hq
 refine wpAny_pyIter_list p.isList ?_
 refine ⟨s1.heap.objs.size,[s1.heap.objs.size],_,_,H1,rfl,I1.kept (t':=s1.toks) fun b o e=>Heap.get?_push_of_some _ e,turn_list a _,⟨_,Heap.get?_push_size _ rfl,rfl,rfl⟩,fun b hb=>?_,q⟩
 have e:b=s1.heap.objs.size:=by simpa using hb
 subst e
 exact I1.fpOk (Nat.le_refl _) (I1.hok.fresh (Nat.le_refl _))
theorem range_it {pins:List (Addr × Obj)}{σ:St}{H:Hp}{s:Shared}{R:It→Hp→Prop}{E:Value→Shared→Prop}{lo hi:Int}{t u v:Tok}{tk:Nat} (I:Inv X pins σ H s) (h1:-(2 ^ 62)≤lo) (h2:lo < 2 ^ 62) (h3:-(2 ^ 62)≤hi) (h4:hi < 2 ^ 62)
  (q:R (Itr lo (hi - lo).toNat) H):wpAny (model X.prog X.w) X.A (pyIter (.ref s.heap.objs.size)) (PIE X pins σ tg R) E { s with heap:=s.heap.push { cls:=.type "range",data:=.fields #[.int lo t,.int hi u,.int 1 v] },toks:=tk }:=by
 refine wpAny_pyIter_range (IsRange.new ..) (small_one h1 h2 h3 h4) ?_
 have I1:Inv X pins σ H { s with heap:=s.heap.push { cls:=.type "range",data:=.fields #[.int lo t,.int hi u,.int 1 v] },toks:=tk }:=I.kept fun b o e=>Heap.get?_push_of_some _ e
 refine ⟨(s.heap.push { cls:=.type "range",data:=.fields #[.int lo t,.int hi u,.int 1 v] }).objs.size,[(s.heap.push { cls:=.type "range",data:=.fields #[.int lo t,.int hi u,.int 1 v] }).objs.size],_,_,H,rfl,
  I1.kept (t':=tk) fun b o e=>Heap.get?_push_of_some _ e,turn_range _ lo (hi - lo).toNat,?_,fun b hb=>?_,q⟩
 ·have e1:lo + ((0:Nat):Int) * 1=lo:=by simp
  have e2:(((hi - lo).toNat:Nat):Int) - ((0:Nat):Int)=Builtin.Range.rangeSize lo hi 1:=by rw [rangeSize_one];split <;> omega
  show IsRangeIter _ _ (lo + ((0:Nat):Int) * 1) ((((hi - lo).toNat:Nat):Int) - ((0:Nat):Int)) 1
  rw [e1,e2]
  exact Heap.get?_push_size _ rfl
 ·have e:b=(s.heap.push { cls:=.type "range",data:=.fields #[.int lo t,.int hi u,.int 1 v] }).objs.size:=by simpa using hb
  subst e
  exact I1.fpOk (Nat.le_refl _) (I1.hok.fresh (Nat.le_refl _))
noncomputable def iRng1 (ta:TA):TI:=fun σ H R=>ta σ H fun vs H1=>∃ j:Int,vs=[.int j]∧-(2 ^ 62)≤j∧j < 2 ^ 62∧R (Itr 0 j.toNat) H1
noncomputable def iRng2 (ta:TA):TI:=fun σ H R=>ta σ H fun vs H1=>∃ i j:Int,vs=[.int i,.int j]∧(-(2 ^ 62)≤i∧i < 2 ^ 62∧-(2 ^ 62)≤j∧j < 2 ^ 62)∧R (Itr i (j - i).toNat) H1
theorem pi_range1 {a:Expr}{ta:TA}{p pos:Pos} (hg:Gl X "range") (hm:X.mg "range" = none) (ha:PA X [a] ta) (hs:autoParam (starEach [a] X.env=[(false,eval a X.env)]) au3._auto_1):PI X tg (.Call (.Name "range" p) [a] [] pos) (iRng1 ta):=by
 intro pins s σ H R I h
 refine Call_ (ld_blt I hg hm boot_range (PyProof.Rows.callWith_type1 (thn (ha pos pins s σ H _ I h) fun us s1 ⟨vs,H1,I1,r1,q1⟩=>?_) hs rfl))
 obtain ⟨j,e,q1,q2,q⟩:=q1
 subst e
 cases r1 with
 | cons r rr=>
  cases rr
  obtain ⟨t,rfl⟩:=r
  exact call_range_1 (range_it I1 (by omega) (by omega) q1 q2 (by simpa using q))
theorem pi_range2 {a b:Expr}{ta:TA}{p pos:Pos} (hg:Gl X "range") (hm:X.mg "range" = none) (ha:PA X [a,b] ta) (hs:autoParam (starEach [a,b] X.env=[(false,eval a X.env),(false,eval b X.env)]) au3._auto_1) (hs2:autoParam (starEach [b] X.env=[(false,eval b X.env)]) au3._auto_1) :
  PI X tg (.Call (.Name "range" p) [a,b] [] pos) (iRng2 ta):=by
 intro pins s σ H R I h
 refine Call_ (ld_blt I hg hm boot_range (PyProof.Rows.callWith_type1 (thn (ha pos pins s σ H _ I h) fun us s1 ⟨vs,H1,I1,r1,q1⟩=>?_) (by rw [hs,hs2]) (by rw [hs2];rfl)))
 obtain ⟨i,j,e,⟨q1,q2,q3,q4⟩,q⟩:=q1
 subst e
 cases r1 with
 | cons r rr=>
  cases rr with
  | cons r' rr=>
   cases rr
   obtain ⟨t,rfl⟩:=r
   obtain ⟨t',rfl⟩:=r'
   exact call_range_2 (range_it I1 q1 q2 q3 q4 q)
noncomputable def tFor (wi:TI) (g:TG) (tb:TS):TS:=fun D σ H=>wi σ H fun J H1=>∃ W:Nat→Nat→St→Hp→Prop,(∃ m,W 0 m σ H1)∧∀ i m σ H,W i m σ H →
 (J.stop i H∧D.nx σ H)∨(J.go i H∧∃ N:St→Hp→Prop,(∀ σ' H',N σ' H'→∃ m',m' < m∧W (i + 1) m' σ' H')∧∀ x H',J.yld i H x H'→g x σ H' fun σ2 H2=>tb { D with nx:=N,ct:=N,bk:=D.nx } σ2 H2)
noncomputable def pinsAt (fp:List Addr) (h:Heap):List (Addr × Obj):=fp.filterMap fun b=>(h.get? b).map fun o=>(b,o)
theorem mem_pinsAt {fp:List Addr}{h:Heap}{b:Addr}{o:Obj} (hb:b∈fp) (e:h.get? b=some o):(b,o)∈pinsAt fp h:=List.mem_filterMap.mpr ⟨b,hb,by rw [e];rfl⟩
theorem of_pinsAt {fp:List Addr}{h:Heap}{p:Addr × Obj} (hp:p∈pinsAt fp h):p.1∈fp∧h.get? p.1=some p.2:=by
 obtain ⟨b,hb,e⟩:=List.mem_filterMap.mp hp
 cases q:h.get? b with
 | none=>rw [q] at e;cases e
 | some o=>
  rw [q] at e
  have e':(b,o)=p:=Option.some.inj e
  subst e'
  exact ⟨hb,q⟩
theorem Inv.pinned {pins:List (Addr × Obj)}{σ:St}{H:Hp}{s:Shared}{fp:List Addr} (I:Inv X pins σ H s) (hf:∀ b∈fp,FpOk X pins H b) (ho:∀ b∈fp,∃ o,s.heap.get? b=some o∧∀ v,o.data≠.cell v):Inv X (pins++pinsAt fp s.heap) σ H s:=
 I.pins_of fun p hp=>(List.mem_append.mp hp).elim (fun z=>I.pin p (List.mem_append_right _ z)) fun z=>by
  obtain ⟨hb,e⟩:=of_pinsAt z
  obtain ⟨f0,f1,f2,_⟩:=hf p.1 hb
  obtain ⟨o,e',d⟩:=ho p.1 hb
  rw [e] at e';cases e'
  exact ⟨e,f0,f1,f2,d⟩
theorem Inv.unpinned {pins pl:List (Addr × Obj)}{σ:St}{H:Hp}{s:Shared} (I:Inv X (pins++pl) σ H s):Inv X pins σ H s:=I.pins_of fun p hp=>I.pin p (List.mem_append_right _ (List.mem_append_left _ hp))
theorem ps_for {iter:Expr}{body:List Stmt}{wi:TI}{g:TG}{tb:TS}{pos:Pos} (hp:PassesOwn (model X.prog X.w) X.A X.env X.xe) (hc:X.calm=true) (hi:PI X tg iter wi) (hg:PG X tg g) (hb:PSs X body tb)
  (hs:autoParam (∀ x,foldedSetIterable iter X.env x=pure x) au2._auto_1):PS X (.For tg iter body [] pos) (tFor wi g tb):=by
 intro pins s σ H D I h
 refine wpAny_For (thn (hi pins s σ H _ I h) fun v s1 h1=>thn h1 fun itv s2 h2=>?_) hs
 obtain ⟨it,fp,tn,J,H2,e,I2,T,st2,f2,W,⟨m0,w0⟩,turn⟩:=h2
 subst e
 have stat:∀ {H':Hp},(∀ b∈fp,H' b=none)→∀ b∈fp,FpOk X pins H' b:=fun hn b hb=>⟨hn b hb,(f2 b hb).2⟩
 refine codeAny_forLoop_any (fun n s'=>∃ i σ' H',Inv X pins σ' H' s'∧tn i s'.heap∧(∀ b∈fp,H' b=none)∧W i n σ' H') ?_ m0 ⟨0,σ,H2,I2,st2,fun b hb=>(f2 b hb).1,w0⟩
 rintro n s3 ⟨i,σ3,H3,I3,st3,fr3,w3⟩
 rcases turn i n σ3 H3 w3 with ⟨stop,qn⟩ | ⟨go,N,hN,step⟩
 ·refine wpAny_passesOwn hp (thn (T.done X rfl rfl rfl hc i pins s3 σ3 H3 X.xe I3 (stat fr3) st3 stop) fun r s4 ⟨hr,I4⟩=>?_)
  subst hr
  exact wpAny_execs_nil ⟨σ3,H3,I4,qn⟩
 ·refine wpAny_passesOwn hp (thn (T.item X rfl rfl rfl hc i pins s3 σ3 H3 X.xe I3 (stat fr3) st3 go) fun r s4 ⟨u,hr,h4⟩=>?_)
  subst hr
  refine wpAny_passesOwn hp (thn h4 fun _ s5 ⟨x,H5,I5,r5,y5,st5,fr5⟩=>?_)
  have I5':=I5.pinned (stat fr5) (T.obj _ _ st5)
  refine wpAny_passesOwn hp (thn (hg _ s5 σ3 H5 x u _ I5' r5 (step x H5 y5)) fun _ s6 ⟨σ6,H6,I6,q6⟩=>?_)
  refine wpAny_passesOwn hp (thn (hb _ s6 σ6 H6 _ I6 q6) fun f s7 q7=>?_)
  have again:∀ {σ7:St}{H7:Hp},Inv X (pins++pinsAt fp s5.heap) σ7 H7 s7→N σ7 H7→∃ m,m < n∧∃ i σ' H',Inv X pins σ' H' s7∧tn i s7.heap∧(∀ b∈fp,H' b=none)∧W i m σ' H':=fun {σ7 H7} I7 n7=>by
   obtain ⟨m',hm,w7⟩:=hN σ7 H7 n7
   refine ⟨m',hm,i + 1,σ7,H7,I7.unpinned,T.keep _ _ _ st5 fun b hb o e=>(I7.pin (b,o) (List.mem_append_right _ (List.mem_append_right _ (mem_pinsAt hb e)))).1,fun b hb=>?_,w7⟩
   obtain ⟨o,e,d⟩:=T.obj _ _ st5 b hb
   exact (I7.pin (b,o) (List.mem_append_right _ (List.mem_append_right _ (mem_pinsAt hb e)))).2.1
  cases f with
  | next=>obtain ⟨σ7,H7,I7,n7⟩:=q7;exact again I7 n7
  | cont=>obtain ⟨σ7,H7,I7,n7⟩:=q7;exact again I7 n7
  | brk=>obtain ⟨σ7,H7,I7,q7⟩:=q7;exact ⟨σ7,H7,I7.unpinned,q7⟩
  | ret v=>obtain ⟨x7,σ7,H7,I7,r7,q7⟩:=q7;exact ⟨x7,σ7,H7,I7.unpinned,r7,q7⟩
end
end L2
namespace L2
open PySem PySem.Spec PyProof.Rows
noncomputable abbrev R2:=V→V→Hp→VK→Prop
noncomputable def OpR (X:Cx) (f:Value→Value→Sem Value) (r:R2):Prop:=
 ∀ (pins:List (Addr × Obj)) (s:Shared) (σ:St) (H:Hp) (x y:V) (v u:Value) (Q:VK),Inv X pins σ H s→RelV x v→RelV y u→r x y H Q →
  wpAny (model X.prog X.w) X.A (f v u) (EP X pins σ Q) X.xe s
noncomputable def UnR (X:Cx) (f:Value→Sem Value) (r:V→Hp→VK→Prop):Prop:=
 ∀ (pins:List (Addr × Obj)) (s:Shared) (σ:St) (H:Hp) (x:V) (v:Value) (Q:VK),Inv X pins σ H s→RelV x v→r x H Q →
  wpAny (model X.prog X.w) X.A (f v) (EP X pins σ Q) X.xe s
noncomputable def CallR (X:Cx) (f:Value) (r:List V→Hp→VK→Prop):Prop:=
 ∀ (pins:List (Addr × Obj)) (s:Shared) (σ:St) (H:Hp) (xs:List V) (us:List Value) (Q:VK),Inv X pins σ H s→Vals xs us→r xs H Q →
  wpAny (model X.prog X.w) X.A (call f us) (EP X pins σ Q) X.xe s
noncomputable def TruR (X:Cx) (r:V→Hp→(Bool→Hp→Prop)→Prop):Prop:=
 ∀ (pins:List (Addr × Obj)) (s:Shared) (σ:St) (H:Hp) (x:V) (v:Value) (Q:Bool→Hp→Prop),Inv X pins σ H s→RelV x v→r x H Q →
  wpAny (model X.prog X.w) X.A (truthy v) (TP X pins σ Q) X.xe s
noncomputable def tOp (r:R2) (ta tb:TE):TE:=fun σ H Q=>ta σ H fun x H1=>tb σ H1 fun y H2=>r x y H2 Q
noncomputable def tUn (r:V→Hp→VK→Prop) (ta:TE):TE:=fun σ H Q=>ta σ H fun x H1=>r x H1 Q
noncomputable def rI (C:Int→Int→Prop) (g:Int→Int→V):R2:=fun x y H Q=>∃ i j,x = .int i∧y = .int j∧C i j∧Q (g i j) H
noncomputable def rI0 (g:Int→Int→V):R2:=fun x y H Q=>∃ i j,x = .int i∧y = .int j∧Q (g i j) H
noncomputable def rU (g:Int→V):V→Hp→VK→Prop:=fun x H Q=>∃ i,x = .int i∧Q (g i) H
section
variable {X:Cx}{a b c:Expr}{ta tb tc:TE}{pos:Pos}
theorem binT (ha:PE X a ta) (hb:PE X b tb) {pins:List (Addr × Obj)}{s:Shared}{σ:St}{H:Hp}{R:V→V→Hp→Prop} (I:Inv X pins σ H s)
  (h:ta σ H fun x H1=>tb σ H1 fun y H2=>R x y H2) {Q:Value→Shared→Prop}{f:Value→Value→Sem Value}
  (hf:∀ v u s2 x y H2,Inv X pins σ H2 s2→RelV x v→RelV y u→R x y H2→wpAny (model X.prog X.w) X.A (f v u) Q X.xe s2) :
  wpAny (model X.prog X.w) X.A (eval a X.env) (fun v s₁=>wpAny (model X.prog X.w) X.A (eval b X.env) (fun u s₂=>wpAny (model X.prog X.w) X.A (f v u) Q X.xe s₂) X.xe s₁) X.xe s:=by
 refine thn (ha pins s σ H _ I h) fun v s1 ⟨x,H1,I1,r1,q1⟩=>?_
 refine thn (hb pins s1 σ H1 _ I1 q1) fun u s2 ⟨y,H2,I2,r2,q2⟩=>?_
 exact hf v u s2 x y H2 I2 r1 r2 q2
theorem pe_op {op:Operator}{r:R2} (ho:OpR X (binaryOp op) r) (ha:PE X a ta) (hb:PE X b tb):PE X (.BinOp a op b pos) (tOp r ta tb):=by
 intro pins s σ H Q I h
 exact wpAny_BinOp (binT ha hb I h fun v u s2 x y H2 I2 rx ry q=>ho pins s2 σ H2 x y v u Q I2 rx ry q)
theorem pe_un {op:UnaryOp}{r:V→Hp→VK→Prop} (ho:UnR X (unaryOp op) r) (ha:PE X a ta):PE X (.UnaryOp op a pos) (tUn r ta):=by
 intro pins s σ H Q I h
 exact UnaryOp_ (thn (ha pins s σ H _ I h) fun v s1 ⟨x,H1,I1,r1,q1⟩=>ho pins s1 σ H1 x v Q I1 r1 q1)
theorem opI {f:Value→Value→Sem Value}{C:Int→Int→Prop}{g:Int→Int→Int}
  (rule:∀ (i j:Int) (t u:Tok) (s:Shared) (Q:Value→Shared→Prop) (E:Value→Shared→Prop),C i j→Q (.int (g i j) s.toks) { s with toks:=s.toks + 1 }→wpAny (model X.prog X.w) X.A (f (.int i t) (.int j u)) Q E s) :
  OpR X f (rI C fun i j=>.int (g i j)):=by
 intro pins s σ H x y v u Q I rx ry h
 obtain ⟨i,j,rfl,rfl,hc,q⟩:=h
 obtain ⟨t,rfl⟩:=rx
 obtain ⟨t',rfl⟩:=ry
 exact rule i j t t' s _ _ hc ⟨.int (g i j),H,I.tok _,⟨_,rfl⟩,q⟩
theorem opI0 {f:Value→Value→Sem Value}{g:Int→Int→Int}
  (rule:∀ (i j:Int) (t u:Tok) (s:Shared) (Q:Value→Shared→Prop) (E:Value→Shared→Prop),Q (.int (g i j) s.toks) { s with toks:=s.toks + 1 }→wpAny (model X.prog X.w) X.A (f (.int i t) (.int j u)) Q E s) :
  OpR X f (rI0 fun i j=>.int (g i j)):=by
 intro pins s σ H x y v u Q I rx ry h
 obtain ⟨i,j,rfl,rfl,q⟩:=h
 obtain ⟨t,rfl⟩:=rx
 obtain ⟨t',rfl⟩:=ry
 exact rule i j t t' s _ _ ⟨.int (g i j),H,I.tok _,⟨_,rfl⟩,q⟩
theorem opB0 {f:Value→Value→Sem Value}{g:Int→Int→Bool}
  (rule:∀ (i j:Int) (t u:Tok) (s:Shared) (Q:Value→Shared→Prop) (E:Value→Shared→Prop),Q (.bool (g i j)) s→wpAny (model X.prog X.w) X.A (f (.int i t) (.int j u)) Q E s) :
  OpR X f (rI0 fun i j=>.bl (g i j)):=by
 intro pins s σ H x y v u Q I rx ry h
 obtain ⟨i,j,rfl,rfl,q⟩:=h
 obtain ⟨t,rfl⟩:=rx
 obtain ⟨t',rfl⟩:=ry
 exact rule i j t t' s _ _ ⟨.bl (g i j),H,I,rfl,q⟩
noncomputable def CDiv (i j:Int):Prop:=0 < j∧j < 1073741824
noncomputable def CPow (i j:Int):Prop:=0≤j∧j≤1000000∧i.natAbs < 2 ^ 64
noncomputable def CMul (i j:Int):Prop:=(-(2 ^ 64) < i∧i < 2 ^ 64)∨(-(2 ^ 64) < j∧j < 2 ^ 64)
theorem CMul.ok {i j:Int} (h:CMul i j):IntMulOk i j:=by
 rcases h with ⟨h1,h2⟩ | ⟨h1,h2⟩
 ·exact .of_left (intBits_le_64 h1 h2)
 ·exact .of_right (intBits_le_64 h1 h2)
theorem op_add:OpR X (binaryOp .Add) (rI0 fun i j=>.int (i + j)):=opI0 fun _ _ _ _ _ _ _ q=>add_int q
theorem op_sub:OpR X (binaryOp .Sub) (rI0 fun i j=>.int (i - j)):=opI0 fun _ _ _ _ _ _ _ q=>sub_int q
theorem op_mul:OpR X (binaryOp .Mult) (rI CMul fun i j=>.int (i * j)):=opI fun _ _ _ _ _ _ _ hc q=>mul_int q hc.ok
theorem op_fdiv:OpR X (binaryOp .FloorDiv) (rI CDiv fun i j=>.int (i / j)):=opI fun i j _ _ _ _ _ hc q=>by
 have h1:(0:Int) < j:=hc.1
 have h2:j < 1073741824:=hc.2
 exact floordiv_int (by omega) (by rw [Int.fdiv_eq_ediv_of_nonneg i (by omega)];exact q) (.inl (PyProof.noPylong_small (by omega)))
theorem op_mod:OpR X (binaryOp .Mod) (rI (fun _ j=>0 < j) fun i j=>.int (i % j)):=opI fun i j _ _ _ _ _ hc q=>by
 have h1:(0:Int) < j:=hc
 exact mod_int' (by omega) (by rw [Int.fmod_eq_emod_of_nonneg i (by omega)];exact q)
theorem op_pow:OpR X (binaryOp .Pow) (rI CPow fun i j=>.int (i ^ j.toNat)):=opI fun _ _ _ _ _ _ _ hc q=>pow_int_small hc.1 hc.2.1 hc.2.2 q
theorem op_and:OpR X (binaryOp .BitAnd) (rI0 fun i j=>.int (Builtin.bitAnd i j)):=opI0 fun _ _ _ _ _ _ _ q=>and_int q
theorem unI {f:Value→Sem Value}{g:Int→Int}
  (rule:∀ (i:Int) (t:Tok) (s:Shared) (Q:Value→Shared→Prop) (E:Value→Shared→Prop),Q (.int (g i) s.toks) { s with toks:=s.toks + 1 }→wpAny (model X.prog X.w) X.A (f (.int i t)) Q E s) :
  UnR X f (rU fun i=>.int (g i)):=by
 intro pins s σ H x v Q I rx h
 obtain ⟨i,rfl,q⟩:=h
 obtain ⟨t,rfl⟩:=rx
 exact rule i t s _ _ ⟨.int (g i),H,I.tok _,⟨_,rfl⟩,q⟩
theorem un_neg:UnR X (unaryOp .USub) (rU fun i=>.int (-i)):=unI fun _ _ _ _ _ q=>neg_int q
end
noncomputable def scal:V→V→Bool
 | .non,.non=>true | .non,.int _=>true | .int _,.non=>true | .non,.bl _=>true | .bl _,.non=>true | .non,.str _=>true | .str _,.non=>true
 | .int _,.int _=>true | .bl _,.bl _=>true | .str _,.str _=>true | .byt _,.byt _=>true
 | .int _,.str _=>true | .str _,.int _=>true | .bl _,.str _=>true | .str _,.bl _=>true
 | _,_=>false
noncomputable def rEq:R2:=fun x y H Q=>scal x y=true∧Q (.bl (decide (x=y))) H
noncomputable def rNe:R2:=fun x y H Q=>scal x y=true∧Q (.bl (!decide (x=y))) H
theorem dec_int {i j:Int}:decide (V.int i=V.int j)=(i == j):=by
 rw [Bool.eq_iff_iff]
 simp
theorem dec_bl {i j:Bool}:decide (V.bl i=V.bl j)=(i == j):=by
 rw [Bool.eq_iff_iff]
 simp
theorem dec_str {i j:Str}:decide (V.str i=V.str j)=(i == j):=by
 rw [Bool.eq_iff_iff]
 simp
theorem dec_byt {i j:Array UInt8}:decide (V.byt i=V.byt j)=(i.toList == j.toList):=by
 rw [Bool.eq_iff_iff]
 cases i
 cases j
 simp
section
variable {X:Cx}{a b c:Expr}{ta tb tc:TE}{pos:Pos}
theorem fin_bl {pins:List (Addr × Obj)}{σ:St}{H:Hp}{s:Shared}{Q:VK}{k k':Bool} (I:Inv X pins σ H s) (q:Q (.bl k) H) (e:k=k'):EP X pins σ Q (.bool k') s:=by
 subst e
 exact ⟨.bl k,H,I,rfl,q⟩
theorem op_eq:OpR X (compareOp .Eq) rEq:=by
 intro pins s σ H x y v u Q I rx ry h
 obtain ⟨hs,q⟩:=h
 cases x with
 | non=>
  cases rx
  cases y with
  | non=>cases ry;exact PySem.EqNone.eq_none_none (fin_bl I q (by simp))
  | bl j=>cases ry;exact PySem.EqNone.eq_none_bool (fin_bl I q (by simp))
  | int j=>obtain ⟨t',rfl⟩:=ry;exact PySem.EqNone.eq_none_int (fin_bl I q (by simp))
  | str j=>obtain ⟨t',rfl⟩:=ry;exact PySem.EqNone.eq_none_str (fin_bl I q (by simp))
  | _=>exact absurd (show false=true from hs) Bool.false_ne_true
 | bl i=>
  cases rx
  cases y with
  | non=>cases ry;exact PySem.EqNone.eq_bool_none (fin_bl I q (by simp))
  | bl j=>cases ry;exact eq_bool (fin_bl I q dec_bl)
  | str j=>obtain ⟨t',rfl⟩:=ry;exact PySem.EqMixed.eq_bool_str (fin_bl I q (by simp))
  | _=>exact absurd (show false=true from hs) Bool.false_ne_true
 | int i=>
  obtain ⟨t,rfl⟩:=rx
  cases y with
  | non=>cases ry;exact PySem.EqNone.eq_int_none (fin_bl I q (by simp))
  | int j=>obtain ⟨t',rfl⟩:=ry;exact eq_int (fin_bl I q dec_int)
  | str j=>obtain ⟨t',rfl⟩:=ry;exact PySem.EqMixed.eq_int_str (fin_bl I q (by simp))
  | _=>exact absurd (show false=true from hs) Bool.false_ne_true
 | str i=>
  obtain ⟨t,rfl⟩:=rx
  cases y with
  | non=>cases ry;exact PySem.EqNone.eq_str_none (fin_bl I q (by simp))
  | bl j=>cases ry;exact PySem.EqMixed.eq_str_bool (fin_bl I q (by simp))
  | int j=>obtain ⟨t',rfl⟩:=ry;exact PySem.EqMixed.eq_str_int (fin_bl I q (by simp))
  | str j=>obtain ⟨t',rfl⟩:=ry;exact eq_str (fin_bl I q dec_str)
  | _=>exact absurd (show false=true from hs) Bool.false_ne_true
 | byt i=>
  obtain ⟨t,rfl⟩:=rx
  cases y with
  | byt j=>obtain ⟨t',rfl⟩:=ry;exact PySem.W.eq_bytes (fin_bl I q dec_byt)
  | _=>exact absurd (show false=true from hs) Bool.false_ne_true
 | _=>cases y <;> exact absurd (show false=true from hs) Bool.false_ne_true
theorem op_ne:OpR X (compareOp .NotEq) rNe:=by
 intro pins s σ H x y v u Q I rx ry h
 obtain ⟨hs,q⟩:=h
 cases x with
 | non=>
  cases rx
  cases y with
  | non=>cases ry;exact PySem.EqNone.ne_none_none (fin_bl I q (by simp))
  | bl j=>cases ry;exact PySem.EqNone.ne_none_bool (fin_bl I q (by simp))
  | int j=>obtain ⟨t',rfl⟩:=ry;exact PySem.EqNone.ne_none_int (fin_bl I q (by simp))
  | str j=>obtain ⟨t',rfl⟩:=ry;exact PySem.EqNone.ne_none_str (fin_bl I q (by simp))
  | _=>exact absurd (show false=true from hs) Bool.false_ne_true
 | bl i=>
  cases rx
  cases y with
  | non=>cases ry;exact PySem.EqNone.ne_bool_none (fin_bl I q (by simp))
  | bl j=>cases ry;exact ne_bool (fin_bl I q (congrArg not dec_bl))
  | str j=>obtain ⟨t',rfl⟩:=ry;exact PySem.EqMixed.ne_bool_str (fin_bl I q (by simp))
  | _=>exact absurd (show false=true from hs) Bool.false_ne_true
 | int i=>
  obtain ⟨t,rfl⟩:=rx
  cases y with
  | non=>cases ry;exact PySem.EqNone.ne_int_none (fin_bl I q (by simp))
  | int j=>obtain ⟨t',rfl⟩:=ry;exact ne_int (fin_bl I q (congrArg not dec_int))
  | str j=>obtain ⟨t',rfl⟩:=ry;exact PySem.EqMixed.ne_int_str (fin_bl I q (by simp))
  | _=>exact absurd (show false=true from hs) Bool.false_ne_true
 | str i=>
  obtain ⟨t,rfl⟩:=rx
  cases y with
  | non=>cases ry;exact PySem.EqNone.ne_str_none (fin_bl I q (by simp))
  | bl j=>cases ry;exact PySem.EqMixed.ne_str_bool (fin_bl I q (by simp))
  | int j=>obtain ⟨t',rfl⟩:=ry;exact PySem.EqMixed.ne_str_int (fin_bl I q (by simp))
  | str j=>obtain ⟨t',rfl⟩:=ry;exact ne_str (fin_bl I q (congrArg not dec_str))
  | _=>exact absurd (show false=true from hs) Bool.false_ne_true
 | byt i=>
  obtain ⟨t,rfl⟩:=rx
  cases y with
  | byt j=>obtain ⟨t',rfl⟩:=ry;exact PySem.W.ne_bytes (fin_bl I q (congrArg not dec_byt))
  | _=>exact absurd (show false=true from hs) Bool.false_ne_true
 | _=>cases y <;> exact absurd (show false=true from hs) Bool.false_ne_true
theorem op_lt:OpR X (compareOp .Lt) (rI0 fun i j=>.bl (decide (i < j))):=opB0 fun _ _ _ _ _ _ _ q=>lt_int q
theorem op_le:OpR X (compareOp .LtE) (rI0 fun i j=>.bl (decide (i≤j))):=opB0 fun _ _ _ _ _ _ _ q=>le_int q
theorem op_gt:OpR X (compareOp .Gt) (rI0 fun i j=>.bl (decide (j < i))):=opB0 fun _ _ _ _ _ _ _ q=>gt_int q
theorem op_ge:OpR X (compareOp .GtE) (rI0 fun i j=>.bl (decide (j≤i))):=opB0 fun _ _ _ _ _ _ _ q=>ge_int q
theorem op_isN:OpR X (compareOp .Is) (fun x y H Q=>y = .non∧Q (.bl (decide (x = .non))) H):=by
 intro pins s σ H x y v u Q I rx ry h
 obtain ⟨rfl,q⟩:=h
 cases ry
 refine is_none_gen (fin_bl I q ?_)
 cases x <;> first
  | (cases rx;rfl)
  | (obtain ⟨t,rfl⟩:=rx;rfl)
theorem nomark (b:Expr) {op:CmpOp} (h:autoParam (op≠.In) au1._auto_1) (h2:autoParam (op≠.NotIn) au1._auto_1):behindInMarks op b=false:=by
 have e1:(op == CmpOp.In)=false:=by cases op <;> first | rfl | exact absurd rfl h
 have e2:(op == CmpOp.NotIn)=false:=by cases op <;> first | rfl | exact absurd rfl h2
 cases b <;> simp [behindInMarks,e1,e2]
theorem pe_cmpR {op:CmpOp}{r:R2} (ho:OpR X (compareOp op) r) (ha:PE X a ta) (hb:PE X b tb) (hm:behindInMarks op b=false):PE X (.Compare a [op] [b] pos) (tOp r ta tb):=by
 intro pins s σ H Q I h
 exact wpAny_Compare1 (binT ha hb I h fun v u s2 x y H2 I2 rx ry q=>ho pins s2 σ H2 x y v u Q I2 rx ry q) hm
noncomputable def tTest (t:TE):TT:=fun σ H Q=>t σ H fun x H'=>∃ k,x = .bl k∧Q k H'
theorem pt_cmpR {op:CmpOp}{r:R2} (ho:OpR X (compareOp op) r) (ha:PE X a ta) (hb:PE X b tb) (hm:behindInMarks op b=false):PT X (.Compare a [op] [b] pos) (tTest (tOp r ta tb)):=by
 intro pins s σ H Q I h
 refine wpAny_isTrue_Compare1 (thn (ha pins s σ H _ I h) fun v s1 ⟨x,H1,I1,r1,q1⟩=>thn (hb pins s1 σ H1 _ I1 q1) fun u s2 ⟨y,H2,I2,r2,q2⟩=>
  thn (ho pins s2 σ H2 x y v u _ I2 r1 r2 q2) fun c s3 ⟨z,H3,I3,r3,k,e,q3⟩=>?_) hm
 subst e
 cases r3
 exact wpAny_truthy_bool ⟨H3,I3,q3⟩
noncomputable def TruV (K:PySem.W.Frag) (x:V) (H:Hp) (k:Bool):Prop:=
 match x with
 | .non=>k=false
 | .bl b=>k=b
 | .int i=>k=(i != 0)
 | .str y=>y.length≤sizeLine∧k=((y.length:Int) != 0)
 | .byt y=>y.size≤sizeLine∧k=((y.size:Int) != 0)
 | .ref p=>(∃ xs,SqL K H p xs∧k = !xs.isEmpty)∨(∃ xs,SqT K H p xs∧k = !xs.isEmpty)∨∃ kvs,H p=some (.dK kvs)∧k = !kvs.isEmpty
 | _=>False
theorem isEmpty_kv {κ:Type}{kvs:List (κ × V)}{vs:List (κ × Value)} (r:KV kvs vs):(!vs.isEmpty) = !kvs.isEmpty:=by
 cases r <;> rfl
theorem isEmpty_of {xs:List V}{its:List Value} (r:Vals xs its):(!its.toArray.isEmpty) = !xs.isEmpty:=by
 cases r <;> simp
theorem line63:(sizeLine:Nat) < 2 ^ 63:=by rw [sizeLine_eq];decide
theorem tru_ok:TruR X (fun x H Q=>∃ k,TruV X.K x H k∧Q k H):=by
 intro pins s σ H x v Q I rx h
 obtain ⟨k,e,q⟩:=h
 have hl:=line63
 have hs:sizeLine=16777216:=sizeLine_eq
 cases x with
 | non=>
  cases rx
  have e':k=false:=e
  subst e'
  exact truthy_none ⟨H,I,q⟩
 | bl b=>
  cases rx
  have e':k=b:=e
  subst e'
  exact wpAny_truthy_bool ⟨H,I,q⟩
 | int i=>
  obtain ⟨t,rfl⟩:=rx
  have e':k=(i != 0):=e
  subst e'
  exact PySem.P.truthy_int ⟨H,I,q⟩
 | str y=>
  obtain ⟨t,rfl⟩:=rx
  obtain ⟨hy,e'⟩:y.length≤sizeLine∧k=((y.length:Int) != 0):=e
  subst e'
  exact PySem.P.truthy_str (by omega) ⟨H,I.tok _,q⟩
 | byt y=>
  obtain ⟨t,rfl⟩:=rx
  obtain ⟨hy,e'⟩:y.size≤sizeLine∧k=((y.size:Int) != 0):=e
  subst e'
  exact PySem.W.truthy_bytes (by omega) ⟨H,I.tok _,q⟩
 | ref p=>
  cases rx
  have e':(∃ xs,SqL X.K H p xs∧k = !xs.isEmpty)∨(∃ xs,SqT X.K H p xs∧k = !xs.isEmpty)∨∃ kvs,H p=some (.dK kvs)∧k = !kvs.isEmpty:=e
  rcases e' with ⟨xs,hx,e'⟩ | ⟨xs,hx,e'⟩ | ⟨kvs,hx,e'⟩
  ·subst e'
   obtain ⟨its,r,pl,hz⟩:=I.list hx
   have hlen:=r.length
   exact wpAny_truthy_list pl.isList (by simp only [List.size_toArray];omega) ⟨H,I.tok _,by rw [isEmpty_of r];exact q⟩
  ·subst e'
   obtain ⟨its,r,pl,hz⟩:=I.tuple hx
   have hlen:=r.length
   exact truthy_tuple pl (by simp only [List.size_toArray];omega) ⟨H,I.tok _,by rw [isEmpty_of r];exact q⟩
  ·subst e'
   obtain ⟨hz,hS,vs,r,m⟩:kvs.length≤sizeLine∧(p == sysModules)=false∧∃ vs,KV kvs vs∧s.heap.DictOf (mixKind X.prog X.w) p vs:=I.hok p _ hx
   have hlen:kvs.length=vs.length:=Paired.length r
   exact wpAny_truthy_dict hS m (by omega) ⟨H,I.tok _,by rw [isEmpty_kv r];exact q⟩
 | _=>exact (show False from e).elim
theorem pt_truth (ha:PE X a ta) (he:∀ whole,isTrue a X.env whole=(do let v ← whole;standAt a.pos;holding [v] (truthy v))) :
  PT X a (fun σ H Q=>ta σ H fun x H'=>∃ k,TruV X.K x H' k∧Q k H'):=by
 intro pins s σ H Q I h
 exact isTrue_plain (thn (ha pins s σ H _ I h) fun v s1 ⟨x,H1,I1,r1,q1⟩=>tru_ok pins s1 σ H1 x v Q I1 r1 q1) (he _)
theorem op_add_str:OpR X (binaryOp .Add) (fun x y H Q=>∃ i j,x = .str i∧y = .str j∧i.length + j.length≤sizeLine∧Q (.str (i++j)) H):=by
 intro pins s σ H x y v u Q I rx ry h
 obtain ⟨i,j,rfl,rfl,hz,q⟩:=h
 obtain ⟨t,rfl⟩:=rx
 obtain ⟨t',rfl⟩:=ry
 exact add_str (fun t' tk=>⟨.str (i++j),H,I.tok _,⟨_,rfl⟩,q⟩) hz
theorem vals1 {x:V}{us:List Value} (r:Vals [x] us):∃ u,us=[u]∧RelV x u:=by
 cases r with
 | cons r1 r2=>cases r2;exact ⟨_,rfl,r1⟩
theorem vals2 {x y:V}{us:List Value} (r:Vals [x,y] us):∃ u w',us=[u,w']∧RelV x u∧RelV y w':=by
 cases r with
 | cons r1 r2=>
  cases r2 with
  | cons r3 r4=>cases r4;exact ⟨_,_,rfl,r1,r3⟩
theorem call_max2 (hc:X.calm=true):CallR X (.builtin "max") (fun xs H Q=>∃ i j,xs=[.int i,.int j]∧Q (.int (if j > i then j else i)) H):=by
 intro pins s σ H xs us Q I r h
 obtain ⟨i,j,rfl,q⟩:=h
 obtain ⟨u,w',rfl,⟨t,rfl⟩,⟨t',rfl⟩⟩:=vals2 r
 refine max_two_ints (I.ok.hd hc) fun h' tk k=>⟨_,H,I.kept k,?_,q⟩
 by_cases hj:j > i
 ·rw [if_pos hj,if_pos hj];exact ⟨_,rfl⟩
 ·rw [if_neg hj,if_neg hj];exact ⟨_,rfl⟩
theorem call_str_int:CallR X (.type "str") (fun xs H Q=>∃ i,xs=[.int i]∧i.natAbs.log2 < 1920∧Q (.str (toString i)) H):=by
 intro pins s σ H xs us Q I r h
 obtain ⟨i,rfl,hz,q⟩:=h
 obtain ⟨u,rfl,t,rfl⟩:=vals1 r
 exact PySem.P.str_of_int hz ⟨.str _,H,I.tok _,⟨_,rfl⟩,q⟩
end
end L2
namespace L2
open PySem PySem.Spec PyProof.Rows
section
variable {prog:Program}{w:World}{A:Around}{E:Value→Shared→Prop}{s:Shared}{K:PySem.W.Frag}{x dx C f:Addr}{mA:Str→Option Value}{name:Str}{v:Value}
end
section
variable {P:Program}{w:World}{H H':Hp}{h h':Heap}{a C dx:Addr}{fs fs':List (Str × V)}
end
section
variable {X:Cx}{pins:List (Addr × Obj)}{σ:St}{H:Hp}{s:Shared}{a C dx:Addr}{fs:List (Str × V)}{f:Str}{v:V}{A:Around}{E:Value→Shared→Prop}
end
section
variable {X:Cx}{o e value:Expr}{f:Str}{pos pos' tpos:Pos}{ta tv:TE}
end
section
variable {X:Cx}{pins:List (Addr × Obj)}{σ:St}{H:Hp}{s:Shared}{A:Around}{E:Value→Shared→Prop}{Q:Value→Shared→Prop}{c:Value}{b:Bool}
end
end L2
namespace L2
open PySem PySem.Spec PyProof.Rows
structure Room (k:Nat) (A:Around):Prop where
 hd:A.handled=none
 dp:A.depth + 3 * k + 5 < recursionLimit
 un:A.units + 16 * k + 200 < cLine
theorem Room.mono {j k:Nat}{A:Around} (r:Room k A) (h:j≤k):Room j A:=⟨r.hd,by have:=r.dp;omega,by have:=r.un;omega⟩
theorem Room.deeper {k:Nat}{A:Around} (r:Room (k + 1) A) (env:Env):Room k (A.deeper env):=
 ⟨r.hd,by have:=r.dp;show A.depth + 1 + 3 * k + 5 < _;omega,by have:=r.un;show A.units + 3 + 16 * k + 200 < _;omega⟩
theorem Room.in1 {k:Nat}{A:Around} (r:Room (k + 1) A):Room k A.in1:=
 ⟨r.hd,by have:=r.dp;show A.depth + 3 * k + 5 < _;omega,by have:=r.un;show A.units + 1 + 16 * k + 200 < _;omega⟩
theorem Room.depth {k:Nat}{A:Around} (r:Room k A):A.depth < recursionLimit:=by have:=r.dp;omega
theorem Room.units {k:Nat}{A:Around} (r:Room k A):A.units + 64 < cLine:=by have:=r.un;omega
noncomputable def tNil:TA:=fun _ H Q=>Q [] H
noncomputable def tCons (ta:TE) (tr:TA):TA:=fun σ H Q=>ta σ H fun x H1=>tr σ H1 fun xs H2=>Q (x::xs) H2
section
variable {X:Cx}{e:Expr}{es:List Expr}{te:TE}{t:TA}{pos:Pos}
theorem pa_nil:PA X [] tNil:=fun _ _ _ _ H Q I h=>Calls.spliced_nil ⟨[],H,I,.nil,h⟩
theorem pa_cons (ha:PE X e te) (hr:PA X es t) (hs:autoParam (starEach (e::es) X.env=(false,eval e X.env)::starEach es X.env) au3._auto_1):PA X (e::es) (tCons te t):=by
 intro pos pins s σ H Q I h
 rw [hs]
 show wpAny _ _ (spliced ((false,eval e X.env)::backTo pos (starEach es X.env))) _ _ s
 refine Calls.spliced_cons (thn (ha pins s σ H _ I h) fun u s1 ⟨x,H1,I1,r1,q1⟩=>?_)
 exact thn (hr pos pins s1 σ H1 _ I1 q1) fun us s2 ⟨xs,H2,I2,r2,q2⟩=>⟨x::xs,H2,I2,.cons r1 r2,q2⟩
noncomputable def tTup (t:TA):TE:=fun σ H Q=>t σ H fun xs H1=>xs.length≤sizeLine∧∀ p,H1 p=none→Q (.ref p) (upd H1 p (.tup xs))
noncomputable def tLst (t:TA):TE:=fun σ H Q=>t σ H fun xs H1=>xs.length≤sizeLine∧∀ p,H1 p=none→Q (.ref p) (upd H1 p (.lst xs))
theorem pe_tup {x1} (h:PA X es t):PE X (.Tuple es x1 pos) (tTup t):=by
 intro pins s σ H Q I hq
 refine wpAny_Tuple_spliced (thn (h pos pins s σ H _ I hq) fun us s1 ⟨xs,H1,I1,r,z,q⟩=>⟨by rw [← r.length];exact z,?_⟩)
 have hf:H1 s1.heap.objs.size=none:=I1.hok.fresh (Nat.le_refl _)
 refine ⟨.ref s1.heap.objs.size,upd H1 s1.heap.objs.size (.tup xs),I1.laid (t':=s1.toks) (fun b u e=>Heap.get?_push_of_some _ e) (Nat.le_refl _) ?_,rfl,q _ hf⟩
 exact ⟨z,us,r,⟨_,Heap.get?_push_size _ rfl,rfl,_,rfl⟩⟩
theorem pe_lst (h:PA X es t):PE X (.List es pos) (tLst t):=by
 intro pins s σ H Q I hq
 refine wpAny_List_spliced (thn (h pos pins s σ H _ I hq) fun us s1 ⟨xs,H1,I1,r,z,q⟩=>⟨by rw [← r.length];exact z,?_⟩)
 have hf:H1 s1.heap.objs.size=none:=I1.hok.fresh (Nat.le_refl _)
 refine ⟨.ref s1.heap.objs.size,upd H1 s1.heap.objs.size (.lst xs),I1.laid (t':=s1.toks) (fun b u e=>Heap.get?_push_of_some _ e) (Nat.le_refl _) ?_,rfl,q _ hf⟩
 exact ⟨z,us,0,r,Heap.get?_push_size _ rfl⟩
end
noncomputable abbrev Sp:=List V→Hp→VK→XK→Prop
noncomputable abbrev CXT:=List Env→Hp→Shared→XK→Value→Shared→Prop
structure Env0 (P:Program) (w:World) (K:PySem.W.Frag) (mg:Str→Option Value) (base:Heap) (A:Around) (outer:List Env) (s:Shared) (H:Hp):Prop where
 frames:A.frames=some outer
 mod:Mod K mg base
 bs:∀ b o,base.get? b=some o→s.heap.get? b=some o∧H b=none
 bsz:base.objs.size≤s.heap.objs.size
 funs:s.heap.FunFrames base outer
 frf:∀ b∈frs outer,H b=none
 hok:HOk P w H s.heap
 bare:AllBare s.gens
noncomputable def CE (outer:List Env) (P:Program) (w:World) (H:Hp) (s:Shared) (Q:VK) (u:Value) (s':Shared):Prop:=
 ∃ v H',s'.os=s.os∧AllBare s'.gens∧Un (frs outer) [] H H' s.heap s'.heap∧HOk P w H' s'.heap∧RelV v u∧Q v H'
noncomputable def CR (CX:CXT) (outer:List Env) (P:Program) (w:World) (H:Hp) (s:Shared) (Q:VK) (E:XK) (r:Result) (s':Shared):Prop:=
 match r with
 | .ok (.ret u)=>CE outer P w H s Q u s'
 | .ok _=>False
 | .error e=>CX outer H s E e s'
structure FnOk (P:Program) (w:World) (K:PySem.W.Frag) (mg:Str→Option Value) (base:Heap) (CX:CXT) (k:Nat) (f:Addr) (fd:FuncData) (ps:List Str) (sp:Sp):Prop where
 len:∀ vs H Q E,sp vs H Q E→vs.length=ps.length
 run:∀ (A:Around) (outer:List Env) (s:Shared) (H:Hp) (args:Args) (us:List Value) (vs:List V) (Q:VK) (E:XK),Room k A→Env0 P w K mg base A outer s H→BindsTo s fd args (ps.zip us)→Vals vs us→sp vs H Q E →
  codeAny (model P w) A (.call (.ref f) args) (CR CX outer P w H s Q E) s
section
variable {X:Cx}{pins:List (Addr × Obj)}{σ:St}{H:Hp}{s s':Shared}
theorem Inv.env0 (I:Inv X pins σ H s):Env0 X.prog X.w X.K X.mg X.base X.A X.stack s H:=
 ⟨I.ok.frames,I.ok.mod,I.bs,Nat.le_trans I.ok.bsz I.sz,I.stack,I.stkFree,I.hok,I.bare⟩
theorem Inv.after {Q:VK}{u:Value} (I:Inv X pins σ H s) (h:CE X.stack X.prog X.w H s Q u s'):EP X pins σ Q u s':=by
 obtain ⟨v,H',os,bare,un,hok,r,q⟩:=h
 obtain ⟨hh,g,d,t,os'⟩:=s'
 obtain rfl:os'=s.os:=os
 exact ⟨v,H',I.call (h':=hh) (g':=g) (d':=d) (t':=t) (ch:=[]) un hok bare (fun b z=>absurd z (by simp)),r,q⟩
end
noncomputable def tCall (sp:Sp) (dvs:List V) (E:XK) (t:TA):TE:=fun σ H Q=>t σ H fun vs H1=>sp (vs++dvs) H1 Q E
noncomputable def Binds (K:PySem.W.Frag) (fd:FuncData) (ps:List Str) (ds:List Value):Prop:=
 ∀ (s:Shared) (us:List Value),K.In s.heap→(us++ds).length=ps.length→BindsTo s fd ⟨us,[]⟩ (ps.zip (us++ds))
theorem Binds.all {K:PySem.W.Frag}{fd:FuncData}{ps:List Str} (h:∀ us:List Value,us.length=ps.length→bindArgs fd ⟨us,[]⟩=pure (ps.zip us)):Binds K fd ps []:=fun s us _ hl=>by
 rw [List.append_nil] at hl ⊢
 exact .of_eq (h us hl)
noncomputable def Passes (CX:CXT) (X:Cx) (E:XK):Prop:=∀ (pins:List (Addr × Obj)) (σ:St) (H:Hp) (s:Shared) (e:Value) (s':Shared),Inv X pins σ H s→CX X.stack H s E e s'→X.xe e s'
section
variable {X:Cx}{CX:CXT}{k:Nat}{f C:Addr}{fd:FuncData}{ps:List Str}{sp:Sp}{dvs:List V}{ds:List Value}{E:XK}{x m:Str}{p pos apos:Pos}{e o:Expr}{es:List Expr}{ta:TE}{t:TA}
theorem run_fn {pins:List (Addr × Obj)}{σ:St}{H:Hp}{s:Shared}{Q:VK}{us:List Value}{vs:List V} (F:FnOk X.prog X.w X.K X.mg X.base CX k f fd ps sp) (hr:Room k X.A) (hb:Binds X.K fd ps ds) (hd:Vals dvs ds) (hx:Passes CX X E)
  (I:Inv X pins σ H s) (r:Vals vs us) (h:sp (vs++dvs) H Q E):wpAny (model X.prog X.w) X.A (call (.ref f) us) (EP X pins σ Q) X.xe s:=by
 have r2:Vals (vs++dvs) (us++ds):=r.append hd
 have hl:(us++ds).length=ps.length:=by rw [← r2.length];exact F.len _ _ _ _ h
 refine wpAny_call (codeAny_mono (F.run X.A X.stack s H ⟨us,[]⟩ (us++ds) (vs++dvs) Q E hr I.env0 (hb s us I.kIn hl) r2 h) fun r s' hq=>?_)
 cases r with
 | error e=>exact hx pins σ H s e s' I hq
 | ok fl=>
  cases fl with
  | ret u=>exact I.after hq
  | next=>exact False.elim hq
  | brk=>exact False.elim hq
  | cont=>exact False.elim hq
theorem pe_call (F:FnOk X.prog X.w X.K X.mg X.base CX k f fd ps sp) (hr:Room k X.A) (hg:Gl X x) (hm:X.mg x=some (.ref f)) (hk:PySem.W.keepIn X.K (.ref f)=true) (hb:Binds X.K fd ps ds) (hd:Vals dvs ds) (hx:Passes CX X E)
  (ha:PA X (e::es) t) (hdb:autoParam ((x == ("__debug__":Str))=false) au1._auto_1) (he:autoParam (starEach (e::es) X.env=(false,eval e X.env)::starEach es X.env) au3._auto_1) (hpl:autoParam ((backTo pos (starEach es X.env)).any (·.1)=false) au3._auto_1) :
  PE X (.Call (.Name x p) (e::es) [] pos) (tCall sp dvs E t):=by
 intro pins s σ H Q I h
 refine wpAny_Call_Name_kw (ld_glob I hg hm ?_ hdb)
 refine PySem.W.callWith_K (h₀:=X.base) I.ok.mod.kin hk (thn (ha pos pins s σ H _ I h) fun us s1 ⟨vs,H1,I1,r,q⟩=>⟨I1.kIn,?_⟩) he hpl
 exact run_fn F hr hb hd hx I1 r q
end
section
variable {X:Cx}{CX:CXT}{k:Nat}{f C:Addr}{fd:FuncData}{ps ks:List Str}{sp:Sp}{E:XK}{x m:Str}{p pos apos kpos:Pos}{e o:Expr}{es:List Expr}{kws:List Keyword}{te ta:TE}{t tk:TA}{nm:Option Str}
variable {g:List Value→List Value→List Value}{gV:List V→List V→List V}
end
structure FnScope (N P:List Str) (sc:Scope):Prop where
 kind:sc.kind = .function
 co:sc.isCoroutine=false
 gen:sc.isGenerator=false
 nd:N.Nodup
 pre:N.take P.length=P
 par:∀ x∈P,sc.names.lookup x=some .local∨sc.names.lookup x=some .cell
 nofree:∀ y∈sc.names,y.2≠.free
theorem bindL_out {kindOf:Str→Option NameKind}{x:Str}:∀ {binds:List (Str × Value)}{m:Str→Option Value},(∀ v,(x,v) ∉ binds)→bindL kindOf binds m x=m x
 | [],_,_=>rfl
 | (n,v)::r,m,h=>by
  unfold bindL
  rw [bindL_out fun w hw=>h w (List.mem_cons_of_mem _ hw)]
  split
  ·have:x≠n:=by rintro rfl;exact h v List.mem_cons_self
   simp [this]
  ·rfl
theorem bindC_out {kindOf:Str→Option NameKind}{x:Str}:∀ {binds:List (Str × Value)}{m:Str→Option Value},(∀ v,(x,v) ∉ binds)→bindC kindOf binds m x=m x
 | [],_,_=>rfl
 | (n,v)::r,m,h=>by
  unfold bindC
  rw [bindC_out fun w hw=>h w (List.mem_cons_of_mem _ hw)]
  split
  ·rfl
  ·have:x≠n:=by rintro rfl;exact h v List.mem_cons_self
   simp [this]
theorem bindL_get {kindOf:Str→Option NameKind}{x:Str}{v:Value}:∀ {P:List Str}{vs:List Value}{i:Nat}{m:Str→Option Value},P.Nodup→P[i]? = some x→vs[i]? = some v→kindOf x=some .local →
  bindL kindOf (P.zip vs) m x=some v
 | [],_,_,_,_,h,_,_=>by simp at h
 | _::_,[],_,_,_,_,h,_=>by simp at h
 | p::P,w::vs,0,m,nd,h1,h2,hk=>by
  simp at h1 h2;subst h1;subst h2
  show bindL kindOf ((p,w)::P.zip vs) m p=_
  unfold bindL
  rw [bindL_out fun v hv=>(List.nodup_cons.mp nd).1 (List.of_mem_zip hv).1,if_pos hk]
  simp
 | p::P,w::vs,i + 1,m,nd,h1,h2,hk=>by
  show bindL kindOf ((p,w)::P.zip vs) m x=_
  unfold bindL
  exact bindL_get (i:=i) (List.nodup_cons.mp nd).2 (by simpa using h1) (by simpa using h2) hk
theorem bindC_get {kindOf:Str→Option NameKind}{x:Str}{v:Value}:∀ {P:List Str}{vs:List Value}{i:Nat}{m:Str→Option Value},P.Nodup→P[i]? = some x→vs[i]? = some v→kindOf x≠some .local →
  bindC kindOf (P.zip vs) m x=some v
 | [],_,_,_,_,h,_,_=>by simp at h
 | _::_,[],_,_,_,_,h,_=>by simp at h
 | p::P,w::vs,0,m,nd,h1,h2,hk=>by
  simp at h1 h2;subst h1;subst h2
  show bindC kindOf ((p,w)::P.zip vs) m p=_
  unfold bindC
  rw [bindC_out fun v hv=>(List.nodup_cons.mp nd).1 (List.of_mem_zip hv).1,if_neg hk]
  simp
 | p::P,w::vs,i + 1,m,nd,h1,h2,hk=>by
  show bindC kindOf ((p,w)::P.zip vs) m x=_
  unfold bindC
  exact bindC_get (i:=i) (List.nodup_cons.mp nd).2 (by simpa using h1) (by simpa using h2) hk
noncomputable def start (N:List Str) (vs:List V):St:=vs.map some++List.replicate (N.length - vs.length) none
noncomputable def cxOf (CX:CXT) (P:Program) (w:World) (K:PySem.W.Frag) (mg:Str→Option Value) (base:Heap) (N:List Str) (qual:Str) (scope:Scope) (f:Addr) (cd:Value) (A:Around) (outer:List Env) (s:Shared) (H:Hp) (E:XK):Cx where
 prog:=P
 w:=w
 K:=K
 mg:=mg
 base:=base
 A:=A.deeper (envOfC qual scope s.heap.objs.size f cd)
 N:=N
 s₀:=s
 H₀:=H
 env:=envOfC qual scope s.heap.objs.size f cd
 outer:=outer
 stack:=envOfC qual scope s.heap.objs.size f cd::outer
 ex:=[]
 calm:=true
 fn:=fun _=>true
 pn:=[]
 xe:=fun e s'=>wpAny (model P w) (A.deeper (envOfC qual scope s.heap.objs.size f cd)) (leaving (envOfC qual scope s.heap.objs.size f cd) e) (fun _ s''=>CX outer H s E e s'') (fun e' s''=>CX outer H s E e' s'') s'
theorem cell_has {sc:Scope}{n:Nat}{x:Str} (h:sc.names.lookup x=some .cell):∃ c,(cellsFrom n sc.names []).lookup x=some c:=by
 have q:=PySem.W.cellsFrom_some sc.names n [] (.inl h)
 exact Option.isSome_iff_exists.mp q
theorem inv_start {CX:CXT}{P:Program}{w:World}{K:PySem.W.Frag}{mg:Str→Option Value}{base:Heap}{N ps:List Str}{qual:Str}{scope:Scope}{f:Addr}{cd:Value}{A:Around}{outer:List Env}{s s1:Shared}{H:Hp}{E:XK}{us:List Value}{vs:List V}
  (S:FnScope N ps scope) (hd:A.handled=none) (e0:Env0 P w K mg base A outer s H) (hl:vs.length=ps.length) (r:Vals vs us)
  (x:InCallC s s.heap.objs.size (bindL (envOfC qual scope s.heap.objs.size f cd).kindOf (ps.zip us) fun _=>none) (cellsFrom (s.heap.objs.size + 1) scope.names []) (bindC (envOfC qual scope s.heap.objs.size f cd).kindOf (ps.zip us) fun _=>none) s1) :
  Inv (cxOf CX P w K mg base N qual scope f cd A outer s H E) [] (start N vs) H s1:=by
 have hpl:ps.length≤N.length:=by have:=congrArg List.length S.pre;rw [List.length_take] at this;omega
 obtain ⟨h1,tk,rfl,hk⟩:=x.done
 have noA:∀ b:Addr,b ∉ (cxOf CX P w K mg base N qual scope f cd A outer s H E).ex:=fun b z=>absurd (show b∈([]:List Addr) from z) (by simp)
 refine ⟨⟨e0.mod,S.kind,rfl,rfl,Nat.le_refl _,fun y z c h1 h2=>?_,fun y hy=>?_,fun y c _ h=>?_,fun _=>hd,Around.frames_deeper e0.frames,.inr ⟨rfl,rfl⟩,fun b z=>absurd z (noA b),e0.bs,e0.bsz,fun b _ _=>noA b,fun b z=>absurd z (noA b),e0.funs,e0.frf⟩,
  rfl,e0.bare,Un.kept hk,⟨_,x.toInCall.ns,fun i y v h1 h2 h3=>?_⟩,fun y c h=>⟨_,x.cell y c h⟩,e0.hok.fresh (Nat.le_refl _),fun y c h=>?_,fun p hp=>absurd (show p∈([]:List (Addr × Obj)) from hp) (by simp),e0.hok.kept hk,?_⟩
 ·exact name_of_addr x.apart (PySem.mem_of_lookup h1) (PySem.mem_of_lookup h2)
 ·have hy:scope.names.lookup y=some .cell∨scope.names.lookup y=some .free:=hy
  rcases hy with hy | hy
  ·exact cell_has hy
  ·exact absurd rfl (S.nofree _ (PySem.mem_of_lookup hy))
 ·exact Nat.le_of_lt (x.above y c (PySem.mem_of_lookup h))
 ·have hi:i < vs.length:=by
   unfold start at h2
   by_cases hi:i < vs.length
   ·exact hi
   ·rw [List.getElem?_append_right (by simpa using hi)] at h2
    rw [List.getElem?_replicate] at h2
    split at h2 <;> cases h2
  have ha:vs[i]? = some v:=by
   unfold start at h2
   rw [List.getElem?_append_left (by simpa using hi),List.getElem?_map] at h2
   cases e:vs[i]? with
   | none=>rw [e] at h2;cases h2
   | some a=>rw [e] at h2;cases h2;rfl
  obtain ⟨u,hu,rv⟩:=r.get ha
  have hp:ps[i]? = some y:=by
   rw [← S.pre,List.getElem?_take_of_lt (by omega)];exact h1
  have ndP:ps.Nodup:=by rw [← S.pre];exact S.nd.sublist (List.take_sublist _ _)
  refine ⟨u,rv,?_⟩
  rcases S.par y (List.mem_of_getElem? hp) with k | k
  ·exact .inl ⟨k,bindL_get ndP hp hu k⟩
  ·obtain ⟨c,e⟩:=cell_has (n:=s.heap.objs.size + 1) k
   refine .inr ⟨.inl k,c,e,?_⟩
   have q:=x.cell y c e
   rw [bindC_get ndP hp hu (by show scope.names.lookup y≠_;rw [k];decide)] at q
   exact q
 ·exact e0.hok.fresh (Nat.le_of_lt (x.above y c (PySem.mem_of_lookup h)))
 ·unfold start
  show _=N.length
  rw [List.length_append,List.length_map,List.length_replicate]
  omega
theorem fn_of {CX:CXT}{P:Program}{w:World}{K:PySem.W.Frag}{mg:Str→Option Value}{base:Heap}{k:Nat}{f:Addr}{name qual:Str}{params:Arguments}{body:List Stmt}{scope:Scope}{dV kV doc pm cdv ct oc:Value}{an od:Option Addr}
  {osl:Array (Option Value)}{N ps:List Str}{sp:Sp} (lk:K.lookup f=some ⟨oc,od,.func (PySem.W.fnOf name qual params body scope dV kV doc pm an cdv ct),osl⟩) (hcd:PySem.W.codeIn K cdv qual=true) (S:FnScope N ps scope)
  (len:∀ vs H Q E,sp vs H Q E→vs.length=ps.length)
  (hbody:∀ (A:Around) (outer:List Env) (s:Shared) (H:Hp) (vs:List V) (Q:VK) (E:XK),Room k (A.deeper (envOfC qual scope s.heap.objs.size f cdv))→sp vs H Q E →
   ∃ t,PSs (cxOf CX P w K mg base N qual scope f cdv A outer s H E) body t∧t { nx:=fun _ H'=>Q .non H',rt:=Q } (start N vs) H) :
  FnOk P w K mg base CX (k + 1) f (PySem.W.fnOf name qual params body scope dV kV doc pm an cdv ct) ps sp:=by
 refine ⟨len,fun A outer s H args us vs Q E hr e0 hb r hsp=>?_⟩
 have hl:=len _ _ _ _ hsp
 have KX:K.In s.heap:=e0.mod.kin.keeps fun b o e=>(e0.bs b o e).1
 have lim:s.heap.NoLimit:=e0.mod.nolimit.keeps fun b o e=>(e0.bs b o e).1
 have hkind:∀ y∈ps.zip us,scope.names.lookup y.1=some .local∨(scope.names.lookup y.1=some .cell∧((cellsFrom (s.heap.objs.size + 1) scope.names []).lookup y.1).isSome=true):=fun ⟨n,v⟩ hy=>by
  rcases S.par n (List.of_mem_zip hy).1 with q | q
  ·exact .inl q
  ·exact .inr ⟨q,PySem.W.cellsFrom_some _ _ _ (.inl q)⟩
 refine codeAny_call_function hr.depth (KX _ _ lk) rfl S.co S.gen rfl (PySem.W.codeRec_of KX hcd) (hb _ _ _ _ ?_)
 refine wpAny_newFunctionEnv_cells S.kind hkind fun env he s1 x=>?_
 subst he
 refine ⟨lim.keeps x.toInCall.keep,codeAny_func ?_⟩
 obtain ⟨t,ht,hq⟩:=hbody A outer s H vs Q E (hr.deeper _) hsp
 have I:Inv (cxOf CX P w K mg base N qual scope f cdv A outer s H E) [] (start N vs) H s1:=inv_start S hr.hd e0 hl r x
 refine wpAny_mono (ht [] s1 (start N vs) H _ I hq) (fun fl s' hs=>?_) fun e s' hs=>hs
 have fin:∀ {σ':St}{H':Hp}{v:V}{u:Value},Inv (cxOf CX P w K mg base N qual scope f cdv A outer s H E) [] σ' H' s'→RelV v u→Q v H'→CE outer P w H s Q u s':=
  fun {σ' H' v u} J rv q=>⟨v,H',J.os,J.bare,J.base,J.hok,rv,q⟩
 cases fl with
 | ret u=>
  obtain ⟨v,σ',H',J,rv,q⟩:=hs
  exact fin J rv q
 | next=>
  obtain ⟨σ',H',J,q⟩:=hs
  exact fin (v:=V.non) (u:=Value.none) J rfl q
 | brk=>
  obtain ⟨_,_,_,q⟩:=hs
  exact False.elim q
 | cont=>
  obtain ⟨_,_,_,q⟩:=hs
  exact False.elim q
end L2
namespace L2
open PySem PySem.Spec PyProof.Rows
section
variable {X:Cx}{x:Str}{p pos:Pos}{e:Expr}{es:List Expr}{t:TA}{id T:String}{r:List V→Hp→VK→Prop}
noncomputable def tCB (r:List V→Hp→VK→Prop) (t:TA):TE:=fun σ H Q=>t σ H fun vs H1=>r vs H1 Q
theorem pe_callB (hc:CallR X (.builtin id) r) (hg:Gl X x) (hm:X.mg x=none) (hv:bootBuiltins x=some (.builtin id)) (ha:PA X (e::es) t) (hn:autoParam (x≠"__name__") au1._auto_1) (hdb:autoParam ((x == ("__debug__":Str))=false) au1._auto_1)
  (he:autoParam (starEach (e::es) X.env=(false,eval e X.env)::starEach es X.env) au3._auto_1) (hpl:autoParam ((backTo pos (starEach es X.env)).any (·.1)=false) au3._auto_1):PE X (.Call (.Name x p) (e::es) [] pos) (tCB r t):=by
 intro pins s σ H Q I h
 refine wpAny_Call_Name_kw (ld_blt I hg hm hv ?_ hn hdb)
 exact PyProof.Rows.callWith_builtin1 (thn (ha pos pins s σ H _ I h) fun us s1 ⟨vs,H1,I1,r1,q1⟩=>hc pins s1 σ H1 vs us Q I1 r1 q1) he hpl
theorem pe_callTy (hc:CallR X (.type T) r) (hg:Gl X x) (hm:X.mg x=none) (hv:bootBuiltins x=some (.type T)) (ha:PA X (e::es) t) (hn:autoParam (x≠"__name__") au1._auto_1) (hdb:autoParam ((x == ("__debug__":Str))=false) au1._auto_1)
  (he:autoParam (starEach (e::es) X.env=(false,eval e X.env)::starEach es X.env) au3._auto_1) (hpl:autoParam ((backTo pos (starEach es X.env)).any (·.1)=false) au3._auto_1):PE X (.Call (.Name x p) (e::es) [] pos) (tCB r t):=by
 intro pins s σ H Q I h
 refine wpAny_Call_Name_kw (ld_blt I hg hm hv ?_ hn hdb)
 exact PyProof.Rows.callWith_type1 (thn (ha pos pins s σ H _ I h) fun us s1 ⟨vs,H1,I1,r1,q1⟩=>hc pins s1 σ H1 vs us Q I1 r1 q1) he hpl
end
end L2
namespace HT
open PySem PyProof.Rows
noncomputable def lexLt:List Int→List Int→Bool
 | [],[]=>false
 | [],_::_=>true
 | _::_,[]=>false
 | x::xs,y::ys=>if x=y then lexLt xs ys else decide (x < y)
theorem lexLt_cons (x y:Int) (xs ys:List Int):lexLt (x::xs) (y::ys)=if x=y then lexLt xs ys else decide (x < y):=rfl
theorem lexLt_nil_nil:lexLt [] []=false:=rfl
theorem lexLt_nil_cons (y:Int) (ys:List Int):lexLt [] (y::ys)=true:=rfl
theorem lexLt_cons_nil (x:Int) (xs:List Int):lexLt (x::xs) []=false:=rfl
theorem rcLt_int (A:Around) (s:Shared) (a:Int) (t:Tok) (c:Int) (u:Tok) (prog:Program) (w:World) (E:Value→Shared→Prop) (Q:Value→Shared→Prop) (h:Q (.bool (decide (a < c))) s) :
  wpAny (model prog w) A (richCompare .Lt (.int a t) (.int c u)) Q E s:=
 (PyProof.Rows.lt_int h:wpAny (model prog w) A (compareOp .Lt (.int a t) (.int c u)) Q E s)
section
open PySem.SeqAt
open PySem.AutoSeq1 (wpAny_loadPart')
open PySem.MeetsSeq PySem.MeetsSeq2 PySem.MeetsSeq3
end
section
variable {prog:Program}{w:World}{A:Around}{E:Value→Shared→Prop}{s:Shared}
noncomputable def sIx (n d:Nat):Option Int→Nat
 | none=>d
 | some v=>if v < 0 then (v + (n:Int)).toNat else min v.toNat n
theorem sIx_none (n d:Nat):sIx n d none=d:=rfl
theorem sIx_nat (n d k:Nat):sIx n d (some (k:Int))=min k n:=by
 show (if (k:Int) < 0 then ((k:Int) + (n:Int)).toNat else min (k:Int).toNat n)=min k n
 rw [if_neg (by omega),Int.toNat_natCast]
end
end HT
namespace L2
open PySem PySem.Spec PyProof.Rows
noncomputable abbrev TO:=St→Hp→(Option Int→Hp→Prop)→Prop
noncomputable def PO (X:Cx) (e:Option Expr) (t:TO):Prop:=
 ∀ (pins:List (Addr × Obj)) (s:Shared) (σ:St) (H:Hp) (Q:Option Int→Hp→Prop),Inv X pins σ H s→t σ H Q →
  wpAny (model X.prog X.w) X.A (evalPart e X.env) (fun u s'=>∃ o H',Inv X pins σ H' s'∧IsPart u o∧Q o H') X.xe s
noncomputable def tNoPart:TO:=fun _ H Q=>Q none H
noncomputable def tPart (t:TE):TO:=fun σ H Q=>t σ H fun x H1=>∃ i,x = .int i∧Q (some i) H1
theorem intsAre_of {ns:List Int}:∀ {us:List Value},Vals (ns.map V.int) us→IntsAre us ns:=by
 induction ns with
 | nil=>intro us r;rw [List.map_nil] at r;cases r;exact .nil
 | cons n ns ih=>
  intro us r
  rw [List.map_cons] at r
  cases r with
  | cons r1 r2=>
   obtain ⟨t,e⟩:=r1
   subst e
   exact .cons n t (ih r2)
section
variable {X:Cx}{e:Expr}{te:TE}{lo hi:Option Expr}{tl th:TO}{pos p2:Pos}
theorem po_none:PO X none tNoPart:=by
 intro pins s σ H Q I h
 rw [evalPart_none]
 exact wpAny_pure ⟨none,H,I,.none,h⟩
theorem po_some (h:PE X e te):PO X (some e) (tPart te):=by
 intro pins s σ H Q I hw
 rw [evalPart_some]
 refine thn (h pins s σ H _ I hw) fun u s1 ⟨x,H1,I1,r1,q1⟩=>?_
 obtain ⟨i,rfl,q⟩:=q1
 obtain ⟨t,rfl⟩:=r1
 exact ⟨some i,H1,I1,.int i t,q⟩
noncomputable def SlR (X:Cx) (r:V→Option Int→Option Int→Hp→VK→Prop):Prop:=
 ∀ (pins:List (Addr × Obj)) (s:Shared) (σ:St) (H:Hp) (x:V) (v vl vu:Value) (lo hi:Option Int) (sl:Addr) (Q:VK),Inv X pins σ H s→RelV x v→s.heap.IsSliceOf sl vl vu .none→IsPart vl lo→IsPart vu hi→r x lo hi H Q →
  ∃ T id,typeLookup (.type T) "__getitem__" = pure (some (.builtin id))∧s.TypeIs v T∧wpAny (model X.prog X.w) X.A (getItem v (.ref sl)) (EP X pins σ Q) X.xe s
noncomputable def tSl (r:V→Option Int→Option Int→Hp→VK→Prop) (te:TE) (tl th:TO):TE:=fun σ H Q=>te σ H fun x H1=>tl σ H1 fun l H2=>th σ H2 fun u H3=>r x l u H3 Q
theorem pe_slice {r:V→Option Int→Option Int→Hp→VK→Prop} (hr:SlR X r) (he:PE X e te) (hl:PO X lo tl) (hu:PO X hi th):PE X (.Subscript e (.Slice lo hi none p2) pos) (tSl r te tl th):=by
 intro pins s σ H Q I h
 refine Subscript_ (thn (he pins s σ H _ I h) fun v s1 ⟨x,H1,I1,r1,q1⟩=>?_)
 refine wpAny_Slice (thn (hl pins s1 σ H1 _ I1 q1) fun vl s2 ⟨l,H2,I2,pl,q2⟩=>thn (hu pins s2 σ H2 _ I2 q2) fun vu s3 ⟨u,H3,I3,pu,q3⟩=>?_)
 rw [evalPart_none]
 refine wpAny_pure ?_
 have I4:Inv X pins σ H3 { s3 with heap:=s3.heap.push { cls:=.type "slice",data:=.fields #[vl,vu,.none] } }:=I3.kept (t':=s3.toks) fun b ob q=>Heap.get?_push_of_some _ q
 obtain ⟨T,id,hT,ht,hg⟩:=hr pins { s3 with heap:=s3.heap.push { cls:=.type "slice",data:=.fields #[vl,vu,.none] } } σ H3 x v vl vu l u s3.heap.objs.size Q I4 r1 (Heap.IsSliceOf.new ..) pl pu q3
 show wpAny (model X.prog X.w) X.A (subscriptTail e (.Slice lo hi none p2) v (.ref s3.heap.objs.size)) (EP X pins σ Q) X.xe { s3 with heap:=s3.heap.push { cls:=.type "slice",data:=.fields #[vl,vu,.none] } }
 exact tail_any (ops:=[.ref s3.heap.objs.size,v]) ht hT hg (by with_unfolding_all rfl)
noncomputable def cutV (xs:List V) (lo hi:Option Int):List V:=(xs.drop (HT.sIx xs.length 0 lo)).take (HT.sIx xs.length xs.length hi - HT.sIx xs.length 0 lo)
theorem cutV_length (xs:List V) (lo hi:Option Int):(cutV xs lo hi).length≤xs.length:=by
 unfold cutV
 rw [List.length_take,List.length_drop]
 omega
end
end L2
namespace L2
open PySem PySem.Spec PyProof.Rows
noncomputable def ixN (n:Nat) (i:Int):Option Nat:=if 0≤i then (if i < n then some i.toNat else none) else if -(n:Int)≤i then some (i + n).toNat else none
noncomputable def atI {α:Type} (xs:List α) (i:Int):Option α:=(ixN xs.length i).bind fun j=>xs[j]?
theorem ixN_seq {n:Nat}{i:Int}{j:Nat} (h:ixN n i=some j):seqIndex? i n=some j∧j < n∧-(n:Int)≤i∧i < n:=by
 unfold ixN at h
 by_cases h0:0≤i
 ·rw [if_pos h0] at h
  by_cases h1:i < n
  ·rw [if_pos h1] at h
   have e:i.toNat=j:=Option.some.inj h
   exact ⟨by rw [seqIndex_of h0 h1,e],by omega,by omega,h1⟩
  ·rw [if_neg h1] at h;cases h
 ·rw [if_neg h0] at h
  by_cases h1:-(n:Int)≤i
  ·rw [if_pos h1] at h
   have e:(i + n).toNat=j:=Option.some.inj h
   exact ⟨by rw [seqIndex_neg (by omega) h1,e],by omega,h1,by omega⟩
  ·rw [if_neg h1] at h;cases h
theorem atI_get {α:Type}{xs:List α}{i:Int}{v:α} (h:atI xs i=some v):∃ j,seqIndex? i xs.length=some j∧xs[j]? = some v∧j < xs.length∧-(xs.length:Int)≤i∧i < xs.length:=by
 unfold atI at h
 cases e:ixN xs.length i with
 | none=>rw [e] at h;cases h
 | some j=>
  rw [e] at h
  obtain ⟨h1,h2,h3,h4⟩:=ixN_seq e
  exact ⟨j,h1,h,h2,h3,h4⟩
theorem atI_nat {α:Type}{xs:List α}{j:Nat}{v:α} (h:xs[j]? = some v):atI xs (j:Int)=some v:=by
 have hj:j < xs.length:=(List.getElem?_eq_some_iff.mp h).1
 have e:ixN xs.length (j:Int)=some j:=by
  unfold ixN
  rw [if_pos (by omega),if_pos (by omega)];simp
 unfold atI;rw [e];exact h
theorem atI_last {α:Type} (xs:List α) (v:α):atI (xs++[v]) (-1)=some v:=by
 have hl:(xs++[v]).length=xs.length + 1:=by simp
 have e:ixN (xs++[v]).length (-1)=some xs.length:=by
  unfold ixN
  rw [hl,if_neg (by decide),if_pos (by omega)]
  congr 1
  omega
 unfold atI
 rw [e]
 show (xs++[v])[xs.length]? = some v
 simp
noncomputable def PlainIx (b:Expr):Prop:=∀ o i,subscripted b false o i=operate [o,i] (getItem o i)
noncomputable def IxR (X:Cx) (r:R2):Prop:=
 ∀ (value slice:Expr) (pins:List (Addr × Obj)) (s:Shared) (σ:St) (H:Hp) (x y:V) (v u:Value) (Q:VK),Inv X pins σ H s→RelV x v→RelV y u→r x y H Q →
  subscripted slice false v u=operate [v,u] (getItem v u)→wpAny (model X.prog X.w) X.A (subscriptTail value slice v u) (EP X pins σ Q) X.xe s
noncomputable def MtR (X:Cx) (id:String) (r:V→List V→Hp→VK→Prop):Prop:=
 ∀ (pins:List (Addr × Obj)) (s:Shared) (σ:St) (H:Hp) (x:V) (xs:List V) (v:Value) (us:List Value) (Q:VK),Inv X pins σ H s→RelV x v→Vals xs us→r x xs H Q →
  wpAny (model X.prog X.w) X.A (call (.builtin id) (v::us)) (EP X pins σ Q) X.xe s
section
variable {X:Cx}{a b:Expr}{ta tb:TE}{pos:Pos}
theorem pe_ix {r:R2} (hr:IxR X r) (ha:PE X a ta) (hb:PE X b tb) (hs:PlainIx b):PE X (.Subscript a b pos) (tOp r ta tb):=by
 intro pins s σ H Q I h
 exact Subscript_ (binT ha hb I h fun v u s2 x y H2 I2 rx ry q=>hr a b pins s2 σ H2 x y v u Q I2 rx ry q (hs _ _))
noncomputable def rIxL (K:PySem.W.Frag):R2:=fun x y H Q=>∃ p xs i v,x = .ref p∧y = .int i∧SqL K H p xs∧atI xs i=some v∧Q v H
noncomputable def rIxT (K:PySem.W.Frag):R2:=fun x y H Q=>∃ p xs i v,x = .ref p∧y = .int i∧SqT K H p xs∧atI xs i=some v∧Q v H
noncomputable def rIxS:R2:=fun x y H Q=>∃ z i c,x = .str z∧y = .int i∧z.length≤sizeLine∧atI z.cps.toList i=some c∧Q (.str ⟨#[c]⟩) H
theorem ix_list:IxR X (rIxL X.K):=by
 intro value slice pins s σ H x y v u Q I rx ry h hs
 obtain ⟨p,xs,i,z,rfl,rfl,hq,he,q⟩:=h
 cases rx
 obtain ⟨t,rfl⟩:=ry
 obtain ⟨its,r,pl,hz⟩:=I.list hq
 obtain ⟨j,h1,h2,h3,h4,h5⟩:=atI_get he
 obtain ⟨w,ew,rw'⟩:=r.get h2
 have hl:=r.length
 have hn:=line63
 have fin:EP X pins σ Q w s:=⟨z,H,I,rw',q⟩
 by_cases h0:0≤i
 ·have hj:i.toNat=j:=by
   rw [seqIndex_of h0 h5] at h1
   exact Option.some.inj h1
  exact item_listR pl.isList h0 (by omega) (by rw [hj];simpa using ew) fin hs
 ·have hj:(i + (its.toArray.size:Int)).toNat=j:=by
   rw [seqIndex_neg (by omega) h4] at h1
   rw [List.size_toArray,← hl]
   exact Option.some.inj h1
  exact subscriptTail_builtinR (x:=w) pl.isList.typeIs slot_list_getitem.lookup
   (wpAny_getItem_list_neg (Q:=fun r s'=>r=w∧EP X pins σ Q r s') pl.isList (by omega) (by rw [List.size_toArray] <;> omega) (by omega) (by rw [hj];simpa using ew) ⟨rfl,fin⟩) hs
theorem ix_tup:IxR X (rIxT X.K):=by
 intro value slice pins s σ H x y v u Q I rx ry h hs
 obtain ⟨p,xs,i,z,rfl,rfl,hq,he,q⟩:=h
 cases rx
 obtain ⟨t,rfl⟩:=ry
 obtain ⟨its,r,pl,hz⟩:=I.tuple hq
 obtain ⟨j,h1,h2,h3,h4,h5⟩:=atI_get he
 obtain ⟨w,ew,rw'⟩:=r.get h2
 have hl:=r.length
 have hn:=line63
 have fin:EP X pins σ Q w s:=⟨z,H,I,rw',q⟩
 exact subscriptTail_builtinR (x:=w) pl.typeIs slot_tuple_getitem.lookup
  (getItem_tuple (j:=j) (Q:=fun r s'=>r=w∧EP X pins σ Q r s') pl (by omega) (by omega) (by rw [List.size_toArray,← hl];exact h1) (by simpa using ew) ⟨rfl,fin⟩) hs
theorem ix_str:IxR X rIxS:=by
 intro value slice pins s σ H x y v u Q I rx ry h hs
 obtain ⟨z,i,c,rfl,rfl,hz,he,q⟩:=h
 obtain ⟨t,rfl⟩:=rx
 obtain ⟨t',rfl⟩:=ry
 obtain ⟨j,h1,h2,h3,h4,h5⟩:=atI_get he
 have hl:z.cps.toList.length=z.length:=by simp [Str.length]
 rw [hl] at h1 h4 h5
 have hn:=line63
 exact tail_any (typeIs_str s z t) slot_str_getitem.lookup (getItem_str (c:=c) (by
  have e1:decide (i < -(2 ^ 63:Int))=false:=decide_eq_false (by omega)
  have e2:decide (i ≥ 2 ^ 63)=false:=decide_eq_false (by omega)
  rw [e1,e2,Bool.or_false]) (by rw [h1];simpa using h2) ⟨.str ⟨#[c]⟩,H,I.tok _,⟨_,rfl⟩,q⟩) hs
theorem mapSeq_set (its:List Value) (n j:Nat) (u:Value):Obj.mapSeq (·.setIfInBounds j u) { cls:=.type "list",data:=.seq its.toArray n }={ cls:=.type "list",data:=.seq (its.set j u).toArray n }:=by
 simp [Obj.mapSeq]
theorem Inv.lst {pins:List (Addr × Obj)}{σ:St}{H:Hp}{s:Shared}{p:Addr}{xs:List V} (I:Inv X pins σ H s) (h:H p=some (.lst xs)) :
  ∃ (its:List Value) (n:Nat),Vals xs its∧s.heap.get? p=some { cls:=.type "list",data:=.seq its.toArray n }∧xs.length≤sizeLine:=by
 obtain ⟨z,its,n,r,e⟩:=I.hok p _ h
 exact ⟨its,n,r,e,z⟩
theorem Inv.lstUpd {pins:List (Addr × Obj)}{σ:St}{H:Hp}{s:Shared}{p:Addr}{xs ys:List V}{its its':List Value}{n n':Nat}{f:Obj→Obj} (I:Inv X pins σ H s) (h:H p=some (.lst xs))
  (ho:s.heap.get? p=some { cls:=.type "list",data:=.seq its.toArray n }) (hf:f { cls:=.type "list",data:=.seq its.toArray n }={ cls:=.type "list",data:=.seq its'.toArray n' }) (r:Vals ys its') (hz:ys.length≤sizeLine) (t:Nat) :
  Inv X pins σ (upd H p (.lst ys)) { s with heap:=s.heap.update p f,toks:=t }:=by
 have e:(s.heap.update p f).get? p=some { cls:=.type "list",data:=.seq its'.toArray n' }:=by
  rw [Heap.get?_update_self f ho (by rw [hf] <;> rfl),hf]
 refine I.write (x:=p) (e:=p) (by rw [h];trivial) (.inl rfl) (fun b u hb q=>(Heap.get?_update_other _ _ (Ne.symm hb)).trans q) ⟨_,e⟩ ?_
 exact ⟨hz,its',n',r,e⟩
noncomputable def rSetL:V→V→V→Hp→(Hp→Prop)→Prop:=fun o i v H Q=>∃ p xs k j,o = .ref p∧i = .int k∧H p=some (.lst xs)∧ixN xs.length k=some j∧Q (upd H p (.lst (xs.set j v)))
theorem set_list:PSet X rSetL:=by
 intro pins s σ H o i v ov iv u Q I ro ri rv h
 obtain ⟨p,xs,k,j,rfl,rfl,hp,hj,q⟩:=h
 cases ro
 obtain ⟨t,rfl⟩:=ri
 obtain ⟨its,n,r,ho,hz⟩:=I.lst hp
 obtain ⟨h1,h2,h3,h4⟩:=ixN_seq hj
 have hl:=r.length
 have hn:=line63
 have I':Inv X pins σ (upd H p (.lst (xs.set j v))) { s with heap:=s.heap.update p (Obj.mapSeq (·.setIfInBounds j u)) }:=
  I.lstUpd hp ho (mapSeq_set its n j u) (r.set rv j) (by rw [List.length_set];exact hz) s.toks
 by_cases h0:0≤k
 ·have hk:k.toNat=j:=by
   rw [seqIndex_of h0 h4] at h1
   exact Option.some.inj h1
  exact PySem.W.ki_setAt ho h0 (by omega) (by rw [List.size_toArray,← hl];exact h4) (by rw [hk];exact ⟨_,I',q⟩)
 ·have hk:(k + (its.toArray.size:Int)).toNat=j:=by
   rw [seqIndex_neg (by omega) h3] at h1
   rw [List.size_toArray,← hl]
   exact Option.some.inj h1
  exact PySem.W.ki_setBack ho (by omega) (by rw [List.size_toArray,← hl];exact h3) (by omega) (by rw [hk];exact ⟨_,I',q⟩)
theorem slice_bounds (lo hi:Option Int) (n:Nat):(sliceBounds lo hi none n).1=((HT.sIx n 0 lo:Nat):Int)∧(sliceBounds lo hi none n).2.1=((HT.sIx n n hi:Nat):Int)∧(sliceBounds lo hi none n).2.2=1:=by
 refine ⟨?_,?_,rfl⟩
 ·cases lo with
  | none=>simp [sliceBounds,HT.sIx]
  | some i=>
   simp only [sliceBounds,HT.sIx,Option.getD_none,show (1:Int) > 0 by decide,if_true]
   by_cases h:i < 0
   ·simp only [h,if_true] <;> omega
   ·simp only [h,if_false] <;> omega
 ·cases hi with
  | none=>simp [sliceBounds,HT.sIx]
  | some i=>
   simp only [sliceBounds,HT.sIx,Option.getD_none,show (1:Int) > 0 by decide,if_true]
   by_cases h:i < 0
   ·simp only [h,if_true] <;> omega
   ·simp only [h,if_false] <;> omega
theorem slicePick_cut (its:List Value) (lo hi:Option Int):slicePick its.toArray lo hi none=((its.drop (HT.sIx its.length 0 lo)).take (HT.sIx its.length its.length hi - HT.sIx its.length 0 lo)).toArray:=by
 obtain ⟨h1,h2,h3⟩:=slice_bounds lo hi its.toArray.size
 unfold slicePick
 rw [h1,h2,h3]
 simp only [sliceRange_one,pick_run,List.size_toArray] <;> rfl
noncomputable def rSlL (K:PySem.W.Frag):V→Option Int→Option Int→Hp→VK→Prop:=fun x lo hi H Q=>∃ a xs,x = .ref a∧SqL K H a xs∧∀ p,H p=none→Q (.ref p) (upd H p (.lst (cutV xs lo hi)))
theorem sl_list:SlR X (rSlL X.K):=by
 intro pins s σ H x v vl vu lo hi sl Q I rx hs pl pu h
 obtain ⟨a,xs,rfl,hx,q⟩:=h
 cases rx
 obtain ⟨its,r,ht,hz⟩:=I.list hx
 have hlen:=r.length
 refine ⟨"list",_,slot_list_getitem.lookup,ht.isList.typeIs,?_⟩
 refine wpAny_getItem_list_slice ht.isList hs pl pu .none (by simp) ?_ (by rw [List.size_toArray] <;> omega)
 rw [slicePick_cut,← hlen]
 refine ⟨.ref s.heap.objs.size,_,I.laid (t':=s.toks) (o:=.lst (cutV xs lo hi)) (fun b ob q=>Heap.get?_push_of_some _ q) (Nat.le_refl _) ?_,rfl,q _ (I.hok.fresh (Nat.le_refl _))⟩
 exact ⟨Nat.le_trans (cutV_length xs lo hi) hz,_,0,(r.drop (HT.sIx xs.length 0 lo)).take (HT.sIx xs.length xs.length hi - HT.sIx xs.length 0 lo),Heap.get?_push_size _ rfl⟩
noncomputable def flatV:V→Bool
 | .non=>true
 | .bl _=>true
 | .int _=>true
 | .str _=>true
 | _=>false
noncomputable def eqV:V→V→Bool
 | .non,.non=>true
 | .bl a,.bl b=>a == b
 | .bl a,.int b=>(if a then 1 else 0) == b
 | .int a,.bl b=>a == (if b then 1 else 0)
 | .int a,.int b=>a == b
 | .str a,.str b=>a == b
 | _,_=>false
theorem eqAt_V {A:Around}{s:Shared}{y x:V}{u v:Value} (ry:RelV y u) (rx:RelV x v) (fy:flatV y=true) (fx:flatV x=true):SeqAt.EqAt A s u v (eqV y x):=by
 cases y with
 | non=>
  cases ry
  cases x with
  | non=>cases rx;exact SeqAt.EqAt.same _
  | bl b=>cases rx;exact SeqAt.EqAt.none_bool b
  | int b=>obtain ⟨t,rfl⟩:=rx;exact SeqAt.EqAt.none_int b t
  | str b=>obtain ⟨t,rfl⟩:=rx;exact SeqAt.EqAt.none_str b t
  | _=>exact absurd (show false=true from fx) Bool.false_ne_true
 | bl a=>
  cases ry
  cases x with
  | non=>cases rx;exact SeqAt.EqAt.bool_none a
  | bl b=>cases rx;exact SeqAt.EqAt.bool_bool a b
  | int b=>obtain ⟨t,rfl⟩:=rx;exact SeqAt.EqAt.bool_int a b t
  | str b=>obtain ⟨t,rfl⟩:=rx;exact SeqAt.EqAt.bool_str a b t
  | _=>exact absurd (show false=true from fx) Bool.false_ne_true
 | int a=>
  obtain ⟨t',rfl⟩:=ry
  cases x with
  | non=>cases rx;exact SeqAt.EqAt.int_none a t'
  | bl b=>cases rx;exact SeqAt.EqAt.int_bool a t' b
  | int b=>obtain ⟨t,rfl⟩:=rx;exact SeqAt.EqAt.int_int a t' b t
  | str b=>obtain ⟨t,rfl⟩:=rx;exact SeqAt.EqAt.int_str a t' b t
  | _=>exact absurd (show false=true from fx) Bool.false_ne_true
 | str a=>
  obtain ⟨t',rfl⟩:=ry
  cases x with
  | non=>cases rx;exact SeqAt.EqAt.str_none a t'
  | bl b=>cases rx;exact SeqAt.EqAt.str_bool a t' b
  | int b=>obtain ⟨t,rfl⟩:=rx;exact SeqAt.EqAt.str_int a t' b t
  | str b=>obtain ⟨t,rfl⟩:=rx;exact SeqAt.EqAt.str_str a t' b t
  | _=>exact absurd (show false=true from fx) Bool.false_ne_true
 | _=>exact absurd (show false=true from fy) Bool.false_ne_true
noncomputable def eqU (x:V) (u:Value):Bool:=match u with
 | .none=>eqV .non x
 | .bool b=>eqV (.bl b) x
 | .int i _=>eqV (.int i) x
 | .str z _=>eqV (.str z) x
 | _=>false
theorem eqU_of {x y:V}{u:Value} (r:RelV y u) (f:flatV y=true):eqU x u=eqV y x:=by
 cases y with
 | non=>cases r;rfl
 | bl b=>cases r;rfl
 | int i=>obtain ⟨t,rfl⟩:=r;rfl
 | str z=>obtain ⟨t,rfl⟩:=r;rfl
 | _=>exact absurd (show false=true from f) Bool.false_ne_true
theorem any_eqU {x:V}:∀ {xs:List V}{us:List Value},Vals xs us→xs.all flatV=true→us.any (eqU x)=xs.any fun y=>eqV y x
 | _,_,.nil,_=>rfl
 | y::xs,u::us,.cons r t,f=>by
  rw [List.all_cons,Bool.and_eq_true] at f
  rw [List.any_cons,List.any_cons,eqU_of r f.1,any_eqU t f.2]
theorem mem_eqAt {A:Around}{s:Shared}{x:V}{v:Value} (rx:RelV x v) (fx:flatV x=true):∀ {xs:List V}{us:List Value},Vals xs us→xs.all flatV=true→∀ u∈us,SeqAt.EqAt A s u v (eqU x u)
 | _,_,.nil,_=>fun u hu=>by cases hu
 | y::xs,u::us,.cons r t,f=>fun u' hu=>by
  rw [List.all_cons,Bool.and_eq_true] at f
  rcases List.mem_cons.mp hu with rfl | hu
  ·rw [eqU_of r f.1];exact eqAt_V r rx f.1 fx
  ·exact mem_eqAt rx fx t f.2 u' hu
noncomputable def inV (x:V) (xs:List V):Bool:=xs.any fun y=>eqV y x
noncomputable def rIn (K:PySem.W.Frag) (neg:Bool):R2:=fun x y H Q=>∃ p xs,y = .ref p∧(SqL K H p xs∨SqT K H p xs)∧flatV x=true∧xs.all flatV=true∧Q (.bl (if neg then !inV x xs else inV x xs)) H
theorem op_in_seq:OpR X (compareOp .In) (rIn X.K false):=by
 intro pins s σ H x y v u Q I rx ry h
 obtain ⟨p,xs,rfl,hq,fx,fs,q⟩:=h
 cases ry
 rcases hq with hq | hq
 ·obtain ⟨its,r,pl,hz⟩:=I.list hq
  refine SeqAt.in_listAt (eqU x) pl.isList (fun w hw=>mem_eqAt rx fx r fs w (by simpa using hw)) ⟨.bl _,H,I,rfl,?_⟩
  rw [show its.toArray.any (eqU x)=its.any (eqU x) by simp,any_eqU r fs]
  exact q
 ·obtain ⟨its,r,pl,hz⟩:=I.tuple hq
  refine SeqAt.in_tupleAt (eqU x) pl (fun w hw=>mem_eqAt rx fx r fs w (by simpa using hw)) ⟨.bl _,H,I,rfl,?_⟩
  rw [show its.toArray.any (eqU x)=its.any (eqU x) by simp,any_eqU r fs]
  exact q
theorem call_len_seq:CallR X (.builtin "len") (fun xs H Q=>∃ p ys,xs=[.ref p]∧(SqL X.K H p ys∨SqT X.K H p ys)∧Q (.int ys.length) H):=by
 intro pins s σ H xs us Q I r h
 obtain ⟨p,ys,rfl,hq,q⟩:=h
 obtain ⟨u,rfl,rx⟩:=vals1 r
 cases rx
 have hn:=line63
 rcases hq with hq | hq
 ·obtain ⟨its,r',pl,hz⟩:=I.list hq
  have hlen:=r'.length
  exact Calls.call_len_list pl.isList (by simp only [List.size_toArray] <;> omega) ⟨.int ys.length,H,I.tok _,⟨s.toks + 1,by rw [List.size_toArray,hlen]⟩,q⟩
 ·obtain ⟨its,r',pl,hz⟩:=I.tuple hq
  have hlen:=r'.length
  exact len_tuple pl (by simp only [List.size_toArray] <;> omega) ⟨.int ys.length,H,I.tok _,⟨s.toks + 1,by rw [List.size_toArray,hlen]⟩,q⟩
theorem call_len_str:CallR X (.builtin "len") (fun xs H Q=>∃ z,xs=[.str z]∧z.length≤sizeLine∧Q (.int z.length) H):=by
 intro pins s σ H xs us Q I r h
 obtain ⟨z,rfl,hz,q⟩:=h
 obtain ⟨u,rfl,t,rfl⟩:=vals1 r
 have hn:=line63
 exact len_str (by omega) ⟨.int z.length,H,I.tok _,⟨_,rfl⟩,q⟩
theorem call_list_of:CallR X (.type "list") (fun xs H Q=>∃ p ys,xs=[.ref p]∧(SqL X.K H p ys∨SqT X.K H p ys)∧∀ l,H l=none→Q (.ref l) (upd H l (.lst ys))):=by
 intro pins s σ H xs us Q I r h
 obtain ⟨p,ys,rfl,hq,q⟩:=h
 obtain ⟨u,rfl,rx⟩:=vals1 r
 cases rx
 have fin:∀ (its:List Value),Vals ys its→ys.length≤sizeLine→∀ (h':Heap) (c':Nat),(∀ b o',s.heap.get? b=some o'→h'.get? b=some o') →
   h'.get? s.heap.objs.size=some { cls:=.type "list",dict:=none,data:=.seq its.toArray c',slots:=#[] }→EP X pins σ Q (.ref s.heap.objs.size) { s with heap:=h' }:=fun its r' hz h' c' kp e=>
  ⟨.ref s.heap.objs.size,_,I.laid (t':=s.toks) kp (Nat.le_refl _) (show ObjOk X.prog X.w _ h' _ (.lst ys) from ⟨hz,its,c',r',e⟩),rfl,q _ (I.hok.fresh (Nat.le_refl _))⟩
 rcases hq with hq | hq
 ·obtain ⟨its,r',pl,hz⟩:=I.list hq
  have hlen:=r'.length
  obtain ⟨o,ho,hc,n,hd⟩:=pl.isList
  exact call_list_seq p (.inl rfl) ho hc hd (fun h' c' kp e=>fin its r' hz h' c' kp e) (by simp only [List.size_toArray] <;> omega)
 ·obtain ⟨its,r',pl,hz⟩:=I.tuple hq
  have hlen:=r'.length
  obtain ⟨o,ho,hc,n,hd⟩:=pl
  exact call_list_seq p (.inr rfl) ho hc hd (fun h' c' kp e=>fin its r' hz h' c' kp e) (by simp only [List.size_toArray] <;> omega)
noncomputable def tyV (K:PySem.W.Frag) (T:String) (x:V) (H:Hp):Prop:=match x with
 | .str _=>T = "str"
 | .int _=>T = "int"
 | .ref p=>(T = "list"∧∃ xs,SqL K H p xs)∨(T = "tuple"∧∃ o,K.lookup p=some o∧o.cls = .type "tuple"∧o.dict=none) ∨
   (T = "dict"∧((∃ kvs,H p=some (.dK kvs))∨∃ kvs,H p=some (.dT kvs)))∨(T = "set"∧∃ S n,H p=some (.set S n))
 | _=>False
theorem tyV_is {pins:List (Addr × Obj)}{σ:St}{H:Hp}{s:Shared}{T:String}{x:V}{v:Value} (I:Inv X pins σ H s) (r:RelV x v) (ty:tyV X.K T x H) :
  s.TypeIs v T∧∀ a,v = .ref a→∃ ob,s.heap.get? a=some ob∧ob.dict=none:=by
 cases x with
 | str z=>
  obtain ⟨t,rfl⟩:=r
  cases (show T = "str" from ty)
  exact ⟨typeIs_str s z t,fun _ e=>nomatch e⟩
 | int i=>
  obtain ⟨t,rfl⟩:=r
  cases (show T = "int" from ty)
  exact ⟨typeIs_int s i t,fun _ e=>nomatch e⟩
 | ref p=>
  cases r
  rcases ty with ⟨rfl,xs,hq⟩ | ⟨rfl,o,hk,hc,hd⟩ | ⟨rfl,hk⟩ | ⟨rfl,S,n,hk⟩
  ·obtain ⟨its,_,pl,_⟩:=I.list hq
   refine ⟨pl.isList.typeIs,fun a e=>?_⟩
   cases e
   obtain ⟨o,n,e,c,hd,_⟩:=pl
   exact ⟨o,e,hd⟩
  ·refine ⟨⟨o,I.kIn p o hk,hc⟩,fun a e=>?_⟩
   cases e
   exact ⟨o,I.kIn _ o hk,hd⟩
  ·have z:∃ o,s.heap.get? p=some o∧o.ExactDict:=by
    rcases hk with ⟨kvs,hk⟩ | ⟨kvs,hk⟩
    ·obtain ⟨_,_,_,_,o,_,_,e,ex,_⟩:=I.hok p _ hk
     exact ⟨o,e,ex⟩
    ·obtain ⟨_,_,_,_,o,_,_,e,ex,_⟩:=I.hok p _ hk
     exact ⟨o,e,ex⟩
   obtain ⟨o,e,ex⟩:=z
   refine ⟨⟨o,e,ex.1⟩,fun a e2=>?_⟩
   cases e2
   exact ⟨o,e,ex.2.1⟩
  ·obtain ⟨o,_,_,_,e,ex,_⟩:=I.hok p _ hk
   refine ⟨⟨o,e,ex.1⟩,fun a e2=>?_⟩
   cases e2
   exact ⟨o,e,ex.2.1⟩
 | _=>exact False.elim ty
noncomputable def tBM (K:PySem.W.Frag) (T:String) (r:V→List V→Hp→VK→Prop) (to:TE) (t:TA):TE:=fun σ H Q=>to σ H fun x H1=>tyV K T x H1∧t σ H1 fun xs H2=>r x xs H2 Q
variable {o e:Expr}{es:List Expr}{to:TE}{t:TA}{name:Str}{apos cpos:Pos}{T id:String}{r:V→List V→Hp→VK→Prop}
theorem pe_bm (pa:PlainAttrs T) (slot:Slot T name id) (hty:typeOf (.builtin id)=pure (.type "method_descriptor")) (hm:MtR X id r) (ho:PE X o to) (ha:PA X (e::es) t)
  (hbase:autoParam (attributeBase o name X.env (eval o X.env)=eval o X.env) au3._auto_1)
  (hfew:autoParam (((backTo cpos (starEach (e::es) X.env)).all (fun x=>!x.1) && (backToKw cpos (keywordEach [] X.env)).all (fun x=>x.1.isSome)
   && decide ((e::es).length + ([]:List Keyword).length + (if ([]:List Keyword).isEmpty then 0 else 1) < 30))=true) au3._auto_1)
  (hline:autoParam ((apos.endLine == cpos.line)=true) au3._auto_1) (hs:autoParam (starEach (e::es) X.env=(false,eval e X.env)::starEach es X.env) au3._auto_1) (hplain:autoParam ((backTo cpos (starEach es X.env)).any (·.1)=false) au3._auto_1) :
  PE X (.Call (.Attribute o name apos) (e::es) [] cpos) (tBM X.K T r to t):=by
 intro pins s σ H Q I h
 refine wpAny_Call_method_late hbase hfew hline rfl (thn (ho pins s σ H _ I h) fun v s1 ⟨x,H1,I1,r1,ty,q1⟩=>?_)
 obtain ⟨h1,h2⟩:=tyV_is I1 r1 ty
 refine ⟨T,id,pa,slot,hty,h1,h2,?_⟩
 have hA:=ha cpos pins s1 σ H1 _ I1 q1
 rw [hs] at hA ⊢
 refine Calls.callWith_builtin (by show (false || (backTo cpos (starEach es X.env)).any (·.1))=false;rw [hplain] <;> rfl) (Calls.evalArgs_plain ?_)
 exact thn hA fun us s2 ⟨vs,H2,I2,r2,q2⟩=>hm pins s2 σ H2 x vs v us Q I2 r1 r2 q2
end
end L2
namespace L2
open PySem PySem.Spec PyProof.Rows
noncomputable def MtM (X:Cx) (id:String) (r:V→List V→Hp→VK→Prop):Prop:=
 ∀ (pins:List (Addr × Obj)) (s:Shared) (σ:St) (H:Hp) (x:V) (xs:List V) (v:Value) (us:List Value) (Q:VK),Inv X pins σ H s→RelV x v→Vals xs us→r x xs H Q →
  wpAny (model X.prog X.w) X.A (call (.builtin id) (v::us)) (EP X pins σ Q) X.xe s
theorem Vals.one {x:V}{us:List Value} (h:Vals [x] us):∃ u,us=[u]∧RelV x u:=by
 cases h with
 | cons r t=>
  cases t
  exact ⟨_,rfl,r⟩
theorem Vals.two {x y:V}{us:List Value} (h:Vals [x,y] us):∃ u v,us=[u,v]∧RelV x u∧RelV y v:=by
 cases h with
 | cons r t=>
  cases t with
  | cons q t=>
   cases t
   exact ⟨_,_,rfl,r,q⟩
section
variable {X:Cx}{pins:List (Addr × Obj)}{σ:St}{H:Hp}{s:Shared}{l b:Addr}{xs ys zs:List V}
theorem Inv.lset {its its':List Value}{n:Nat}{f:Array Value→Array Value}{t':Nat} (I:Inv X pins σ H s) (hH:H l=some (.lst xs))
  (e:s.heap.get? l=some { cls:=.type "list",data:=.seq its.toArray n }) (hf:f its.toArray=its'.toArray) (hv:Vals ys its') (hz:ys.length≤sizeLine) :
  Inv X pins σ (upd H l (.lst ys)) { s with heap:=s.heap.update l (Obj.mapSeq f),toks:=t' }:=by
 have q:=PySem.IsL.update e f
 rw [hf] at q
 refine I.write (x:=l) (e:=l) (by rw [hH];exact trivial) (.inl rfl) (fun b' u hb hu=>(Heap.get?_update_other s.heap (Obj.mapSeq f) (Ne.symm hb)).trans hu) ⟨_,q⟩ ?_
 exact ⟨hz,its',_,hv,q⟩
theorem Inv.lnew {its:List Value}{t':Nat} (I:Inv X pins σ H s) (hv:Vals ys its) (hz:ys.length≤sizeLine) :
  Inv X pins σ (upd H s.heap.objs.size (.lst ys)) { s with heap:=s.heap.push { cls:=.type "list",data:=.seq its.toArray },toks:=t' }:=
 I.laid (fun _ _ q=>Heap.get?_push_of_some _ q) (Nat.le_refl _) ⟨hz,its,0,hv,Heap.get?_push_size _ rfl⟩
theorem Inv.fresh (I:Inv X pins σ H s):H s.heap.objs.size=none:=I.hok.fresh (Nat.le_refl _)
theorem Inv.lstM (I:Inv X pins σ H s) (hH:H l=some (.lst xs)):xs.length≤sizeLine∧∃ (its:List Value) (n:Nat),Vals xs its∧xs.length=its.length∧s.heap.get? l=some { cls:=.type "list",data:=.seq its.toArray n }:=by
 obtain ⟨z,its,n,r,e⟩:=I.hok l _ hH
 exact ⟨z,its,n,r,r.length,e⟩
end
section
variable {X:Cx}
noncomputable def rAppend:V→List V→Hp→VK→Prop:=fun x vs H Q=>∃ l xs y,x = .ref l∧vs=[y]∧H l=some (.lst xs)∧xs.length < sizeLine∧Q .non (upd H l (.lst (xs++[y])))
theorem mt_append:MtM X "list.append" rAppend:=by
 intro pins s σ H x vs v us Q I rx rv h
 obtain ⟨l,xs,y,rfl,rfl,hH,hz,q⟩:=h
 cases rx
 obtain ⟨u,rfl,ru⟩:=rv.one
 obtain ⟨z,its,n,r,hl,e⟩:=I.lstM hH
 refine call_meets F.slot_list_append ⟨_,e,rfl⟩ F.entry_list_append (F.args_list_append_2 _ _) (PySem.list_append l its.toArray n u (by rw [List.size_toArray];omega)) ⟨e,?_⟩
 refine ⟨.non,_,I.lset (its':=its++[u]) hH e (by simp) (r.append (.cons ru .nil)) ?_,rfl,q⟩
 rw [List.length_append,List.length_singleton]
 omega
end
section
variable {prog:Program}{w:World}{A:Around}{E:Value→Shared→Prop}{s:Shared}
set_option maxRecDepth 100000 in
end
section
variable {X:Cx}
end
end L2
namespace Att
open PySem PySem.W PySem.Calls PyProof.Rows
theorem ints_of_wellAll {P:Params}{h:Heap}:∀ (ns:List Int) (vs:List Value),WellAll P h vs (ns.map WData.int)→IntsAre vs ns:=by
 intro ns
 induction ns with
 | nil=>
  intro vs w
  rw [List.map_nil] at w
  cases w
  exact .nil
 | cons n ns ih=>
  intro vs w
  rw [List.map_cons] at w
  cases w with
  | cons a b=>
   cases a
   exact .cons _ _ (ih _ b)
theorem script_of {l:OpenLaw}{n:Nat} (hn:l.most=some n) {P:Params}{h:Heap}{args:List WData}{vals:List Value}
  (hpre:l.row.toRowW.claim.pre args=true) (hwl:WellAll P h vals args) :
  ∃ a vs ns,vals=[Value.ref a]∧args=[WData.list (ns.map WData.int)]∧h.get? a=some { cls:=.type "list",data:=.seq vs.toArray }∧IntsAre vs ns∧ns.length≤n:=by
 have hsh:WShape.hasAll [] args [.list .int]=true:=(pre_splitW hpre).1
 have hc:l.pre.holds [] { args:=args }=true:=(pre_splitW hpre).2
 obtain ⟨d,r,rfl,h1,h2⟩:=hasAllW_cons hsh
 obtain rfl:=hasAllW_nil h2
 obtain ⟨xs,rfl,h3⟩:=hasW_list h1
 obtain ⟨ns,rfl⟩:=items_int h3
 have hlen:ns.length≤n:=by
  unfold OpenLaw.pre at hc
  have h4:(WTm.not (.lt (.lit (.int (n:Int))) (.len (.arg 0)))).holds [] { args:=[.list (ns.map .int)] }=true:=by
   have h4:=(holds_andW hc).1
   rw [hn] at h4
   exact h4
  have h5:=condW_of h4 (w_not (w_lt w_lit (w_len_list (w_arg rfl))))
  rw [List.length_map] at h5
  refine Nat.le_of_not_lt fun q=>?_
  have q':(n:Int) < ((ns.length:Nat):Int):=by omega
  first
   | (rw [decide_eq_true q'] at h5;exact absurd h5 (by decide))
   | (simp at h5;omega)
 cases hwl with
 | cons w1 w2=>
  cases w2
  cases w1 with
  | list ho hall=>exact ⟨_,_,ns,rfl,rfl,ho,ints_of_wellAll ns _ hall,hlen⟩
theorem post_true (l:OpenLaw) (args:List WData):l.row.toRowW.claim.post args (.bool true) args=true:=
 postW_of (r:=l.row.toRowW) (X:=(true == true))
  (show WShape.has [] (.bool true) .bool=true by first | rfl | decide | simp [WShape.has,WShape.arms,WShape.armsAll])
  (show (WTm.eq .res (.lit (.bool true))).value [] { args:=args,res:=some (.bool true),after:=args }=some (.bool (true == true)) from w_eq_bool (w_res rfl) w_lit) rfl
theorem attach_call {l:OpenLaw}{n:Nat}{q:Program}{loose:List Str}{XP:(Str→Option Value)→Heap→Prop}{YP:World→Heap→Prop}{d:DefRec}
  (hn:l.most=some n) (hdf:d.params.defaults=[])
  (call:∀ (w:World) (s₀ s₁:Shared) (mg mb:Str→Option Value) (fa:Addr) (o:Obj) (pm cd doc:Value) (a:Addr) (vs:List Value) (ns:List Int),
   Ground q loose [] XP w s₀ mg mb s₁.heap→YP w s₁.heap →
   s₁.heap.get? fa=some o→o.data = .func (docDef d.name d.params d.body d.scope pm cd doc)→s₁.heap.CodeRec cd d.name→mg d.name=some (.ref fa) →
   s₁.heap.get? a=some { cls:=.type "list",data:=.seq vs.toArray }→IntsAre vs ns→ns.length≤n→s₁.gens = #[] →
   codeAny (model l.prog w) callerA (.call (.ref fa) ⟨[.ref a],[]⟩) (fun r s'=>r = .ok (.ret (.bool true))∧OldK s₁.heap s'.heap∧s'.os=s₁.os∧AllBare s'.gens) s₁) :
  WalkO q loose XP YP l.row.toRowW d [] (fun f vs=>PySem.call f vs):=by
 intro w s₀ s₁ mg mb G Y fa o pm cd doc dV kV ho hd hcd hD hmg hg args vals as hpre hlay hrd hwl hlo
 obtain rfl:dV = .none:=Dflts.none hD hdf
 obtain rfl:kV = .none:=Dflts.noKw hD
 obtain ⟨a,vs,ns,rfl,rfl,hobj,hints,hlen⟩:=script_of hn hpre hwl
 refine enter_call (codeAny_mono (call w s₀ s₁ mg mb fa o pm cd doc a vs ns G Y ho (fd_plain hd) hcd hmg hobj hints hlen hg) fun r s' hq=>?_)
 obtain ⟨rfl,h2,h3,h4⟩:=hq
 exact ⟨.inl ⟨.bool true,.bool true,[],rfl,fun _=>rfl,.bool true,post_true l _,fun _=>⟨List.Pairwise.nil,fun _ hm=>(nomatch hm)⟩⟩,h2,h3,h4⟩
section
variable {prog:Program}{w:World}{A:Around}{E:Value→Shared→Prop}{s:Shared}{K:Frag}
end
end Att
namespace L2
open PySem PySem.Spec PyProof.Rows
theorem vals_ints:∀ {vs:List Value}{ns:List Int},IntsAre vs ns→Vals (ns.map V.int) vs
 | _,_,.nil=>.nil
 | _,_,.cons n t h=>.cons ⟨t,rfl⟩ (vals_ints h)
noncomputable def Only (H:Hp):Prop:=∀ b,H b=none∨∃ o xs,H b=some (.frz o (.lst xs))
theorem law_call {P:Program}{w:World}{K:PySem.W.Frag}{mg mb:Str→Option Value}{CX:CXT}{k:Nat}{fa a:Addr}{fd:FuncData}{x:Str}{sp:Sp}{s₁:Shared}{vs:List Value}{ns:List Int}
  (KX:K.In s₁.heap) (hns:s₁.heap.Ns mainGlobals mg) (hb:s₁.heap.Ns builtinsNs mb) (hbb:∀ x:Str,x≠"__name__"→mb x=bootBuiltins x) (hlim:s₁.heap.NoLimit) (hg:s₁.gens = #[])
  (ha:s₁.heap.get? a=some { cls:=.type "list",data:=.seq vs.toArray }) (hi:IntsAre vs ns) (hl:ns.length≤sizeLine) (hr:Room k callerA)
  (F:∀ base:Heap,K.In base→base.Ns mainGlobals mg→FnOk P w K mg base CX k fa fd [x] sp) (hbind:∀ (s:Shared) (u:Value),BindsTo s fd ⟨[u],[]⟩ [(x,u)])
  (hsp:∀ H:Hp,Only H→SqL K H a (ns.map V.int)→sp [.ref a] H (fun v _=>v = .bl true) fun _ _ _=>False)
  (hCX:∀ H e s',CX [] H s₁ (fun _ _ _=>False) e s'→False) :
  codeAny (model P w) callerA (.call (.ref fa) ⟨[.ref a],[]⟩) (fun r s'=>r = .ok (.ret (.bool true))∧OldK s₁.heap s'.heap∧s'.os=s₁.os∧AllBare s'.gens) s₁:=by
 have rv:=vals_ints hi
 have lenV:=hi.length
 have core:∀ H:Hp,Only H→SqL K H a (ns.map V.int)→HOk P w H s₁.heap→(∀ b,H b≠none→b=a)→(H a≠none→K.lookup a=none) →
   codeAny (model P w) callerA (.call (.ref fa) ⟨[.ref a],[]⟩) (fun r s'=>r = .ok (.ret (.bool true))∧OldK s₁.heap s'.heap∧s'.os=s₁.os∧AllBare s'.gens) s₁:=by
  intro H hO hS hok hA hK
  have base_of:∀ {b:Addr}{o:Obj},s₁.heap.get? b=some o→H b=none→(hidT s₁.heap H).get? b=some o:=fun e n=>hidT_get e n
  have noA:∀ {b:Addr}{o:Obj}{es:Array DictEntry}{ep:Nat},s₁.heap.get? b=some o→o.data = .dict es ep→H b=none:=fun {b o es ep} e d=>by
   cases q:H b with
   | none=>rfl
   | some u=>
    have e':b=a:=hA b (by rw [q];simp)
    subst e'
    rw [ha] at e;cases e
    have d':Data.seq vs.toArray _=Data.dict es ep:=d
    cases d'
  have nsK:∀ {b:Addr}{m:Str→Option Value},s₁.heap.Ns b m→(hidT s₁.heap H).Ns b m:=fun {b m} ⟨o,es,ep,e,d,r⟩=>⟨o,es,ep,base_of e (noA e d),d,r⟩
  have hKb:K.In (hidT s₁.heap H):=fun b o e=>base_of (KX b o e) (by
   cases q:H b with
   | none=>rfl
   | some u=>
    have e':b=a:=hA b (by rw [q];simp)
    subst e'
    rw [hK (by rw [q];simp)] at e;cases e)
  have hM:Mod K mg (hidT s₁.heap H):=⟨hKb,nsK hns,⟨mb,nsK hb,hbb⟩,let ⟨mc,h1,h2⟩:=hlim;⟨mc,nsK h1,h2⟩⟩
  have e0:Env0 P w K mg (hidT s₁.heap H) callerA [] s₁ H:=⟨rfl,hM,fun b o e=>of_hidT e,Nat.le_of_eq (hidT_size _ _),trivial,fun b hb=>absurd (show b∈([]:List Addr) from hb) (by simp),hok,.of_eq hg⟩
  refine codeAny_mono ((F _ hKb (nsK hns)).run callerA [] s₁ H ⟨[.ref a],[]⟩ [.ref a] [.ref a] _ _ hr e0 (hbind s₁ (.ref a)) (.cons rfl .nil) (hsp H hO hS)) fun r s' h=>?_
  cases r with
  | error e=>exact (hCX H e s' h).elim
  | ok fl=>
   cases fl with
   | next=>exact False.elim h
   | brk=>exact False.elim h
   | cont=>exact False.elim h
   | ret u=>
    obtain ⟨v,H',os,bare,un,hok',r',q⟩:=h
    have q':v = .bl true:=q
    subst q'
    obtain rfl:u=Value.bool true:=r'
    refine ⟨rfl,OldK.of_keep fun b o e=>?_,os,bare⟩
    cases q:H b with
    | none=>exact un.keep b o e q (by intro z;exact absurd (show b∈([]:List Addr) from z) (by simp)) (by simp)
    | some u=>
     rcases hO b with z | ⟨ob,xs,z⟩
     ·rw [q] at z;cases z
     ·have z2:=un.frzs b ob _ z
      obtain ⟨e1,_⟩:=hok b _ z
      obtain ⟨e2,_⟩:=hok' b _ z2
      rw [e] at e1;cases e1
      exact e2
 cases hk:K.lookup a with
 | some o=>
  have e:=KX a o hk
  rw [ha] at e
  cases e
  refine core (fun _=>none) (fun _=>.inl rfl) (.inr ⟨_,vs.toArray,_,hk,rfl,rfl,rfl,by rw [List.size_toArray,lenV];exact hl,by simpa using rv⟩) (fun b u z=>by have z':(none:Option HO)=some u:=z;cases z') (fun b z=>absurd rfl z) fun z=>absurd rfl z
 | none=>
  refine core (fun b=>if b=a then some (.frz { cls:=.type "list",data:=.seq vs.toArray } (.lst (ns.map V.int))) else none) (fun b=>?_) (.inl (.inr ⟨{ cls:=.type "list",data:=.seq vs.toArray },if_pos rfl⟩)) (fun b u z=>?_) (fun b z=>?_) fun _=>hk
  ·by_cases hb:b=a
   ·exact .inr ⟨_,_,if_pos hb⟩
   ·exact .inl (if_neg hb)
  ·by_cases hb:b=a
   ·have z':=(if_pos hb).symm.trans z
    cases z'
    subst hb
    exact ⟨ha,by rw [List.length_map];exact hl,vs,_,rv,ha⟩
   ·have z':=(if_neg hb).symm.trans z
    cases z'
  ·by_cases hb:b=a
   ·exact hb
   ·exact absurd (if_neg hb) z
end L2
namespace L2
open PySem PySem.Spec PyProof.Rows
theorem walk_of {l:PySem.W.OpenLaw}{n k:Nat}{q:Program}{loose:List Str}{XP:(Str→Option Value)→Heap→Prop}{YP:World→Heap→Prop}{d:DefRec}{K:Params→PySem.W.Frag}{CX:World→CXT}{sp:World→Sp}{x:Str}
  (hn:l.most=some n) (hn2:n≤sizeLine) (hdf:d.params.defaults=[]) (hr:Room k callerA)
  (hY:∀ (w:World) (h:Heap),YP w h→(K w.params).In h)
  (F:∀ (w:World) (mg:Str→Option Value) (fa:Addr) (h:Heap),(K w.params).In h→h.Ns mainGlobals mg→mg d.name=some (.ref fa) →
   ∃ fd:FuncData,(∀ (s:Shared) (u:Value),BindsTo s fd ⟨[u],[]⟩ [(x,u)]) ∧
    ∀ base:Heap,(K w.params).In base→base.Ns mainGlobals mg→FnOk l.prog w (K w.params) mg base (CX w) k fa fd [x] (sp w))
  (hsp:∀ (w:World) (H:Hp) (a:Addr) (ns:List Int),ns.length≤n→Only H→SqL (K w.params) H a (ns.map V.int)→sp w [.ref a] H (fun v _=>v = .bl true) fun _ _ _=>False)
  (hCX:∀ (w:World) (H:Hp) (s:Shared) (e:Value) (s':Shared),CX w [] H s (fun _ _ _=>False) e s'→False) :
  PySem.W.WalkO q loose XP YP l.row.toRowW d [] (fun f vs=>PySem.call f vs):=by
 refine Att.attach_call hn hdf fun w s₀ s₁ mg mb fa o pm cd doc a vs ns G Y ho hd hcd hmg hobj hints hlen hg=>?_
 have KX:=hY w _ Y
 obtain ⟨fd,hb,hF⟩:=F w mg fa _ KX G.T.g hmg
 exact law_call KX G.T.g G.T.b G.T.builtins G.T.nolimit hg hobj hints (Nat.le_trans hlen hn2) hr hF hb (fun H hO hS=>hsp w H a ns hlen hO hS) fun H e s'=>hCX w H s₁ e s'
end L2
namespace L2
open PySem PySem.Spec PyProof.Rows
noncomputable def defArgs (s:Stmt):Arguments:=match s with
 | .FunctionDef _ a _ _ _ _ _ _ _ _=>a
 | _=>{ posonlyargs:=[],args:=[],vararg:=none,kwonlyargs:=[],kw_defaults:=[],kwarg:=none,defaults:=[] }
noncomputable def defBody (s:Stmt):List Stmt:=match s with
 | .FunctionDef _ _ b _ _ _ _ _ _ _=>b
 | _=>[]
noncomputable def defScope (s:Stmt):Scope:=match s with
 | .FunctionDef _ _ _ _ _ _ sc _ _ _=>sc
 | _=>{ kind:=.function,names:=[],isGenerator:=false,isCoroutine:=false }
noncomputable abbrev CX0:CXT:=fun _ _ _ _ _ _=>False
noncomputable abbrev E0:XK:=fun _ _ _=>False
theorem pass0 {X:Cx}:Passes CX0 X E0:=fun _ _ _ _ _ _ _ h=>h.elim
structure Fun (K:PySem.W.Frag) (x qual:Str) (st:Stmt) (f:Addr) (fd:FuncData):Prop where
 ex:∃ (oc:Value) (od:Option Addr) (kV doc pm:Value) (an:Option Addr) (cdv ct:Value) (osl:Array (Option Value)),
  fd=PySem.W.fnOf x qual (defArgs st) (defBody st) (defScope st) .none kV doc pm an cdv ct∧K.lookup f=some ⟨oc,od,.func fd,osl⟩∧PySem.W.codeIn K cdv qual=true
 kp:PySem.W.keepIn K (.ref f)=true
section
variable {P:Program}{w:World}{K:PySem.W.Frag}{mg:Str→Option Value}{base:Heap}
theorem Fun.ok {x qual:Str}{st:Stmt}{f:Addr}{fd:FuncData}{N ps:List Str}{k:Nat}{sp:Sp} (F:Fun K x qual st f fd) (S:FnScope N ps (defScope st)) (len:∀ vs H Q E,sp vs H Q E→vs.length=ps.length)
  (hbody:∀ (cdv:Value) (A:Around) (outer:List Env) (s:Shared) (H:Hp) (vs:List V) (Q:VK) (E:XK),Room k (A.deeper (envOfC qual (defScope st) s.heap.objs.size f cdv))→sp vs H Q E →
   ∃ t,PSs (cxOf CX0 P w K mg base N qual (defScope st) f cdv A outer s H E).nox (defBody st) t∧t { nx:=fun _ H'=>Q .non H',rt:=Q } (start N vs) H):FnOk P w K mg base CX0 (k + 1) f fd ps sp:=by
 obtain ⟨oc,od,kV,doc,pm,an,cdv,ct,osl,rfl,lk,hcd⟩:=F.ex
 refine fn_of lk hcd S len fun A outer s H vs Q E hr hsp=>?_
 obtain ⟨t,h,q⟩:=hbody cdv A outer s H vs Q E hr hsp
 exact ⟨t,h.nox,q⟩
theorem Fun.binds {x qual:Str}{st:Stmt}{f:Addr}{fd:FuncData}{ps:List Str} (F:Fun K x qual st f fd)
  (h:∀ (kV doc pm:Value) (an:Option Addr) (cdv ct:Value) (us:List Value),us.length=ps.length→bindArgs (PySem.W.fnOf x qual (defArgs st) (defBody st) (defScope st) .none kV doc pm an cdv ct) ⟨us,[]⟩=pure (ps.zip us)):Binds K fd ps []:=by
 obtain ⟨oc,od,kV,doc,pm,an,cdv,ct,osl,rfl,lk,hcd⟩:=F.ex
 exact .all (h kV doc pm an cdv ct)
theorem fun_mk {x qual:Str}{st:Stmt}{f:Addr}{oc:Value}{od an:Option Addr}{osl:Array (Option Value)}{kV doc pm cdv ct:Value} (l:K.lookup f=some ⟨oc,od,.func (PySem.W.fnOf x qual (defArgs st) (defBody st) (defScope st) .none kV doc pm an cdv ct),osl⟩)
  (c:PySem.W.codeIn K cdv qual=true) (k:PySem.W.keepIn K (.ref f)=true):Fun K x qual st f (PySem.W.fnOf x qual (defArgs st) (defBody st) (defScope st) .none kV doc pm an cdv ct):=⟨⟨oc,od,kV,doc,pm,an,cdv,ct,osl,rfl,l,c⟩,k⟩
end
theorem small1000 {n:Nat} (h:n≤1000):n < sizeLine:=Nat.lt_of_le_of_lt h (by decide)
section
variable {X:Cx}
end
theorem iteF {A B:Prop} (h:B):if false=true then A else B:=by
 rw [if_neg Bool.false_ne_true]
 exact h
theorem iteT {A B:Prop} (h:A):if true=true then A else B:=by
 rw [if_pos rfl]
 exact h
noncomputable def Same (H H':Hp):Prop:=∀ b o,H b=some o→H' b=some o
theorem Same.refl (H:Hp):Same H H:=fun _ _ h=>h
theorem Same.trans {H H1 H2:Hp} (a:Same H H1) (b:Same H1 H2):Same H H2:=fun c o h=>b c o (a c o h)
theorem Same.free {H H':Hp} (e:Same H H') {l:Addr} (h:H' l=Option.none):H l=Option.none:=by
 cases q:H l with
 | none=>rfl
 | some o=>
  rw [e l o q] at h
  cases h
end L2
end
namespace L2
open PySem PySem.Spec PyProof.Rows
noncomputable def clos (env:Env):List (Str × NameKind)→List (Str × Addr)→List (Str × Addr)
 | [],acc=>acc
 | (n,k)::r,acc=>clos env r (if k == NameKind.free then (n,(env.cells.lookup n).getD 0)::acc else acc)
theorem clos_cons {env:Env} (n:Str) (k:NameKind) (r:List (Str × NameKind)) (acc:List (Str × Addr)):clos env ((n,k)::r) acc=clos env r (if k == NameKind.free then (n,(env.cells.lookup n).getD 0)::acc else acc):=rfl
theorem clos_for {env:Env}:∀ (l:List (Str × NameKind)) (acc:List (Str × Addr)),(∀ y∈l,y.2 = .free→∃ c,env.cells.lookup y.1=some c) →
  (forIn l acc fun (x:Str × NameKind) (r:List (Str × Addr))=>if (x.2 == NameKind.free)=true then (do let a ← cellOf env x.1;pure (ForInStep.yield ((x.1,a)::r)):Sem _) else pure (ForInStep.yield r))=(pure (clos env l acc):Sem _)
 | [],acc,_=>rfl
 | (n,k)::r,acc,h=>by
  rw [List.forIn_cons]
  dsimp only
  by_cases hk:(k == NameKind.free)=true
  ·obtain ⟨c,hc⟩:=h (n,k) List.mem_cons_self (by simpa using hk)
   rw [if_pos hk]
   have e:cellOf env n=pure c:=by unfold cellOf;rw [hc]
   rw [e]
   simp only [pure_bind]
   rw [clos_for r _ fun y hy=>h y (List.mem_cons_of_mem _ hy)]
   rw [clos_cons,if_pos hk,hc]
   rfl
  ·rw [if_neg hk]
   simp only [pure_bind]
   rw [clos_for r _ fun y hy=>h y (List.mem_cons_of_mem _ hy),clos_cons,if_neg hk]
theorem closureFor_clos {env:Env}{scope:Scope} (h:∀ y∈scope.names,y.2 = .free→∃ c,env.cells.lookup y.1=some c):closureFor scope env=pure (clos env scope.names []):=by
 have q:=clos_for (env:=env) scope.names [] h
 unfold closureFor
 refine Eq.trans (congrArg (fun (m:Sem (List (Str × Addr)))=>m >>= fun cs=>pure cs) (Eq.trans ?_ q)) rfl
 congr 1
theorem clos_lookup {env:Env}:∀ (l:List (Str × NameKind)) (acc:List (Str × Addr)),(∀ y∈l,y.2 = .free→∃ c,env.cells.lookup y.1=some c)→(∀ x c,acc.lookup x=some c→env.cells.lookup x=some c) →
  ∀ x c,(clos env l acc).lookup x=some c→env.cells.lookup x=some c
 | [],acc,_,ha=>ha
 | (n,k)::r,acc,h,ha=>by
  unfold clos
  refine clos_lookup r _ (fun y hy=>h y (List.mem_cons_of_mem _ hy)) ?_
  by_cases hk:(k == NameKind.free)=true
  ·obtain ⟨c0,hc0⟩:=h (n,k) List.mem_cons_self (by simpa using hk)
   rw [if_pos hk]
   intro x c e
   rw [List.lookup_cons] at e
   by_cases hx:(x == n)=true
   ·rw [hx] at e
    have ex:x=n:=by simpa using hx
    subst ex
    rw [hc0] at e ⊢
    exact e
   ·have hx':(x == n)=false:=by simpa using hx
    rw [hx'] at e
    exact ha x c e
  ·rw [if_neg hk]
   exact ha
theorem clos_has {env:Env}:∀ (l:List (Str × NameKind)) (acc:List (Str × Addr)) (x:Str),((∃ c,acc.lookup x=some c)∨(x,NameKind.free)∈l)→∃ c,(clos env l acc).lookup x=some c
 | [],acc,x,h=>by
  rcases h with h | h
  ·exact h
  ·cases h
 | (n,k)::r,acc,x,h=>by
  unfold clos
  refine clos_has r _ x ?_
  rcases h with ⟨c,h⟩ | h
  ·refine .inl ?_
   split
   ·rw [List.lookup_cons]
    by_cases hx:(x == n)=true
    ·rw [hx];exact ⟨_,rfl⟩
    ·have hx':(x == n)=false:=by simpa using hx
     rw [hx'];exact ⟨c,h⟩
   ·exact ⟨c,h⟩
  ·rcases List.mem_cons.mp h with e | h
   ·obtain ⟨e1,e2⟩:=Prod.mk.inj e
    refine .inl ?_
    have hx:(x == n)=true:=by rw [e1];simp
    rw [← e2,if_pos (by rfl),List.lookup_cons,hx]
    exact ⟨_,rfl⟩
   ·exact .inr h
noncomputable def Cx.blk (X:Cx) (scope:Scope) (N':List Str) (C:Addr) (fp:List Addr) (s₀:Shared) (H₀:Hp) (pins:List (Addr × Obj)):Cx:=
 { X with N:=N',s₀:=s₀,H₀:=H₀,env:=compEnvC scope (clos X.env scope.names []) C X.env,outer:=X.stack,stack:=X.stack,ex:=fp,fn:=fun _=>false,pn:=X.pn++pins,xe:=fun _ _=>False }
noncomputable def blkOk (sc scope:Scope) (N N':List Str) (t:Nat):Bool:=
 (match scope.kind with | .function=>true | _=>false) &&
 scope.names.all (fun y=>match y.2 with
  | .cell=>false
  | .local=>(match scope.names.lookup y.1 with | some .local=>true | _=>false)
  | .free=>(match sc.names.lookup y.1 with | some .cell=>true | some .free=>true | _=>false)
  | _=>true) &&
 N'.length == t + N.length &&
 (List.range N.length).all (fun i=>match N'[t + i]?,N[i]? with
  | some x,some y=>(match scope.names.lookup x with
   | some .local=>false | some .cell=>false
   | some .free=>x == y
   | _=>true)
  | _,_=>false)
structure Blk (X:Cx) (scope:Scope) (N':List Str) (t:Nat):Prop where
 kind:scope.kind = .function
 nocell:∀ y∈scope.names,y.2≠.cell
 names:∀ y∈scope.names,y.2 = .local→scope.names.lookup y.1=some .local
 free:∀ y∈scope.names,y.2 = .free→X.env.kindOf y.1=some .cell∨X.env.kindOf y.1=some .free
 len:N'.length=t + X.N.length
 tail:∀ (i:Nat) (x:Str),N'[t + i]? = some x→scope.names.lookup x≠some .local∧(scope.names.lookup x=some .free→X.N[i]? = some x)
theorem mem_of_lookup' {β:Type}:∀ {l:List (Str × β)}{x:Str}{k:β},l.lookup x=some k→(x,k)∈l
 | [],_,_,h=>by cases h
 | (n,k')::r,x,k,h=>by
  rw [List.lookup_cons] at h
  by_cases hx:(x == n)=true
  ·rw [hx] at h
   have e:x=n:=by simpa using hx
   cases h
   rw [e]
   exact List.mem_cons_self
  ·have hx':(x == n)=false:=by simpa using hx
   rw [hx'] at h
   exact List.mem_cons_of_mem _ (mem_of_lookup' h)
theorem blk_of {X:Cx}{scope:Scope}{N':List Str}{t:Nat} (h:blkOk X.env.scope scope X.N N' t=true):Blk X scope N' t:=by
 unfold blkOk at h
 simp only [Bool.and_eq_true] at h
 obtain ⟨⟨⟨h1,h2⟩,h3⟩,h4⟩:=h
 have h3':N'.length=t + X.N.length:=by simpa using h3
 rw [List.all_eq_true] at h2 h4
 refine ⟨?_,fun y hy e=>?_,fun y hy e=>?_,fun y hy e=>?_,h3',fun i x e=>?_⟩
 ·revert h1
  cases scope.kind <;> simp
 ·have:=h2 y hy
  rw [e] at this
  cases this
 ·have:=h2 y hy
  rw [e] at this
  revert this
  dsimp only
  split
  ·intro _;assumption
  ·intro z;cases z
 ·have:=h2 y hy
  rw [e] at this
  revert this
  dsimp only
  unfold Env.kindOf
  split
  ·intro _;exact .inl (by assumption)
  ·intro _;exact .inr (by assumption)
  ·intro z;cases z
 ·have hi:i < X.N.length:=by
   have:=(List.getElem?_eq_some_iff.mp e).1
   omega
  have q:=h4 i (List.mem_range.mpr hi)
  rw [e,List.getElem?_eq_getElem hi] at q
  dsimp only at q
  constructor
  ·intro z
   rw [z] at q
   cases q
  ·intro z
   rw [z] at q
   have:x=X.N[i]:=by simpa using q
   rw [List.getElem?_eq_getElem hi,this]
theorem lookup_relabel {env:Env}:∀ {names:List (Str × NameKind)}{x:Str}{k:NameKind},
  (names.map fun (n,k)=>if (k == NameKind.free && env.scope.kind == .function && env.kindOf n == some .cell) then (n,NameKind.cell) else (n,k)).lookup x=some k →
  ∃ k0,names.lookup x=some k0∧(k=k0∨(k0 = .free∧k = .cell))
 | [],_,_,h=>by simp at h
 | (n,k')::r,x,k,h=>by
  have ih:=@lookup_relabel env r x k
  have h':List.lookup x ((if (k' == NameKind.free && env.scope.kind == .function && env.kindOf n == some .cell)=true then (n,NameKind.cell) else (n,k'))::(r.map fun (n,k)=>if (k == NameKind.free && env.scope.kind == .function && env.kindOf n == some .cell) then (n,NameKind.cell) else (n,k)))=some k:=h
  by_cases hc:(k' == NameKind.free && env.scope.kind == .function && env.kindOf n == some .cell)=true
  ·rw [if_pos hc] at h'
   rw [List.lookup_cons] at h' ⊢
   by_cases hx:(x == n)=true
   ·rw [hx] at h' ⊢
    cases h'
    refine ⟨k',rfl,.inr ⟨?_,rfl⟩⟩
    simp only [Bool.and_eq_true] at hc
    simpa using hc.1.1
   ·have hx':(x == n)=false:=by simpa using hx
    rw [hx'] at h' ⊢
    exact ih h'
  ·rw [if_neg hc] at h'
   rw [List.lookup_cons] at h' ⊢
   by_cases hx:(x == n)=true
   ·rw [hx] at h' ⊢
    cases h'
    exact ⟨k',rfl,.inl rfl⟩
   ·have hx':(x == n)=false:=by simpa using hx
    rw [hx'] at h' ⊢
    exact ih h'
theorem relabel_free {env:Env}:∀ {names:List (Str × NameKind)}{x:Str},names.lookup x=some .free →
  (names.map fun (n,k)=>if (k == NameKind.free && env.scope.kind == .function && env.kindOf n == some .cell) then (n,NameKind.cell) else (n,k)).lookup x=some .free ∨
  (names.map fun (n,k)=>if (k == NameKind.free && env.scope.kind == .function && env.kindOf n == some .cell) then (n,NameKind.cell) else (n,k)).lookup x=some .cell
 | [],_,h=>by simp at h
 | (n,k')::r,x,h=>by
  have ih:=@relabel_free env r x
  show List.lookup x ((if (k' == NameKind.free && env.scope.kind == .function && env.kindOf n == some .cell)=true then (n,NameKind.cell) else (n,k'))::(r.map fun (n,k)=>if (k == NameKind.free && env.scope.kind == .function && env.kindOf n == some .cell) then (n,NameKind.cell) else (n,k)))=_∨List.lookup x ((if (k' == NameKind.free && env.scope.kind == .function && env.kindOf n == some .cell)=true then (n,NameKind.cell) else (n,k'))::(r.map fun (n,k)=>if (k == NameKind.free && env.scope.kind == .function && env.kindOf n == some .cell) then (n,NameKind.cell) else (n,k)))=_
  rw [List.lookup_cons] at h
  by_cases hx:(x == n)=true
  ·rw [hx] at h
   cases h
   split
   ·refine .inr ?_
    rw [List.lookup_cons,hx]
   ·refine .inl ?_
    rw [List.lookup_cons,hx]
  ·have hx':(x == n)=false:=by simpa using hx
   rw [hx'] at h
   rcases ih h with q | q
   ·refine .inl ?_
    split <;> (rw [List.lookup_cons,hx'];exact q)
   ·refine .inr ?_
    split <;> (rw [List.lookup_cons,hx'];exact q)
section
variable {X:Cx}{scope:Scope}{N':List Str}{t:Nat}
theorem Blk.cells (B:Blk X scope N' t) (ok:X.Ok):∀ y∈scope.names,y.2 = .free→∃ c,X.env.cells.lookup y.1=some c:=fun y hy e=>ok.has y.1 (B.free y hy e)
theorem Blk.cl (B:Blk X scope N' t) (ok:X.Ok) {x:Str}{c:Addr} (h:(clos X.env scope.names []).lookup x=some c):X.env.cells.lookup x=some c:=
 clos_lookup scope.names [] (B.cells ok) (fun _ _ z=>by cases z) x c h
theorem Blk.kinds (B:Blk X scope N' t) {x:Str}{k:NameKind} (h:(relabel scope X.env).names.lookup x=some k):scope.names.lookup x=some k∨(scope.names.lookup x=some .free∧k = .cell):=by
 obtain ⟨k0,e,r⟩:=lookup_relabel h
 rcases r with r | ⟨r,r'⟩
 ·subst r;exact .inl e
 ·subst r;exact .inr ⟨e,r'⟩
theorem Inv.blk {pins:List (Addr × Obj)}{σ:St}{H:Hp}{s:Shared}{fp:List Addr}{h₁:Heap}{tk:Nat} (I:Inv X pins σ H s) (B:Blk X scope N' t) (hf:∀ b∈fp,FpOk X pins H b) (hfo:∀ b∈fp,∃ o,s.heap.get? b=some o)
  (hns:h₁.Ns s.heap.objs.size (fun _=>none)) (keep:∀ b o,s.heap.get? b=some o→h₁.get? b=some o) :
  Inv (X.blk scope N' s.heap.objs.size fp s H pins) [] (List.replicate t none++σ) H { s with heap:=h₁,toks:=tk }:=by
 have cl:∀ {x:Str}{c:Addr},(clos X.env scope.names []).lookup x=some c→X.env.cells.lookup x=some c:=fun h=>B.cl I.ok h
 have lts:∀ b o,s.heap.get? b=some o→b≠s.heap.objs.size:=fun b o e=>Nat.ne_of_lt (Heap.lt_size e)
 have isfree:∀ x,((relabel scope X.env).names.lookup x=some .cell∨(relabel scope X.env).names.lookup x=some .free)→scope.names.lookup x=some .free:=fun x h=>by
  rcases h with h | h
  ·rcases B.kinds h with q | ⟨q,_⟩
   ·exact absurd rfl (B.nocell _ (mem_of_lookup' q))
   ·exact q
  ·rcases B.kinds h with q | ⟨q,_⟩
   ·exact q
   ·exact q
 refine ⟨⟨I.ok.mod,B.kind,I.ok.glob,I.ok.blt,Nat.le_refl _,fun x y c e1 e2=>I.ok.inj x y c (cl e1) (cl e2),fun x h=>?_,fun _ _ z=>(by cases z),I.ok.hd,I.ok.frames,.inl rfl,fun b hb=>?_,I.bs,Nat.le_trans I.ok.bsz I.sz,fun b o e hb=>?_,fun b hb=>?_,I.stack,I.stkFree⟩,
  rfl,I.bare,Un.kept keep,⟨_,hns,fun i x v e1 e2 e3=>?_⟩,fun x c e=>?_,I.fresh,fun x c e=>I.freeC x c (cl e),fun p hp=>?_,I.hok.kept keep,?_⟩
 ·exact clos_has scope.names [] x (.inr (mem_of_lookup' (isfree x h)))
 ·obtain ⟨o,ho⟩:=hfo b hb
  exact ⟨lts b o ho,fun x c e=>(hf b hb).2.2.2.2.1 x c (cl e)⟩
 ·rcases (hf b hb).2.2.2.1 with z | z
  ·exact I.ok.noex b o e z
  ·exact absurd (Nat.lt_of_lt_of_le (Heap.lt_size e) (Nat.le_trans I.ok.bsz z)) (Nat.lt_irrefl _)
 ·intro z
  rcases List.mem_cons.mp (I.stkSub b z) with e | e
  ·exact (hf b hb).2.1 e
  ·exact (hf b hb).2.2.1 e
 ·have e2':(List.replicate t (none:Option V)++σ)[i]? = some (some v):=e2
  have ht:t≤i:=by
   refine Nat.le_of_not_lt fun hlt=>?_
   rw [List.getElem?_append_left (by rw [List.length_replicate];exact hlt),List.getElem?_replicate,if_pos hlt] at e2'
   cases e2'
  have e2'':σ[i - t]? = some (some v):=by
   rw [List.getElem?_append_right (by rw [List.length_replicate];exact ht),List.length_replicate] at e2'
   exact e2'
  have e1':N'[t + (i - t)]? = some x:=by
   have:t + (i - t)=i:=by omega
   rw [this];exact e1
  obtain ⟨nl,fr⟩:=B.tail _ _ e1'
  have hfree:scope.names.lookup x=some .free:=by
   rcases e3 with q | q | q
   ·rcases B.kinds q with z | ⟨z,w⟩
    ·exact absurd z nl
    ·cases w
   ·exact isfree x (.inl q)
   ·exact isfree x (.inr q)
  have hk:=B.free _ (mem_of_lookup' hfree) rfl
  obtain ⟨m,hn,hl⟩:=I.loc
  obtain ⟨u,r,l⟩:=hl (i - t) x v (fr hfree) e2'' (by
   rcases hk with q | q
   ·exact .inr (.inl q)
   ·exact .inr (.inr q))
  refine ⟨u,r,.inr ⟨?_,?_⟩⟩
  ·rcases relabel_free (env:=X.env) hfree with q | q
   ·exact .inr q
   ·exact .inl q
  ·rcases l with ⟨l,_⟩ | ⟨_,c,hc,hv⟩
   ·rcases hk with q | q
    ·rw [q] at l;cases l
    ·rw [q] at l;cases l
   ·obtain ⟨c',hc'⟩:=clos_has (env:=X.env) scope.names [] x (.inr (mem_of_lookup' hfree))
    have:=cl hc'
    rw [hc] at this
    cases this
    exact ⟨c,hc',hv.keeps keep⟩
 ·obtain ⟨v,z⟩:=I.cell x c (cl e)
  exact ⟨v,z.keeps keep⟩
 ·have hp':p∈X.pn++pins:=by simpa [Cx.blk] using hp
  obtain ⟨a1,a2,a3,a4,a5⟩:=I.pin p hp'
  refine ⟨keep _ _ a1,a2,lts _ _ a1,fun z=>?_,a5⟩
  rcases List.mem_cons.mp (I.stkSub _ z) with e | e
  ·exact a3 e
  ·exact a4 e
 ·show (List.replicate t none++σ).length=N'.length
  rw [List.length_append,List.length_replicate,B.len,I.len]
theorem Inv.unblk {pins:List (Addr × Obj)}{σ σ':St}{H H':Hp}{s s':Shared}{fp:List Addr}{pins':List (Addr × Obj)}{h'':Heap} (I:Inv X pins σ H s) (hf:∀ b∈fp,FpOk X pins H b)
  (I':Inv (X.blk scope N' s.heap.objs.size fp s H pins) pins' σ' H' s') (sb:Heap.SameBut s.heap.objs.size s'.heap h''):Inv X pins σ H' { s' with heap:=h'' }:=by
 have ne:∀ b o,s.heap.get? b=some o→b≠s.heap.objs.size:=fun b o e=>Nat.ne_of_lt (Heap.lt_size e)
 have U:Un (frs X.stack) fp H H' s.heap s'.heap:=I'.base
 have hC:H' s.heap.objs.size=none:=I'.free
 refine I.call' (ch:=fp) I'.os ⟨fun b o e n h1 h2=>?_,fun b o e n h1 h2=>?_,U.free,fun b o e h2=>?_,U.tups,U.frzs,U.tbls⟩ (fun b u e=>?_) I'.bare fun b hb=>⟨(hf b hb).2.2.2.1,(hf b hb).2.1,(hf b hb).2.2.2.2.1,(hf b hb).2.2.2.2.2⟩
 ·show h''.get? b=_
  rw [sb.2 b (ne b o e)]
  exact U.keep b o e n h1 h2
 ·obtain ⟨sl,q⟩:=U.slot b o e n h1 h2
  refine ⟨sl,?_⟩
  show h''.get? b=_
  rw [sb.2 b (ne b o e)]
  exact q
 ·obtain ⟨o',q⟩:=U.there b o e h2
  refine ⟨o',?_⟩
  show h''.get? b=_
  rw [sb.2 b (ne b o e)]
  exact q
 ·refine (I'.hok b u e).stay (fun c v hc q=>?_) (fun _ q=>q) fun _ _ q=>q
  show h''.get? c=_
  have nc:c≠s.heap.objs.size:=by
   intro z
   rcases hc with y | y
   ·subst y;rw [z,hC] at e;cases e
   ·rw [z,hC] at y;cases y
  rw [sb.2 c nc]
  exact q
end
end L2
section
local macro_rules | `(tactic| omega)=>`(tactic| lia)
namespace L2
open PySem PySem.Spec PyProof.Rows
section
variable {prog:Program}{w:World}{A:Around}{R:Result→Shared→Prop}{s:Shared}
theorem compLoop_nox {elt target iter:Expr}{ifs:List Expr}{scope:Scope}{pos:Pos}{it acc:Value}{env:Env} (I:Nat→Shared→Prop)
  (turn:∀ n s,I n s→wpAny (model prog w) A (pyNext it) (fun r s₁=>match r with
   | none=>R (.ok .next) s₁
   | some v=>wpAny (model prog w) A (letOwnedTupleGo target it v) (fun _ s₁'=>wpAny (model prog w) A (assign target env v) (fun _ s₂=>
     wpAny (model prog w) A (forIn ifs true fun c r=>if r=true then do let ok ← isTrue c env (eval c env);pure (ForInStep.yield ok) else pure (ForInStep.yield r)) (fun ok s₃=>
      if ok=true then wpAny (model prog w) A (eval elt env) (fun x s₄=>
       wpAny (model prog w) A (call (.builtin "list.append") [acc,x]) (fun _ s₅=>∃ m,m < n∧I m s₅) (fun _ _=>False) s₄) (fun _ _=>False) s₃
      else ∃ m,m < n∧I m s₃) (fun _ _=>False) s₂) (fun _ _=>False) s₁') (fun _ _=>False) s₁) (fun _ _=>False) s)
  (n:Nat) (h:I n s):codeAny (model prog w) A (.compLoop (.ListComp elt [⟨target,iter,ifs,0⟩] scope pos) 0 it acc env) R s:=by
 refine codeAny_loop rfl I (fun n s hI=>?_) n h
 show wpAny _ A ((compTurn (.ListComp elt [⟨target,iter,ifs,0⟩] scope pos) 0 it acc env).onRaise (fun x=>do noteFrame x env;theTreesLotGoes x)) _ _ s
 refine wpAny_noted ?_
 rw [compTurn_list]
 refine wpAny_bind (wpAny_standAt (wpAny_bind (wpAny_mono (turn n s hI) (fun r s₁ h₁=>?_) fun _ _ f=>f.elim)))
 cases r with
 | none=>exact wpAny_pure h₁
 | some v=>
  refine wpAny_bind (wpAny_mono h₁ (fun _ s₁' h₁'=>?_) fun _ _ f=>f.elim)
  refine wpAny_bind (wpAny_mono h₁' (fun _ s₂ h₂=>wpAny_bind (wpAny_mono h₂ (fun ok s₃ h₃=>?_) fun _ _ f=>f.elim)) fun _ _ f=>f.elim)
  cases ok with
  | false=>exact wpAny_pure ⟨rfl,h₃⟩
  | true=>
   exact wpAny_bind (wpAny_bind (wpAny_mono h₃ (fun x s₄ h₄=>wpAny_bind (wpAny_mono h₄ (fun _ s₅ h₅=>wpAny_pure (wpAny_pure ⟨rfl,h₅⟩)) fun _ _ f=>f.elim)) fun _ _ f=>f.elim))
end
noncomputable def PIfs (X:Cx) (ifs:List Expr) (t:TT):Prop:=
 ∀ (pins:List (Addr × Obj)) (s:Shared) (σ:St) (H:Hp) (Q:Bool→Hp→Prop),Inv X pins σ H s→t σ H Q →
  wpAny (model X.prog X.w) X.A (forIn ifs true fun c r=>if r=true then do let ok ← isTrue c X.env (eval c X.env);pure (ForInStep.yield ok) else pure (ForInStep.yield r)) (TP X pins σ Q) X.xe s
noncomputable def tTrue:TT:=fun _ H Q=>Q true H
theorem pifs_nil {X:Cx}:PIfs X [] tTrue:=fun _ _ _ H _ I h=>wpAny_tests_nil ⟨H,I,h⟩
theorem pifs_one {X:Cx}{c:Expr}{t:TT} (h:PT X c t):PIfs X [c] t:=fun pins s σ H Q I q=>wpAny_tests_one (h pins s σ H Q I q)
noncomputable def FitS (t:Nat) (σ σ2:St):Prop:=∃ own:St,own.length=t∧σ2=own++σ
noncomputable def tComp (wi:TI) (t:Nat) (g:TG) (tc:TT) (te:TE):TE:=fun σ H Q=>wi σ H fun J H1=>∀ D,H1 D=none →
 ∃ W:Nat→Nat→Hp→Prop,(∃ m,W 0 m (upd H1 D (.lst [])))∧∀ i m H,W i m H →
  (J.stop i H∧Q (.ref D) H) ∨
  (J.go i H∧∃ N:Hp→Prop,(∀ H',N H'→∃ m',m' < m∧W (i + 1) m' H')∧∀ x H',J.yld i H x H'→g x (List.replicate t none++σ) H' fun σ2 H2=>FitS t σ σ2∧tc σ2 H2 fun b H3=>
   if b=true then te σ2 H3 fun y H4=>∃ xs,H4 D=some (.lst xs)∧xs.length < sizeLine∧N (upd H4 D (.lst (xs++[y]))) else N H3)
section
variable {X:Cx}{scope:Scope}{N':List Str}{t:Nat}{tg iter elt:Expr}{ifs:List Expr}{wi:TI}{g:TG}{tc:TT}{te:TE}{pos:Pos}
theorem lc_core (hc:X.calm=true) (B:Blk X scope N' t) (hi:PI X tg iter wi) (hg:∀ C fp s₀ H₀ pins,PG (X.blk scope N' C fp s₀ H₀ pins) tg g) (hif:∀ C fp s₀ H₀ pins,PIfs (X.blk scope N' C fp s₀ H₀ pins) ifs tc) (he:∀ C fp s₀ H₀ pins,PE (X.blk scope N' C fp s₀ H₀ pins) elt te)
  {pins:List (Addr × Obj)}{s:Shared}{σ:St}{H:Hp}{Q:VK}{RR:Value→Addr→Result→Shared→Prop} (I:Inv X pins σ H s) (h:tComp wi t g tc te σ H Q)
  (hR:∀ (D:Addr) (s3:Shared) (H3 H':Hp) (fp:List Addr) (σ':St) (s':Shared),Inv X pins σ H3 s3→(∀ b∈fp,FpOk X pins H3 b)→Inv (X.blk scope N' s3.heap.objs.size fp s3 H3 pins) [] σ' H' s'→Q (.ref D) H'→RR (.ref D) s3.heap.objs.size (.ok .next) s') :
  wpAny (model X.prog X.w) X.A (eval iter X.env) (fun x s₁=>wpAny (model X.prog X.w) X.A (pyIter x) (fun it s₂=>wpAny (model X.prog X.w) X.A (newList []) (fun acc s₃=>
   wpAny (model X.prog X.w) X.A (newFunctionEnv scope X.env.globals (clos X.env scope.names []) [] X.env.qual none .none (some X.env)) (fun cenv s₄=>
    codeAny (model X.prog X.w) X.A (.compStart (.ListComp elt [⟨tg,iter,ifs,0⟩] scope pos) 0 it acc { cenv with scope:=relabel scope X.env }) (RR acc cenv.locals) s₄) X.xe s₃) X.xe s₂) X.xe s₁) X.xe s:=by
 refine thn (hi pins s σ H _ I h) fun v s1 h1=>thn h1 fun itv s2 h2=>?_
 obtain ⟨it,fp,tn,J,H2,e,I2,T,st2,f2,hW⟩:=h2
 subst e
 refine wpAny_newList ?_
 have I3:=I2.lnew (ys:=[]) (its:=[]) (t':=s2.toks) .nil (Nat.zero_le _)
 generalize hs3:({ s2 with heap:=s2.heap.push { cls:=.type "list",data:=.seq ([]:List Value).toArray },toks:=s2.toks }:Shared)=s3 at I3
 have hs3':({ s2 with heap:=s2.heap.push { cls:=.type "list",data:=.seq ([]:List Value).toArray } }:Shared)=s3:=hs3
 have hD:H2 s2.heap.objs.size=none:=I2.fresh
 obtain ⟨W,⟨m0,w0⟩,turn⟩:=hW s2.heap.objs.size hD
 generalize hDe:s2.heap.objs.size=D at *
 generalize hH3:upd H2 D (.lst [])=H3 at *
 have fpo2:∀ b∈fp,∃ o,s2.heap.get? b=some o:=fun b hb=>let ⟨o,q,_⟩:=T.obj _ _ st2 b hb;⟨o,q⟩
 have neD:∀ b∈fp,b≠D:=fun b hb z=>by
  obtain ⟨o,q⟩:=fpo2 b hb
  have:=Heap.lt_size q
  rw [hDe,z] at this
  exact Nat.lt_irrefl _ this
 have f3:∀ b∈fp,FpOk X pins H3 b:=fun b hb=>⟨by rw [← hH3,upd_ne (neD b hb)];exact (f2 b hb).1,(f2 b hb).2⟩
 have keep23:∀ b o,s2.heap.get? b=some o→s3.heap.get? b=some o:=fun b o q=>by
  rw [← hs3']
  exact Heap.get?_push_of_some _ q
 have fpo3:∀ b∈fp,∃ o,s3.heap.get? b=some o:=fun b hb=>let ⟨o,q⟩:=fpo2 b hb;⟨o,keep23 b o q⟩
 have st3:tn 0 s3.heap:=T.keep _ _ _ st2 fun b _ o q=>keep23 b o q
 refine wpAny_newFunctionEnv B.nocell (by intro y hy;cases hy) (fun h₁ hns₁ hsb₁=>?_) B.kind
 try dsimp only at hns₁ hsb₁ ⊢
 have keep:∀ b o,s3.heap.get? b=some o→h₁.get? b=some o:=fun b o q=>by
  rw [hsb₁.2 b (Nat.ne_of_lt (Heap.lt_size q))]
  exact Heap.get?_push_of_some _ q
 have IB:=I3.blk (t:=t) (fp:=fp) (h₁:=h₁) (tk:=s3.toks + ([]:List (Str × Value)).length) B f3 fpo3 hns₁ keep
 have stat:∀ {H':Hp}{s':Shared},(∀ b∈fp,H' b=none)→∀ b∈fp,FpOk (X.blk scope N' s3.heap.objs.size fp s3 H3 pins) [] H' b:=fun hn b hb=>by
  refine ⟨hn b hb,?_,fun z=>?_,.inl hb,fun x c e=>(f3 b hb).2.2.2.2.1 x c (B.cl I3.ok e),fun p hp=>?_⟩
  ·obtain ⟨o,q⟩:=fpo3 b hb
   exact Nat.ne_of_lt (Heap.lt_size q)
  ·rcases List.mem_cons.mp (I3.stkSub b z) with e | e
   ·exact (f3 b hb).2.1 e
   ·exact (f3 b hb).2.2.1 e
  ·have hp':p∈X.pn++pins:=by simpa [Cx.blk] using hp
   exact (f3 b hb).2.2.2.2.2 p hp'
 have loop:∀ s₃:Shared,s₃={ s3 with heap:=h₁,toks:=s3.toks + ([]:List (Str × Value)).length } →
   codeAny (model X.prog X.w) X.A (.compLoop (.ListComp elt [⟨tg,iter,ifs,0⟩] scope pos) 0 (.ref it) (.ref D) (compEnvC scope (clos X.env scope.names []) s3.heap.objs.size X.env)) (RR (.ref D) s3.heap.objs.size) s₃:=by
  rintro s₃ rfl
  refine compLoop_nox (fun n s'=>∃ i H',Inv (X.blk scope N' s3.heap.objs.size fp s3 H3 pins) [] (List.replicate t none++σ) H' s'∧tn i s'.heap∧(∀ b∈fp,H' b=none)∧W i n H') ?_ m0
   ⟨0,H3,IB,T.keep _ _ _ st3 fun b _ o q=>keep b o q,fun b hb=>(f3 b hb).1,w0⟩
  rintro n s4 ⟨i,H4,I4,st4,fr4,w4⟩
  rcases turn i n H4 w4 with ⟨stop,qn⟩ | ⟨go,N,hN,step⟩
  ·refine thn (T.done (X.blk scope N' s3.heap.objs.size fp s3 H3 pins) rfl rfl rfl hc i [] s4 _ H4 (fun _ _=>False) I4 (stat (s':=s4) fr4) st4 stop) fun r s5 ⟨hr,I5⟩=>?_
   subst hr
   exact hR D s3 H3 H4 fp _ s5 I3 f3 I5 qn
  ·refine thn (T.item (X.blk scope N' s3.heap.objs.size fp s3 H3 pins) rfl rfl rfl hc i [] s4 _ H4 (fun _ _=>False) I4 (stat (s':=s4) fr4) st4 go) fun r s5 ⟨u,hr,h5⟩=>?_
   subst hr
   refine thn h5 fun _ s6 ⟨x,H6,I6,r6,y6,st6,fr6⟩=>?_
   have I6':=I6.pinned (stat (s':=s6) fr6) (T.obj _ _ st6)
   refine thn (hg _ _ _ _ _ _ s6 _ H6 x u _ I6' r6 (step x H6 y6)) fun _ s7 ⟨σ7,H7,I7,⟨own,hown,hσ7⟩,q7⟩=>?_
   have again:∀ {H8:Hp}{s8:Shared},Inv (X.blk scope N' s3.heap.objs.size fp s3 H3 pins) ([]++pinsAt fp s6.heap) σ7 H8 s8→N H8 →
     ∃ m,m < n∧∃ i H',Inv (X.blk scope N' s3.heap.objs.size fp s3 H3 pins) [] (List.replicate t none++σ) H' s8∧tn i s8.heap∧(∀ b∈fp,H' b=none)∧W i m H':=fun {H8 s8} I8 n8=>by
    obtain ⟨m',hm,w8⟩:=hN H8 n8
    have I8':Inv (X.blk scope N' s3.heap.objs.size fp s3 H3 pins) ([]++pinsAt fp s6.heap) (List.replicate t none++σ) H8 s8:=by
     refine I8.weak ?_ fun j v e=>?_
     ·rw [hσ7,List.length_append,List.length_append,List.length_replicate,hown]
     ·have ht:t≤j:=by
       refine Nat.le_of_not_lt fun hlt=>?_
       rw [List.getElem?_append_left (by rw [List.length_replicate];exact hlt),List.getElem?_replicate,if_pos hlt] at e
       cases e
      rw [List.getElem?_append_right (by rw [List.length_replicate];exact ht),List.length_replicate] at e
      rw [hσ7,List.getElem?_append_right (by rw [hown];exact ht),hown]
      exact e
    refine ⟨m',hm,i + 1,H8,I8'.unpinned,T.keep _ _ _ st6 fun b hb o e=>(I8.pin (b,o) (List.mem_append_right _ (List.mem_append_right _ (mem_pinsAt hb e)))).1,fun b hb=>?_,w8⟩
    obtain ⟨o,e,d⟩:=T.obj _ _ st6 b hb
    exact (I8.pin (b,o) (List.mem_append_right _ (List.mem_append_right _ (mem_pinsAt hb e)))).2.1
   refine thn (hif _ _ _ _ _ _ s7 σ7 H7 _ I7 q7) fun ok s8 ⟨H8,I8,q8⟩=>?_
   cases ok with
   | false=>
    rw [if_neg Bool.false_ne_true] at q8 ⊢
    exact again I8 q8
   | true=>
    rw [if_pos rfl] at q8 ⊢
    refine thn (he _ _ _ _ _ _ s8 σ7 H8 _ I8 q8) fun y s9 ⟨yv,H9,I9,r9,xs,hx,hz,n9⟩=>?_
    refine thn (mt_append (X:=X.blk scope N' s3.heap.objs.size fp s3 H3 pins) _ s9 σ7 H9 (.ref D) [yv] (.ref D) [y] (fun _ H'=>N H') I9 rfl (.cons r9 .nil) ⟨D,xs,yv,rfl,rfl,hx,hz,n9⟩) fun _ s10 ⟨_,H10,I10,_,n10⟩=>?_
    exact again I10 n10
 have hst:tn 0 h₁:=T.keep _ _ _ st3 fun b _ o q=>keep b o q
 exact codeAny_compStart_list (loop _ rfl) (T.self X.A 0 _ _ _ hst (loop _ rfl))
theorem pe_lc (hc:X.calm=true) (B:Blk X scope N' t) (hi:PI X tg iter wi) (hg:∀ C fp s₀ H₀ pins,PG (X.blk scope N' C fp s₀ H₀ pins) tg g) (hif:∀ C fp s₀ H₀ pins,PIfs (X.blk scope N' C fp s₀ H₀ pins) ifs tc) (he:∀ C fp s₀ H₀ pins,PE (X.blk scope N' C fp s₀ H₀ pins) elt te)
  (hs:autoParam (∀ x,foldedSetIterable iter X.env x=pure x) au2._auto_1):PE X (.ListComp elt [⟨tg,iter,ifs,0⟩] scope pos) (tComp wi t g tc te):=by
 intro pins s σ H Q I h
 rw [eval_ListComp]
 refine wpAny_comprehension_free (use:=none) rfl hs (closureFor_clos (B.cells I.ok)) B.kind B.names ?_
 refine lc_core (RR:=fun acc C=>compPost (model X.prog X.w) X.A X.xe none (EP X pins σ Q) acc C) hc B hi hg hif he I h ?_
 intro D s3 H3 H' fp σ' s' I3 hf I' q
 obtain ⟨m,hn,_⟩:=I'.loc
 exact ⟨m,hn,fun h'' sb=>⟨.ref D,H',I3.unblk hf I' sb,rfl,q⟩⟩
theorem ps_lc {i:Nat}{x:Str}{pos' pos2:Pos} (hN:X.N.Nodup) (hiN:X.N[i]? = some x) (hx:X.env.scope.names.lookup x=some .local) (hc:X.calm=true) (B:Blk X scope N' t) (hi:PI X tg iter wi) (hg:∀ C fp s₀ H₀ pins,PG (X.blk scope N' C fp s₀ H₀ pins) tg g) (hif:∀ C fp s₀ H₀ pins,PIfs (X.blk scope N' C fp s₀ H₀ pins) ifs tc) (he:∀ C fp s₀ H₀ pins,PE (X.blk scope N' C fp s₀ H₀ pins) elt te)
  (hsw:autoParam (swapsWith (.ListComp elt [⟨tg,iter,ifs,0⟩] scope pos) (some (.Name x pos')) pos2.line X.env=pure true) au3._auto_1) (hs:autoParam (∀ x,foldedSetIterable iter X.env x=pure x) au2._auto_1) :
  PS X (.Assign [.Name x pos'] (.ListComp elt [⟨tg,iter,ifs,0⟩] scope pos) pos2) (tAsg (tComp wi t g tc te) (gName i)):=by
 intro pins s σ H D I h
 rw [exec_Assign_Name_used _ _ _ _ hsw]
 refine wpAny_bind (wpAny_standAt (wpAny_bind ?_))
 show wpAny _ X.A (do let _ ← comprehension (.ListComp elt [⟨tg,iter,ifs,0⟩] scope pos) scope X.env _ (newList []) false (eval iter X.env) (some (assign (.Name x pos') X.env))) _ _ s
 refine wpAny_bind (wpAny_mono (wpAny_comprehension_free (use:=some (assign (.Name x pos') X.env)) (Q:=fun _ s'=>SP X pins D .next s') rfl hs (closureFor_clos (B.cells I.ok)) B.kind B.names ?_) (fun _ s' hq=>wpAny_pure (wpAny_pure hq)) fun _ _ e=>e)
 refine lc_core (RR:=fun acc C=>compPost (model X.prog X.w) X.A X.xe (some (assign (.Name x pos') X.env)) (fun _ s'=>SP X pins D .next s') acc C) hc B hi hg hif he I h ?_
 intro L s3 H3 H' fp σ' s' I3 hf I' q
 have I1:Inv X pins σ H' s':=I3.unblk hf I' (Heap.SameBut.refl _ _)
 obtain ⟨m,hn,_⟩:=I'.loc
 show wpAny _ X.A (assign (.Name x pos') X.env (.ref L)) _ _ _
 have hCL:s3.heap.objs.size≠X.env.locals:=Nat.ne_of_gt I3.lt
 have hcell:∀ y c,X.env.cells.lookup y=some c→c≠s3.heap.objs.size:=fun y c e=>by
  obtain ⟨v,z⟩:=I3.cell y c e
  exact Nat.ne_of_lt z.lt
 refine wpAny_assign_Name (store_ok2 I1 hN hiN (.inl hx) (v:=.ref L) rfl (fun s2 I2 ch=>?_) (.inr hx))
 obtain ⟨a,sb,ha⟩:=ch
 have hCa:s3.heap.objs.size≠a:=by
  rcases ha with z | z
  ·rw [z];exact hCL
  ·exact (hcell _ _ z).symm
 refine ⟨m,?_,fun h3 sb3=>⟨_,H',?_,q⟩⟩
 ·exact hn.sameBut sb hCa
 ·refine I2.turned (t':=s2.toks) (it:=s3.heap.objs.size) (fun b o hb e=>?_) I'.free hCL (.inr I3.sz) hcell fun p hp=>?_
  ·show h3.get? b=_
   rw [sb3.2 b hb];exact e
  ·exact Nat.ne_of_lt (Heap.lt_size (I3.pin p hp).1)
end
end L2
namespace L2
open PySem PySem.Spec PyProof.Rows
inductive D where
 | non | bl (b:Bool) | int (i:Int) | str (x:Str) | ty (n:String)
 | lst (ds:List D) | tup (ds:List D)
  | dkt (ks:List (List Int))
  | dki (kvs:List (Int × Int))
  | scr (ns:List Int) | adr (a:Addr)
noncomputable abbrev dInts (ns:List Int):D:=.lst (ns.map .int)
noncomputable abbrev dSets (nss:List (List Int)):D:=.lst (nss.map dInts)
noncomputable abbrev Av:=Addr→Prop
noncomputable def KL (K:PySem.W.Frag) (a:Addr) (xs:List V):Prop:=∃ (o:Obj) (its:Array Value) (n:Nat),K.lookup a=some o∧o.cls = .type "list"∧o.dict=none∧o.data = .seq its n∧its.size≤sizeLine∧Vals xs its.toList
noncomputable def KT' (K:PySem.W.Frag) (a:Addr) (xs:List V):Prop:=∃ (o:Obj) (its:Array Value) (n:Nat),K.lookup a=some o∧o.cls = .type "tuple"∧o.data = .seq its n∧its.size≤sizeLine∧Vals xs its.toList
noncomputable def AvR (K:PySem.W.Frag) (S:Av) (H:Hp) (a:Addr) (xs:List V):Prop:=(¬ S a∧Rd H a (.lst xs))∨KL K a xs
noncomputable def AvL (K:PySem.W.Frag) (S:Av) (H:Hp) (a:Addr) (xs:List V):Prop:=¬ S a∧H a=some (.lst xs)
noncomputable def AvT (K:PySem.W.Frag) (S:Av) (H:Hp) (a:Addr) (xs:List V):Prop:=(¬ S a∧Rd H a (.tup xs))∨KT' K a xs
theorem AvR.sq {K:PySem.W.Frag}{S:Av}{H:Hp}{a:Addr}{xs:List V} (h:AvR K S H a xs):SqL K H a xs:=h.elim (fun q=>.inl q.2) .inr
theorem AvL.sq {K:PySem.W.Frag}{S:Av}{H:Hp}{a:Addr}{xs:List V} (h:AvL K S H a xs):SqL K H a xs:=.inl (.inl h.2)
theorem AvT.sq {K:PySem.W.Frag}{S:Av}{H:Hp}{a:Addr}{xs:List V} (h:AvT K S H a xs):SqT K H a xs:=h.elim (fun q=>.inl q.2) .inr
mutual
noncomputable def Rep (K:PySem.W.Frag) (S:Av) (H:Hp):D→V→Prop
 | .non,v=>v = .non
 | .bl b,v=>v = .bl b
 | .int i,v=>v = .int i
 | .str x,v=>v = .str x
 | .ty n,v=>v = .ty n
 | .lst ds,v=>∃ a xs,v = .ref a∧AvL K S H a xs∧Reps K S H ds xs
 | .tup ds,v=>∃ a xs,v = .ref a∧AvT K S H a xs∧Reps K S H ds xs
 | .dkt ks,v=>∃ a,v = .ref a∧¬ S a∧Rd H a (.dT (ks.map fun k=>(k.map Sum.inl,V.bl true)))
 | .dki kvs,v=>∃ a,v = .ref a∧¬ S a∧Rd H a (.dK (kvs.map fun p=>(Sum.inl p.1,V.int p.2)))
 | .scr ns,v=>∃ a,v = .ref a∧AvR K S H a (ns.map V.int)
 | .adr a,v=>v = .ref a
noncomputable def Reps (K:PySem.W.Frag) (S:Av) (H:Hp):List D→List V→Prop
 | [],xs=>xs=[]
 | d::ds,xs=>∃ x r,xs=x::r∧Rep K S H d x∧Reps K S H ds r
end
noncomputable def Off (S:Av) (H H':Hp):Prop:=∀ b o,¬ S b→H b=some o→H' b=some o
theorem Same.off {S:Av}{H H':Hp} (e:Same H H'):Off S H H':=fun b o _ h=>e b o h
theorem Off.rd {S:Av}{H H':Hp}{a:Addr}{o:HO} (e:Off S H H') (n:¬ S a) (h:Rd H a o):Rd H' a o:=by
 rcases h with h | ⟨u,h⟩
 ·exact .inl (e _ _ n h)
 ·exact .inr ⟨u,e _ _ n h⟩
theorem AvR.off {K:PySem.W.Frag}{S:Av}{H H':Hp}{a:Addr}{xs:List V} (h:AvR K S H a xs) (e:Off S H H'):AvR K S H' a xs:=h.elim (fun q=>.inl ⟨q.1,e.rd q.1 q.2⟩) .inr
theorem AvL.off {K:PySem.W.Frag}{S:Av}{H H':Hp}{a:Addr}{xs:List V} (h:AvL K S H a xs) (e:Off S H H'):AvL K S H' a xs:=⟨h.1,e _ _ h.1 h.2⟩
theorem AvT.off {K:PySem.W.Frag}{S:Av}{H H':Hp}{a:Addr}{xs:List V} (h:AvT K S H a xs) (e:Off S H H'):AvT K S H' a xs:=h.elim (fun q=>.inl ⟨q.1,e.rd q.1 q.2⟩) .inr
mutual
theorem Rep.off {K:PySem.W.Frag}{S:Av}{H H':Hp} (e:Off S H H'):∀ {d:D}{v:V},Rep K S H d v→Rep K S H' d v
 | .non,_,h=>by simp only [Rep] at h ⊢;exact h
 | .bl b,_,h=>by simp only [Rep] at h ⊢;exact h
 | .int i,_,h=>by simp only [Rep] at h ⊢;exact h
 | .str x,_,h=>by simp only [Rep] at h ⊢;exact h
 | .ty x,_,h=>by simp only [Rep] at h ⊢;exact h
 | .lst ds,_,h=>by
  simp only [Rep] at h ⊢
  obtain ⟨a,xs,h1,h2,h4⟩:=h
  exact ⟨a,xs,h1,h2.off e,Reps.off e h4⟩
 | .tup ds,_,h=>by
  simp only [Rep] at h ⊢
  obtain ⟨a,xs,h1,h2,h4⟩:=h
  exact ⟨a,xs,h1,h2.off e,Reps.off e h4⟩
 | .dkt ks,_,h=>by
  simp only [Rep] at h ⊢
  obtain ⟨a,h1,h2,h3⟩:=h
  exact ⟨a,h1,h2,e.rd h2 h3⟩
 | .dki ks,_,h=>by
  simp only [Rep] at h ⊢
  obtain ⟨a,h1,h2,h3⟩:=h
  exact ⟨a,h1,h2,e.rd h2 h3⟩
 | .scr ns,_,h=>by
  simp only [Rep] at h ⊢
  obtain ⟨a,h1,h2⟩:=h
  exact ⟨a,h1,h2.off e⟩
 | .adr x,_,h=>by simp only [Rep] at h ⊢;exact h
theorem Reps.off {K:PySem.W.Frag}{S:Av}{H H':Hp} (e:Off S H H'):∀ {ds:List D}{xs:List V},Reps K S H ds xs→Reps K S H' ds xs
 | [],_,h=>by simp only [Reps] at h ⊢;exact h
 | d::ds,_,h=>by
  simp only [Reps] at h ⊢
  obtain ⟨x,r,h1,h2,h3⟩:=h
  exact ⟨x,r,h1,Rep.off e h2,Reps.off e h3⟩
end
theorem Rep.up {K:PySem.W.Frag}{S:Av}{H H':Hp}{d:D}{v:V} (h:Rep K S H d v) (e:Same H H'):Rep K S H' d v:=Rep.off e.off h
theorem Reps.up {K:PySem.W.Frag}{S:Av}{H H':Hp}{ds:List D}{vs:List V} (h:Reps K S H ds vs) (e:Same H H'):Reps K S H' ds vs:=Reps.off e.off h
noncomputable def Ext (S S':Av) (H:Hp):Prop:=∀ a,S' a→S a∨H a=none
theorem Ext.not {S S':Av}{H:Hp}{a:Addr}{u:HO} (e:Ext S S' H) (n:¬ S a) (r:Rd H a u):¬ S' a:=fun z=>by
 rcases e a z with q | q
 ·exact n q
 ·rcases r with r | ⟨o,r⟩
  ·rw [q] at r;cases r
  ·rw [q] at r;cases r
mutual
theorem Rep.ext {K:PySem.W.Frag}{S S':Av}{H:Hp} (e:Ext S S' H):∀ {d:D}{v:V},Rep K S H d v→Rep K S' H d v
 | .non,_,h=>by simp only [Rep] at h ⊢;exact h
 | .bl b,_,h=>by simp only [Rep] at h ⊢;exact h
 | .int i,_,h=>by simp only [Rep] at h ⊢;exact h
 | .str x,_,h=>by simp only [Rep] at h ⊢;exact h
 | .ty x,_,h=>by simp only [Rep] at h ⊢;exact h
 | .lst ds,_,h=>by
  simp only [Rep] at h ⊢
  obtain ⟨a,xs,h1,h2,h4⟩:=h
  exact ⟨a,xs,h1,⟨e.not h2.1 (.inl h2.2),h2.2⟩,Reps.ext e h4⟩
 | .tup ds,_,h=>by
  simp only [Rep] at h ⊢
  obtain ⟨a,xs,h1,h2,h4⟩:=h
  exact ⟨a,xs,h1,h2.elim (fun q=>.inl ⟨e.not q.1 q.2,q.2⟩) .inr,Reps.ext e h4⟩
 | .dkt ks,_,h=>by
  simp only [Rep] at h ⊢
  obtain ⟨a,h1,h2,h3⟩:=h
  exact ⟨a,h1,e.not h2 h3,h3⟩
 | .dki ks,_,h=>by
  simp only [Rep] at h ⊢
  obtain ⟨a,h1,h2,h3⟩:=h
  exact ⟨a,h1,e.not h2 h3,h3⟩
 | .scr ns,_,h=>by
  simp only [Rep] at h ⊢
  obtain ⟨a,h1,h2⟩:=h
  exact ⟨a,h1,h2.elim (fun q=>.inl ⟨e.not q.1 q.2,q.2⟩) .inr⟩
 | .adr x,_,h=>by simp only [Rep] at h ⊢;exact h
theorem Reps.ext {K:PySem.W.Frag}{S S':Av}{H:Hp} (e:Ext S S' H):∀ {ds:List D}{xs:List V},Reps K S H ds xs→Reps K S' H ds xs
 | [],_,h=>by simp only [Reps] at h ⊢;exact h
 | d::ds,_,h=>by
  simp only [Reps] at h ⊢
  obtain ⟨x,r,h1,h2,h3⟩:=h
  exact ⟨x,r,h1,Rep.ext e h2,Reps.ext e h3⟩
end
theorem Rep.less {K:PySem.W.Frag}{S S':Av}{H:Hp}{d:D}{v:V} (h:Rep K S H d v) (e:∀ a,S' a→S a):Rep K S' H d v:=Rep.ext (fun a z=>.inl (e a z)) h
theorem Reps.less {K:PySem.W.Frag}{S S':Av}{H:Hp}{d:List D}{v:List V} (h:Reps K S H d v) (e:∀ a,S' a→S a):Reps K S' H d v:=Reps.ext (fun a z=>.inl (e a z)) h
section
variable {K:PySem.W.Frag}{S:Av}{H:Hp}
theorem Reps.length:∀ {ds:List D}{xs:List V},Reps K S H ds xs→xs.length=ds.length
 | [],_,h=>by simp only [Reps] at h;subst h;rfl
 | d::ds,_,h=>by
  simp only [Reps] at h
  obtain ⟨x,r,h1,_,h3⟩:=h
  subst h1
  rw [List.length_cons,List.length_cons,Reps.length h3]
theorem Reps.get:∀ {ds:List D}{xs:List V}{i:Nat}{d:D},Reps K S H ds xs→ds[i]? = some d→∃ x,xs[i]? = some x∧Rep K S H d x
 | [],_,_,_,_,e=>by simp at e
 | d::ds,_,0,_,h,e=>by
  simp only [Reps] at h
  obtain ⟨x,r,h1,h2,_⟩:=h
  subst h1
  simp at e
  subst e
  exact ⟨x,rfl,h2⟩
 | d::ds,_,i + 1,_,h,e=>by
  simp only [Reps] at h
  obtain ⟨x,r,h1,_,h3⟩:=h
  subst h1
  obtain ⟨y,q1,q2⟩:=Reps.get (i:=i) h3 (by simpa using e)
  exact ⟨y,by simpa using q1,q2⟩
theorem Reps.append:∀ {ds es:List D}{xs ys:List V},Reps K S H ds xs→Reps K S H es ys→Reps K S H (ds++es) (xs++ys)
 | [],_,_,_,h,g=>by simp only [Reps] at h;subst h;exact g
 | d::ds,_,_,_,h,g=>by
  simp only [Reps] at h
  obtain ⟨x,r,h1,h2,h3⟩:=h
  subst h1
  show Reps K S H (d::(ds++_)) (x::(r++_))
  simp only [Reps]
  exact ⟨x,_,rfl,h2,Reps.append h3 g⟩
theorem Reps.one {d:D}{x:V} (h:Rep K S H d x):Reps K S H [d] [x]:=by
 simp only [Reps]
 exact ⟨x,[],rfl,h,rfl⟩
theorem Reps.take:∀ {ds:List D}{xs:List V} (n:Nat),Reps K S H ds xs→Reps K S H (ds.take n) (xs.take n)
 | _,_,0,_=>by simp only [List.take_zero,Reps]
 | [],_,n + 1,h=>by simp only [Reps] at h;subst h;simp only [List.take_nil,Reps]
 | d::ds,_,n + 1,h=>by
  simp only [Reps] at h
  obtain ⟨x,r,h1,h2,h3⟩:=h
  subst h1
  simp only [List.take_succ_cons,Reps]
  exact ⟨x,_,rfl,h2,Reps.take n h3⟩
theorem Reps.drop:∀ {ds:List D}{xs:List V} (n:Nat),Reps K S H ds xs→Reps K S H (ds.drop n) (xs.drop n)
 | _,_,0,h=>by simpa using h
 | [],_,n + 1,h=>by simp only [Reps] at h;subst h;simp only [List.drop_nil,Reps]
 | d::ds,_,n + 1,h=>by
  simp only [Reps] at h
  obtain ⟨x,r,h1,h2,h3⟩:=h
  subst h1
  simp only [List.drop_succ_cons]
  exact Reps.drop n h3
theorem reps_ints:∀ {ns:List Int}{xs:List V},Reps K S H (ns.map .int) xs↔xs=ns.map V.int
 | [],_=>by simp only [List.map_nil,Reps]
 | n::ns,xs=>by
  simp only [List.map_cons,Reps,Rep]
  constructor
  ·rintro ⟨x,r,rfl,rfl,h⟩
   rw [reps_ints.mp h]
  ·intro h
   exact ⟨.int n,ns.map V.int,h,rfl,reps_ints.mpr rfl⟩
end
noncomputable def Sub (S:Av) (H:Hp):Prop:=∀ a,S a→H a≠none
theorem Sub.up {S:Av}{H H':Hp} (h:Sub S H) (e:Same H H'):Sub S H':=fun a s n=>h a s (e.free n)
theorem Sub.new {S:Av}{H:Hp} (h:Sub S H) {p:Addr} (n:H p=none):¬ S p:=fun s=>h p s n
theorem same_new {H:Hp}{p:Addr} (h:H p=none) (o:HO):Same H (upd H p o):=fun b u q=>by rw [upd_ne (ne_of_none q h)];exact q
noncomputable def tD (K:PySem.W.Frag) (S:Av) (σ:St) (H:Hp) (d:D):TE:=fun σ' H' Q=>σ'=σ∧Same H H'∧Sub S H'∧∀ v H'',Same H' H''→Rep K S H'' d v→Q v H''
noncomputable def DE (X:Cx) (S:Av) (σ:St) (H:Hp) (e:Expr) (d:D):Prop:=PE X e (tD X.K S σ H d)
noncomputable def tDT (S:Av) (σ:St) (H:Hp) (b:Bool):TT:=fun σ' H' Q=>σ'=σ∧Same H H'∧Sub S H'∧∀ H'',Same H' H''→Q b H''
noncomputable def DT (X:Cx) (S:Av) (σ:St) (H:Hp) (e:Expr) (b:Bool):Prop:=PT X e (tDT S σ H b)
noncomputable def tDA (K:PySem.W.Frag) (S:Av) (σ:St) (H:Hp) (ds:List D):TA:=fun σ' H' Q=>σ'=σ∧Same H H'∧Sub S H'∧∀ vs H'',Same H' H''→Reps K S H'' ds vs→Q vs H''
noncomputable def DA (X:Cx) (S:Av) (σ:St) (H:Hp) (es:List Expr) (ds:List D):Prop:=PA X es (tDA X.K S σ H ds)
theorem PE.mono {X:Cx}{e:Expr}{t t':TE} (h:PE X e t) (m:∀ σ H Q,t' σ H Q→t σ H Q):PE X e t':=fun pins s σ H Q I q=>h pins s σ H Q I (m σ H Q q)
theorem PT.mono {X:Cx}{e:Expr}{t t':TT} (h:PT X e t) (m:∀ σ H Q,t' σ H Q→t σ H Q):PT X e t':=fun pins s σ H Q I q=>h pins s σ H Q I (m σ H Q q)
theorem PW.mono {X:Cx}{e:Expr}{t t':TT} (h:PW X e t) (m:∀ σ H Q,t' σ H Q→t σ H Q):PW X e t':=fun wh pins s σ H Q I q=>h wh pins s σ H Q I (m σ H Q q)
theorem PA.mono {X:Cx}{es:List Expr}{t t':TA} (h:PA X es t) (m:∀ σ H Q,t' σ H Q→t σ H Q):PA X es t':=fun pos pins s σ H Q I q=>h pos pins s σ H Q I (m σ H Q q)
end L2
theorem au4 (h:True:=by first | exact Or.inl rfl | exact Or.inr (Or.inl rfl) | exact Or.inr (Or.inr rfl)):True:=h
theorem au5 (h:True:=by first | decide | (simp;done)):True:=h
theorem au6 (h:True:=by intro _ _;rfl):True:=h
namespace L2
open PySem PySem.Spec PyProof.Rows
section
variable {X:Cx}{S:Av}{σ:St}{H:Hp}{a b c e:Expr}{pos:Pos}{d d1 d2:D}{i j:Int}
theorem de_var (n:Nat) {v:V}{x:Str} (hs:σ[n]? = some (some v)) (r:Rep X.K S H d v) (hN:autoParam (X.N[n]? = some x) au3._auto_1) (hv:autoParam (Vis X.env.scope x) au4._auto_1)
  (hd:autoParam ((x == ("__debug__":Str))=false) au1._auto_1) (hcd:autoParam ((x == ("__classdict__":Str))=false) au1._auto_1):DE X S σ H (.Name x pos) d:=
 (pe_var hN hv hd hcd).mono fun σ' H' Q ⟨e,sm,_,k⟩=>⟨v,by rw [e];exact hs,k v H' (Same.refl _) (r.up sm)⟩
theorem de_int {n:Int}{k:Nat}:DE X S σ H (.Constant (.int n) k pos) (.int n):=pe_int.mono fun _ H' _ ⟨_,_,_,q⟩=>q _ H' (Same.refl _) (by simp only [Rep])
theorem de_bl {n:Bool}{k:Nat}:DE X S σ H (.Constant (.bool n) k pos) (.bl n):=pe_bl.mono fun _ H' _ ⟨_,_,_,q⟩=>q _ H' (Same.refl _) (by simp only [Rep])
theorem de_non {k:Nat}:DE X S σ H (.Constant .none k pos) .non:=pe_non.mono fun _ H' _ ⟨_,_,_,q⟩=>q _ H' (Same.refl _) (by simp only [Rep])
theorem de_str {n:Str}{k:Nat}:DE X S σ H (.Constant (.str n) k pos) (.str n):=pe_str.mono fun _ H' _ ⟨_,_,_,q⟩=>q _ H' (Same.refl _) (by simp only [Rep])
theorem de_glob {x:Str}{v:V}{u:Value} (hm:X.mg x=some u) (r:RelV v u) (rp:∀ H',Same H H'→Rep X.K S H' d v) (hg:autoParam (Gl X x) au3._auto_1) (hd:autoParam ((x == ("__debug__":Str))=false) au1._auto_1):DE X S σ H (.Name x pos) d:=
 (pe_glob hg hm r hd).mono fun _ H' _ ⟨_,sm,_,q⟩=>q _ H' (Same.refl _) (rp H' sm)
theorem de_ty {x:Str}{n:String} (hm:X.mg x=none) (hv:bootBuiltins x=some (.type n)) (hg:autoParam (Gl X x) au3._auto_1) (hn:autoParam (x≠"__name__") au1._auto_1) (hd:autoParam ((x == ("__debug__":Str))=false) au1._auto_1):DE X S σ H (.Name x pos) (.ty n):=
 (pe_bltn hg hm hv (v:=.ty n) rfl hn hd).mono fun _ H' _ ⟨_,_,_,q⟩=>q _ H' (Same.refl _) (by simp only [Rep])
noncomputable def GoodR (K:PySem.W.Frag) (S:Av) (H:Hp) (d1 d2 d:D) (r:R2):Prop:=
 ∀ x y H' Q,Same H H'→Sub S H'→Rep K S H' d1 x→Rep K S H' d2 y→(∀ v H'',Same H' H''→Rep K S H'' d v→Q v H'')→r x y H' Q
theorem tOp_of {r:R2}{σ':St}{H':Hp}{Q:VK} (hr:GoodR X.K S H d1 d2 d r) (q:tD X.K S σ H d σ' H' Q):tOp r (tD X.K S σ H d1) (tD X.K S σ H d2) σ' H' Q:=by
 obtain ⟨rfl,sm,sb,k⟩:=q
 exact ⟨rfl,sm,sb,fun x H1 s1 r1=>⟨rfl,sm.trans s1,sb.up s1,fun y H2 s2 r2=>hr x y H2 Q (sm.trans (s1.trans s2)) ((sb.up s1).up s2) (r1.up s2) r2 fun v H3 s3 rv=>k v H3 (s1.trans (s2.trans s3)) rv⟩⟩
theorem de_op {op:Operator}{r:R2} (ho:OpR X (binaryOp op) r) (ha:DE X S σ H a d1) (hb:DE X S σ H b d2) (hr:GoodR X.K S H d1 d2 d r):DE X S σ H (.BinOp a op b pos) d:=
 (pe_op ho ha hb).mono fun _ _ _ q=>tOp_of hr q
theorem de_cmp {op:CmpOp}{r:R2} (ho:OpR X (compareOp op) r) (ha:DE X S σ H a d1) (hb:DE X S σ H b d2) (hr:GoodR X.K S H d1 d2 d r) (hm:behindInMarks op b=false):DE X S σ H (.Compare a [op] [b] pos) d:=
 (pe_cmpR ho ha hb hm).mono fun _ _ _ q=>tOp_of hr q
theorem dt_cmp {op:CmpOp}{r:R2}{k:Bool} (ho:OpR X (compareOp op) r) (ha:DE X S σ H a d1) (hb:DE X S σ H b d2) (hr:GoodR X.K S H d1 d2 (.bl k) r) (hm:behindInMarks op b=false):DT X S σ H (.Compare a [op] [b] pos) k:=
 (pt_cmpR ho ha hb hm).mono fun σ' H' Q ⟨e,sm,sb,q⟩=>tOp_of hr ⟨e,sm,sb,fun v H'' s rv=>⟨k,by simpa only [Rep] using rv,q H'' s⟩⟩
theorem good_int {C:Int→Int→Prop}{g:Int→Int→V}{H:Hp} (hC:C i j) (hg:∀ H',Rep X.K S H' d (g i j)):GoodR X.K S H (.int i) (.int j) d (rI C g):=by
 intro x y H' Q _ _ rx ry k
 simp only [Rep] at rx ry
 exact ⟨i,j,rx,ry,hC,k _ H' (Same.refl _) (hg H')⟩
theorem good_int0 {g:Int→Int→V}{H:Hp} (hg:∀ H',Rep X.K S H' d (g i j)):GoodR X.K S H (.int i) (.int j) d (rI0 g):=by
 intro x y H' Q _ _ rx ry k
 simp only [Rep] at rx ry
 exact ⟨i,j,rx,ry,k _ H' (Same.refl _) (hg H')⟩
theorem rep_int {H:Hp}{n:Int}:Rep X.K S H (.int n) (.int n):=by simp only [Rep]
theorem rep_bl {H:Hp}{n:Bool}:Rep X.K S H (.bl n) (.bl n):=by simp only [Rep]
theorem de_add (ha:DE X S σ H a (.int i)) (hb:DE X S σ H b (.int j)):DE X S σ H (.BinOp a .Add b pos) (.int (i + j)):=de_op op_add ha hb (good_int0 fun _=>rep_int)
theorem de_sub (ha:DE X S σ H a (.int i)) (hb:DE X S σ H b (.int j)):DE X S σ H (.BinOp a .Sub b pos) (.int (i - j)):=de_op op_sub ha hb (good_int0 fun _=>rep_int)
theorem de_mul (ha:DE X S σ H a (.int i)) (hb:DE X S σ H b (.int j)) (h:CMul i j):DE X S σ H (.BinOp a .Mult b pos) (.int (i * j)):=de_op op_mul ha hb (good_int h fun _=>rep_int)
theorem de_fdiv (ha:DE X S σ H a (.int i)) (hb:DE X S σ H b (.int j)) (h:CDiv i j):DE X S σ H (.BinOp a .FloorDiv b pos) (.int (i / j)):=de_op op_fdiv ha hb (good_int h fun _=>rep_int)
theorem de_mod (ha:DE X S σ H a (.int i)) (hb:DE X S σ H b (.int j)) (h:0 < j):DE X S σ H (.BinOp a .Mod b pos) (.int (i % j)):=de_op op_mod ha hb (good_int (C:=fun _ j=>0 < j) h fun _=>rep_int)
theorem de_and (ha:DE X S σ H a (.int i)) (hb:DE X S σ H b (.int j)):DE X S σ H (.BinOp a .BitAnd b pos) (.int (Builtin.bitAnd i j)):=de_op op_and ha hb (good_int0 fun _=>rep_int)
theorem good_eqI {H:Hp}:GoodR X.K S H (.int i) (.int j) (.bl (decide (i=j))) rEq:=by
 intro x y H' Q _ _ rx ry k
 simp only [Rep] at rx ry
 subst rx ry
 refine ⟨rfl,k _ H' (Same.refl _) ?_⟩
 simp only [Rep,V.int.injEq]
theorem good_neI {H:Hp}:GoodR X.K S H (.int i) (.int j) (.bl (!decide (i=j))) rNe:=by
 intro x y H' Q _ _ rx ry k
 simp only [Rep] at rx ry
 subst rx ry
 refine ⟨rfl,k _ H' (Same.refl _) ?_⟩
 simp only [Rep,V.int.injEq]
theorem de_le (ha:DE X S σ H a (.int i)) (hb:DE X S σ H b (.int j)):DE X S σ H (.Compare a [.LtE] [b] pos) (.bl (decide (i≤j))):=de_cmp op_le ha hb (good_int0 fun _=>rep_bl) (nomark _)
theorem de_eqI (ha:DE X S σ H a (.int i)) (hb:DE X S σ H b (.int j)):DE X S σ H (.Compare a [.Eq] [b] pos) (.bl (decide (i=j))):=de_cmp op_eq ha hb good_eqI (nomark _)
theorem dt_lt (ha:DE X S σ H a (.int i)) (hb:DE X S σ H b (.int j)):DT X S σ H (.Compare a [.Lt] [b] pos) (decide (i < j)):=dt_cmp op_lt ha hb (good_int0 fun _=>rep_bl) (nomark _)
theorem dt_le (ha:DE X S σ H a (.int i)) (hb:DE X S σ H b (.int j)):DT X S σ H (.Compare a [.LtE] [b] pos) (decide (i≤j)):=dt_cmp op_le ha hb (good_int0 fun _=>rep_bl) (nomark _)
theorem dt_gt (ha:DE X S σ H a (.int i)) (hb:DE X S σ H b (.int j)):DT X S σ H (.Compare a [.Gt] [b] pos) (decide (j < i)):=dt_cmp op_gt ha hb (good_int0 fun _=>rep_bl) (nomark _)
theorem dt_ge (ha:DE X S σ H a (.int i)) (hb:DE X S σ H b (.int j)):DT X S σ H (.Compare a [.GtE] [b] pos) (decide (j≤i)):=dt_cmp op_ge ha hb (good_int0 fun _=>rep_bl) (nomark _)
theorem dt_eqI (ha:DE X S σ H a (.int i)) (hb:DE X S σ H b (.int j)):DT X S σ H (.Compare a [.Eq] [b] pos) (decide (i=j)):=dt_cmp op_eq ha hb good_eqI (nomark _)
theorem dt_neI (ha:DE X S σ H a (.int i)) (hb:DE X S σ H b (.int j)):DT X S σ H (.Compare a [.NotEq] [b] pos) (!decide (i=j)):=dt_cmp op_ne ha hb good_neI (nomark _)
theorem dt_val {k:Bool} (h:DE X S σ H e (.bl k)) (he:autoParam (∀ whole,isTrue e X.env whole=(do let v ← whole;standAt e.pos;holding [v] (truthy v))) au2._auto_1):DT X S σ H e k:=
 (pt_val h he).mono fun σ' H' Q ⟨e,sm,sb,q⟩=>⟨e,sm,sb,fun v H'' s rv=>⟨k,by simpa only [Rep] using rv,q H'' s⟩⟩
noncomputable def DW (X:Cx) (S:Av) (σ:St) (H:Hp) (e:Expr) (b:Bool):Prop:=PW X e (tDT S σ H b)
theorem DW.dt {k:Bool} (h:DW X S σ H e k):DT X S σ H e k:=PW.pt h
theorem pw_none:PW X e (fun _ _ _=>False):=fun _ _ _ _ _ _ _ h=>h.elim
theorem pe_none:PE X e (fun _ _ _=>False):=fun _ _ _ _ _ _ h=>h.elim
variable {rest:List Expr}{k l:Bool}
theorem dw_and1 (ha:DT X S σ H a k):DW X S σ H (.BoolOp .And [a] pos) k:=pw_and1 ha
theorem dw_or1 (ha:DT X S σ H a k):DW X S σ H (.BoolOp .Or [a] pos) k:=pw_or1 ha
theorem dw_and (ha:DT X S σ H a k) (hb:k=true→DW X S σ H (.BoolOp .And (b::rest) pos) l):DW X S σ H (.BoolOp .And (a::b::rest) pos) (k && l):=by
 cases k with
 | true=>
  refine (pw_and ha (hb rfl)).mono fun σ' H' Q ⟨e,sm,sb,q⟩=>⟨e,sm,sb,fun H1 s1=>?_⟩
  refine iteT ?_
  exact ⟨e,sm.trans s1,sb.up s1,fun H2 s2=>q H2 (s1.trans s2)⟩
 | false=>
  refine (pw_and ha pw_none).mono fun σ' H' Q ⟨e,sm,sb,q⟩=>⟨e,sm,sb,fun H1 s1=>?_⟩
  refine iteF ?_
  exact q H1 s1
theorem dw_or (ha:DT X S σ H a k) (hb:k=false→DW X S σ H (.BoolOp .Or (b::rest) pos) l):DW X S σ H (.BoolOp .Or (a::b::rest) pos) (k || l):=by
 cases k with
 | false=>
  refine (pw_or ha (hb rfl)).mono fun σ' H' Q ⟨e,sm,sb,q⟩=>⟨e,sm,sb,fun H1 s1=>?_⟩
  refine iteF ?_
  exact ⟨e,sm.trans s1,sb.up s1,fun H2 s2=>q H2 (s1.trans s2)⟩
 | true=>
  refine (pw_or ha pw_none).mono fun σ' H' Q ⟨e,sm,sb,q⟩=>⟨e,sm,sb,fun H1 s1=>?_⟩
  refine iteT ?_
  exact q H1 s1
theorem dt_not (ha:DT X S σ H a k):DT X S σ H (.UnaryOp .Not a pos) (!k):=(pt_not ha).mono fun σ' H' Q ⟨e,sm,sb,q⟩=>⟨e,sm,sb,fun H1 s1=>q H1 s1⟩
theorem de_one {op:BoolOp} (ha:DE X S σ H a d):DE X S σ H (.BoolOp op [a] pos) d:=pe_one ha
theorem de_andV (ha:DE X S σ H a (.bl k)) (hb:k=true→DE X S σ H (.BoolOp .And (b::rest) pos) d) (hd:k=false→d = .bl false):DE X S σ H (.BoolOp .And (a::b::rest) pos) d:=by
 cases k with
 | true=>
  refine (pe_and ha (hb rfl)).mono fun σ' H' Q ⟨e,sm,sb,q⟩=>⟨e,sm,sb,fun v H1 s1 rv=>⟨true,by simpa only [Rep] using rv,?_⟩⟩
  refine iteT ?_
  exact ⟨e,sm.trans s1,sb.up s1,fun v H2 s2 r2=>q v H2 (s1.trans s2) r2⟩
 | false=>
  refine (pe_and ha pe_none).mono fun σ' H' Q ⟨e,sm,sb,q⟩=>⟨e,sm,sb,fun v H1 s1 rv=>⟨false,by simpa only [Rep] using rv,?_⟩⟩
  refine iteF ?_
  refine q _ H1 s1 ?_
  rw [hd rfl]
  exact rep_bl
theorem de_if (hc:DT X S σ H c k) (ha:k=true→DE X S σ H a d) (hb:k=false→DE X S σ H b d):DE X S σ H (.IfExp c a b pos) d:=by
 cases k with
 | true=>
  refine (pe_ifExp hc (ha rfl) pe_none).mono fun σ' H' Q ⟨e,sm,sb,q⟩=>⟨e,sm,sb,fun H1 s1=>?_⟩
  refine iteT ?_
  exact ⟨e,sm.trans s1,sb.up s1,fun v H2 s2 r2=>q v H2 (s1.trans s2) r2⟩
 | false=>
  refine (pe_ifExp hc pe_none (hb rfl)).mono fun σ' H' Q ⟨e,sm,sb,q⟩=>⟨e,sm,sb,fun H1 s1=>?_⟩
  refine iteF ?_
  exact ⟨e,sm.trans s1,sb.up s1,fun v H2 s2 r2=>q v H2 (s1.trans s2) r2⟩
variable {es:List Expr}{ds:List D}
theorem da_nil:DA X S σ H [] []:=pa_nil.mono fun _ H' _ ⟨_,_,_,q⟩=>q _ H' (Same.refl _) (by simp only [Reps])
theorem da_cons (ha:DE X S σ H e d) (hr:DA X S σ H es ds) (hs:autoParam (starEach (e::es) X.env=(false,eval e X.env)::starEach es X.env) au3._auto_1):DA X S σ H (e::es) (d::ds):=
 (pa_cons ha hr hs).mono fun σ' H' Q ⟨e,sm,sb,q⟩=>⟨e,sm,sb,fun v H1 s1 r1=>⟨e,sm.trans s1,sb.up s1,fun vs H2 s2 r2=>q _ H2 (s1.trans s2) (by simp only [Reps];exact ⟨v,vs,rfl,r1.up s2,r2⟩)⟩⟩
theorem small_line {n:Nat} (h:n≤1000):n≤sizeLine:=Nat.le_of_lt (small1000 h)
theorem rep_lst {H:Hp}{p:Addr}{vs:List V} (n:¬ S p) (h:H p=some (.lst vs)) (r:Reps X.K S H ds vs):Rep X.K S H (.lst ds) (.ref p):=by
 simp only [Rep]
 exact ⟨p,vs,rfl,⟨n,h⟩,r⟩
theorem rep_tup {H:Hp}{p:Addr}{vs:List V} (n:¬ S p) (h:H p=some (.tup vs)) (r:Reps X.K S H ds vs):Rep X.K S H (.tup ds) (.ref p):=by
 simp only [Rep]
 exact ⟨p,vs,rfl,.inl ⟨n,.inl h⟩,r⟩
theorem de_lst (h:DA X S σ H es ds) (hl:autoParam (ds.length≤1000) au5._auto_1):DE X S σ H (.List es pos) (.lst ds):=
 (pe_lst h).mono fun σ' H' Q ⟨e,sm,sb,q⟩=>⟨e,sm,sb,fun vs H1 s1 r1=>⟨by rw [r1.length];exact small_line hl,fun p hp=>q _ _ (s1.trans (same_new hp _)) (rep_lst ((sb.up s1).new hp) upd_same (r1.up (same_new hp _)))⟩⟩
theorem de_tup {x1} (h:DA X S σ H es ds) (hl:autoParam (ds.length≤1000) au5._auto_1):DE X S σ H (.Tuple es x1 pos) (.tup ds):=
 (pe_tup h).mono fun σ' H' Q ⟨e,sm,sb,q⟩=>⟨e,sm,sb,fun vs H1 s1 r1=>⟨by rw [r1.length];exact small_line hl,fun p hp=>q _ _ (s1.trans (same_new hp _)) (rep_tup ((sb.up s1).new hp) upd_same (r1.up (same_new hp _)))⟩⟩
noncomputable def GoodC (K:PySem.W.Frag) (S:Av) (H:Hp) (ds:List D) (d:D) (r:List V→Hp→VK→Prop):Prop:=
 ∀ vs H' Q,Same H H'→Sub S H'→Reps K S H' ds vs→(∀ v H'',Same H' H''→Rep K S H'' d v→Q v H'')→r vs H' Q
theorem tCB_of {r:List V→Hp→VK→Prop}{σ':St}{H':Hp}{Q:VK} (hr:GoodC X.K S H ds d r) (q:tD X.K S σ H d σ' H' Q):tCB r (tDA X.K S σ H ds) σ' H' Q:=by
 obtain ⟨rfl,sm,sb,k⟩:=q
 exact ⟨rfl,sm,sb,fun vs H1 s1 r1=>hr vs H1 Q (sm.trans s1) (sb.up s1) r1 fun v H2 s2 rv=>k v H2 (s1.trans s2) rv⟩
theorem de_cb {r:List V→Hp→VK→Prop} (hr:GoodC X.K S H ds d r) (hp:PE X e (tCB r (tDA X.K S σ H ds))):DE X S σ H e d:=hp.mono fun _ _ _ q=>tCB_of hr q
theorem rep_seq {H:Hp}{v:V} (h:Rep X.K S H (.lst ds) v):∃ p ys,v = .ref p∧AvL X.K S H p ys∧Reps X.K S H ds ys:=by simpa only [Rep] using h
theorem rep_seqT {H:Hp}{v:V} (h:Rep X.K S H (.tup ds) v):∃ p ys,v = .ref p∧AvT X.K S H p ys∧Reps X.K S H ds ys:=by simpa only [Rep] using h
theorem reps_1 {H:Hp}{vs:List V} (h:Reps X.K S H [d] vs):∃ v,vs=[v]∧Rep X.K S H d v:=by
 simp only [Reps] at h
 obtain ⟨x,r,h1,h2,h3⟩:=h
 exact ⟨x,by rw [h1,h3],h2⟩
theorem reps_2 {H:Hp}{vs:List V} (h:Reps X.K S H [d1,d2] vs):∃ v w,vs=[v,w]∧Rep X.K S H d1 v∧Rep X.K S H d2 w:=by
 simp only [Reps] at h
 obtain ⟨x,r,h1,h2,y,r',h3,h4,h5⟩:=h
 exact ⟨x,y,by rw [h1,h3,h5],h2,h4⟩
theorem good_len {H:Hp}:GoodC X.K S H [.lst ds] (.int ds.length) (fun xs H Q=>∃ p ys,xs=[.ref p]∧(SqL X.K H p ys∨SqT X.K H p ys)∧Q (.int ys.length) H):=by
 intro vs H' Q _ _ r k
 obtain ⟨v,rfl,rv⟩:=reps_1 r
 obtain ⟨p,ys,rfl,h1',h2⟩:=rep_seq rv
 exact ⟨p,ys,rfl,.inl h1'.sq,k _ H' (Same.refl _) (by rw [h2.length];exact rep_int)⟩
theorem good_list {H:Hp}:GoodC X.K S H [.lst ds] (.lst ds) (fun xs H Q=>∃ p ys,xs=[.ref p]∧(SqL X.K H p ys∨SqT X.K H p ys)∧∀ l,H l=none→Q (.ref l) (upd H l (.lst ys))):=by
 intro vs H' Q _ sb r k
 obtain ⟨v,rfl,rv⟩:=reps_1 r
 obtain ⟨p,ys,rfl,h1',h2⟩:=rep_seq rv
 exact ⟨p,ys,rfl,.inl h1'.sq,fun l hl=>k _ _ (same_new hl _) (rep_lst (sb.new hl) upd_same (h2.up (same_new hl _)))⟩
theorem good_ixL {H:Hp}{n:Nat} (h:ds[n]? = some d) (hi:i=n):GoodR X.K S H (.lst ds) (.int i) d (rIxL X.K):=by
 intro x y H' Q _ _ rx ry k
 obtain ⟨p,ys,rfl,h1',h2⟩:=rep_seq rx
 simp only [Rep] at ry
 subst ry
 obtain ⟨v,hv,rv⟩:=h2.get h
 exact ⟨p,ys,i,v,rfl,rfl,h1'.sq,by rw [hi];exact atI_nat hv,k v H' (Same.refl _) rv⟩
theorem good_ixT {H:Hp}{n:Nat} (h:ds[n]? = some d) (hi:i=n):GoodR X.K S H (.tup ds) (.int i) d (rIxT X.K):=by
 intro x y H' Q _ _ rx ry k
 obtain ⟨p,ys,rfl,h1',h2⟩:=rep_seqT rx
 simp only [Rep] at ry
 subst ry
 obtain ⟨v,hv,rv⟩:=h2.get h
 exact ⟨p,ys,i,v,rfl,rfl,h1'.sq,by rw [hi];exact atI_nat hv,k v H' (Same.refl _) rv⟩
theorem de_ix {r:R2} (hr:IxR X r) (ha:DE X S σ H a d1) (hb:DE X S σ H b d2) (hg:GoodR X.K S H d1 d2 d r) (hs:autoParam (PlainIx b) au6._auto_1):DE X S σ H (.Subscript a b pos) d:=
 (pe_ix hr ha hb hs).mono fun _ _ _ q=>tOp_of hg q
end
end L2
theorem au7 (h:True:=by first | exact Or.inl rfl | exact Or.inr rfl):True:=h
theorem au8 (h:True:=by first | exact .inl rfl | exact .inr rfl):True:=h
namespace L2
open PySem PySem.Spec PyProof.Rows
theorem au9 (h:True:=by first | exact PassesOwn.never):True:=h
end L2
namespace L2
open PySem PySem.Spec PyProof.Rows
noncomputable def DSs (X:Cx) (sts:List Stmt) (E:Ends) (σ:St) (H:Hp):Prop:=
 ∀ (pins:List (Addr × Obj)) (s:Shared),Inv X pins σ H s→wpAny (model X.prog X.w) X.A (execs sts X.env) (SP X pins E) X.xe s
noncomputable def DS (X:Cx) (st:Stmt) (E:Ends) (σ:St) (H:Hp):Prop:=
 ∀ (pins:List (Addr × Obj)) (s:Shared),Inv X pins σ H s→wpAny (model X.prog X.w) X.A (exec st X.env) (SP X pins E) X.xe s
structure At (X:Cx) (S M:Av) (H0:Hp) (δ:List (Option D)) (σ:St) (H:Hp):Prop where
 same:Off M H0 H
 sub:Sub S H
 ms:∀ a,M a→S a
 len:δ.length=σ.length
 env:∀ (i:Nat) (d:D),δ[i]? = some (some d)→∃ v,σ[i]? = some (some v)∧Rep X.K S H d v
noncomputable abbrev no:Av:=fun _=>False
theorem Off.refl {M:Av}{H:Hp}:Off M H H:=fun _ _ _ h=>h
theorem Off.trans {M:Av}{H H1 H2:Hp} (a:Off M H H1) (b:Off M H1 H2):Off M H H2:=fun c o n h=>b c o n (a c o n h)
theorem Off.same {H H':Hp} (h:Off no H H'):Same H H':=fun b o q=>h b o (fun z=>z) q
section
variable {X:Cx}{S M:Av}{H0 H:Hp}{δ:List (Option D)}{σ:St}{E:Ends}{st:Stmt}{rest:List Stmt}{pos pos':Pos}{e c:Expr}{d:D}{k:Bool}
theorem pss_of {sts:List Stmt}:PSs X sts (DSs X sts):=fun pins s _ _ _ I h=>h pins s I
theorem ps_of:PS X st (DS X st):=fun pins s _ _ _ I h=>h pins s I
theorem DS.of {t:TS} (h:PS X st t) (q:t E σ H):DS X st E σ H:=fun pins s I=>h pins s σ H E I q
theorem dss_nil (h:E.nx σ H):DSs X [] E σ H:=fun pins s I=>pss_nil pins s σ H E I h
theorem dss_cons (h:DS X st { E with nx:=DSs X rest E } σ H):DSs X (st::rest) E σ H:=fun pins s I=>pss_cons ps_of pss_of pins s σ H E I h
theorem At.up (A:At X S M H0 δ σ H) {H':Hp} (s:Same H H'):At X S M H0 δ σ H':=
 ⟨A.same.trans s.off,A.sub.up s,A.ms,A.len,fun i d h=>let ⟨v,h1,h2⟩:=A.env i d h;⟨v,h1,h2.up s⟩⟩
theorem At.set (A:At X S M H0 δ σ H) {i:Nat}{v:V} (r:Rep X.K S H d v):At X S M H0 (δ.set i (some d)) (σ.set i (some v)) H:=
 ⟨A.same,A.sub,A.ms,by rw [List.length_set,List.length_set];exact A.len,fun j d' h=>by
  by_cases hij:i=j
  ·subst hij
   have hl:i < δ.length:=by
    have:=(List.getElem?_eq_some_iff.mp h).1
    rwa [List.length_set] at this
   rw [List.getElem?_set_self hl] at h
   cases h
   exact ⟨v,List.getElem?_set_self (by rw [← A.len];exact hl),r⟩
  ·rw [List.getElem?_set_ne hij] at h
   obtain ⟨w,h1,h2⟩:=A.env j d' h
   exact ⟨w,by rw [List.getElem?_set_ne hij];exact h1,h2⟩⟩
theorem At.base (A:At X S M H0 δ σ H) {H1:Hp} (o:Off M H1 H0):At X S M H1 δ σ H:=⟨o.trans A.same,A.sub,A.ms,A.len,A.env⟩
theorem At.here (A:At X S M H0 δ σ H):At X S M H δ σ H:=⟨Off.refl,A.sub,A.ms,A.len,A.env⟩
theorem At.v (A:At X S M H0 δ σ H) (n:Nat) {x:Str} (h:autoParam (δ[n]? = some (some d)) au3._auto_1) (hN:autoParam (X.N[n]? = some x) au3._auto_1) (hv:autoParam (Vis X.env.scope x) au4._auto_1)
  (hd:autoParam ((x == ("__debug__":Str))=false) au1._auto_1) (hcd:autoParam ((x == ("__classdict__":Str))=false) au1._auto_1):DE X S σ H (.Name x pos) d:=
 let ⟨_,h1,h2⟩:=A.env n d h
 de_var n h1 h2 hN hv hd hcd
theorem st_set (A:At X S M H0 δ σ H) (i:Nat) {x:Str} (he:DE X S σ H e d) (k:∀ σ' H',At X S M H0 (δ.set i (some d)) σ' H'→DSs X rest E σ' H') (hN:X.N.Nodup) (hi:autoParam (X.N[i]? = some x) au3._auto_1) (hx:autoParam (Loc X.env.scope x) au7._auto_1)
  (hs:autoParam (swapsWith e (some (.Name x pos')) pos.line X.env=pure false) au3._auto_1) (hf:autoParam (X.fn x=true∨X.env.scope.names.lookup x=some .local) au8._auto_1):DSs X (.Assign [.Name x pos'] e pos::rest) E σ H:=
 dss_cons (DS.of (ps_set hN hi hx he hs hf) ⟨rfl,Same.refl _,A.sub,fun v H' s r=>k _ H' ((A.up s).set r)⟩)
theorem st_ret (A:At X S M H0 δ σ H) (he:DE X S σ H e d) (k:∀ v H',Same H H'→Rep X.K S H' d v→E.rt v H'):DSs X (.Return (some e) pos::rest) E σ H:=
 dss_cons (DS.of (ps_ret he) ⟨rfl,Same.refl _,A.sub,fun v H' s r=>k v H' s r⟩)
theorem st_if (A:At X S M H0 δ σ H) {a b:List Stmt} (hc:DT X S σ H c k) (h1:k=true→∀ H',At X S M H0 δ σ H'→DSs X a { E with nx:=DSs X rest E } σ H') (h2:k=false→∀ H',At X S M H0 δ σ H'→DSs X b { E with nx:=DSs X rest E } σ H'):DSs X (.If c a b pos::rest) E σ H:=by
 refine dss_cons (DS.of (ps_if hc pss_of pss_of) ⟨rfl,Same.refl _,A.sub,fun H' s=>?_⟩)
 cases k with
 | true=>exact iteT (h1 rfl H' (A.up s))
 | false=>exact iteF (h2 rfl H' (A.up s))
theorem st_expr (A:At X S M H0 δ σ H) (he:DE X S σ H e d) (k:∀ H',At X S M H0 δ σ H'→DSs X rest E σ H') (hs:autoParam (swapsWith e none pos.line X.env=pure false) au3._auto_1):DSs X (.Expr e pos::rest) E σ H:=
 dss_cons (DS.of (ps_expr he hs) ⟨rfl,Same.refl _,A.sub,fun v H' s r=>k H' (A.up s)⟩)
noncomputable def ItD (K:PySem.W.Frag) (S:Av) (H1:Hp) (J:It) (ds:List D):Prop:=
 ∀ S' H2 (i:Nat),Ext S S' H1→Off S' H1 H2→Sub S' H2→(i < ds.length→J.go i H2∧∀ x H3,J.yld i H2 x H3→Same H2 H3∧∃ d,ds[i]? = some d∧Rep K S' H3 d x)∧(i=ds.length→J.stop i H2)
noncomputable def tDI (K:PySem.W.Frag) (S:Av) (σ:St) (H:Hp) (ds:List D):TI:=fun σ' H' R=>σ'=σ∧Same H H'∧Sub S H'∧∀ J H1,Same H' H1→ItD K S H1 J ds→R J H1
noncomputable def DI (X:Cx) (S:Av) (σ:St) (H:Hp) (tg iter:Expr) (ds:List D):Prop:=PI X tg iter (tDI X.K S σ H ds)
theorem PI.mono {tg iter:Expr}{t t':TI} (h:PI X tg iter t) (m:∀ σ H R,t' σ H R→t σ H R):PI X tg iter t':=fun pins s σ H R I q=>h pins s σ H R I (m σ H R q)
theorem AvL.ext {S S':Av}{a:Addr}{xs:List V} (h:AvL X.K S H a xs) (e:Ext S S' H):AvL X.K S' H a xs:=⟨e.not h.1 (.inl h.2),h.2⟩
theorem di_list {tg l:Expr}{ds:List D} (hl:DE X S σ H l (.lst ds)):DI X S σ H tg l ds:=by
 refine (pi_list hl).mono fun σ' H' R ⟨e,sm,sb,k⟩=>⟨e,sm,sb,fun v H1 s1 rv=>?_⟩
 obtain ⟨a,xs,rfl,h1,h2⟩:=rep_seq rv
 refine ⟨a,rfl,⟨xs,h1.sq⟩,k _ H1 s1 ?_⟩
 intro S' H2 i ex of sb2
 have q:=((h1.ext ex).off of).sq
 have rs:=(h2.ext ex).off of
 refine ⟨fun hi=>?_,fun hi=>?_⟩
 ·have hi':i < xs.length:=by rw [rs.length];exact hi
  refine ⟨⟨xs,xs[i],q,by simp [hi']⟩,fun x H3 y=>?_⟩
  obtain ⟨e3,y⟩:=y
  subst e3
  obtain ⟨d,hd⟩:∃ d,ds[i]? = some d:=⟨ds[i],List.getElem?_eq_getElem hi⟩
  obtain ⟨x',hx',rx⟩:=rs.get hd
  have:=y xs q
  rw [hx'] at this
  cases this
  exact ⟨Same.refl _,d,hd,rx⟩
 ·exact ⟨xs,q,by rw [rs.length,hi];exact Nat.le_refl _⟩
theorem di_range {tg a:Expr}{p:Pos}{j:Int} (hm:X.mg "range" = none) (ha:DE X S σ H a (.int j)) (h1:-(2 ^ 62)≤j) (h2:j < 2 ^ 62) (hg:autoParam (Gl X "range") au3._auto_1)
  (hs:autoParam (starEach [a] X.env=[(false,eval a X.env)]) au3._auto_1) (hsa:autoParam (starEach [a] X.env=(false,eval a X.env)::starEach [] X.env) au3._auto_1):DI X S σ H tg (.Call (.Name "range" p) [a] [] pos) ((List.range j.toNat).map fun (k:Nat)=>D.int (k:Int)):=by
 refine (pi_range1 hg hm (da_cons ha da_nil hsa) hs).mono fun σ' H' R ⟨e,sm,sb,k⟩=>⟨e,sm,sb,fun vs H1 s1 r1=>?_⟩
 obtain ⟨v,rfl,rv⟩:=reps_1 r1
 have rv':v = .int j:=by simpa only [Rep] using rv
 refine ⟨j,by rw [rv'],h1,h2,k _ H1 s1 ?_⟩
 intro S' H2 i ex of sb2
 rw [List.length_map,List.length_range]
 refine ⟨fun hi=>⟨hi,fun x H3 y=>?_⟩,fun hi=>?_⟩
 ·obtain ⟨e3,y⟩:=y
  subst e3 y
  refine ⟨Same.refl _,.int i,?_,?_⟩
  ·rw [List.getElem?_map,List.getElem?_range hi];rfl
  ·simp only [Rep]
   congr 1
   omega
 ·show j.toNat≤i
  omega
theorem st_forI {tg iter:Expr}{body:List Stmt}{g:TG}{ds:List D} (A:At X S M H0 δ σ H) (hp:PassesOwn (model X.prog X.w) X.A X.env X.xe) (hc:X.calm=true) (hI:DI X S σ H tg iter ds) (hg:PG X tg g) (Iv:Hp→Nat→St→Hp→Prop)
  (h0:∀ H1,At X S M H0 δ σ H1→Iv H1 0 σ H1) (hk:∀ H1 i σ' H',Iv H1 i σ' H'→Off S H1 H'∧Sub S H')
  (hs:∀ H1 i d σ' H' H'' v,Same H H1→Iv H1 i σ' H'→ds[i]? = some d→Same H' H''→Rep X.K S H'' d v→g v σ' H'' fun σ2 H2=>DSs X body { E with nx:=Iv H1 (i + 1),ct:=Iv H1 (i + 1),bk:=DSs X rest E } σ2 H2)
  (hd:∀ H1 σ' H',Same H H1→Iv H1 ds.length σ' H'→DSs X rest E σ' H') (hf:autoParam (∀ x,foldedSetIterable iter X.env x=pure x) au2._auto_1):DSs X (.For tg iter body [] pos::rest) E σ H:=by
 refine dss_cons (DS.of (ps_for hp hc hI hg pss_of hf) ⟨rfl,Same.refl _,A.sub,fun J H1 s1 it=>?_⟩)
 refine ⟨fun i m σ' H'=>m=ds.length - i∧i≤ds.length∧Iv H1 i σ' H',⟨ds.length,by simp,Nat.zero_le _,h0 H1 (A.up s1)⟩,?_⟩
 rintro i m σ' H' ⟨rfl,hi,iv⟩
 obtain ⟨go,stop⟩:=it S H' i (fun a z=>.inl z) (hk H1 i σ' H' iv).1 (hk H1 i σ' H' iv).2
 by_cases hlt:i < ds.length
 ·obtain ⟨g1,g2⟩:=go hlt
  refine .inr ⟨g1,Iv H1 (i + 1),fun σ2 H2 n2=>⟨ds.length - (i + 1),by omega,rfl,hlt,n2⟩,fun x H'' y=>?_⟩
  obtain ⟨s2,d,hd',r⟩:=g2 x H'' y
  exact hs H1 i d σ' H' H'' x s1 iv hd' s2 r
 ·have e:i=ds.length:=by omega
  subst e
  exact .inl ⟨stop rfl,hd H1 σ' H' s1 iv⟩
theorem st_for {iter:Expr}{body:List Stmt}{ds:List D}{x:Str}{px:Pos} (j:Nat) (A:At X S M H0 δ σ H) (hI:DI X S σ H (.Name x px) iter ds) (Iv:Nat→List (Option D)→Prop)
  (h0:Iv 0 δ) (hs:∀ H1 i d δ' σ' H',Off M H0 H1→Iv i δ'→ds[i]? = some d→At X S M H1 (δ'.set j (some d)) σ' H'→DSs X body { E with nx:=fun σ2 H2=>∃ δ2,Iv (i + 1) δ2∧At X S M H1 δ2 σ2 H2,ct:=fun σ2 H2=>∃ δ2,Iv (i + 1) δ2∧At X S M H1 δ2 σ2 H2,bk:=DSs X rest E } σ' H')
  (hd:∀ δ' σ' H',Iv ds.length δ'→At X S M H0 δ' σ' H'→DSs X rest E σ' H') (hN:X.N.Nodup) (hp:autoParam (PassesOwn (model X.prog X.w) X.A X.env X.xe) L2.au9._auto_1) (hc:autoParam (X.calm=true) au3._auto_1) (hi:autoParam (X.N[j]? = some x) au3._auto_1) (hx:autoParam (Loc X.env.scope x) au7._auto_1)
  (hf:autoParam (X.fn x=true∨X.env.scope.names.lookup x=some .local) au8._auto_1) (hfo:autoParam (∀ x,foldedSetIterable iter X.env x=pure x) au2._auto_1):DSs X (.For (.Name x px) iter body [] pos::rest) E σ H:=
 st_forI A hp hc hI (pg_name hN hi hx hf) (fun H1 i σ' H'=>∃ δ',Iv i δ'∧At X S M H1 δ' σ' H') (fun H1 A1=>⟨δ,h0,A1.here⟩) (fun H1 i σ' H' ⟨_,_,A'⟩=>⟨fun b o n h=>A'.same b o (fun z=>n (A'.ms b z)) h,A'.sub⟩)
  (fun H1 i d σ' H' H'' v s1 ⟨δ',iv,A'⟩ hd' s2 r=>hs H1 i d δ' _ _ (A.same.trans s1.off) iv hd' ((A'.up s2).set r)) (fun H1 σ' H' s1 ⟨δ',iv,A'⟩=>hd δ' σ' H' iv (A'.base (A.same.trans s1.off))) hfo
end
noncomputable def tEl (X:Cx) (scope:Scope) (N':List Str) (e:Expr) (S:Av):TE:=fun σ H Q=>∃ d,(∀ C fp s₀ H₀ pins,DE (X.blk scope N' C fp s₀ H₀ pins) S σ H e d)∧Sub S H∧∀ v H',Same H H'→Rep X.K S H' d v→Q v H'
noncomputable def tIfs (X:Cx) (scope:Scope) (N':List Str) (es:List Expr) (S:Av):TT:=fun σ H Q=>∃ b,(∀ C fp s₀ H₀ pins,PIfs (X.blk scope N' C fp s₀ H₀ pins) es (tDT S σ H b))∧Sub S H∧∀ H',Same H H'→Q b H'
section
variable {X:Cx}{S M:Av}{H0 H:Hp}{δ:List (Option D)}{σ:St}{scope:Scope}{N':List Str}{iter elt:Expr}{ifs:List Expr}{x:Str}{px pos:Pos}{ds:List D}
theorem filter_take {p:D→Bool}{i:Nat}{d:D} (h:ds[i]? = some d):(ds.take (i + 1)).filter p=(ds.take i).filter p++(if p d=true then [d] else []):=by
 rw [List.take_add_one,h,List.filter_append]
 cases hp:p d <;> simp [hp]
theorem lc_read (A:At X S M H0 δ σ H) (p:D→Bool) (f:D→D) (hn:ds.length≤1000)
  (hel:∀ (S':Av) (σ2:St) (H':Hp) (i:Nat) (d:D),ds[i]? = some d→(∀ C fp s₀ H₀ pins,At (X.blk scope N' C fp s₀ H₀ pins) S' no H' (some d::δ) σ2 H') →
   (∀ C fp s₀ H₀ pins,PIfs (X.blk scope N' C fp s₀ H₀ pins) ifs (tDT S' σ2 H' (p d)))∧(p d=true→∀ C fp s₀ H₀ pins,DE (X.blk scope N' C fp s₀ H₀ pins) S' σ2 H' elt (f d)))
  {σ':St}{H':Hp}{Q:VK} (q:tD X.K S σ H (.lst ((ds.filter p).map f)) σ' H' Q):tComp (tDI X.K S σ H ds) 1 (gName 0) (fun σ H Q=>∃ S',tIfs X scope N' ifs S' σ H Q) (fun σ H Q=>∃ S',tEl X scope N' elt S' σ H Q) σ' H' Q:=by
 obtain ⟨rfl,sm,sb,k⟩:=q
 refine ⟨rfl,sm,sb,fun J H1 s1 it=>fun L hL=>?_⟩
 have sb1:=sb.up s1
 let S':Av:=fun a=>S a∨a=L
 have ex:Ext S S' H1:=fun a z=>z.elim .inl fun z=>.inr (by rw [z];exact hL)
 have nL:¬ S L:=sb1.new hL
 have hneL:∀ b o,H1 b=some o→b≠L:=fun b o h z=>by rw [z,hL] at h;cases h
 let Wi:Nat→Hp→Prop:=fun i H2=>(∀ b o,b≠L→H1 b=some o→H2 b=some o)∧∃ ys,H2 L=some (.lst ys)∧ys.length≤i∧Reps X.K S' H2 (((ds.take i).filter p).map f) ys
 refine ⟨fun i m H2=>m=ds.length - i∧i≤ds.length∧Wi i H2,⟨ds.length,by simp,Nat.zero_le _,fun b o n h=>by rw [upd_ne n];exact h,[],upd_same,Nat.le_refl _,by simp only [List.take_zero,List.filter_nil,List.map_nil,Reps]⟩,?_⟩
 rintro i m H2 ⟨rfl,hi,sm2,ys,hy,hly,ry⟩
 have of2:Off S' H1 H2:=fun b o n h=>sm2 b o (fun z=>n (.inr z)) h
 have sub2:Sub S' H2:=fun a z hn=>by
  rcases z with z | z
  ·cases h1:H1 a with
   | none=>exact sb1 a z h1
   | some o=>rw [sm2 a o (hneL a o h1) h1] at hn;cases hn
  ·rw [z,hy] at hn;cases hn
 obtain ⟨go,stop⟩:=it S' H2 i ex of2 sub2
 by_cases hlt:i < ds.length
 ·obtain ⟨g1,g2⟩:=go hlt
  refine .inr ⟨g1,Wi (i + 1),fun H3 w3=>⟨ds.length - (i + 1),by omega,rfl,hlt,w3⟩,fun x H3 y=>?_⟩
  obtain ⟨s3,d,hd,rx⟩:=g2 x H3 y
  have at3:∀ H4,Same H3 H4→∀ C fp s₀ H₀ pins,At (X.blk scope N' C fp s₀ H₀ pins) S' no H4 (some d::δ) (some x::σ') H4:=fun H4 s4 C fp s₀ H₀ pins=>by
   refine ⟨Off.refl,(sub2.up s3).up s4,fun _ z=>z.elim,by rw [List.length_cons,List.length_cons,A.len],fun j d' h=>?_⟩
   cases j with
   | zero=>
    have e:d=d':=by simpa using h
    subst e
    exact ⟨x,rfl,rx.up s4⟩
   | succ j=>
    obtain ⟨v,h1,h2⟩:=A.env j d' (by simpa using h)
    refine ⟨v,by simpa using h1,?_⟩
    exact ((((h2.up (sm.trans s1)).ext ex).off of2).up s3).up s4
  refine ⟨⟨[some x],rfl,rfl⟩,S',p d,(hel S' _ H3 i d hd (at3 H3 (Same.refl _))).1,sub2.up s3,fun H4 s4=>?_⟩
  have hy4:H4 L=some (.lst ys):=s4 _ _ (s3 _ _ hy)
  have sm4:∀ b o,b≠L→H1 b=some o→H4 b=some o:=fun b o n h=>s4 _ _ (s3 _ _ (sm2 b o n h))
  have ry4:=(ry.up s3).up s4
  cases hp:p d with
  | false=>
   refine iteF ⟨sm4,ys,hy4,by omega,?_⟩
   rw [filter_take hd,hp]
   simpa using ry4
  | true=>
   refine iteT ⟨S',f d,(hel S' _ H4 i d hd (at3 H4 s4)).2 hp,(sub2.up s3).up s4,fun v H5 s5 rv=>?_⟩
   have hy5:=s5 _ _ hy4
   refine ⟨ys,hy5,by have:=small_line hn;have:=small1000 (n:=1000) (Nat.le_refl _);omega,?_⟩
   have of5:Off S' H5 (upd H5 L (.lst (ys++[v]))):=fun b o n h=>by rw [upd_ne (fun z=>n (.inr z))];exact h
   refine ⟨fun b o n h=>by rw [upd_ne n];exact s5 _ _ (sm4 b o n h),ys++[v],upd_same,by rw [List.length_append,List.length_singleton];omega,?_⟩
   rw [filter_take hd,hp,List.map_append]
   exact ((ry4.up s5).off of5).append (Reps.one (rv.off of5))
 ·have e:i=ds.length:=by omega
  subst e
  refine .inl ⟨stop rfl,k _ H2 (fun b o h=>sm2 b o (hneL b o (s1 _ _ h)) (s1 _ _ h)) ?_⟩
  rw [List.take_of_length_le (Nat.le_refl _)] at ry
  exact rep_lst nL hy (ry.less fun a z=>.inl z)
theorem ifs_any:∀ C fp s₀ H₀ pins,PIfs (X.blk scope N' C fp s₀ H₀ pins) ifs (fun σ H Q=>∃ S',tIfs X scope N' ifs S' σ H Q):=fun C fp s₀ H₀ pins pins' s σ H Q I ⟨S',b,h1,h2,h3⟩=>h1 C fp s₀ H₀ pins pins' s σ H Q I ⟨rfl,Same.refl _,h2,h3⟩
theorem el_any:∀ C fp s₀ H₀ pins,PE (X.blk scope N' C fp s₀ H₀ pins) elt (fun σ H Q=>∃ S',tEl X scope N' elt S' σ H Q):=fun C fp s₀ H₀ pins pins' s σ H Q I ⟨S',d,h1,h2,h3⟩=>h1 C fp s₀ H₀ pins pins' s σ H Q I ⟨rfl,Same.refl _,h2,h3⟩
theorem de_lc (A:At X S M H0 δ σ H) (p:D→Bool) (f:D→D) (hI:DI X S σ H (.Name x px) iter ds) (hn:ds.length≤1000)
  (hel:∀ (S':Av) (σ2:St) (H':Hp) (i:Nat) (d:D),ds[i]? = some d→(∀ C fp s₀ H₀ pins,At (X.blk scope N' C fp s₀ H₀ pins) S' no H' (some d::δ) σ2 H') →
   (∀ C fp s₀ H₀ pins,PIfs (X.blk scope N' C fp s₀ H₀ pins) ifs (tDT S' σ2 H' (p d)))∧(p d=true→∀ C fp s₀ H₀ pins,DE (X.blk scope N' C fp s₀ H₀ pins) S' σ2 H' elt (f d)))
  (B:Blk X scope N' 1) (hN:N'.Nodup) (h0:autoParam (N'[0]? = some x) au3._auto_1) (hx:autoParam (scope.names.lookup x=some .local) au3._auto_1) (hc:autoParam (X.calm=true) au3._auto_1) (hs:autoParam (∀ x,foldedSetIterable iter X.env x=pure x) au2._auto_1) :
  DE X S σ H (.ListComp elt [⟨.Name x px,iter,ifs,0⟩] scope pos) (.lst ((ds.filter p).map f)):=
 (pe_lc hc B hI (fun C fp s₀ H₀ pins=>pg_name (X:=X.blk scope N' C fp s₀ H₀ pins) hN h0 (.inl (lookup_relabel_local hx)) (.inr (lookup_relabel_local hx))) ifs_any el_any hs).mono fun _ _ _ q=>lc_read A p f hn hel q
theorem st_lc {E:Ends}{rest:List Stmt}{y:Str}{pos' pos2:Pos} (A:At X S M H0 δ σ H) (j:Nat) (p:D→Bool) (f:D→D) (hI:DI X S σ H (.Name x px) iter ds) (hn:ds.length≤1000)
  (hel:∀ (S':Av) (σ2:St) (H':Hp) (i:Nat) (d:D),ds[i]? = some d→(∀ C fp s₀ H₀ pins,At (X.blk scope N' C fp s₀ H₀ pins) S' no H' (some d::δ) σ2 H') →
   (∀ C fp s₀ H₀ pins,PIfs (X.blk scope N' C fp s₀ H₀ pins) ifs (tDT S' σ2 H' (p d)))∧(p d=true→∀ C fp s₀ H₀ pins,DE (X.blk scope N' C fp s₀ H₀ pins) S' σ2 H' elt (f d)))
  (k:∀ σ' H',At X S M H0 (δ.set j (some (.lst ((ds.filter p).map f)))) σ' H'→DSs X rest E σ' H')
  (B:Blk X scope N' 1) (hN:N'.Nodup) (hNX:X.N.Nodup) (hj:autoParam (X.N[j]? = some y) au3._auto_1) (hy:autoParam (X.env.scope.names.lookup y=some .local) au3._auto_1) (h0:autoParam (N'[0]? = some x) au3._auto_1) (hx:autoParam (scope.names.lookup x=some .local) au3._auto_1) (hc:autoParam (X.calm=true) au3._auto_1)
  (hsw:autoParam (swapsWith (.ListComp elt [⟨.Name x px,iter,ifs,0⟩] scope pos) (some (.Name y pos')) pos2.line X.env=pure true) au3._auto_1) (hs:autoParam (∀ x,foldedSetIterable iter X.env x=pure x) au2._auto_1) :
  DSs X (.Assign [.Name y pos'] (.ListComp elt [⟨.Name x px,iter,ifs,0⟩] scope pos) pos2::rest) E σ H:=by
 refine dss_cons (DS.of (ps_lc hNX hj hy hc B hI (fun C fp s₀ H₀ pins=>pg_name (X:=X.blk scope N' C fp s₀ H₀ pins) hN h0 (.inl (lookup_relabel_local hx)) (.inr (lookup_relabel_local hx))) ifs_any el_any hsw hs) ?_)
 exact lc_read A p f hn hel ⟨rfl,Same.refl _,A.sub,fun v H' s r=>k _ H' ((A.up s).set r)⟩
theorem ifs_nil {S':Av}{σ2:St}{H':Hp}:PIfs X [] (tDT S' σ2 H' true):=fun pins s σ H Q I ⟨_,_,_,q⟩=>pifs_nil pins s σ H Q I (q H (Same.refl _))
theorem ifs_one {S':Av}{σ2:St}{H':Hp}{c:Expr}{b:Bool} (h:DT X S' σ2 H' c b):PIfs X [c] (tDT S' σ2 H' b):=pifs_one h
variable {a b:Expr}{d d1 d2:D}{i j:Int}
noncomputable def rCatS (K:PySem.W.Frag):R2:=fun x y H Q=>∃ l b xs zs,x = .ref l∧y = .ref b∧SqL K H l xs∧SqL K H b zs∧xs.length + zs.length≤sizeLine∧∀ p,H p=none→Q (.ref p) (upd H p (.lst (xs++zs)))
theorem op_catS:OpR X (binaryOp .Add) (rCatS X.K):=by
 intro pins s σ H x y v u Q I rx ry h
 obtain ⟨l,b,xs,zs,rfl,rfl,hH,hB,hz,q⟩:=h
 cases rx
 cases ry
 obtain ⟨its,r,pl,z⟩:=I.list hH
 obtain ⟨its2,r2,pl2,z2⟩:=I.list hB
 have hl:=r.length
 have hl2:=r2.length
 obtain ⟨⟨cls,dd,data,sl⟩,n,ho,hc,hdd,hd⟩:=pl
 obtain ⟨⟨cls2,dd2,data2,sl2⟩,n2,ho2,hc2,hdd2,hd2⟩:=pl2
 simp only at hc hd hc2 hd2
 subst hc hd hc2 hd2
 refine concat_meets ⟨_,ho,rfl⟩ ⟨_,ho2,rfl⟩ noFill_list_add seq_list_add PySem.F.slot_list_add PySem.F.entry_list_add (PySem.F.args_list_add_2 _ _) (list_addW _ _ its.toArray its2.toArray n n2 dd dd2 sl sl2 (by rw [List.size_toArray,List.size_toArray];omega)) ⟨ho,ho2,?_⟩
 have ea:its.toArray++its2.toArray=(its++its2).toArray:=by simp
 rw [ea]
 exact ⟨.ref _,_,I.lnew (t':=s.toks) (r.append r2) (by rw [List.length_append];omega),rfl,q _ I.fresh⟩
theorem de_cat {es:List D} (ha:DE X S σ H a (.lst ds)) (hb:DE X S σ H b (.lst es)) (hl:ds.length + es.length≤1000):DE X S σ H (.BinOp a .Add b pos) (.lst (ds++es)):=
 de_op op_catS ha hb fun x y H' Q sm sb rx ry k=>by
  obtain ⟨p,xs,rfl,h1,h2⟩:=rep_seq rx
  obtain ⟨q,ys,rfl,g1,g2⟩:=rep_seq ry
  refine ⟨p,q,xs,ys,rfl,rfl,h1.sq,g1.sq,by rw [h2.length,g2.length];exact small_line hl,fun l hl'=>k _ _ (same_new hl' _) (rep_lst (sb.new hl') upd_same ((h2.append g2).up (same_new hl' _)))⟩
noncomputable def tDO (S:Av) (σ:St) (H:Hp) (o:Option Int):TO:=fun σ' H' Q=>σ'=σ∧Same H H'∧Sub S H'∧∀ H'',Same H' H''→Q o H''
noncomputable def DO (X:Cx) (S:Av) (σ:St) (H:Hp) (e:Option Expr) (o:Option Int):Prop:=PO X e (tDO S σ H o)
theorem do_none:DO X S σ H none none:=fun pins s σ' H' Q I ⟨_,_,_,q⟩=>po_none pins s σ' H' Q I (q H' (Same.refl _))
theorem do_some {e:Expr} (h:DE X S σ H e (.int i)):DO X S σ H (some e) (some i):=fun pins s σ' H' Q I ⟨e1,sm,sb,q⟩=>
 po_some h pins s σ' H' Q I ⟨e1,sm,sb,fun v H'' s'' rv=>⟨i,by simpa only [Rep] using rv,q H'' s''⟩⟩
noncomputable def cutD (ds:List D) (lo hi:Option Int):List D:=(ds.drop (HT.sIx ds.length 0 lo)).take (HT.sIx ds.length ds.length hi - HT.sIx ds.length 0 lo)
theorem de_slice {e:Expr}{lo hi:Option Expr}{l u:Option Int}{p2:Pos} (he:DE X S σ H e (.lst ds)) (hl:DO X S σ H lo l) (hu:DO X S σ H hi u):DE X S σ H (.Subscript e (.Slice lo hi none p2) pos) (.lst (cutD ds l u)):=
 (pe_slice sl_list he hl hu).mono fun σ' H' Q ⟨e1,sm,sb,k⟩=>⟨e1,sm,sb,fun v H1 s1 rv=>⟨e1,sm.trans s1,sb.up s1,fun H2 s2=>⟨e1,(sm.trans s1).trans s2,(sb.up s1).up s2,fun H3 s3=>by
  obtain ⟨a,xs,rfl,h1,h2⟩:=rep_seq ((rv.up s2).up s3)
  refine ⟨a,xs,rfl,h1.sq,fun p hp=>k _ _ (s1.trans (s2.trans (s3.trans (same_new hp _)))) (rep_lst ((((sb.up s1).up s2).up s3).new hp) upd_same ?_)⟩
  unfold cutV cutD
  rw [h2.length]
  exact ((h2.drop _).take _).up (same_new hp _)⟩⟩⟩
theorem call_sum (hc:X.calm=true):CallR X (.builtin "sum") (fun xs H Q=>∃ (p:Addr) (ns:List Int),xs=[.ref p]∧SqL X.K H p (ns.map V.int)∧Q (.int ns.sum) H):=by
 intro pins s σ H xs us Q I r h
 obtain ⟨p,ns,rfl,hS,q⟩:=h
 obtain ⟨u,rfl,ru⟩:=vals1 r
 cases ru
 obtain ⟨its,rv,pl,hz⟩:=I.list hS
 have hi:IntsAre its ns:=intsAre_of rv
 have hall:=hi.allInts
 obtain ⟨ys,e⟩:=hall.items
 have hl:s.heap.IsList p (intItems ys):=by rw [← e];exact pl.isList
 refine sum_intListG (I.ok.hd hc) hl fun h' tk t' hk=>?_
 refine ⟨.int ns.sum,H,I.kept hk,⟨t',?_⟩,q⟩
 rw [preSum_eq,List.take_of_length_le (by simp)]
 have:numsOf (intItems ys).toList=ns:=by rw [← e];exact hi.numsOf
 rw [← this,nums_intItems]
theorem good_sum {H:Hp}{ns:List Int}:GoodC X.K S H [dInts ns] (.int ns.sum) (fun xs H Q=>∃ (p:Addr) (ns:List Int),xs=[.ref p]∧SqL X.K H p (ns.map V.int)∧Q (.int ns.sum) H):=by
 intro vs H' Q _ _ r k
 obtain ⟨v,rfl,rv⟩:=reps_1 r
 obtain ⟨p,ys,rfl,h1,h2⟩:=rep_seq rv
 rw [reps_ints.mp h2] at h1
 exact ⟨p,ns,rfl,h1.sq,k _ H' (Same.refl _) (by simp only [Rep])⟩
theorem at_start {CX:CXT}{P:Program}{w:World}{K:PySem.W.Frag}{mg:Str→Option Value}{base:Heap}{N:List Str}{qual:Str}{scope:Scope}{f:Addr}{cd:Value}{A:Around}{outer:List Env}{s:Shared}{E:XK}{vs:List V} (sb:Sub S H) (r:Reps K S H ds vs) (hl:ds.length≤N.length) :
  At (cxOf CX P w K mg base N qual scope f cd A outer s H E).nox S no H (ds.map some++List.replicate (N.length - ds.length) none) (start N vs) H:=by
 refine ⟨Off.refl,sb,fun _ z=>z.elim,?_,fun i d h=>?_⟩
 ·unfold start
  rw [List.length_append,List.length_append,List.length_map,List.length_map,List.length_replicate,List.length_replicate,r.length]
 ·unfold start
  by_cases hi:i < ds.length
  ·rw [List.getElem?_append_left (by rw [List.length_map];exact hi),List.getElem?_map] at h
   have hd:ds[i]? = some d:=by
    cases e:ds[i]? with
    | none=>rw [e] at h;cases h
    | some d'=>rw [e] at h;simpa using h
   obtain ⟨v,hv,rv⟩:=r.get hd
   refine ⟨v,?_,rv⟩
   rw [List.getElem?_append_left (by rw [List.length_map,r.length];exact hi),List.getElem?_map,hv]
   rfl
  ·rw [List.getElem?_append_right (by rw [List.length_map];omega),List.getElem?_replicate] at h
   split at h <;> cases h
end
end L2
end
namespace TS
open PySem PyProof.Rows
noncomputable def gallopM:Bool→Keyed→Array Keyed→Nat→Nat→Nat→StateT SortSt Sem (Option Nat):=sortPriv% PySem.Builtin.gallop
noncomputable def setGM:Nat→StateT SortSt Sem Unit:=sortPriv% PySem.Builtin.setMinGallop
noncomputable def mergeLoM:Array Keyed→Array Keyed→StateT SortSt Sem (Array Keyed):=sortPriv% PySem.Builtin.mergeLo
noncomputable def mergeHiM:Array Keyed→Array Keyed→StateT SortSt Sem (Array Keyed):=sortPriv% PySem.Builtin.mergeHi
noncomputable def beyondM (left:Bool) (key:Keyed) (arr:Array Keyed) (base i:Nat):StateT SortSt Sem (Option Bool):=do
 let x ← elem' arr (base + i)
 if left then lt' x key else return (← lt' key x).map (!·)
noncomputable def lastM (left:Bool) (key:Keyed) (arr:Array Keyed) (base n lo0 hi0:Nat):StateT SortSt Sem (Option Nat):=do
 let mut lo:=lo0
 let mut hi:=hi0
 for _ in [0:n] do
  if lo ≥ hi then break
  let m:=lo + (hi - lo) / 2
  let some more ← beyondM left key arr base m | return none
  if more then lo:=m + 1 else hi:=m
 return some hi
theorem gallopM_eq (left:Bool) (key:Keyed) (arr:Array Keyed) (base n hint:Nat):gallopM left key arr base n hint=(do
 let mut lastofs:=0
 let mut ofs:=1
 let mut lo:=0
 let mut hi:=0
 let some right ← beyondM left key arr base hint | return none
 if right then
  let maxofs:=n - hint
  for _ in [0:n] do
   if ofs ≥ maxofs then break
   let some more ← beyondM left key arr base (hint + ofs) | return none
   if !more then break
   lastofs:=ofs
   ofs:=2 * ofs + 1
  lo:=hint + lastofs + 1
  hi:=hint + min ofs maxofs
 else
  let maxofs:=hint + 1
  for _ in [0:n] do
   if ofs ≥ maxofs then break
   let some found ← beyondM left key arr base (hint - ofs) | return none
   if found then break
   lastofs:=ofs
   ofs:=2 * ofs + 1
  lo:=hint + 1 - min ofs maxofs
  hi:=hint - lastofs
 lastM left key arr base n lo hi):=rfl
section
variable {prog:Program}{w:World}{A:Around}{E:Value→Shared→Prop}{s:Shared}
theorem gallop_ok {left:Bool}{key:Keyed}{arr:Array Keyed}{base n hint:Nat}{st:SortSt}{Q:Option Nat→SortSt→Prop} (P:Nat→Bool)
  (hb:∀ i,i < n→∀ Q':Option Bool→SortSt→Prop,Q' (some (P i)) st→wpS (model prog w) A E s (beyondM left key arr base i) Q' st)
  (mono:∀ i j,i≤j→j < n→P j=true→P i=true) (hh:hint < n)
  (h:∀ k,k≤n→(∀ i,i < k→P i=true)→(∀ i,k≤i→i < n→P i=false)→Q (some k) st):wpS (model prog w) A E s (gallopM left key arr base n hint) Q st:=by
 rw [gallopM_eq]
 have no:∀ i j,i≤j→j < n→P i=false→P j=false:=fun i j h1 h2 h3=>by
  cases e:P j with
  | false=>rfl
  | true=>rw [mono i j h1 h2 e] at h3;cases h3
 refine wpS_bind (hb hint hh _ ?_)
 dsimp only
 have last:∀ lo hi,lo≤hi→hi≤n→(∀ i,i < lo→P i=true)→(∀ i,hi≤i→i < n→P i=false) →
   wpS (model prog w) A E s (lastM left key arr base n lo hi) Q st:=by
  unfold lastM
  intro lo hi h1 h2 h3 h4
  refine wpS_bind (wpS_mono (wpS_forRange (I:=fun x c st'=>st'=st∧∃ l r,c=(none,l,r)∧l≤r∧r≤n∧r - l≤n - x∧(∀ i,i < l→P i=true)∧∀ i,r≤i→i < n→P i=false)
   (Q:=fun c st'=>st'=st∧∃ r,c=(none,r,r)∧r≤n∧(∀ i,i < r→P i=true)∧∀ i,r≤i→i < n→P i=false) ?step ?fin ⟨rfl,lo,hi,rfl,h1,h2,by omega,h3,h4⟩) ?post)
  case fin=>
   rintro c st' ⟨rfl,l,r,rfl,a1,a2,a3,a4,a5⟩
   have:l=r:=by omega
   subst this
   exact ⟨rfl,l,rfl,a2,a4,a5⟩
  case post=>
   rintro c st' ⟨rfl,r,rfl,a2,a4,a5⟩
   exact wpS_pure (h r a2 a4 a5)
  case step=>
   rintro x c st' _ hx ⟨rfl,l,r,rfl,a1,a2,a3,a4,a5⟩
   dsimp only
   by_cases hge:l ≥ r
   ·rw [if_pos hge]
    have:l=r:=by omega
    subst this
    exact wpS_pure ⟨rfl,l,rfl,a2,a4,a5⟩
   ·rw [if_neg hge]
    refine wpS_bind (hb (l + (r - l) / 2) (by omega) _ ?_)
    dsimp only
    cases e:P (l + (r - l) / 2) with
    | true=>
     rw [if_pos rfl]
     exact wpS_pure ⟨rfl,_,r,rfl,by omega,a2,by omega,fun i hi=>mono i _ (by omega) (by omega) e,a5⟩
    | false=>
     rw [if_neg (by simp)]
     exact wpS_pure ⟨rfl,l,_,rfl,by omega,by omega,by omega,a4,fun i h5 h6=>no _ i h5 h6 e⟩
 cases eh:P hint with
 | true=>
  rw [if_pos rfl]
  refine wpS_bind (wpS_mono (wpS_forRange (I:=fun x c st'=>st'=st∧∃ l o,c=(none,l,o)∧l < o∧x < o∧hint + l < n∧P (hint + l)=true)
   (Q:=fun c st'=>st'=st∧∃ l o,c=(none,l,o)∧l < o∧hint + l < n∧P (hint + l)=true∧(n - hint≤o∨P (hint + o)=false)) ?step ?fin ⟨rfl,0,1,rfl,by omega,by omega,hh,eh⟩) ?post)
  case fin=>
   rintro c st' ⟨rfl,l,o,rfl,a1,a2,a3,a4⟩
   exact ⟨rfl,l,o,rfl,a1,a3,a4,.inl (by omega)⟩
  case step=>
   rintro x c st' _ hx ⟨rfl,l,o,rfl,a1,a2,a3,a4⟩
   dsimp only
   by_cases hge:o ≥ n - hint
   ·rw [if_pos hge]
    exact wpS_pure ⟨rfl,l,o,rfl,a1,a3,a4,.inl hge⟩
   ·rw [if_neg hge]
    refine wpS_bind (hb (hint + o) (by omega) _ ?_)
    dsimp only
    cases e:P (hint + o) with
    | true=>
     rw [if_neg (by simp)]
     exact wpS_pure ⟨rfl,o,2 * o + 1,rfl,by omega,by omega,by omega,e⟩
    | false=>
     rw [if_pos (by simp)]
     exact wpS_pure ⟨rfl,l,o,rfl,a1,a3,a4,.inr e⟩
  case post=>
   rintro c st' ⟨rfl,l,o,rfl,a1,a3,a4,a5⟩
   dsimp only
   refine last (hint + l + 1) (hint + min o (n - hint)) (by omega) (by omega) (fun i hi=>mono i (hint + l) (by omega) a3 a4) fun i h5 h6=>?_
   rcases a5 with a5 | a5
   ·omega
   ·by_cases ho:n - hint≤o
    ·omega
    ·exact no (hint + o) i (by omega) h6 a5
 | false=>
  rw [if_neg (by simp)]
  refine wpS_bind (wpS_mono (wpS_forRange (I:=fun x c st'=>st'=st∧∃ l o,c=(none,l,o)∧l < o∧x < o∧l≤hint∧P (hint - l)=false)
   (Q:=fun c st'=>st'=st∧∃ l o,c=(none,l,o)∧l < o∧l≤hint∧P (hint - l)=false∧(hint + 1≤o∨P (hint - o)=true)) ?step ?fin ⟨rfl,0,1,rfl,by omega,by omega,by omega,eh⟩) ?post)
  case fin=>
   rintro c st' ⟨rfl,l,o,rfl,a1,a2,a3,a4⟩
   exact ⟨rfl,l,o,rfl,a1,a3,a4,.inl (by omega)⟩
  case step=>
   rintro x c st' _ hx ⟨rfl,l,o,rfl,a1,a2,a3,a4⟩
   dsimp only
   by_cases hge:o ≥ hint + 1
   ·rw [if_pos hge]
    exact wpS_pure ⟨rfl,l,o,rfl,a1,a3,a4,.inl hge⟩
   ·rw [if_neg hge]
    refine wpS_bind (hb (hint - o) (by omega) _ ?_)
    dsimp only
    cases e:P (hint - o) with
    | false=>
     rw [if_neg (by simp)]
     exact wpS_pure ⟨rfl,o,2 * o + 1,rfl,by omega,by omega,by omega,e⟩
    | true=>
     rw [if_pos (by simp)]
     exact wpS_pure ⟨rfl,l,o,rfl,a1,a3,a4,.inr e⟩
  case post=>
   rintro c st' ⟨rfl,l,o,rfl,a1,a3,a4,a5⟩
   dsimp only
   refine last (hint + 1 - min o (hint + 1)) (hint - l) (by omega) (by omega) (fun i hi=>?_) fun i h5 h6=>no (hint - l) i (by omega) h6 a4
   rcases a5 with a5 | a5
   ·omega
   ·by_cases ho:hint + 1≤o
    ·omega
    ·exact mono i (hint - o) (by omega) (by omega) a5
end
end TS
namespace TS
open PySem PyProof.Rows
structure Mv {α:Type} (R:α→α→Prop) (T out ra rb:List α):Prop where
 perm:(out++(ra++rb)).Perm T
 so:out.Pairwise R
 la:∀ x∈out,∀ y∈ra,R x y
 lb:∀ x∈out,∀ y∈rb,R x y
 sa:ra.Pairwise R
 sb:rb.Pairwise R
section
variable {α:Type}{R:α→α→Prop}{T out ra rb xs:List α}
theorem Mv.takeA (h:Mv R T out (xs++ra) rb) (l:∀ x∈xs,∀ y∈rb,R x y):Mv R T (out++xs) ra rb:=by
 obtain ⟨p,s1,s2,s3,s4,s5⟩:=h
 rw [List.pairwise_append] at s4
 refine ⟨?_,?_,fun x hx y hy=>?_,fun x hx y hy=>?_,s4.2.1,s5⟩
 ·rw [List.append_assoc]
  rw [List.append_assoc] at p
  exact p
 ·rw [List.pairwise_append]
  exact ⟨s1,s4.1,fun x hx y hy=>s2 x hx y (List.mem_append_left _ hy)⟩
 ·rcases List.mem_append.mp hx with hx | hx
  ·exact s2 x hx y (List.mem_append_right _ hy)
  ·exact s4.2.2 x hx y hy
 ·rcases List.mem_append.mp hx with hx | hx
  ·exact s3 x hx y hy
  ·exact l x hx y hy
theorem Mv.swap (h:Mv R T out ra rb):Mv R T out rb ra:=by
 obtain ⟨p,s1,s2,s3,s4,s5⟩:=h
 exact ⟨(List.Perm.append_left out List.perm_append_comm).trans p,s1,s3,s2,s5,s4⟩
theorem Mv.takeB (h:Mv R T out ra (xs++rb)) (l:∀ x∈xs,∀ y∈ra,R x y):Mv R T (out++xs) ra rb:=(h.swap.takeA l).swap
theorem Mv.ab (h:Mv R T out ra rb) (l:∀ x∈ra,∀ y∈rb,R x y):(out++ra++rb).Perm T∧(out++ra++rb).Pairwise R:=by
 obtain ⟨p,s1,s2,s3,s4,s5⟩:=h
 constructor
 ·rw [List.append_assoc];exact p
 ·rw [List.pairwise_append,List.pairwise_append]
  refine ⟨⟨s1,s4,s2⟩,s5,fun x hx y hy=>?_⟩
  rcases List.mem_append.mp hx with hx | hx
  ·exact s3 x hx y hy
  ·exact l x hx y hy
theorem Mv.ba (h:Mv R T out ra rb) (l:∀ x∈rb,∀ y∈ra,R x y):(out++rb++ra).Perm T∧(out++rb++ra).Pairwise R:=h.swap.ab l
end
noncomputable def LtOk (prog:Program) (w:World) (A:Around) (s:Shared) (k₀:SortKind) (O:KeyOrd) (ky:Keyed→O.α) (mem:Keyed→Prop):Prop:=
 ∀ (E:Value→Shared→Prop) (x y:Keyed) (Q:Bool→Shared→Prop),mem x→mem y→Q (O.blt (ky x) (ky y)) s→wpAny (model prog w) A (keyLt' k₀ x.1 y.1) Q E s
structure Keep (k₀:SortKind) (st st':SortSt):Prop where
 kind:kindOf st'=k₀
 arr:arrOf st'=arrOf st
 pend:pendingOf st'=pendingOf st
 fail:failedOf st'=none
section
variable {prog:Program}{w:World}{A:Around}{E:Value→Shared→Prop}{s:Shared}{k₀:SortKind}{O:KeyOrd}{ky:Keyed→O.α}{mem:Keyed→Prop}
noncomputable abbrev Rk (O:KeyOrd) (ky:Keyed→O.α):Keyed→Keyed→Prop:=fun x y=>O.kle (ky x) (ky y)
theorem lt_ok {x y:Keyed}{st:SortSt}{Q:Option Bool→SortSt→Prop} (hL:LtOk prog w A s k₀ O ky mem) (hk:kindOf st=k₀) (hx:mem x) (hy:mem y) (h:Q (some (O.blt (ky x) (ky y))) st) :
  wpS (model prog w) A E s (lt' x y) Q st:=by
 rw [lt'_eq]
 refine wpS_bind (wpS_get ?_)
 rw [hk]
 exact wpS_bind (wpS_lift (wpAny_attempt (hL _ x y _ hx hy ⟨rfl,wpS_pure h⟩)))
theorem elem_ok {arr:Array Keyed}{i:Nat}{x:Keyed}{st:SortSt}{Q:Keyed→SortSt→Prop} (e:arr[i]? = some x) (h:Q x st):wpS (model prog w) A E s (elem' arr i) Q st:=by
 rw [elem'_eq,e]
 exact wpS_pure h
theorem setG_ok {g:Nat}{st:SortSt}{Q:Unit→SortSt→Prop} (h:Q () (SortSt.mk' (kindOf st) (arrOf st) (pendingOf st) g (failedOf st))):wpS (model prog w) A E s (setGM g) Q st:=wpS_modify h
theorem gallop_list {left:Bool}{key:Keyed}{arr:Array Keyed}{base n hint:Nat}{st:SortSt}{Q:Option Nat→SortSt→Prop} (hL:LtOk prog w A s k₀ O ky mem) (hk:kindOf st=k₀) (hkey:mem key)
  (xs:List Keyed) (hxs:∀ i,i < n→arr[base + i]? = xs[i]?) (hn:xs.length=n) (hm:∀ x∈xs,mem x) (so:xs.Pairwise (Rk O ky)) (hh:hint < n)
  (h:∀ k,k≤n→(∀ x∈xs.take k,if left=true then O.klt (ky x) (ky key) else O.kle (ky x) (ky key))→(∀ x∈xs.drop k,if left=true then O.kle (ky key) (ky x) else O.klt (ky key) (ky x))→Q (some k) st) :
  wpS (model prog w) A E s (gallopM left key arr base n hint) Q st:=by
 have hlt:∀ i,i < n→i < xs.length:=fun i hi=>by rw [hn];exact hi
 let P:Nat→Bool:=fun i=>match xs[i]? with
  | some x=>if left=true then O.blt (ky x) (ky key) else !O.blt (ky key) (ky x)
  | none=>false
 have hP:∀ (i:Nat) (hi:i < xs.length),P i=if left=true then O.blt (ky xs[i]) (ky key) else !O.blt (ky key) (ky xs[i]):=fun i hi=>by
  show (match xs[i]? with | some x=>_ | none=>_)=_
  rw [List.getElem?_eq_getElem hi]
 have le:∀ (i j:Nat) (hi:i < xs.length) (hj:j < xs.length),i≤j→O.kle (ky xs[i]) (ky xs[j]):=fun i j hi hj hij=>by
  rcases Nat.lt_or_ge i j with q | q
  ·exact List.pairwise_iff_getElem.mp so i j hi hj q
  ·have:i=j:=by omega
   subst this
   exact KeyOrd.kle_refl _
 refine gallop_ok P (fun i hi Q' q=>?_) (fun i j hij hj e=>?_) hh fun k hk1 h1 h2=>h k hk1 (fun x hx=>?_) fun x hx=>?_
 ·have hi':=hlt i hi
  have e:arr[base + i]? = some xs[i]:=by rw [hxs i hi,List.getElem?_eq_getElem hi']
  unfold beyondM
  refine wpS_bind (elem_ok e ?_)
  rw [hP i hi'] at q
  cases left with
  | true=>
   rw [if_pos rfl] at q ⊢
   exact lt_ok hL hk (hm _ (List.getElem_mem hi')) hkey q
  | false=>
   rw [if_neg (by simp)] at q ⊢
   exact wpS_bind (lt_ok hL hk hkey (hm _ (List.getElem_mem hi')) (wpS_pure q))
 ·have hj':=hlt j hj
  have hi':i < xs.length:=by omega
  rw [hP j hj'] at e
  rw [hP i hi']
  have l:=le i j hi' hj' hij
  cases left with
  | true=>
   rw [if_pos rfl] at e ⊢
   exact KeyOrd.klt_of_kle_of_klt l e
  | false=>
   rw [if_neg (by simp)] at e ⊢
   have e':O.blt (ky key) (ky xs[j])=false:=by simpa using e
   have:O.kle (ky xs[i]) (ky key):=KeyOrd.kle_trans l e'
   have this':O.blt (ky key) (ky xs[i])=false:=this
   rw [this'];rfl
 ·obtain ⟨i,hi,rfl⟩:=List.mem_take_iff_getElem.mp hx
  have hi':i < xs.length:=by omega
  have q:=h1 i (by omega)
  rw [hP i hi'] at q
  cases left with
  | true=>rw [if_pos rfl] at q ⊢;exact q
  | false=>rw [if_neg (by simp)] at q ⊢;show O.blt _ _=false;simpa using q
 ·obtain ⟨i,hi,rfl⟩:=List.mem_drop_iff_getElem.mp hx
  have hi':k + i < xs.length:=by omega
  have q:=h2 (k + i) (by omega) (by omega)
  rw [hP (k + i) hi'] at q
  cases left with
  | true=>rw [if_pos rfl] at q ⊢;exact q
  | false=>rw [if_neg (by simp)] at q ⊢;show O.blt _ _=true;simpa using q
end
end TS
section
local macro_rules | `(tactic| omega)=>`(tactic| lia)
namespace TS
open PySem PyProof.Rows
noncomputable abbrev fin1 (a b o:Array Keyed) (p q:Nat):Array Keyed:=o++a.extract p a.size++b.extract q b.size
noncomputable abbrev fin2 (a b o:Array Keyed) (p q:Nat):Array Keyed:=o++b.extract q b.size++a.extract p a.size
noncomputable abbrev GSt:=Option (Array Keyed) × Array Keyed × Nat × Nat × Nat × Nat × Nat
noncomputable def turnLo3 (a b:Array Keyed) (g ca cb p:Nat) (o:Array Keyed) (q:Nat):StateT SortSt Sem (ForInStep GSt):=do
 let v ← elem' a p
 if (p + 1 + 1 == a.size)=true then pure (ForInStep.done (some (fin2 a b (o.push v) (p + 1) q),o.push v,p + 1,q,g,ca,cb))
 else if (decide (ca < 7) && decide (cb < 7))=true then pure (ForInStep.done (none,o.push v,p + 1,q,g,ca,cb))
 else pure (ForInStep.yield (none,o.push v,p + 1,q,g,ca,cb))
noncomputable def turnLo2 (a b:Array Keyed) (q g ca cb:Nat) (o:Array Keyed) (p:Nat):StateT SortSt Sem (ForInStep GSt):=do
 let u ← elem' b q
 if (q + 1 == b.size)=true then pure (ForInStep.done (some (fin1 a b (o.push u) p (q + 1)),o.push u,p,q + 1,g,ca,cb))
 else do
  let v ← elem' a p
  let x ← gallopM true v b (q + 1) (b.size - (q + 1)) 0
  match x with
  | some k=>(if k > 0 then
    if (q + 1 + k == b.size)=true then pure (ForInStep.done (some (fin1 a b (o.push u++b.extract (q + 1) (q + 1 + k)) p (q + 1 + k)),o.push u++b.extract (q + 1) (q + 1 + k),p,q + 1 + k,g,ca,k))
    else turnLo3 a b g ca k p (o.push u++b.extract (q + 1) (q + 1 + k)) (q + 1 + k)
   else turnLo3 a b g ca k p (o.push u) (q + 1))
  | _=>pure (ForInStep.done (some (fin1 a b (o.push u) p (q + 1)),o.push u,p,q + 1,g,ca,cb))
noncomputable def turnLo1 (a b:Array Keyed) (o:Array Keyed) (p q ca cb g:Nat):StateT SortSt Sem (ForInStep GSt):=do
 setGM g
 let u ← elem' b q
 let x ← gallopM false u a p (a.size - p) 0
 match x with
 | some k=>(if k > 0 then
   if (p + k + 1 == a.size)=true then pure (ForInStep.done (some (fin2 a b (o++a.extract p (p + k)) (p + k) q),o++a.extract p (p + k),p + k,q,g,k,cb))
   else if (p + k == a.size)=true then pure (ForInStep.done (some (fin1 a b (o++a.extract p (p + k)) (p + k) q),o++a.extract p (p + k),p + k,q,g,k,cb))
   else turnLo2 a b q g k cb (o++a.extract p (p + k)) (p + k)
  else turnLo2 a b q g k cb o p)
 | _=>pure (ForInStep.done (some (fin1 a b o p q),o,p,q,g,ca,cb))
noncomputable def turnLo (a b:Array Keyed) (c:GSt):StateT SortSt Sem (ForInStep GSt):=
 if c.2.2.2.2.1 > 1 then turnLo1 a b c.2.1 c.2.2.1 c.2.2.2.1 c.2.2.2.2.2.1 c.2.2.2.2.2.2 (c.2.2.2.2.1 - 1) else turnLo1 a b c.2.1 c.2.2.1 c.2.2.2.1 c.2.2.2.2.2.1 c.2.2.2.2.2.2 c.2.2.2.2.1
noncomputable abbrev ASt:=Option (Array Keyed) × Array Keyed × Nat × Nat × Nat × Nat
noncomputable def stepLo (a b:Array Keyed) (g:Nat) (c:ASt):StateT SortSt Sem (ForInStep ASt):=do
 let u ← elem' b c.2.2.2.1
 let v ← elem' a c.2.2.1
 let x ← lt' u v
 match x with
 | some bw=>(if bw=true then do
   let u ← elem' b c.2.2.2.1
   if (c.2.2.2.1 + 1 == b.size)=true then pure (ForInStep.done (some (fin1 a b (c.2.1.push u) c.2.2.1 (c.2.2.2.1 + 1)),c.2.1.push u,c.2.2.1,c.2.2.2.1 + 1,0,c.2.2.2.2.2 + 1))
   else if c.2.2.2.2.2 + 1 ≥ g then pure (ForInStep.done (none,c.2.1.push u,c.2.2.1,c.2.2.2.1 + 1,0,c.2.2.2.2.2 + 1))
   else pure (ForInStep.yield (none,c.2.1.push u,c.2.2.1,c.2.2.2.1 + 1,0,c.2.2.2.2.2 + 1))
  else do
   let v ← elem' a c.2.2.1
   if (c.2.2.1 + 1 + 1 == a.size)=true then pure (ForInStep.done (some (fin2 a b (c.2.1.push v) (c.2.2.1 + 1) c.2.2.2.1),c.2.1.push v,c.2.2.1 + 1,c.2.2.2.1,c.2.2.2.2.1 + 1,0))
   else if c.2.2.2.2.1 + 1 ≥ g then pure (ForInStep.done (none,c.2.1.push v,c.2.2.1 + 1,c.2.2.2.1,c.2.2.2.2.1 + 1,0))
   else pure (ForInStep.yield (none,c.2.1.push v,c.2.2.1 + 1,c.2.2.2.1,c.2.2.2.2.1 + 1,0)))
 | _=>pure (ForInStep.done (some (fin1 a b c.2.1 c.2.2.1 c.2.2.2.1),c.2.1,c.2.2.1,c.2.2.2.1,c.2.2.2.2.1,c.2.2.2.2.2))
theorem mergeLoM_eq (a b:Array Keyed):mergeLoM a b=(do
 rule "list.sort.merge-lo"
 let mut o:Array Keyed:=#[← elem' b 0]
 let mut p:=0
 let mut q:=1
 if q == b.size then return fin1 a b o p q
 if p + 1 == a.size then return fin2 a b o p q
 let mut g:=gallopOf (← get)
 for _ in [0:a.size + b.size] do
  let mut ca:=0
  let mut cb:=0
  for _ in [0:a.size + b.size] do
   let some bw ← lt' (← elem' b q) (← elem' a p) | return fin1 a b o p q
   if bw then
    o:=o.push (← elem' b q);q:=q + 1;cb:=cb + 1;ca:=0
    if q == b.size then return fin1 a b o p q
    if cb ≥ g then break
   else
    o:=o.push (← elem' a p);p:=p + 1;ca:=ca + 1;cb:=0
    if p + 1 == a.size then return fin2 a b o p q
    if ca ≥ g then break
  rule "list.sort.gallop"
  g:=g + 1
  for _ in [0:a.size + b.size] do
   if g > 1 then g:=g - 1
   setGM g
   let some k ← gallopM false (← elem' b q) a p (a.size - p) 0 | return fin1 a b o p q
   ca:=k
   if k > 0 then
    o:=o++a.extract p (p + k);p:=p + k
    if p + 1 == a.size then return fin2 a b o p q
    if p == a.size then return fin1 a b o p q
   o:=o.push (← elem' b q);q:=q + 1
   if q == b.size then return fin1 a b o p q
   let some k ← gallopM true (← elem' a p) b q (b.size - q) 0 | return fin1 a b o p q
   cb:=k
   if k > 0 then
    o:=o++b.extract q (q + k);q:=q + k
    if q == b.size then return fin1 a b o p q
   o:=o.push (← elem' a p);p:=p + 1
   if p + 1 == a.size then return fin2 a b o p q
   if ca < 7 && cb < 7 then break
  g:=g + 1
  setGM g
 unsupported "internal:list.sort.merge-bound"):=rfl
section
variable {prog:Program}{w:World}{A:Around}{E:Value→Shared→Prop}{s:Shared}{k₀:SortKind}{O:KeyOrd}{ky:Keyed→O.α}{mem:Keyed→Prop}
theorem drop_cons {α:Type}{l:List α}{i:Nat} (h:i < l.length):∃ x,l[i]? = some x∧l.drop i=x::l.drop (i + 1):=⟨l[i],List.getElem?_eq_getElem h,List.drop_eq_getElem_cons h⟩
theorem ext_end (a:Array Keyed) (p:Nat):(a.extract p a.size).toList=a.toList.drop p:=by
 rw [Array.toList_extract]
 simp [List.extract]
 rw [List.take_of_length_le (by rw [List.length_drop,Array.length_toList];exact Nat.le_refl _)]
theorem ext_take (a:Array Keyed) (p k:Nat):(a.extract p (p + k)).toList=(a.toList.drop p).take k:=by
 rw [Array.toList_extract]
 simp [List.extract]
theorem mergeLo_ok {a b:Array Keyed}{st:SortSt}{Q:Array Keyed→SortSt→Prop} (hL:LtOk prog w A s k₀ O ky mem) (hk:kindOf st=k₀) (hf:failedOf st=none)
  (sa:a.toList.Pairwise (Rk O ky)) (sb:b.toList.Pairwise (Rk O ky)) (ma:∀ x∈a.toList,mem x) (mb:∀ x∈b.toList,mem x) (na:0 < a.size) (nb:0 < b.size)
  (h0:∀ z,b[0]? = some z→∀ x∈a.toList,Rk O ky z x) (hl:∀ y∈b.toList,∀ x∈a.toList.drop (a.size - 1),Rk O ky y x)
  (h:∀ out st',Keep k₀ st st'→out.toList.Perm (a.toList++b.toList)→out.toList.Pairwise (Rk O ky)→Q out st'):wpS (model prog w) A E s (mergeLoM a b) Q st:=by
 rw [mergeLoM_eq]
 have la:a.toList.length=a.size:=Array.length_toList
 have lb:b.toList.length=b.size:=Array.length_toList
 have ga:∀ i,a[i]? = a.toList[i]?:=fun i=>Array.getElem?_toList.symm
 have gb:∀ i,b[i]? = b.toList[i]?:=fun i=>Array.getElem?_toList.symm
 generalize hT:a.toList++b.toList=T at h
 have end1:∀ {o:Array Keyed}{p q:Nat}{st':SortSt},Keep k₀ st st'→(q=b.size∨p=a.size)→Mv (Rk O ky) T o.toList (a.toList.drop p) (b.toList.drop q)→Q (fin1 a b o p q) st':=fun {o p q st'} kp hq M=>by
  have e:(fin1 a b o p q).toList=o.toList++a.toList.drop p++b.toList.drop q:=by
   show (o++a.extract p a.size++b.extract q b.size).toList=_
   rw [Array.toList_append,Array.toList_append,ext_end,ext_end]
  have:=M.ab fun x hx y hy=>by
   rcases hq with hq | hq
   ·rw [hq,List.drop_eq_nil_of_le (by omega)] at hy;cases hy
   ·rw [hq,List.drop_eq_nil_of_le (by omega)] at hx;cases hx
  exact h _ st' kp (e ▸ this.1) (e ▸ this.2)
 have end2:∀ {o:Array Keyed}{p q:Nat}{st':SortSt},Keep k₀ st st'→p + 1=a.size→Mv (Rk O ky) T o.toList (a.toList.drop p) (b.toList.drop q)→Q (fin2 a b o p q) st':=fun {o p q st'} kp hq M=>by
  have e:(fin2 a b o p q).toList=o.toList++b.toList.drop q++a.toList.drop p:=by
   show (o++b.extract q b.size++a.extract p a.size).toList=_
   rw [Array.toList_append,Array.toList_append,ext_end,ext_end]
  have:=M.ba fun x hx y hy=>by
   have:p=a.size - 1:=by omega
   exact hl x (List.mem_of_mem_drop hx) y (by rw [← this];exact hy)
  exact h _ st' kp (e ▸ this.1) (e ▸ this.2)
 have pushA:∀ {o:Array Keyed}{p q:Nat}{x:Keyed},a.toList[p]? = some x→Mv (Rk O ky) T o.toList (a.toList.drop p) (b.toList.drop q)→(∀ y∈b.toList.drop q,Rk O ky x y)→Mv (Rk O ky) T (o.push x).toList (a.toList.drop (p + 1)) (b.toList.drop q):=fun {o p q x} e M l=>by
  obtain ⟨hp,e'⟩:=List.getElem?_eq_some_iff.mp e
  rw [List.drop_eq_getElem_cons hp,e'] at M
  rw [Array.toList_push]
  exact Mv.takeA (xs:=[x]) M (by intro z hz;rw [List.mem_singleton.mp hz];exact l)
 have pushB:∀ {o:Array Keyed}{p q:Nat}{x:Keyed},b.toList[q]? = some x→Mv (Rk O ky) T o.toList (a.toList.drop p) (b.toList.drop q)→(∀ y∈a.toList.drop p,Rk O ky x y)→Mv (Rk O ky) T (o.push x).toList (a.toList.drop p) (b.toList.drop (q + 1)):=fun {o p q x} e M l=>by
  obtain ⟨hp,e'⟩:=List.getElem?_eq_some_iff.mp e
  rw [List.drop_eq_getElem_cons hp,e'] at M
  rw [Array.toList_push]
  exact Mv.takeB (xs:=[x]) M (by intro z hz;rw [List.mem_singleton.mp hz];exact l)
 have behind:∀ {l:List Keyed}{p:Nat}{x:Keyed},l.Pairwise (Rk O ky)→l[p]? = some x→∀ y∈l.drop p,Rk O ky x y:=fun {l p x} sl e y hy=>by
  obtain ⟨hp,e'⟩:=List.getElem?_eq_some_iff.mp e
  rw [List.drop_eq_getElem_cons hp,e'] at hy
  rcases List.mem_cons.mp hy with z | z
  ·rw [z];exact KeyOrd.kle_refl _
  ·have:=sl.sublist (List.drop_sublist p l)
   rw [List.drop_eq_getElem_cons hp,e',List.pairwise_cons] at this
   exact this.1 y z
 refine wpS_bind (wpS_lift (wpAny_rule ⟨rfl,?_⟩))
 obtain ⟨z,ez⟩:∃ z,b.toList[0]? = some z:=⟨b.toList[0]'(by omega),List.getElem?_eq_getElem (by omega)⟩
 refine wpS_bind (elem_ok (by rw [gb];exact ez) ?_)
 dsimp only
 have K0:Keep k₀ st st:=⟨hk,rfl,rfl,hf⟩
 have M0:Mv (Rk O ky) T (#[]:Array Keyed).toList (a.toList.drop 0) (b.toList.drop 0):=by
  refine ⟨?_,List.Pairwise.nil,fun x hx=>(by cases hx),fun x hx=>(by cases hx),by simpa using sa,by simpa using sb⟩
  show ([]++_).Perm T
  rw [← hT]
  simp
 have M1:Mv (Rk O ky) T (#[z]:Array Keyed).toList (a.toList.drop 0) (b.toList.drop 1):=pushB ez M0 fun y hy=>h0 z (by rw [gb];exact ez) y (by simpa using hy)
 by_cases c1:(1 == b.size)=true
 ·rw [if_pos c1]
  exact wpS_pure (end1 K0 (.inl (by simpa using c1)) M1)
 rw [if_neg c1]
 by_cases c2:(0 + 1 == a.size)=true
 ·rw [if_pos c2]
  exact wpS_pure (end2 K0 (by simpa using c2) M1)
 rw [if_neg c2]
 refine wpS_bind (wpS_get ?_)
 have c1':1≠b.size:=by simpa using c1
 have c2':0 + 1≠a.size:=by simpa using c2
 let J:Array Keyed→Nat→Nat→SortSt→Prop:=fun o p q st'=>Keep k₀ st st'∧p + 1 < a.size∧q < b.size∧Mv (Rk O ky) T o.toList (a.toList.drop p) (b.toList.drop q)
 refine wpS_bind (wpS_mono (wpS_forRange (I:=fun x c st'=>∃ o p q g,c=(none,o,p,q,g)∧J o p q st'∧x + 1≤p + q)
  (Q:=fun c st'=>∃ r,c.1=some r∧Q r st') ?step ?fin ⟨_,_,_,_,rfl,⟨K0,by omega,by omega,M1⟩,by omega⟩) ?post)
 case post=>
  rintro ⟨c1,c2⟩ st' ⟨r,e,q⟩
  cases e
  exact wpS_pure q
 case fin=>
  rintro c st' ⟨o,p,q,g,rfl,⟨_,j1,j2,_⟩,j3⟩
  exfalso
  omega
 case step=>
  rintro x c st' _ hx ⟨o,p,q,g,rfl,j,j3⟩
  dsimp only
  refine wpS_bind (wpS_mono (wpS_forRange (I:=fun y c st'=>∃ o p q ca cb,c=(none,o,p,q,ca,cb)∧J o p q st'∧x + 1≤p + q)
   (Q:=fun c st'=>(∃ r,c.1=some r∧Q r st')∨∃ o p q ca cb,c=(none,o,p,q,ca,cb)∧J o p q st'∧x + 1≤p + q) ?istep (fun c st' hh=>.inr hh) ⟨_,_,_,_,_,rfl,j,j3⟩) ?ipost)
  case istep=>
   clear j j3
   rintro y c st' _ hy ⟨o,p,q,ca,cb,rfl,⟨kp,j1,j2,M⟩,j3⟩
   show wpS (model prog w) A E s (stepLo a b g (none,o,p,q,ca,cb)) _ _
   unfold stepLo
   dsimp only
   obtain ⟨u,eu,du⟩:=drop_cons (l:=b.toList) (i:=q) (by omega)
   obtain ⟨v,ev,dv⟩:=drop_cons (l:=a.toList) (i:=p) (by omega)
   refine wpS_bind (elem_ok (by rw [gb];exact eu) (wpS_bind (elem_ok (by rw [ga];exact ev) (wpS_bind (lt_ok hL kp.kind (mb _ (List.mem_of_getElem? eu)) (ma _ (List.mem_of_getElem? ev)) ?_)))))
   dsimp only
   cases e:O.blt (ky u) (ky v) with
   | true=>
    rw [if_pos rfl]
    refine wpS_bind (elem_ok (by rw [gb];exact eu) ?_)
    have M':=pushB eu M fun y hy=>KeyOrd.kle_trans (KeyOrd.kle_of_klt e) (behind sa ev y hy)
    by_cases d1:(q + 1 == b.size)=true
    ·rw [if_pos d1]
     exact wpS_pure (.inl ⟨_,rfl,end1 kp (.inl (by simpa using d1)) M'⟩)
    rw [if_neg d1]
    have d1':q + 1≠b.size:=by simpa using d1
    have nx:J (o.push u) p (q + 1) st':=⟨kp,j1,by omega,M'⟩
    split
    ·exact wpS_pure (.inr ⟨_,_,_,_,_,rfl,nx,by omega⟩)
    ·exact wpS_pure ⟨_,_,_,_,_,rfl,nx,by omega⟩
   | false=>
    rw [if_neg (by simp)]
    refine wpS_bind (elem_ok (by rw [ga];exact ev) ?_)
    have M':=pushA ev M fun y hy=>KeyOrd.kle_trans e (behind sb eu y hy)
    by_cases d1:(p + 1 + 1 == a.size)=true
    ·rw [if_pos d1]
     exact wpS_pure (.inl ⟨_,rfl,end2 kp (by simpa using d1) M'⟩)
    rw [if_neg d1]
    have d1':p + 1 + 1≠a.size:=by simpa using d1
    have nx:J (o.push v) (p + 1) q st':=⟨kp,by omega,j2,M'⟩
    split
    ·exact wpS_pure (.inr ⟨_,_,_,_,_,rfl,nx,by omega⟩)
    ·exact wpS_pure ⟨_,_,_,_,_,rfl,nx,by omega⟩
  case ipost=>
   clear j j3
   rintro ⟨c1,c2⟩ st' (⟨r,e,qq⟩ | ⟨o,p,q,ca,cb,e,j,j3⟩)
   ·cases e
    exact wpS_pure ⟨r,rfl,qq⟩
   cases e
   dsimp only
   refine wpS_bind (wpS_lift (wpAny_rule ⟨rfl,?_⟩))
   refine wpS_bind (wpS_mono (wpS_forRange (I:=fun y c st'=>∃ o p q g ca cb,c=(none,o,p,q,g,ca,cb)∧J o p q st'∧x + 1 + y≤p + q)
    (Q:=fun c st'=>(∃ r,c.1=some r∧Q r st')∨∃ o p q g ca cb,c=(none,o,p,q,g,ca,cb)∧J o p q st'∧x + 2≤p + q) ?gstep (fun c st' hh=>?gfin) ⟨_,_,_,_,_,_,rfl,j,by omega⟩) ?gpost)
   case gfin=>
    obtain ⟨o,p,q,g,ca,cb,e,j,j3⟩:=hh
    exact .inr ⟨o,p,q,g,ca,cb,e,j,by omega⟩
   case gpost=>
    rintro ⟨c1,c2⟩ st' (⟨r,e,qq⟩ | ⟨o,p,q,g,ca,cb,e,⟨kp,j1,j2,M⟩,j3⟩)
    ·cases e
     exact wpS_pure ⟨r,rfl,qq⟩
    cases e
    dsimp only
    exact wpS_bind (setG_ok (wpS_pure ⟨_,_,_,_,rfl,⟨⟨kp.kind,kp.arr,kp.pend,kp.fail⟩,j1,j2,M⟩,by omega⟩))
   case gstep=>
    clear j j3
    rintro y c st' _ hy ⟨o,p,q,g,ca,cb,rfl,⟨kp,j1,j2,M⟩,j3⟩
    have gal:∀ g',wpS (model prog w) A E s (turnLo1 a b o p q ca cb g') (fun r st'=>match r with
      | .done c'=>(∃ r,c'.1=some r∧Q r st')∨∃ o p q g ca cb,c'=(none,o,p,q,g,ca,cb)∧J o p q st'∧x + 2≤p + q
      | .yield c'=>∃ o p q g ca cb,c'=(none,o,p,q,g,ca,cb)∧J o p q st'∧x + 1 + (y + 1)≤p + q) st':=by
     intro g'
     unfold turnLo1
     refine wpS_bind (setG_ok ?_)
     have kp':Keep k₀ st (SortSt.mk' (kindOf st') (arrOf st') (pendingOf st') g' (failedOf st')):=⟨kp.kind,kp.arr,kp.pend,kp.fail⟩
     generalize (SortSt.mk' (kindOf st') (arrOf st') (pendingOf st') g' (failedOf st'))=st2 at kp' ⊢
     obtain ⟨u,eu,du⟩:=drop_cons (l:=b.toList) (i:=q) (by omega)
     refine wpS_bind (elem_ok (by rw [gb];exact eu) ?_)
     have half:∀ (o:Array Keyed) (p ca:Nat),p + 1 < a.size→x + 1 + y≤p + q→Mv (Rk O ky) T o.toList (a.toList.drop p) (b.toList.drop q)→(∀ y∈a.toList.drop p,Rk O ky u y) →
       wpS (model prog w) A E s (turnLo2 a b q g' ca cb o p) (fun r st'=>match r with
        | .done c'=>(∃ r,c'.1=some r∧Q r st')∨∃ o p q g ca cb,c'=(none,o,p,q,g,ca,cb)∧J o p q st'∧x + 2≤p + q
        | .yield c'=>∃ o p q g ca cb,c'=(none,o,p,q,g,ca,cb)∧J o p q st'∧x + 1 + (y + 1)≤p + q) st2:=by
      intro o p ca j1 j3 M lu
      unfold turnLo2
      refine wpS_bind (elem_ok (by rw [gb];exact eu) ?_)
      have M1:=pushB eu M lu
      by_cases d1:(q + 1 == b.size)=true
      ·rw [if_pos d1]
       exact wpS_pure (.inl ⟨_,rfl,end1 kp' (.inl (by simpa using d1)) M1⟩)
      rw [if_neg d1]
      have d1':q + 1≠b.size:=by simpa using d1
      obtain ⟨v,ev,dv⟩:=drop_cons (l:=a.toList) (i:=p) (by omega)
      refine wpS_bind (elem_ok (by rw [ga];exact ev) ?_)
      refine wpS_bind (gallop_list hL kp'.kind (ma _ (List.mem_of_getElem? ev)) (b.toList.drop (q + 1)) (fun i _=>by rw [gb,List.getElem?_drop]) (by rw [List.length_drop,lb]) (fun x hx=>mb x (List.mem_of_mem_drop hx)) (sb.sublist (List.drop_sublist _ _)) (by omega) fun k hk1 t1 t2=>?_)
      dsimp only
      have t1':∀ x∈(b.toList.drop (q + 1)).take k,O.klt (ky x) (ky v):=fun x hx=>by have:=t1 x hx;rwa [if_pos rfl] at this
      have t2':∀ x∈b.toList.drop (q + 1 + k),O.kle (ky v) (ky x):=fun x hx=>by have:=t2 x (by rw [List.drop_drop];exact hx);rwa [if_pos rfl] at this
      have third:∀ (o:Array Keyed) (k:Nat),q + 1 + k < b.size→Mv (Rk O ky) T o.toList (a.toList.drop p) (b.toList.drop (q + 1 + k))→(∀ x∈b.toList.drop (q + 1 + k),O.kle (ky v) (ky x)) →
        ∀ cb,wpS (model prog w) A E s (turnLo3 a b g' ca cb p o (q + 1 + k)) (fun r st'=>match r with
        | .done c'=>(∃ r,c'.1=some r∧Q r st')∨∃ o p q g ca cb,c'=(none,o,p,q,g,ca,cb)∧J o p q st'∧x + 2≤p + q
        | .yield c'=>∃ o p q g ca cb,c'=(none,o,p,q,g,ca,cb)∧J o p q st'∧x + 1 + (y + 1)≤p + q) st2:=by
       intro o k hq M lv cb
       unfold turnLo3
       refine wpS_bind (elem_ok (by rw [ga];exact ev) ?_)
       have M2:=pushA ev M lv
       by_cases d2:(p + 1 + 1 == a.size)=true
       ·rw [if_pos d2]
        exact wpS_pure (.inl ⟨_,rfl,end2 kp' (by simpa using d2) M2⟩)
       rw [if_neg d2]
       have d2':p + 1 + 1≠a.size:=by simpa using d2
       have nx:J (o.push v) (p + 1) (q + 1 + k) st2:=⟨kp',by omega,hq,M2⟩
       split
       ·exact wpS_pure (.inr ⟨_,_,_,_,_,_,rfl,nx,by omega⟩)
       ·exact wpS_pure ⟨_,_,_,_,_,_,rfl,nx,by omega⟩
      by_cases d3:k > 0
      ·rw [if_pos d3]
       have M3:Mv (Rk O ky) T (o.push u++b.extract (q + 1) (q + 1 + k)).toList (a.toList.drop p) (b.toList.drop (q + 1 + k)):=by
        have e3:b.toList.drop (q + 1 + k)=(b.toList.drop (q + 1)).drop k:=by rw [List.drop_drop]
        rw [Array.toList_append,ext_take,e3]
        refine Mv.takeB (xs:=(b.toList.drop (q + 1)).take k) (rb:=(b.toList.drop (q + 1)).drop k) ?_ fun x hx y hy=>KeyOrd.kle_trans (KeyOrd.kle_of_klt (t1' x hx)) (behind sa ev y hy)
        rw [List.take_append_drop]
        exact M1
       by_cases d4:(q + 1 + k == b.size)=true
       ·rw [if_pos d4]
        exact wpS_pure (.inl ⟨_,rfl,end1 kp' (.inl (by simpa using d4)) M3⟩)
       rw [if_neg d4]
       have d4':q + 1 + k≠b.size:=by simpa using d4
       exact third _ k (by omega) M3 t2' k
      ·rw [if_neg d3]
       have:k=0:=by omega
       subst this
       exact third _ 0 (by omega) M1 t2' 0
     refine wpS_bind (gallop_list hL kp'.kind (mb _ (List.mem_of_getElem? eu)) (a.toList.drop p) (fun i _=>by rw [ga,List.getElem?_drop]) (by rw [List.length_drop,la]) (fun x hx=>ma x (List.mem_of_mem_drop hx)) (sa.sublist (List.drop_sublist _ _)) (by omega) fun k hk1 t1 t2=>?_)
     dsimp only
     have t1':∀ x∈(a.toList.drop p).take k,O.kle (ky x) (ky u):=fun x hx=>by have:=t1 x hx;rwa [if_neg (by simp)] at this
     have t2':∀ x∈a.toList.drop (p + k),O.kle (ky u) (ky x):=fun x hx=>by
      have:=t2 x (by rw [List.drop_drop];exact hx)
      rw [if_neg (by simp)] at this
      exact KeyOrd.kle_of_klt this
     by_cases d3:k > 0
     ·rw [if_pos d3]
      have M3:Mv (Rk O ky) T (o++a.extract p (p + k)).toList (a.toList.drop (p + k)) (b.toList.drop q):=by
       have e3:a.toList.drop (p + k)=(a.toList.drop p).drop k:=by rw [List.drop_drop]
       rw [Array.toList_append,ext_take,e3]
       refine Mv.takeA (xs:=(a.toList.drop p).take k) (ra:=(a.toList.drop p).drop k) ?_ fun x hx y hy=>KeyOrd.kle_trans (t1' x hx) (behind sb eu y hy)
       rw [List.take_append_drop]
       exact M
      by_cases d4:(p + k + 1 == a.size)=true
      ·rw [if_pos d4]
       exact wpS_pure (.inl ⟨_,rfl,end2 kp' (by simpa using d4) M3⟩)
      rw [if_neg d4]
      have d4':p + k + 1≠a.size:=by simpa using d4
      by_cases d5:(p + k == a.size)=true
      ·rw [if_pos d5]
       exact wpS_pure (.inl ⟨_,rfl,end1 kp' (.inr (by simpa using d5)) M3⟩)
      rw [if_neg d5]
      have d5':p + k≠a.size:=by simpa using d5
      exact half _ _ _ (by omega) (by omega) M3 t2'
     ·rw [if_neg d3]
      have:k=0:=by omega
      subst this
      exact half _ _ _ j1 j3 M t2'
    show wpS (model prog w) A E s (turnLo a b (none,o,p,q,g,ca,cb)) _ _
    unfold turnLo
    split
    ·exact wpS_mono (gal (g - 1)) fun r st' hr=>by cases r <;> exact hr
    ·exact wpS_mono (gal g) fun r st' hr=>by cases r <;> exact hr
end
end TS
namespace TS
open PySem PyProof.Rows
noncomputable abbrev fin3 (a b o:Array Keyed) (p q:Nat):Array Keyed:=a.extract 0 p++b.extract 0 q++o.reverse
noncomputable abbrev fin4 (a b o:Array Keyed) (p q:Nat):Array Keyed:=b.extract 0 q++a.extract 0 p++o.reverse
noncomputable abbrev BSt:=Option (Array Keyed) × Nat × Nat × Array Keyed × Nat × Nat
noncomputable abbrev HSt:=Option (Array Keyed) × Nat × Nat × Array Keyed × Nat × Nat × Nat
noncomputable def stepHi (a b:Array Keyed) (g:Nat) (c:BSt):StateT SortSt Sem (ForInStep BSt):=do
 let u ← elem' b (c.2.2.1 - 1)
 let v ← elem' a (c.2.1 - 1)
 let x ← lt' u v
 match x with
 | some aw=>(if aw=true then do
   let v ← elem' a (c.2.1 - 1)
   if (c.2.1 - 1 == 0)=true then pure (ForInStep.done (some (fin3 a b (c.2.2.2.1.push v) (c.2.1 - 1) c.2.2.1),c.2.1 - 1,c.2.2.1,c.2.2.2.1.push v,c.2.2.2.2.1 + 1,0))
   else if c.2.2.2.2.1 + 1 ≥ g then pure (ForInStep.done (none,c.2.1 - 1,c.2.2.1,c.2.2.2.1.push v,c.2.2.2.2.1 + 1,0))
   else pure (ForInStep.yield (none,c.2.1 - 1,c.2.2.1,c.2.2.2.1.push v,c.2.2.2.2.1 + 1,0))
  else do
   let u ← elem' b (c.2.2.1 - 1)
   if (c.2.2.1 - 1 == 1)=true then pure (ForInStep.done (some (fin4 a b (c.2.2.2.1.push u) c.2.1 (c.2.2.1 - 1)),c.2.1,c.2.2.1 - 1,c.2.2.2.1.push u,0,c.2.2.2.2.2 + 1))
   else if c.2.2.2.2.2 + 1 ≥ g then pure (ForInStep.done (none,c.2.1,c.2.2.1 - 1,c.2.2.2.1.push u,0,c.2.2.2.2.2 + 1))
   else pure (ForInStep.yield (none,c.2.1,c.2.2.1 - 1,c.2.2.2.1.push u,0,c.2.2.2.2.2 + 1)))
 | _=>pure (ForInStep.done (some (fin3 a b c.2.2.2.1 c.2.1 c.2.2.1),c.2.1,c.2.2.1,c.2.2.2.1,c.2.2.2.2.1,c.2.2.2.2.2))
noncomputable def turnHi3 (a b:Array Keyed) (g ca cb p:Nat) (o:Array Keyed) (q:Nat):StateT SortSt Sem (ForInStep HSt):=do
 let v ← elem' a (p - 1)
 if (p - 1 == 0)=true then pure (ForInStep.done (some (fin3 a b (o.push v) (p - 1) q),p - 1,q,o.push v,g,ca,cb))
 else if (decide (ca < 7) && decide (cb < 7))=true then pure (ForInStep.done (none,p - 1,q,o.push v,g,ca,cb))
 else pure (ForInStep.yield (none,p - 1,q,o.push v,g,ca,cb))
noncomputable def turnHi2 (a b:Array Keyed) (q g ca cb:Nat) (o:Array Keyed) (p:Nat):StateT SortSt Sem (ForInStep HSt):=do
 let u ← elem' b (q - 1)
 if (q - 1 == 1)=true then pure (ForInStep.done (some (fin4 a b (o.push u) p (q - 1)),p,q - 1,o.push u,g,ca,cb))
 else do
  let v ← elem' a (p - 1)
  let x ← gallopM true v b 0 (q - 1) (q - 1 - 1)
  match x with
  | some k=>(if q - 1 - k > 0 then
    if (k == 1)=true then pure (ForInStep.done (some (fin4 a b (o.push u++(b.extract k (q - 1)).reverse) p k),p,k,o.push u++(b.extract k (q - 1)).reverse,g,ca,q - 1 - k))
    else if (k == 0)=true then pure (ForInStep.done (some (fin3 a b (o.push u++(b.extract k (q - 1)).reverse) p k),p,k,o.push u++(b.extract k (q - 1)).reverse,g,ca,q - 1 - k))
    else turnHi3 a b g ca (q - 1 - k) p (o.push u++(b.extract k (q - 1)).reverse) k
   else turnHi3 a b g ca (q - 1 - k) p (o.push u) (q - 1))
  | _=>pure (ForInStep.done (some (fin3 a b (o.push u) p (q - 1)),p,q - 1,o.push u,g,ca,cb))
noncomputable def turnHi1 (a b:Array Keyed) (o:Array Keyed) (p q ca cb g:Nat):StateT SortSt Sem (ForInStep HSt):=do
 setGM g
 let u ← elem' b (q - 1)
 let x ← gallopM false u a 0 p (p - 1)
 match x with
 | some k=>(if p - k > 0 then
   if (k == 0)=true then pure (ForInStep.done (some (fin3 a b (o++(a.extract k p).reverse) k q),k,q,o++(a.extract k p).reverse,g,p - k,cb))
   else turnHi2 a b q g (p - k) cb (o++(a.extract k p).reverse) k
  else turnHi2 a b q g (p - k) cb o p)
 | _=>pure (ForInStep.done (some (fin3 a b o p q),p,q,o,g,ca,cb))
noncomputable def turnHi (a b:Array Keyed) (c:HSt):StateT SortSt Sem (ForInStep HSt):=
 if c.2.2.2.2.1 > 1 then turnHi1 a b c.2.2.2.1 c.2.1 c.2.2.1 c.2.2.2.2.2.1 c.2.2.2.2.2.2 (c.2.2.2.2.1 - 1) else turnHi1 a b c.2.2.2.1 c.2.1 c.2.2.1 c.2.2.2.2.2.1 c.2.2.2.2.2.2 c.2.2.2.2.1
theorem mergeHiM_eq (a b:Array Keyed):mergeHiM a b=(do
 rule "list.sort.merge-hi"
 let mut p:=a.size - 1
 let mut q:=b.size
 let mut o:Array Keyed:=#[← elem' a p]
 if p == 0 then return fin3 a b o p q
 if q == 1 then return fin4 a b o p q
 let mut g:=gallopOf (← get)
 for _ in [0:a.size + b.size] do
  let mut ca:=0
  let mut cb:=0
  for _ in [0:a.size + b.size] do
   let some aw ← lt' (← elem' b (q - 1)) (← elem' a (p - 1)) | return fin3 a b o p q
   if aw then
    p:=p - 1;o:=o.push (← elem' a p);ca:=ca + 1;cb:=0
    if p == 0 then return fin3 a b o p q
    if ca ≥ g then break
   else
    q:=q - 1;o:=o.push (← elem' b q);cb:=cb + 1;ca:=0
    if q == 1 then return fin4 a b o p q
    if cb ≥ g then break
  rule "list.sort.gallop"
  g:=g + 1
  for _ in [0:a.size + b.size] do
   if g > 1 then g:=g - 1
   setGM g
   let some at_ ← gallopM false (← elem' b (q - 1)) a 0 p (p - 1) | return fin3 a b o p q
   let k:=p - at_
   ca:=k
   if k > 0 then
    o:=o++(a.extract at_ p).reverse;p:=at_
    if p == 0 then return fin3 a b o p q
   q:=q - 1;o:=o.push (← elem' b q)
   if q == 1 then return fin4 a b o p q
   let some at_ ← gallopM true (← elem' a (p - 1)) b 0 q (q - 1) | return fin3 a b o p q
   let k:=q - at_
   cb:=k
   if k > 0 then
    o:=o++(b.extract at_ q).reverse;q:=at_
    if q == 1 then return fin4 a b o p q
    if q == 0 then return fin3 a b o p q
   p:=p - 1;o:=o.push (← elem' a p)
   if p == 0 then return fin3 a b o p q
   if ca < 7 && cb < 7 then break
  g:=g + 1
  setGM g
 unsupported "internal:list.sort.merge-bound"):=rfl
section
variable {prog:Program}{w:World}{A:Around}{E:Value→Shared→Prop}{s:Shared}{k₀:SortKind}{O:KeyOrd}{ky:Keyed→O.α}{mem:Keyed→Prop}
noncomputable abbrev Rr (O:KeyOrd) (ky:Keyed→O.α):Keyed→Keyed→Prop:=fun x y=>O.kle (ky y) (ky x)
theorem take_rev {α:Type}{l:List α}{i:Nat}{x:α} (h:l[i]? = some x):(l.take (i + 1)).reverse=x::(l.take i).reverse:=by
 rw [List.take_add_one,h]
 simp
theorem take_part {α:Type} (l:List α) {k n:Nat} (h:k≤n):(l.take n).reverse=((l.drop k).take (n - k)).reverse++(l.take k).reverse:=by
 rw [← List.reverse_append]
 congr 1
 have e:n=k + (n - k):=by omega
 rw [e,List.take_add]
 congr 2
 all_goals omega
theorem ext_part (a:Array Keyed) (k n:Nat):(a.extract k n).toList=(a.toList.drop k).take (n - k):=by
 rw [Array.toList_extract]
 try simp [List.extract]
theorem ext_head (a:Array Keyed) (n:Nat):(a.extract 0 n).toList=a.toList.take n:=by
 rw [ext_part]
 simp
theorem mergeHi_ok {a b:Array Keyed}{st:SortSt}{Q:Array Keyed→SortSt→Prop} (hL:LtOk prog w A s k₀ O ky mem) (hk:kindOf st=k₀) (hf:failedOf st=none)
  (sa:a.toList.Pairwise (Rk O ky)) (sb:b.toList.Pairwise (Rk O ky)) (ma:∀ x∈a.toList,mem x) (mb:∀ x∈b.toList,mem x) (na:0 < a.size) (nb:0 < b.size)
  (h0:∀ z,b.toList[0]? = some z→∀ x∈a.toList,Rk O ky z x) (hl:∀ z,a.toList[a.size - 1]? = some z→∀ y∈b.toList,Rk O ky y z)
  (h:∀ out st',Keep k₀ st st'→out.toList.Perm (a.toList++b.toList)→out.toList.Pairwise (Rk O ky)→Q out st'):wpS (model prog w) A E s (mergeHiM a b) Q st:=by
 rw [mergeHiM_eq]
 have la:a.toList.length=a.size:=Array.length_toList
 have lb:b.toList.length=b.size:=Array.length_toList
 have ga:∀ i,a[i]? = a.toList[i]?:=fun i=>Array.getElem?_toList.symm
 have gb:∀ i,b[i]? = b.toList[i]?:=fun i=>Array.getElem?_toList.symm
 generalize hT:a.toList++b.toList=T at h
 have end3:∀ {o:Array Keyed}{p q:Nat}{st':SortSt},Keep k₀ st st'→(p=0∨q=0)→Mv (Rr O ky) T o.toList (a.toList.take p).reverse (b.toList.take q).reverse→Q (fin3 a b o p q) st':=fun {o p q st'} kp hq M=>by
  have e:(fin3 a b o p q).toList=(o.toList++(b.toList.take q).reverse++(a.toList.take p).reverse).reverse:=by
   show (a.extract 0 p++b.extract 0 q++o.reverse).toList=_
   rw [Array.toList_append,Array.toList_append,ext_head,ext_head,Array.toList_reverse]
   simp
  have:=M.ba fun x hx y hy=>by
   rcases hq with hq | hq
   ·rw [hq] at hy;simp at hy
   ·rw [hq] at hx;simp at hx
  refine h _ st' kp (e ▸ (List.reverse_perm _).trans this.1) (e ▸ ?_)
  rw [List.pairwise_reverse]
  exact this.2
 have end4:∀ {o:Array Keyed}{p q:Nat}{st':SortSt},Keep k₀ st st'→q=1→Mv (Rr O ky) T o.toList (a.toList.take p).reverse (b.toList.take q).reverse→Q (fin4 a b o p q) st':=fun {o p q st'} kp hq M=>by
  have e:(fin4 a b o p q).toList=(o.toList++(a.toList.take p).reverse++(b.toList.take q).reverse).reverse:=by
   show (b.extract 0 q++a.extract 0 p++o.reverse).toList=_
   rw [Array.toList_append,Array.toList_append,ext_head,ext_head,Array.toList_reverse]
   simp
  have:=M.ab fun x hx y hy=>by
   obtain ⟨z,ez⟩:∃ z,b.toList[0]? = some z:=⟨b.toList[0]'(by omega),List.getElem?_eq_getElem (by omega)⟩
   have hy':y∈b.toList.take 1:=by rw [hq] at hy;exact List.mem_reverse.mp hy
   have:b.toList.take 1=[z]:=by rw [List.take_add_one,ez];rfl
   rw [this] at hy'
   rw [List.mem_singleton.mp hy']
   exact h0 z ez x (List.mem_of_mem_take (List.mem_reverse.mp hx))
  refine h _ st' kp (e ▸ (List.reverse_perm _).trans this.1) (e ▸ ?_)
  rw [List.pairwise_reverse]
  exact this.2
 have pushA:∀ {o:Array Keyed}{p q:Nat}{x:Keyed},a.toList[p]? = some x→Mv (Rr O ky) T o.toList (a.toList.take (p + 1)).reverse (b.toList.take q).reverse→(∀ y∈b.toList.take q,Rk O ky y x)→Mv (Rr O ky) T (o.push x).toList (a.toList.take p).reverse (b.toList.take q).reverse:=fun {o p q x} e M l=>by
  rw [take_rev e] at M
  rw [Array.toList_push]
  exact Mv.takeA (xs:=[x]) M (by intro z hz y hy;rw [List.mem_singleton.mp hz];exact l y (List.mem_reverse.mp hy))
 have pushB:∀ {o:Array Keyed}{p q:Nat}{x:Keyed},b.toList[q]? = some x→Mv (Rr O ky) T o.toList (a.toList.take p).reverse (b.toList.take (q + 1)).reverse→(∀ y∈a.toList.take p,Rk O ky y x)→Mv (Rr O ky) T (o.push x).toList (a.toList.take p).reverse (b.toList.take q).reverse:=fun {o p q x} e M l=>by
  rw [take_rev e] at M
  rw [Array.toList_push]
  exact Mv.takeB (xs:=[x]) M (by intro z hz y hy;rw [List.mem_singleton.mp hz];exact l y (List.mem_reverse.mp hy))
 have ahead:∀ {l:List Keyed}{p:Nat}{x:Keyed},l.Pairwise (Rk O ky)→l[p]? = some x→∀ y∈l.take (p + 1),Rk O ky y x:=fun {l p x} sl e y hy=>by
  obtain ⟨hp,e'⟩:=List.getElem?_eq_some_iff.mp e
  rw [List.take_add_one,e] at hy
  rcases List.mem_append.mp hy with z | z
  ·obtain ⟨i,hi,rfl⟩:=List.mem_take_iff_getElem.mp z
   rw [← e']
   exact List.pairwise_iff_getElem.mp sl i p (by omega) hp (by omega)
  ·have:y=x:=by simpa using z
   rw [this];exact KeyOrd.kle_refl _
 refine wpS_bind (wpS_lift (wpAny_rule ⟨rfl,?_⟩))
 obtain ⟨z,ez⟩:∃ z,a.toList[a.size - 1]? = some z:=⟨a.toList[a.size - 1]'(by omega),List.getElem?_eq_getElem (by omega)⟩
 dsimp only
 refine wpS_bind (elem_ok (by rw [ga];exact ez) ?_)
 have K0:Keep k₀ st st:=⟨hk,rfl,rfl,hf⟩
 have M0:Mv (Rr O ky) T (#[]:Array Keyed).toList (a.toList.take (a.size - 1 + 1)).reverse (b.toList.take b.size).reverse:=by
  have ea:a.toList.take (a.size - 1 + 1)=a.toList:=List.take_of_length_le (by omega)
  have eb:b.toList.take b.size=b.toList:=List.take_of_length_le (by omega)
  rw [ea,eb]
  refine ⟨?_,List.Pairwise.nil,fun x hx=>(by cases hx),fun x hx=>(by cases hx),by rw [List.pairwise_reverse];exact sa,by rw [List.pairwise_reverse];exact sb⟩
  show ([]++_).Perm T
  rw [← hT]
  rw [List.nil_append]
  exact List.Perm.append (List.reverse_perm _) (List.reverse_perm _)
 have M1:Mv (Rr O ky) T (#[z]:Array Keyed).toList (a.toList.take (a.size - 1)).reverse (b.toList.take b.size).reverse:=pushA ez M0 fun y hy=>hl z ez y (List.mem_of_mem_take hy)
 by_cases c1:(a.size - 1 == 0)=true
 ·rw [if_pos c1]
  exact wpS_pure (end3 K0 (.inl (by simpa using c1)) M1)
 rw [if_neg c1]
 by_cases c2:(b.size == 1)=true
 ·rw [if_pos c2]
  exact wpS_pure (end4 K0 (by simpa using c2) M1)
 rw [if_neg c2]
 refine wpS_bind (wpS_get ?_)
 have c1':a.size - 1≠0:=by simpa using c1
 have c2':b.size≠1:=by simpa using c2
 let J:Array Keyed→Nat→Nat→SortSt→Prop:=fun o p q st'=>Keep k₀ st st'∧1≤p∧p≤a.size∧2≤q∧q≤b.size∧Mv (Rr O ky) T o.toList (a.toList.take p).reverse (b.toList.take q).reverse
 refine wpS_bind (wpS_mono (wpS_forRange (I:=fun x c st'=>∃ o p q g,c=(none,p,q,o,g)∧J o p q st'∧x + p + q≤a.size + b.size)
  (Q:=fun c st'=>∃ r,c.1=some r∧Q r st') ?step ?fin ?init) ?post)
 case init=>exact ⟨#[z],a.size - 1,b.size,_,rfl,⟨K0,by omega,by omega,by omega,by omega,M1⟩,by omega⟩
 case post=>
  rintro ⟨c1,c2⟩ st' ⟨r,e,q⟩
  cases e
  exact wpS_pure q
 case fin=>
  rintro c st' ⟨o,p,q,g,rfl,⟨_,j1,_,j2,_,_⟩,j3⟩
  exfalso
  omega
 case step=>
  rintro x c st' _ hx ⟨o,p,q,g,rfl,j,j3⟩
  dsimp only
  refine wpS_bind (wpS_mono (wpS_forRange (I:=fun y c st'=>∃ o p q ca cb,c=(none,p,q,o,ca,cb)∧J o p q st'∧x + p + q≤a.size + b.size)
   (Q:=fun c st'=>(∃ r,c.1=some r∧Q r st')∨∃ o p q ca cb,c=(none,p,q,o,ca,cb)∧J o p q st'∧x + p + q≤a.size + b.size) ?istep (fun c st' hh=>.inr hh) ⟨_,_,_,_,_,rfl,j,j3⟩) ?ipost)
  case istep=>
   clear j j3
   rintro y c st' _ hy ⟨o,p,q,ca,cb,rfl,⟨kp,j1,j1',j2,j2',M⟩,j3⟩
   show wpS (model prog w) A E s (stepHi a b g (none,p,q,o,ca,cb)) _ _
   unfold stepHi
   dsimp only
   obtain ⟨p,rfl⟩:∃ p',p=p' + 1:=⟨p - 1,by omega⟩
   obtain ⟨q,rfl⟩:∃ q',q=q' + 1:=⟨q - 1,by omega⟩
   rw [Nat.add_sub_cancel,Nat.add_sub_cancel]
   obtain ⟨u,eu⟩:∃ z,b.toList[q]? = some z:=⟨b.toList[q]'(by omega),List.getElem?_eq_getElem (by omega)⟩
   obtain ⟨v,ev⟩:∃ z,a.toList[p]? = some z:=⟨a.toList[p]'(by omega),List.getElem?_eq_getElem (by omega)⟩
   refine wpS_bind (elem_ok (by rw [gb];exact eu) (wpS_bind (elem_ok (by rw [ga];exact ev) (wpS_bind (lt_ok hL kp.kind (mb _ (List.mem_of_getElem? eu)) (ma _ (List.mem_of_getElem? ev)) ?_)))))
   dsimp only
   cases e:O.blt (ky u) (ky v) with
   | true=>
    rw [if_pos rfl]
    refine wpS_bind (elem_ok (by rw [ga];exact ev) ?_)
    have M':=pushA ev M fun y hy=>KeyOrd.kle_trans (ahead sb eu y hy) (KeyOrd.kle_of_klt e)
    by_cases d1:(p == 0)=true
    ·rw [if_pos d1]
     exact wpS_pure (.inl ⟨_,rfl,end3 kp (.inl (by simpa using d1)) M'⟩)
    rw [if_neg d1]
    have d1':p≠0:=by simpa using d1
    have nx:J (o.push v) p (q + 1) st':=⟨kp,by omega,by omega,by omega,by omega,M'⟩
    split
    ·exact wpS_pure (.inr ⟨_,_,_,_,_,rfl,nx,by omega⟩)
    ·exact wpS_pure ⟨_,_,_,_,_,rfl,nx,by omega⟩
   | false=>
    rw [if_neg (by simp)]
    refine wpS_bind (elem_ok (by rw [gb];exact eu) ?_)
    have M':=pushB eu M fun y hy=>KeyOrd.kle_trans (ahead sa ev y hy) e
    by_cases d1:(q == 1)=true
    ·rw [if_pos d1]
     exact wpS_pure (.inl ⟨_,rfl,end4 kp (by simpa using d1) M'⟩)
    rw [if_neg d1]
    have d1':q≠1:=by simpa using d1
    have nx:J (o.push u) (p + 1) q st':=⟨kp,by omega,by omega,by omega,by omega,M'⟩
    split
    ·exact wpS_pure (.inr ⟨_,_,_,_,_,rfl,nx,by omega⟩)
    ·exact wpS_pure ⟨_,_,_,_,_,rfl,nx,by omega⟩
  case ipost=>
   clear j j3
   rintro ⟨c1,c2⟩ st' (⟨r,e,qq⟩ | ⟨o,p,q,ca,cb,e,j,j3⟩)
   ·cases e
    exact wpS_pure ⟨r,rfl,qq⟩
   cases e
   dsimp only
   refine wpS_bind (wpS_lift (wpAny_rule ⟨rfl,?_⟩))
   refine wpS_bind (wpS_mono (wpS_forRange (I:=fun y c st'=>∃ o p q g ca cb,c=(none,p,q,o,g,ca,cb)∧J o p q st'∧x + y + p + q≤a.size + b.size)
    (Q:=fun c st'=>(∃ r,c.1=some r∧Q r st')∨∃ o p q g ca cb,c=(none,p,q,o,g,ca,cb)∧J o p q st'∧x + 1 + p + q≤a.size + b.size) ?gstep (fun c st' hh=>?gfin) ⟨_,_,_,_,_,_,rfl,j,by omega⟩) ?gpost)
   case gfin=>
    obtain ⟨o,p,q,g,ca,cb,e,j,j3⟩:=hh
    exact .inr ⟨o,p,q,g,ca,cb,e,j,by omega⟩
   case gpost=>
    rintro ⟨c1,c2⟩ st' (⟨r,e,qq⟩ | ⟨o,p,q,g,ca,cb,e,⟨kp,j1,j1',j2,j2',M⟩,j3⟩)
    ·cases e
     exact wpS_pure ⟨r,rfl,qq⟩
    cases e
    dsimp only
    exact wpS_bind (setG_ok (wpS_pure ⟨_,_,_,_,rfl,⟨⟨kp.kind,kp.arr,kp.pend,kp.fail⟩,j1,j1',j2,j2',M⟩,by omega⟩))
   case gstep=>
    clear j j3
    rintro y c st' _ hy ⟨o,p,q,g,ca,cb,rfl,⟨kp,j1,j1',j2,j2',M⟩,j3⟩
    have gal:∀ g',wpS (model prog w) A E s (turnHi1 a b o p q ca cb g') (fun r st'=>match r with
      | .done c'=>(∃ r,c'.1=some r∧Q r st')∨∃ o p q g ca cb,c'=(none,p,q,o,g,ca,cb)∧J o p q st'∧x + 1 + p + q≤a.size + b.size
      | .yield c'=>∃ o p q g ca cb,c'=(none,p,q,o,g,ca,cb)∧J o p q st'∧x + (y + 1) + p + q≤a.size + b.size) st':=by
     intro g'
     unfold turnHi1
     refine wpS_bind (setG_ok ?_)
     have kp':Keep k₀ st (SortSt.mk' (kindOf st') (arrOf st') (pendingOf st') g' (failedOf st')):=⟨kp.kind,kp.arr,kp.pend,kp.fail⟩
     generalize (SortSt.mk' (kindOf st') (arrOf st') (pendingOf st') g' (failedOf st'))=st2 at kp' ⊢
     obtain ⟨q,rfl⟩:∃ q',q=q' + 1:=⟨q - 1,by omega⟩
     rw [Nat.add_sub_cancel]
     obtain ⟨u,eu⟩:∃ z,b.toList[q]? = some z:=⟨b.toList[q]'(by omega),List.getElem?_eq_getElem (by omega)⟩
     refine wpS_bind (elem_ok (by rw [gb];exact eu) ?_)
     have half:∀ (o:Array Keyed) (p ca:Nat),1≤p→p≤a.size→x + y + p + (q + 1)≤a.size + b.size→Mv (Rr O ky) T o.toList (a.toList.take p).reverse (b.toList.take (q + 1)).reverse→(∀ y∈a.toList.take p,Rk O ky y u) →
       wpS (model prog w) A E s (turnHi2 a b (q + 1) g' ca cb o p) (fun r st'=>match r with
        | .done c'=>(∃ r,c'.1=some r∧Q r st')∨∃ o p q g ca cb,c'=(none,p,q,o,g,ca,cb)∧J o p q st'∧x + 1 + p + q≤a.size + b.size
        | .yield c'=>∃ o p q g ca cb,c'=(none,p,q,o,g,ca,cb)∧J o p q st'∧x + (y + 1) + p + q≤a.size + b.size) st2:=by
      intro o p ca j1 j1' j3 M lu
      unfold turnHi2
      rw [Nat.add_sub_cancel]
      refine wpS_bind (elem_ok (by rw [gb];exact eu) ?_)
      have M1:=pushB eu M lu
      by_cases d1:(q == 1)=true
      ·rw [if_pos d1]
       exact wpS_pure (.inl ⟨_,rfl,end4 kp' (by simpa using d1) M1⟩)
      rw [if_neg d1]
      have d1':q≠1:=by simpa using d1
      obtain ⟨p,rfl⟩:∃ p',p=p' + 1:=⟨p - 1,by omega⟩
      rw [Nat.add_sub_cancel]
      obtain ⟨v,ev⟩:∃ z,a.toList[p]? = some z:=⟨a.toList[p]'(by omega),List.getElem?_eq_getElem (by omega)⟩
      refine wpS_bind (elem_ok (by rw [ga];exact ev) ?_)
      refine wpS_bind (gallop_list hL kp'.kind (ma _ (List.mem_of_getElem? ev)) (b.toList.take q) (fun i hi=>by rw [gb,Nat.zero_add,List.getElem?_take,if_pos hi]) (by rw [List.length_take,lb];omega) (fun x hx=>mb x (List.mem_of_mem_take hx)) (sb.sublist (List.take_sublist _ _)) (by omega) fun k hk1 t1 t2=>?_)
      dsimp only
      have t1':∀ x∈b.toList.take k,O.kle (ky x) (ky v):=fun x hx=>by
       have:=t1 x (by rw [List.take_take,Nat.min_eq_left hk1];exact hx)
       rw [if_pos rfl] at this
       exact KeyOrd.kle_of_klt this
      have t2':∀ x∈(b.toList.drop k).take (q - k),O.kle (ky v) (ky x):=fun x hx=>by
       have:=t2 x (by rw [List.drop_take];exact hx)
       rwa [if_pos rfl] at this
      have third:∀ (o:Array Keyed) (k:Nat),2≤k→k≤q→Mv (Rr O ky) T o.toList (a.toList.take (p + 1)).reverse (b.toList.take k).reverse→(∀ x∈b.toList.take k,O.kle (ky x) (ky v)) →
        ∀ cb,wpS (model prog w) A E s (turnHi3 a b g' ca cb (p + 1) o k) (fun r st'=>match r with
        | .done c'=>(∃ r,c'.1=some r∧Q r st')∨∃ o p q g ca cb,c'=(none,p,q,o,g,ca,cb)∧J o p q st'∧x + 1 + p + q≤a.size + b.size
        | .yield c'=>∃ o p q g ca cb,c'=(none,p,q,o,g,ca,cb)∧J o p q st'∧x + (y + 1) + p + q≤a.size + b.size) st2:=by
       intro o k hk2 hkq M lv cb
       unfold turnHi3
       rw [Nat.add_sub_cancel]
       refine wpS_bind (elem_ok (by rw [ga];exact ev) ?_)
       have M2:=pushA ev M lv
       by_cases d2:(p == 0)=true
       ·rw [if_pos d2]
        exact wpS_pure (.inl ⟨_,rfl,end3 kp' (.inl (by simpa using d2)) M2⟩)
       rw [if_neg d2]
       have d2':p≠0:=by simpa using d2
       have nx:J (o.push v) p k st2:=⟨kp',by omega,by omega,hk2,by omega,M2⟩
       split
       ·exact wpS_pure (.inr ⟨_,_,_,_,_,_,rfl,nx,by omega⟩)
       ·exact wpS_pure ⟨_,_,_,_,_,_,rfl,nx,by omega⟩
      by_cases d3:q - k > 0
      ·rw [if_pos d3]
       have M3:Mv (Rr O ky) T (o.push u++(b.extract k q).reverse).toList (a.toList.take (p + 1)).reverse (b.toList.take k).reverse:=by
        rw [Array.toList_append,Array.toList_reverse,ext_part]
        refine Mv.takeB (xs:=((b.toList.drop k).take (q - k)).reverse) ?_ fun x hx y hy=>KeyOrd.kle_trans (ahead sa ev y (List.mem_reverse.mp hy)) (t2' x (List.mem_reverse.mp hx))
        rw [← take_part _ hk1]
        exact M1
       by_cases d4:(k == 1)=true
       ·rw [if_pos d4]
        exact wpS_pure (.inl ⟨_,rfl,end4 kp' (by simpa using d4) M3⟩)
       rw [if_neg d4]
       have d4':k≠1:=by simpa using d4
       by_cases d5:(k == 0)=true
       ·rw [if_pos d5]
        exact wpS_pure (.inl ⟨_,rfl,end3 kp' (.inr (by simpa using d5)) M3⟩)
       rw [if_neg d5]
       have d5':k≠0:=by simpa using d5
       exact third _ k (by omega) hk1 M3 t1' _
      ·rw [if_neg d3]
       have:k=q:=by omega
       subst this
       exact third _ k (by omega) (Nat.le_refl _) M1 t1' _
     refine wpS_bind (gallop_list hL kp'.kind (mb _ (List.mem_of_getElem? eu)) (a.toList.take p) (fun i hi=>by rw [ga,Nat.zero_add,List.getElem?_take,if_pos hi]) (by rw [List.length_take,la];omega) (fun x hx=>ma x (List.mem_of_mem_take hx)) (sa.sublist (List.take_sublist _ _)) (by omega) fun k hk1 t1 t2=>?_)
     dsimp only
     have t1':∀ x∈a.toList.take k,O.kle (ky x) (ky u):=fun x hx=>by
      have:=t1 x (by rw [List.take_take,Nat.min_eq_left hk1];exact hx)
      rwa [if_neg (by simp)] at this
     have t2':∀ x∈(a.toList.drop k).take (p - k),O.kle (ky u) (ky x):=fun x hx=>by
      have:=t2 x (by rw [List.drop_take];exact hx)
      rw [if_neg (by simp)] at this
      exact KeyOrd.kle_of_klt this
     by_cases d3:p - k > 0
     ·rw [if_pos d3]
      have M3:Mv (Rr O ky) T (o++(a.extract k p).reverse).toList (a.toList.take k).reverse (b.toList.take (q + 1)).reverse:=by
       rw [Array.toList_append,Array.toList_reverse,ext_part]
       refine Mv.takeA (xs:=((a.toList.drop k).take (p - k)).reverse) ?_ fun x hx y hy=>KeyOrd.kle_trans (ahead sb eu y (List.mem_reverse.mp hy)) (t2' x (List.mem_reverse.mp hx))
       rw [← take_part _ hk1]
       exact M
      by_cases d4:(k == 0)=true
      ·rw [if_pos d4]
       exact wpS_pure (.inl ⟨_,rfl,end3 kp' (.inl (by simpa using d4)) M3⟩)
      rw [if_neg d4]
      have d4':k≠0:=by simpa using d4
      exact half _ _ _ (by omega) (by omega) (by omega) M3 t1'
     ·rw [if_neg d3]
      have:k=p:=by omega
      subst this
      exact half _ _ _ j1 j1' j3 M t1'
    show wpS (model prog w) A E s (turnHi a b (none,p,q,o,g,ca,cb)) _ _
    unfold turnHi
    split
    ·exact wpS_mono (gal (g - 1)) fun r st' hr=>by cases r <;> exact hr
    ·exact wpS_mono (gal g) fun r st' hr=>by cases r <;> exact hr
end
end TS
namespace TS
open PySem PyProof.Rows
noncomputable def cntM:Nat→Nat→StateT SortSt Sem (Option Nat):=sortPriv% PySem.Builtin.countRun
noncomputable def binM:Nat→Nat→Nat→StateT SortSt Sem Bool:=sortPriv% PySem.Builtin.binarySort
theorem cntM_eq (l r:Nat):cntM l r=(do
 let mut k:=1
 for _ in [1:r] do
  let some lt1 ← ltAt' (l + k) (l + k - 1) | return none
  if lt1 then break
  k:=k + 1
 if k == r then return some k
 if k > 1 then
  let some up ← ltAt' l (l + k - 1) | return none
  if up then return some k
  reverseSlice' l (l + k)
 rule "list.sort.descending-run"
 k:=k + 1
 let mut e:=0
 for _ in [k:r] do
  let some lt1 ← ltAt' (l + k) (l + k - 1) | return none
  if lt1 then
   if e > 0 then reverseSlice' (l + k - (e + 1)) (l + k)
   e:=0
  else
   let some gt1 ← ltAt' (l + k - 1) (l + k) | return none
   if gt1 then break
   e:=e + 1
  k:=k + 1
 if e > 0 then reverseSlice' (l + k - (e + 1)) (l + k)
 reverseSlice' l (l + k)
 for _ in [k:r] do
  let some lt1 ← ltAt' (l + k) (l + k - 1) | return none
  if lt1 then break
  k:=k + 1
 return some k):=rfl
theorem binM_eq (l n c:Nat):binM l n c=(do
 for k in [max c 1:n] do
  let mut x:=0
  let mut y:=k
  for _ in [0:k] do
   if x ≥ y then break
   let m:=(x + y) / 2
   let some lt1 ← ltAt' (l + k) (l + m) | return false
   if lt1 then y:=m else x:=m + 1
  moveDown' (l + k) (l + x)
 return true):=rfl
section
variable {prog:Program}{w:World}{A:Around}{E:Value→Shared→Prop}{s:Shared}{k₀:SortKind}{O:KeyOrd}{ky:Keyed→O.α}{a₀:Array Keyed}{pn:Array (Nat × Nat × Nat)}
noncomputable def kx (O:KeyOrd) (ky:Keyed→O.α) (xs:Array Keyed) (i:Nat):O.α:=ky ((xs[i]?).getD (.none,.none))
theorem kx_congr {xs ys:Array Keyed}{i j:Nat} (h:xs[i]? = ys[j]?):kx O ky xs i=kx O ky ys j:=by unfold kx;rw [h]
theorem kx_mirror {xs:Array Keyed}{i j:Nat} (hj:j≤xs.size) (k:Nat):kx O ky (mirror xs i j ((j - i) / 2)) k=if i≤k∧k < j then kx O ky xs (i + j - 1 - k) else kx O ky xs k:=by
 have q:=getElem?_mirror_all (i:=i) hj k
 split
 ·rename_i c;rw [if_pos c] at q;exact kx_congr q
 ·rename_i c;rw [if_neg c] at q;exact kx_congr q
theorem kx_bubble {xs:Array Keyed}{t d:Nat} (hs:t < xs.size) (hd:d≤t) (k:Nat):kx O ky (bubble xs t d) k=if k=t - d then kx O ky xs t else if t - d < k∧k≤t then kx O ky xs (k - 1) else kx O ky xs k:=by
 have q:=getElem?_bubble hs d hd k
 split
 ·rename_i c;rw [if_pos c] at q;exact kx_congr q
 ·rename_i c
  rw [if_neg c] at q
  split
  ·rename_i c2;rw [if_pos c2] at q;exact kx_congr q
  ·rename_i c2;rw [if_neg c2] at q;exact kx_congr q
noncomputable def Up (O:KeyOrd) (ky:Keyed→O.α) (xs:Array Keyed) (lo hi:Nat):Prop:=∀ i j,lo≤i→i≤j→j < hi→O.kle (kx O ky xs i) (kx O ky xs j)
noncomputable def Dn (O:KeyOrd) (ky:Keyed→O.α) (xs:Array Keyed) (lo hi:Nat):Prop:=∀ i j,lo≤i→i≤j→j < hi→O.kle (kx O ky xs j) (kx O ky xs i)
structure Sb (k₀:SortKind) (a₀:Array Keyed) (pn:Array (Nat × Nat × Nat)) (fix:Array Keyed) (lo:Nat) (st:SortSt):Prop where
 perm:(arrOf st).Perm a₀
 kind:kindOf st=k₀
 fail:failedOf st=none
 pend:pendingOf st=pn
 same:∀ i,i < lo→(arrOf st)[i]? = fix[i]?
variable {fix:Array Keyed}{lo:Nat}
theorem Sb.size {st:SortSt} (h:Sb k₀ a₀ pn fix lo st):(arrOf st).size=a₀.size:=h.perm.size_eq
theorem Sb.mir {st:SortSt} (h:Sb k₀ a₀ pn fix lo st) {i j:Nat} (hi:lo≤i) (hj:j≤a₀.size):Sb k₀ a₀ pn fix lo (setArr st (mirror (arrOf st) i j ((j - i) / 2))):=
 ⟨(mirror_perm _ _ _ _).trans h.perm,h.kind,h.fail,h.pend,fun k hk=>by
  show (mirror (arrOf st) i j ((j - i) / 2))[k]? = _
  rw [getElem?_mirror_all (by rw [h.size];exact hj),if_neg (by omega)]
  exact h.same k hk⟩
noncomputable abbrev MemA (a₀:Array Keyed):Keyed→Prop:=fun x=>x∈a₀.toList
theorem ltAt_ok {st:SortSt}{i j:Nat}{Q:Option Bool→SortSt→Prop} (hL:LtOk prog w A s k₀ O ky (MemA a₀)) (hB:Sb k₀ a₀ pn fix lo st) (hi:i < a₀.size) (hj:j < a₀.size)
  (h:Q (some (O.blt (kx O ky (arrOf st) i) (kx O ky (arrOf st) j))) st):wpS (model prog w) A E s (ltAt' i j) Q st:=by
 have at_:∀ i,i < a₀.size→∃ x,(arrOf st)[i]? = some x∧x∈a₀.toList:=fun i hi=>by
  have hi':i < (arrOf st).size:=by rw [hB.size];exact hi
  exact ⟨(arrOf st)[i],getElem?_pos _ i hi',(Array.perm_iff_toList_perm.mp hB.perm).mem_iff.mp (by simp)⟩
 obtain ⟨x,ex,mx⟩:=at_ i hi
 obtain ⟨y,ey,my⟩:=at_ j hj
 rw [ltAt'_eq]
 refine wpS_bind (wpS_get ?_)
 dsimp only
 refine wpS_bind (elem_ok ex (wpS_bind (elem_ok ey (lt_ok hL hB.kind mx my ?_))))
 unfold kx at h
 rw [ex,ey] at h
 exact h
theorem rev_ok {st:SortSt}{i j:Nat}{Q:Unit→SortSt→Prop} (h:Q () (setArr st (mirror (arrOf st) i j ((j - i) / 2)))):wpS (model prog w) A E s (reverseSlice' i j) Q st:=by
 rw [reverseSlice'_eq]
 exact wpS_modify h
theorem Up.snoc {xs:Array Keyed}{a b:Nat} (h:Up O ky xs a b) (hab:a < b) (e:O.blt (kx O ky xs b) (kx O ky xs (b - 1))=false):Up O ky xs a (b + 1):=fun i j h1 h2 h3=>by
 by_cases c:j < b
 ·exact h i j h1 h2 c
 ·have:j=b:=by omega
  subst this
  by_cases c2:i=j
  ·subst c2;exact KeyOrd.kle_refl _
  ·exact KeyOrd.kle_trans (h i (j - 1) h1 (by omega) (by omega)) e
theorem asc_ok {st:SortSt}{l k r:Nat}{Q:Option (Option Nat) × Nat→SortSt→Prop} (hL:LtOk prog w A s k₀ O ky (MemA a₀)) (hB:Sb k₀ a₀ pn fix lo st) (h1:1≤k) (hkr:k≤r) (hr:l + r≤a₀.size) (hu:Up O ky (arrOf st) l (l + k))
  (h:∀ n,k≤n→n≤r→Up O ky (arrOf st) l (l + n)→(n=r∨O.klt (kx O ky (arrOf st) (l + n)) (kx O ky (arrOf st) (l + n - 1)))→Q (none,n) st) :
  wpS (model prog w) A E s (forIn [k:r] ((none,k):Option (Option Nat) × Nat) fun _ c=>do
   let x ← ltAt' (l + c.2) (l + c.2 - 1)
   match x with
   | some lt1=>if lt1=true then pure (ForInStep.done (none,c.2)) else pure (ForInStep.yield (none,c.2 + 1))
   | _=>pure (ForInStep.done (some none,c.2))) Q st:=by
 refine wpS_forRange (I:=fun x c st'=>st'=st∧c=(none,x)∧Up O ky (arrOf st) l (l + x)) ?step ?fin ⟨rfl,rfl,hu⟩
 case fin=>
  rintro c st' ⟨rfl,rfl,hx⟩
  have:max k r=r:=by omega
  rw [this] at hx ⊢
  exact h r hkr (Nat.le_refl _) hx (.inl rfl)
 case step=>
  rintro x c st' hkx hxr ⟨rfl,rfl,hx⟩
  dsimp only
  refine wpS_bind (ltAt_ok hL hB (by omega) (by omega) ?_)
  dsimp only
  cases e:O.blt (kx O ky (arrOf st') (l + x)) (kx O ky (arrOf st') (l + x - 1)) with
  | true=>rw [if_pos rfl];exact wpS_pure (h x hkx (by omega) hx (.inr e))
  | false=>rw [if_neg (by simp)];exact wpS_pure ⟨rfl,rfl,hx.snoc (by omega) e⟩
end
end TS
namespace TS
open PySem PyProof.Rows
noncomputable def ascM (l r k0:Nat):StateT SortSt Sem (Option Nat):=do
 let mut k:=k0
 for _ in [k:r] do
  let some lt1 ← ltAt' (l + k) (l + k - 1) | return none
  if lt1 then break
  k:=k + 1
 return some k
noncomputable def tailM (l r k:Nat):StateT SortSt Sem (Option Nat):=do
 reverseSlice' l (l + k)
 ascM l r k
noncomputable def descM (l r k0:Nat):StateT SortSt Sem (Option Nat):=do
 rule "list.sort.descending-run"
 let mut k:=k0 + 1
 let mut e:=0
 for _ in [k:r] do
  let some lt1 ← ltAt' (l + k) (l + k - 1) | return none
  if lt1 then
   if e > 0 then reverseSlice' (l + k - (e + 1)) (l + k)
   e:=0
  else
   let some gt1 ← ltAt' (l + k - 1) (l + k) | return none
   if gt1 then break
   e:=e + 1
  k:=k + 1
 if e > 0 then reverseSlice' (l + k - (e + 1)) (l + k)
 tailM l r k
section
variable {prog:Program}{w:World}{A:Around}{E:Value→Shared→Prop}{s:Shared}{k₀:SortKind}{O:KeyOrd}{ky:Keyed→O.α}{a₀:Array Keyed}{pn:Array (Nat × Nat × Nat)}{fix:Array Keyed}{lo:Nat}
theorem cnt_ok {st:SortSt}{l r:Nat}{Q:Option Nat→SortSt→Prop} (hL:LtOk prog w A s k₀ O ky (MemA a₀)) (hB:Sb k₀ a₀ pn fix l st) (h1:1≤r) (hr:l + r≤a₀.size)
  (h:∀ m st',Sb k₀ a₀ pn fix l st'→1≤m→m≤r→Up O ky (arrOf st') l (l + m)→Q (some m) st'):wpS (model prog w) A E s (cntM l r) Q st:=by
 rw [cntM_eq]
 have one:∀ xs:Array Keyed,Up O ky xs l (l + 1):=fun xs i j a b c=>by
  have:i=j:=by omega
  subst this;exact KeyOrd.kle_refl _
 have tail:∀ (k:Nat) (st:SortSt),Sb k₀ a₀ pn fix l st→1≤k→k≤r→Dn O ky (arrOf st) l (l + k)→wpS (model prog w) A E s (tailM l r k) Q st:=by
  intro k st hB hk1 hk2 hd
  have hz:l + k≤(arrOf st).size:=by rw [hB.size];omega
  have hB':=hB.mir (i:=l) (j:=l + k) (Nat.le_refl _) (by omega)
  unfold tailM ascM
  refine wpS_bind (rev_ok (wpS_bind (asc_ok hL hB' hk1 hk2 hr ?_ fun n a1 a2 a3 _=>?_)))
  ·intro i j b1 b2 b3
   show O.kle (kx O ky (mirror (arrOf st) l (l + k) _) i) (kx O ky (mirror (arrOf st) l (l + k) _) j)
   rw [kx_mirror hz,kx_mirror hz,if_pos (by omega),if_pos (by omega)]
   exact hd _ _ (by omega) (by omega) (by omega)
  ·exact wpS_pure (h n _ hB' (by omega) a2 a3)
 have eqs:∀ (xs:Array Keyed) (k e:Nat),l + k≤xs.size→e + 1≤k→(∀ i,l + k - (e + 1)≤i→i < l + k→kx O ky xs i=kx O ky xs (l + k - 1))→∀ i,kx O ky (mirror xs (l + k - (e + 1)) (l + k) ((l + k - (l + k - (e + 1))) / 2)) i=kx O ky xs i:=by
  intro xs k e hz he hq i
  rw [kx_mirror hz]
  split
  ·rw [hq _ (by omega) (by omega),hq i (by omega) (by omega)]
  ·rfl
 have desc:∀ (k:Nat) (st:SortSt),Sb k₀ a₀ pn fix l st→1≤k→k + 1≤r→Dn O ky (arrOf st) l (l + (k + 1))→wpS (model prog w) A E s (descM l r k) Q st:=by
  intro k st hB hk1 hk2 hd
  unfold descM
  refine wpS_bind (wpS_lift (wpAny_rule ⟨rfl,?_⟩))
  refine wpS_bind (wpS_mono (wpS_forRange (I:=fun x c st'=>∃ e,c=(none,x,e)∧Sb k₀ a₀ pn fix l st'∧Dn O ky (arrOf st') l (l + x)∧e + 1≤x∧∀ i,l + x - (e + 1)≤i→i < l + x→kx O ky (arrOf st') i=kx O ky (arrOf st') (l + x - 1))
   (Q:=fun c st'=>∃ x e,c=(none,x,e)∧1≤x∧x≤r∧Sb k₀ a₀ pn fix l st'∧Dn O ky (arrOf st') l (l + x)∧e + 1≤x∧∀ i,l + x - (e + 1)≤i→i < l + x→kx O ky (arrOf st') i=kx O ky (arrOf st') (l + x - 1)) ?step ?fin ?init) ?post)
  case init=>exact ⟨0,rfl,hB,hd,by omega,fun i a b=>by congr 1;omega⟩
  case fin=>
   rintro c st' ⟨e,rfl,b1,b2,b3,b4⟩
   have:max (k + 1) r=r:=by omega
   rw [this] at b2 b3 b4 ⊢
   exact ⟨r,e,rfl,by omega,Nat.le_refl _,b1,b2,b3,b4⟩
  case step=>
   rintro x c st' hx1 hx2 ⟨e,rfl,b1,b2,b3,b4⟩
   dsimp only
   have hz:l + x≤(arrOf st').size:=by rw [b1.size];omega
   refine wpS_bind (ltAt_ok hL b1 (by omega) (by omega) ?_)
   dsimp only
   cases e1:O.blt (kx O ky (arrOf st') (l + x)) (kx O ky (arrOf st') (l + x - 1)) with
   | true=>
    rw [if_pos rfl]
    have more:∀ xs:Array Keyed,(∀ i,kx O ky xs i=kx O ky (arrOf st') i)→Dn O ky xs l (l + (x + 1)):=fun xs hq i j c1 c2 c3=>by
     rw [hq,hq]
     by_cases c:j < l + x
     ·exact b2 i j c1 c2 c
     ·have:j=l + x:=by omega
      subst this
      by_cases c4:i=l + x
      ·subst c4;exact KeyOrd.kle_refl _
      ·exact KeyOrd.kle_trans (KeyOrd.kle_of_klt e1) (b2 i (l + x - 1) c1 (by omega) (by omega))
    by_cases he:e > 0
    ·rw [if_pos he]
     exact wpS_bind (rev_ok (wpS_pure ⟨0,rfl,b1.mir (by omega) (by omega),more _ (eqs _ x e hz b3 b4),by omega,fun i a b=>by congr 1;omega⟩))
    ·rw [if_neg he]
     exact wpS_pure ⟨0,rfl,b1,more _ (fun _=>rfl),by omega,fun i a b=>by congr 1;omega⟩
   | false=>
    rw [if_neg (by simp)]
    refine wpS_bind (ltAt_ok hL b1 (by omega) (by omega) ?_)
    dsimp only
    cases e2:O.blt (kx O ky (arrOf st') (l + x - 1)) (kx O ky (arrOf st') (l + x)) with
    | true=>
     rw [if_pos rfl]
     exact wpS_pure ⟨x,e,rfl,by omega,by omega,b1,b2,b3,b4⟩
    | false=>
     rw [if_neg (by simp)]
     have eq1:kx O ky (arrOf st') (l + x)=kx O ky (arrOf st') (l + x - 1):=KeyOrd.kle_antisymm e2 e1
     refine wpS_pure ⟨e + 1,rfl,b1,fun i j c1 c2 c3=>?_,by omega,fun i a b=>?_⟩
     ·by_cases c:j < l + x
      ·exact b2 i j c1 c2 c
      ·have:j=l + x:=by omega
       subst this
       by_cases c4:i=l + x
       ·subst c4;exact KeyOrd.kle_refl _
       ·rw [eq1];exact b2 i (l + x - 1) c1 (by omega) (by omega)
     ·have:l + (x + 1) - 1=l + x:=by omega
      rw [this]
      by_cases c:i=l + x
      ·rw [c]
      ·rw [eq1];exact b4 i (by omega) (by omega)
  case post=>
   rintro c st' ⟨x,e,rfl,a1,a2,b1,b2,b3,b4⟩
   dsimp only
   have hz:l + x≤(arrOf st').size:=by rw [b1.size];omega
   by_cases he:e > 0
   ·rw [if_pos he]
    refine wpS_bind (rev_ok (tail x _ (b1.mir (by omega) (by omega)) a1 a2 fun i j c1 c2 c3=>?_))
    show O.kle (kx O ky (mirror (arrOf st') _ _ _) j) (kx O ky (mirror (arrOf st') _ _ _) i)
    rw [eqs _ x e hz b3 b4,eqs _ x e hz b3 b4]
    exact b2 i j c1 c2 c3
   ·rw [if_neg he]
    exact tail x _ b1 a1 a2 b2
 refine wpS_bind (asc_ok hL hB (Nat.le_refl 1) h1 hr (one _) fun n a1 a2 a3 a4=>?_)
 dsimp only
 by_cases c1:(n == r)=true
 ·rw [if_pos c1]
  exact wpS_pure (h n st hB a1 a2 a3)
 rw [if_neg c1]
 have c1':n≠r:=by simpa using c1
 have a5:=a4.resolve_left c1'
 by_cases c2:n > 1
 ·rw [if_pos c2]
  refine wpS_bind (ltAt_ok hL hB (by omega) (by omega) ?_)
  dsimp only
  cases e1:O.blt (kx O ky (arrOf st) l) (kx O ky (arrOf st) (l + n - 1)) with
  | true=>
   rw [if_pos rfl]
   exact wpS_pure (h n st hB a1 a2 a3)
  | false=>
   rw [if_neg (by simp)]
   have hz:l + n≤(arrOf st).size:=by rw [hB.size];omega
   have all:∀ i,l≤i→i < l + n→kx O ky (arrOf st) i=kx O ky (arrOf st) (l + n - 1):=fun i i1 i2=>
    KeyOrd.kle_antisymm (a3 i (l + n - 1) i1 (by omega) (by omega)) (KeyOrd.kle_trans e1 (a3 l i (Nat.le_refl _) i1 i2))
   refine wpS_bind (rev_ok ?_)
   show wpS (model prog w) A E s (descM l r n) _ _
   refine (desc n _ (hB.mir (Nat.le_refl _) (by omega)) (by omega) (by omega) fun i j i1 i2 i3=>?_)
   show O.kle (kx O ky (mirror (arrOf st) _ _ _) j) (kx O ky (mirror (arrOf st) _ _ _) i)
   have km:∀ i,kx O ky (mirror (arrOf st) l (l + n) ((l + n - l) / 2)) i=kx O ky (arrOf st) i:=fun i=>by
    rw [kx_mirror hz]
    split
    ·rw [all _ (by omega) (by omega),all i (by omega) (by omega)]
    ·rfl
   rw [km,km]
   by_cases c:j < l + n
   ·rw [all i i1 (by omega),all j (by omega) c];exact KeyOrd.kle_refl _
   ·have:j=l + n:=by omega
    subst this
    by_cases c4:i=l + n
    ·subst c4;exact KeyOrd.kle_refl _
    ·rw [all i i1 (by omega)];exact KeyOrd.kle_of_klt a5
 ·rw [if_neg c2]
  have:n=1:=by omega
  subst this
  show wpS (model prog w) A E s (descM l r 1) _ _
  refine desc 1 st hB (Nat.le_refl _) (by omega) fun i j i1 i2 i3=>?_
  by_cases c:i=j
  ·subst c;exact KeyOrd.kle_refl _
  ·have hi:i=l:=by omega
   have hj:j=l + 1:=by omega
   subst hi;subst hj
   exact KeyOrd.kle_of_klt a5
theorem bin_ok {st:SortSt}{l n c:Nat}{Q:Bool→SortSt→Prop} (hL:LtOk prog w A s k₀ O ky (MemA a₀)) (hB:Sb k₀ a₀ pn fix l st) (hn:l + n≤a₀.size) (hc:c≤n) (hu:Up O ky (arrOf st) l (l + c))
  (h:∀ st',Sb k₀ a₀ pn fix l st'→Up O ky (arrOf st') l (l + n)→Q true st'):wpS (model prog w) A E s (binM l n c) Q st:=by
 rw [binM_eq]
 refine wpS_bind (wpS_mono (wpS_forRange (I:=fun k c st'=>c=(none,())∧Sb k₀ a₀ pn fix l st'∧Up O ky (arrOf st') l (l + min k n))
  (Q:=fun c st'=>c=(none,())∧Sb k₀ a₀ pn fix l st'∧Up O ky (arrOf st') l (l + n)) ?step ?fin ?init) ?post)
 case post=>
  rintro c st' ⟨rfl,b1,b2⟩
  exact wpS_pure (h st' b1 b2)
 case init=>
  refine ⟨rfl,hB,fun i j i1 i2 i3=>?_⟩
  by_cases c0:c=0
  ·have:i=j:=by omega
   subst this;exact KeyOrd.kle_refl _
  ·exact hu i j i1 i2 (by omega)
 case fin=>
  rintro c' st' ⟨e,b1,b2⟩
  have:min (max (max c 1) n) n=n:=by omega
  rw [this] at b2
  exact ⟨e,b1,b2⟩
 case step=>
  rintro k c' st' hk1 hk2 ⟨rfl,b1,b2⟩
  have:min k n=k:=by omega
  rw [this] at b2
  refine wpS_bind (wpS_mono (wpS_forRange (I:=fun t d st2=>st2=st'∧∃ x y,d=(none,x,y)∧x≤y∧y≤k∧y - x≤k - t ∧
    (∀ i,l≤i→i < l + x→O.kle (kx O ky (arrOf st') i) (kx O ky (arrOf st') (l + k)))∧(∀ i,l + y≤i→i < l + k→O.klt (kx O ky (arrOf st') (l + k)) (kx O ky (arrOf st') i)))
   (Q:=fun d st2=>st2=st'∧∃ x y,d=(none,x,y)∧x≤k ∧
    (∀ i,l≤i→i < l + x→O.kle (kx O ky (arrOf st') i) (kx O ky (arrOf st') (l + k)))∧(∀ i,l + x≤i→i < l + k→O.klt (kx O ky (arrOf st') (l + k)) (kx O ky (arrOf st') i))) ?istep ?ifin ?iinit) ?ipost)
  case iinit=>exact ⟨rfl,0,k,rfl,by omega,by omega,by omega,fun i a b=>by omega,fun i a b=>by omega⟩
  case ifin=>
   rintro d st2 ⟨rfl,x,y,rfl,q1,q2,q3,q4,q5⟩
   have:x=y:=by omega
   subst this
   exact ⟨rfl,x,x,rfl,q2,q4,q5⟩
  case istep=>
   rintro t d st2 _ ht ⟨rfl,x,y,rfl,q1,q2,q3,q4,q5⟩
   dsimp only
   by_cases hge:x ≥ y
   ·rw [if_pos hge]
    have:x=y:=by omega
    subst this
    exact wpS_pure ⟨rfl,x,x,rfl,q2,q4,q5⟩
   ·rw [if_neg hge]
    refine wpS_bind (ltAt_ok hL b1 (by omega) (by omega) ?_)
    dsimp only
    cases e:O.blt (kx O ky (arrOf st2) (l + k)) (kx O ky (arrOf st2) (l + (x + y) / 2)) with
    | true=>
     rw [if_pos rfl]
     exact wpS_pure ⟨rfl,x,_,rfl,by omega,by omega,by omega,q4,fun i i1 i2=>KeyOrd.klt_of_klt_of_kle e (b2 _ i (by omega) i1 i2)⟩
    | false=>
     rw [if_neg (by simp)]
     exact wpS_pure ⟨rfl,_,y,rfl,by omega,by omega,by omega,fun i i1 i2=>KeyOrd.kle_trans (b2 i (l + (x + y) / 2) i1 (by omega) (by omega)) e,q5⟩
  case ipost=>
   rintro d st2 ⟨rfl,x,y,rfl,q2,q4,q5⟩
   dsimp only
   show wpS _ _ _ _ (moveDown' (l + k) (l + x) >>= fun _=>pure (ForInStep.yield (none,()))) _ _
   rw [moveDown'_eq]
   have hks:l + k < (arrOf st2).size:=by rw [b1.size];omega
   have e1:l + k - (l + x)=k - x:=by omega
   refine wpS_bind (wpS_modify (wpS_pure ⟨rfl,⟨(bubble_perm _ _ _).trans b1.perm,b1.kind,b1.fail,b1.pend,fun i hi=>?_⟩,?_⟩))
   ·show (bubble (arrOf st2) (l + k) _)[i]? = _
    rw [e1,getElem?_bubble hks _ (by omega),if_neg (by omega),if_neg (by omega)]
    exact b1.same i hi
   ·have:min (k + 1) n=k + 1:=by omega
    rw [this]
    intro i j i1 i2 i3
    show O.kle (kx O ky (bubble (arrOf st2) (l + k) _) i) (kx O ky (bubble (arrOf st2) (l + k) _) j)
    rw [e1,kx_bubble hks (by omega),kx_bubble hks (by omega)]
    have e2:l + k - (k - x)=l + x:=by omega
    rw [e2]
    repeat' split
    all_goals first
     | (exfalso;omega)
     | exact KeyOrd.kle_refl _
     | exact q4 _ (by omega) (by omega)
     | exact KeyOrd.kle_of_klt (q5 _ (by omega) (by omega))
     | exact b2 _ _ (by omega) (by omega) (by omega)
end
end TS
namespace TS
open PySem PyProof.Rows
noncomputable def mrgM:Nat→StateT SortSt Sem Bool:=sortPriv% PySem.Builtin.mergeAt
noncomputable def mnrM:Nat→Nat→Nat→Nat:=sortPriv% PySem.Builtin.minRun
noncomputable def pwrM:Nat→Nat→Nat→Nat→Nat:=sortPriv% PySem.Builtin.power
noncomputable def runsM:StateT SortSt Sem Unit:=sortPriv% PySem.Builtin.sortRuns
noncomputable abbrev pendTo (st:SortSt) (p:Array (Nat × Nat × Nat)):SortSt:=SortSt.mk' (kindOf st) (arrOf st) p (gallopOf st) (failedOf st)
noncomputable abbrev putBack (xs:Array Keyed) (l:Nat) (m:List Keyed):Array Keyed:=m.zipIdx.foldl (fun a (p,j)=>a.setIfInBounds (l + j) p) xs
theorem mrgM_eq (i:Nat):mrgM i=(do
 let t ← get
 let (some (x,m,pw),some (y,n,_)):=((pendingOf t)[i]?,(pendingOf t)[i + 1]?) | unsupported "internal:list.sort.pending"
 set (pendTo t (((pendingOf t).setIfInBounds i (x,m + n,pw)).eraseIdxIfInBounds (i + 1)))
 let some k ← gallopM false (← elem' (arrOf t) y) (arrOf t) x m 0 | return false
 let (x,m):=(x + k,m - k)
 if m == 0 then return true
 let some n ← gallopM true (← elem' (arrOf t) (x + m - 1)) (arrOf t) y n (n - 1) | return false
 if n == 0 then return true
 let u:=(arrOf t).extract x y
 let v:=(arrOf t).extract y (y + n)
 let z ← if m≤n then mergeLoM u v else mergeHiM u v
 modify fun t=>setArr t (putBack (arrOf t) x z.toList)
 return (failedOf (← get)).isNone):=rfl
theorem runsM_eq:runsM=(do
 let z:=(arrOf (← get)).size
 let mr:=mnrM z z 0
 let mut l:=0
 for _ in [0:z] do
  if l ≥ z then break
  let some f ← cntM l (z - l) | return
  let mut n:=f
  if n < mr then
   rule "list.sort.binary-insertion"
   let force:=min (z - l) mr
   if !(← binM l force n) then return
   n:=force
  if let some (a,b,_):=(pendingOf (← get)).back? then
   let pw:=pwrM z (2 * a + b) (2 * a + b + b + n) z
   for _ in [0:z] do
    let p:=pendingOf (← get)
    let some (_,_,old):=(if p.size > 1 then p[p.size - 2]? else none) | break
    if old≤pw then break
    if !(← mrgM (p.size - 2)) then return
   modify fun t=>pendTo t ((pendingOf t).modify ((pendingOf t).size - 1) fun (a,b,_)=>(a,b,pw))
  modify fun t=>pendTo t ((pendingOf t).push (l,n,0))
  l:=l + n
 for _ in [0:z] do
  let p:=pendingOf (← get)
  if p.size≤1 then break
  let i:=p.size - 2
  let bf:=if i > 0 then p[i - 1]?.map (·.2.1) else none
  let i:=if bf.any (· < (p[i + 1]?.elim 0 (·.2.1))) then i - 1 else i
  if !(← mrgM i) then return):=rfl
theorem putBack_list (l:Nat):∀ (m:List Keyed) (j:Nat) (xs:Array Keyed),l + j + m.length≤xs.size →
  ((m.zipIdx j).foldl (fun (a:Array Keyed) (p:Keyed × Nat)=>a.setIfInBounds (l + p.2) p.1) xs).toList=xs.toList.take (l + j)++m++xs.toList.drop (l + j + m.length)
 | [],j,xs,_=>by simp
 | p::m,j,xs,h=>by
  rw [List.length_cons] at h
  rw [List.zipIdx_cons,List.foldl_cons,putBack_list l m (j + 1) _ (by rw [Array.size_setIfInBounds];omega)]
  have hlt:l + j < xs.size:=by omega
  have e:(xs.setIfInBounds (l + j) p).toList=xs.toList.set (l + j) p:=by simp
  rw [e]
  have hlt':l + j < xs.toList.length:=by simpa using hlt
  have e1:(xs.toList.set (l + j) p).take (l + (j + 1))=xs.toList.take (l + j)++[p]:=by
   rw [show l + (j + 1)=l + j + 1 by omega,List.take_add_one,List.take_set_of_le (Nat.le_refl _),List.getElem?_set_self hlt']
   rfl
  have e2:(xs.toList.set (l + j) p).drop (l + (j + 1) + m.length)=xs.toList.drop (l + j + (p::m).length):=by
   rw [List.drop_set_of_lt (by omega),List.length_cons]
   congr 1;omega
  rw [e1,e2]
  simp
section
variable {prog:Program}{w:World}{A:Around}{E:Value→Shared→Prop}{s:Shared}{k₀:SortKind}{O:KeyOrd}{ky:Keyed→O.α}{a₀:Array Keyed}
theorem up_list {xs:Array Keyed}{l n:Nat} (h:Up O ky xs l (l + n)) (hn:l + n≤xs.size):((xs.toList.drop l).take n).Pairwise (Rk O ky):=by
 rw [List.pairwise_iff_getElem]
 intro i j hi hj hij
 have hj':j < n:=by simp at hj;omega
 have q:=h (l + i) (l + j) (by omega) (by omega) (by omega)
 unfold kx at q
 have g:∀ (t:Nat) (ht:t < n),(xs[l + t]?).getD (.none,.none)=xs.toList[l + t]'(by simp;omega):=fun t ht=>by
  rw [getElem?_pos xs (l + t) (by omega)]
  simp
 rw [g i (by omega),g j hj'] at q
 rw [List.getElem_take,List.getElem_drop,List.getElem_take,List.getElem_drop]
 exact q
theorem list_up {xs:Array Keyed}{W:List Keyed}{x n:Nat} (hl:W.length=n) (g:∀ t,t < n→xs[x + t]? = W[t]?) (so:W.Pairwise (Rk O ky)):Up O ky xs x (x + n):=by
 intro i j i1 i2 i3
 by_cases e:i=j
 ·subst e;exact KeyOrd.kle_refl _
 have q:=List.pairwise_iff_getElem.mp so (i - x) (j - x) (by omega) (by omega) (by omega)
 have gi:=g (i - x) (by omega)
 have gj:=g (j - x) (by omega)
 rw [show x + (i - x)=i by omega,List.getElem?_eq_getElem (by omega)] at gi
 rw [show x + (j - x)=j by omega,List.getElem?_eq_getElem (by omega)] at gj
 unfold kx
 rw [gi,gj]
 exact q
theorem win_get {P W D:List Keyed}{t:Nat} (ht:t < W.length):(P++W++D)[P.length + t]? = W[t]?:=by
 rw [List.append_assoc,List.getElem?_append_right (Nat.le_add_right _ _),Nat.add_sub_cancel_left,List.getElem?_append_left ht]
theorem win_out {P W W' D:List Keyed}{t:Nat} (hl:W'.length=W.length) (ht:t < P.length∨P.length + W.length≤t):(P++W'++D)[t]? = (P++W++D)[t]?:=by
 rcases ht with ht | ht
 ·rw [List.append_assoc,List.append_assoc,List.getElem?_append_left ht,List.getElem?_append_left ht]
 ·rw [List.getElem?_append_right (by rw [List.length_append];omega),List.getElem?_append_right (by rw [List.length_append];omega),List.length_append,List.length_append,hl]
theorem mrg_ok {st:SortSt}{i x n1 n2 pw z:Nat}{Q:Bool→SortSt→Prop} (hL:LtOk prog w A s k₀ O ky (MemA a₀)) (hp:(arrOf st).Perm a₀) (hk:kindOf st=k₀) (hf:failedOf st=none) (hpi:(pendingOf st)[i]? = some (x,n1,pw)) (hpj:(pendingOf st)[i + 1]? = some (x + n1,n2,z))
  (h1:1≤n1) (h2:1≤n2) (hz:x + n1 + n2≤a₀.size) (u1:Up O ky (arrOf st) x (x + n1)) (u2:Up O ky (arrOf st) (x + n1) (x + n1 + n2))
  (h:∀ st',(arrOf st').Perm a₀→kindOf st'=k₀→failedOf st'=none→pendingOf st'=((pendingOf st).setIfInBounds i (x,n1 + n2,pw)).eraseIdxIfInBounds (i + 1)→(∀ t,t < x∨x + n1 + n2≤t→(arrOf st')[t]? = (arrOf st)[t]?)→Up O ky (arrOf st') x (x + (n1 + n2))→Q true st'):wpS (model prog w) A E s (mrgM i) Q st:=by
 have hsz:x + n1 + n2≤(arrOf st).size:=by rw [hp.size_eq];exact hz
 generalize hxs:arrOf st=xs at *
 obtain ⟨W,hW⟩:∃ W,W=(xs.toList.drop x).take (n1 + n2):=⟨_,rfl⟩
 have hxl:xs.toList.length=xs.size:=Array.length_toList
 have hll:W.length=n1 + n2:=by rw [hW,List.length_take,List.length_drop,hxl];omega
 have gx:∀ t,t < n1 + n2→xs[x + t]? = W[t]?:=fun t ht=>by rw [hW,List.getElem?_take,if_pos ht,List.getElem?_drop,Array.getElem?_toList]
 have lP:(xs.toList.take x).length=x:=by rw [List.length_take];omega
 have eX:xs.toList=xs.toList.take x++W++xs.toList.drop (x + n1 + n2):=by
  rw [hW,show x + n1 + n2=x + (n1 + n2) by omega,← List.drop_drop,List.append_assoc,List.take_append_drop,List.take_append_drop]
 have sA:(W.take n1).Pairwise (Rk O ky):=by
  have:=up_list u1 (by omega)
  rw [hW,List.take_take,Nat.min_eq_left (by omega)]
  exact this
 have sB:(W.drop n1).Pairwise (Rk O ky):=by
  have:=up_list u2 (by omega)
  rw [hW,List.drop_take,List.drop_drop,Nat.add_sub_cancel_left]
  exact this
 have mem:∀ y∈W,y∈a₀.toList:=fun y hy=>(Array.perm_iff_toList_perm.mp hp).mem_iff.mp (List.mem_of_mem_drop (List.mem_of_mem_take (hW ▸ hy)))
 rw [mrgM_eq]
 refine wpS_bind (wpS_get ?_)
 rw [hpi,hpj,hxs]
 dsimp only
 refine wpS_bind (m:=(set _:StateT SortSt Sem PUnit)) ?_
 show wpS (model prog w) A E s (modify fun _=>pendTo st _) _ _
 refine wpS_modify ?_
 generalize hpe:((pendingOf st).setIfInBounds i (x,n1 + n2,pw)).eraseIdxIfInBounds (i + 1)=pe at h ⊢
 obtain ⟨b0,eb0⟩:∃ y,W[n1]? = some y:=⟨W[n1]'(by omega),List.getElem?_eq_getElem (by omega)⟩
 refine wpS_bind (elem_ok (by rw [gx n1 (by omega)];exact eb0) ?_)
 have hkd:kindOf (pendTo st pe)=k₀:=hk
 have hfl:failedOf (pendTo st pe)=none:=hf
 have har:arrOf (pendTo st pe)=xs:=hxs
 have hpn:pendingOf (pendTo st pe)=pe:=rfl
 generalize pendTo st pe=st1 at hkd hfl har hpn ⊢
 have lA:(W.take n1).length=n1:=by rw [List.length_take];omega
 have lB:(W.drop n1).length=n2:=by rw [List.length_drop];omega
 have eB:W.drop n1=b0::W.drop (n1 + 1):=by
  obtain ⟨hlt,e⟩:=List.getElem?_eq_some_iff.mp eb0
  rw [List.drop_eq_getElem_cons hlt,e]
 have leB:∀ y∈W.drop n1,Rk O ky b0 y:=fun y hy=>by
  rw [eB] at hy sB
  rcases List.mem_cons.mp hy with q | q
  ·rw [q];exact KeyOrd.kle_refl _
  ·exact (List.pairwise_cons.mp sB).1 y q
 refine wpS_bind (gallop_list hL hkd (mem _ (List.mem_of_getElem? eb0)) (W.take n1) (fun t ht=>by rw [gx t (by omega),List.getElem?_take,if_pos ht]) lA (fun y hy=>mem y (List.mem_of_mem_take hy)) sA (by omega) fun k hk1 t1 t2=>?_)
 have t1':∀ y∈W.take k,O.kle (ky y) (ky b0):=fun y hy=>by
  have:=t1 y (by rw [List.take_take,Nat.min_eq_left hk1];exact hy)
  rwa [if_neg (by simp)] at this
 have t2':∀ y∈(W.drop k).take (n1 - k),O.klt (ky b0) (ky y):=fun y hy=>by
  have:=t2 y (by rw [List.drop_take];exact hy)
  rwa [if_neg (by simp)] at this
 dsimp only
 have whole:W=W.take n1++W.drop n1:=(List.take_append_drop _ _).symm
 have same1:W.Pairwise (Rk O ky)→Q true st1:=fun so=>h st1 (by rw [har];exact hp) hkd hfl hpn (fun t _=>by rw [har]) (by rw [har];exact list_up hll gx so)
 by_cases c1:(n1 - k == 0)=true
 ·rw [if_pos c1]
  have c1':n1 - k=0:=by simpa using c1
  have:k=n1:=by omega
  subst this
  refine wpS_pure (same1 ?_)
  rw [whole,List.pairwise_append]
  exact ⟨sA,sB,fun y hy y' hy'=>KeyOrd.kle_trans (t1' y hy) (leB y' hy')⟩
 rw [if_neg c1]
 have c1':n1 - k≠0:=by simpa using c1
 have e0:x + k + (n1 - k) - 1=x + (n1 - 1):=by omega
 rw [e0]
 obtain ⟨a1,ea1⟩:∃ y,W[n1 - 1]? = some y:=⟨W[n1 - 1]'(by omega),List.getElem?_eq_getElem (by omega)⟩
 refine wpS_bind (elem_ok (by rw [gx _ (by omega)];exact ea1) ?_)
 have leA:∀ y∈W.take n1,Rk O ky y a1:=fun y hy=>by
  obtain ⟨j,hj,rfl⟩:=List.mem_take_iff_getElem.mp hy
  obtain ⟨hlt,e⟩:=List.getElem?_eq_some_iff.mp ea1
  rw [← e]
  by_cases hj':j=n1 - 1
  ·subst hj';exact KeyOrd.kle_refl _
  ·have:=List.pairwise_iff_getElem.mp sA j (n1 - 1) (by omega) (by omega) (by omega)
   rw [List.getElem_take,List.getElem_take] at this
   exact this
 refine wpS_bind (gallop_list hL hkd (mem _ (List.mem_of_getElem? ea1)) (W.drop n1) (fun t ht=>by rw [List.getElem?_drop,Nat.add_assoc,gx (n1 + t) (by omega)]) lB (fun y hy=>mem y (List.mem_of_mem_drop hy)) sB (by omega) fun m hm1 v1 v2=>?_)
 have v1':∀ y∈(W.drop n1).take m,O.klt (ky y) (ky a1):=fun y hy=>by have:=v1 y hy;rwa [if_pos rfl] at this
 have v2':∀ y∈(W.drop n1).drop m,O.kle (ky a1) (ky y):=fun y hy=>by have:=v2 y hy;rwa [if_pos rfl] at this
 dsimp only
 by_cases c2:(m == 0)=true
 ·rw [if_pos c2]
  have c2':m=0:=by simpa using c2
  subst c2'
  refine wpS_pure (same1 ?_)
  rw [whole,List.pairwise_append]
  exact ⟨sA,sB,fun y hy y' hy'=>KeyOrd.kle_trans (leA y hy) (v2' y' (by simpa using hy'))⟩
 rw [if_neg c2]
 have c2':m≠0:=by simpa using c2
 have e1:(xs.extract (x + k) (x + n1)).toList=(W.drop k).take (n1 - k):=by
  rw [ext_part,hW,List.drop_take,List.drop_drop,List.take_take,show x + n1 - (x + k)=n1 - k by omega,Nat.min_eq_left (by omega)]
 have e2:(xs.extract (x + n1) (x + n1 + m)).toList=(W.drop n1).take m:=by
  rw [ext_take,hW,List.drop_take,List.drop_drop,List.take_take,Nat.min_eq_left (by omega)]
 have z1:(xs.extract (x + k) (x + n1)).size=n1 - k:=by rw [← Array.length_toList,e1,List.length_take,List.length_drop];omega
 have z2:(xs.extract (x + n1) (x + n1 + m)).size=m:=by rw [← Array.length_toList,e2,List.length_take,List.length_drop];omega
 have sA':((W.drop k).take (n1 - k)).Pairwise (Rk O ky):=by
  have:(W.drop k).take (n1 - k)=(W.take n1).drop k:=by rw [List.drop_take]
  rw [this];exact sA.sublist (List.drop_sublist _ _)
 have sB':((W.drop n1).take m).Pairwise (Rk O ky):=sB.sublist (List.take_sublist _ _)
 have inA:∀ y∈(W.drop k).take (n1 - k),y∈W.take n1:=fun y hy=>by
  have:(W.drop k).take (n1 - k)=(W.take n1).drop k:=by rw [List.drop_take]
  rw [this] at hy;exact List.mem_of_mem_drop hy
 have fin:∀ (out:Array Keyed) (st':SortSt),Keep k₀ st1 st'→out.toList.Perm ((xs.extract (x + k) (x + n1)).toList++(xs.extract (x + n1) (x + n1 + m)).toList)→out.toList.Pairwise (Rk O ky) →
   Q true (setArr st' (putBack (arrOf st') (x + k) out.toList)):=fun out st' kp pm so=>by
  rw [e1,e2] at pm
  have hlen:out.toList.length=n1 - k + m:=by rw [pm.length_eq,List.length_append,List.length_take,List.length_take,List.length_drop,List.length_drop];omega
  have parts:W=W.take k++((W.drop k).take (n1 - k)++(W.drop n1).take m)++W.drop (n1 + m):=by
   have p1:W.take n1=W.take k++(W.drop k).take (n1 - k):=by
    conv=>lhs;rw [show n1=k + (n1 - k) by omega]
    rw [List.take_add]
   have p2:W.drop n1=(W.drop n1).take m++W.drop (n1 + m):=by
    conv=>lhs;rw [← List.take_append_drop m (W.drop n1),List.drop_drop]
   conv=>lhs;rw [whole,p1,p2]
   simp
  obtain ⟨W',hW'⟩:∃ W',W'=W.take k++out.toList++W.drop (n1 + m):=⟨_,rfl⟩
  have lW':W'.length=W.length:=by rw [hW',List.length_append,List.length_append,List.length_take,List.length_drop,hlen,hll];omega
  have ex:(putBack (arrOf st') (x + k) out.toList).toList=xs.toList.take x++W'++xs.toList.drop (x + n1 + n2):=by
   have:=putBack_list (x + k) out.toList 0 (arrOf st') (by rw [kp.arr,har];omega)
   rw [kp.arr,har] at this
   rw [kp.arr,har]
   show (out.toList.zipIdx.foldl _ xs).toList=_
   rw [this]
   have q1:x + k + 0=x + k:=by omega
   have q2:x + k + 0 + out.toList.length=x + (n1 + m):=by omega
   have w1:W.take k=(xs.toList.drop x).take k:=by rw [hW,List.take_take,Nat.min_eq_left (by omega)]
   have w2:xs.toList.drop (x + (n1 + m))=W.drop (n1 + m)++xs.toList.drop (x + n1 + n2):=by
    rw [hW,List.drop_take,show x + n1 + n2=(x + (n1 + m)) + (n1 + n2 - (n1 + m)) by omega,← List.drop_drop (i:=n1 + n2 - (n1 + m)),← List.drop_drop,List.take_append_drop]
   rw [q2,q1,List.take_add,hW',w1,w2]
   simp only [List.append_assoc]
  have gW:∀ t,t < n1 + n2→(putBack (arrOf st') (x + k) out.toList)[x + t]? = W'[t]?:=fun t ht=>by
   rw [← Array.getElem?_toList,ex]
   have:=win_get (P:=xs.toList.take x) (W:=W') (D:=xs.toList.drop (x + n1 + n2)) (t:=t) (by omega)
   rwa [lP] at this
  refine h _ ?_ kp.kind kp.fail ((show pendingOf (setArr st' _)=pendingOf st' from rfl).trans (kp.pend.trans hpn)) (fun t ht=>?_) (list_up (W:=W') (by omega) gW ?_)
  ·refine Array.Perm.trans (Array.perm_iff_toList_perm.mpr ?_) hp
   show (putBack (arrOf st') (x + k) out.toList).toList.Perm xs.toList
   rw [ex]
   conv=>rhs;rw [eX]
   refine ((List.Perm.refl _).append ?_).append (List.Perm.refl _)
   rw [hW']
   conv=>rhs;rw [parts]
   exact ((List.Perm.refl _).append pm).append (List.Perm.refl _)
  ·show (putBack (arrOf st') (x + k) out.toList)[t]? = _
   rw [← Array.getElem?_toList,ex,← Array.getElem?_toList (xs:=xs),win_out (W:=W) lW' (by rw [lP,hll];omega),← eX]
  ·rw [hW',List.pairwise_append,List.pairwise_append]
   have inO:∀ y∈out.toList,y∈(W.drop k).take (n1 - k)∨y∈(W.drop n1).take m:=fun y hy=>List.mem_append.mp (pm.mem_iff.mp hy)
   have hB2:∀ y∈W.drop (n1 + m),y∈(W.drop n1).drop m:=fun y hy=>by rw [List.drop_drop];exact hy
   have inA1:∀ y∈W.take k,y∈W.take n1:=fun y hy=>by
    have:W.take k=(W.take n1).take k:=by rw [List.take_take,Nat.min_eq_left hk1]
    rw [this] at hy;exact List.mem_of_mem_take hy
   refine ⟨⟨?_,so,fun y hy y' hy'=>?_⟩,?_,fun y hy y' hy'=>?_⟩
   ·have:W.take k=(W.take n1).take k:=by rw [List.take_take,Nat.min_eq_left hk1]
    rw [this];exact sA.sublist (List.take_sublist _ _)
   ·rcases inO y' hy' with q | q
    ·exact KeyOrd.kle_trans (t1' y hy) (KeyOrd.kle_of_klt (t2' y' q))
    ·exact KeyOrd.kle_trans (t1' y hy) (leB y' (List.mem_of_mem_take q))
   ·have:W.drop (n1 + m)=(W.drop n1).drop m:=by rw [List.drop_drop]
    rw [this];exact sB.sublist (List.drop_sublist _ _)
   ·have ly:=v2' y' (hB2 y' hy')
    rcases List.mem_append.mp hy with q | q
    ·exact KeyOrd.kle_trans (leA y (inA1 y q)) ly
    ·rcases inO y q with q | q
     ·exact KeyOrd.kle_trans (leA y (inA y q)) ly
     ·exact KeyOrd.kle_trans (KeyOrd.kle_of_klt (v1' y q)) ly
 have after:∀ (out:Array Keyed) (st':SortSt),Keep k₀ st1 st'→out.toList.Perm ((xs.extract (x + k) (x + n1)).toList++(xs.extract (x + n1) (x + n1 + m)).toList)→out.toList.Pairwise (Rk O ky) →
   wpS (model prog w) A E s (do
    modify fun t=>setArr t (putBack (arrOf t) (x + k) out.toList)
    return (failedOf (← get)).isNone) Q st':=fun out st' kp pm so=>by
  refine wpS_bind (wpS_modify (wpS_bind (wpS_get (wpS_pure ?_))))
  have:(failedOf (setArr st' (putBack (arrOf st') (x + k) out.toList))).isNone=true:=by
   show (failedOf st').isNone=true
   rw [kp.fail];rfl
  rw [this]
  exact fin out st' kp pm so
 have mm1:∀ y∈(xs.extract (x + k) (x + n1)).toList,MemA a₀ y:=fun y hy=>by rw [e1] at hy;exact mem y (List.mem_of_mem_drop (List.mem_of_mem_take hy))
 have mm2:∀ y∈(xs.extract (x + n1) (x + n1 + m)).toList,MemA a₀ y:=fun y hy=>by rw [e2] at hy;exact mem y (List.mem_of_mem_drop (List.mem_of_mem_take hy))
 have hfst:∀ zz,(xs.extract (x + n1) (x + n1 + m)).toList[0]? = some zz→∀ y∈(xs.extract (x + k) (x + n1)).toList,Rk O ky zz y:=fun zz ez y hy=>by
  rw [e2,List.getElem?_take,if_pos (by omega),List.getElem?_drop,Nat.add_zero,eb0] at ez
  cases ez
  rw [e1] at hy
  exact KeyOrd.kle_of_klt (t2' y hy)
 have hlst:∀ y∈(xs.extract (x + n1) (x + n1 + m)).toList,∀ zz,(xs.extract (x + k) (x + n1)).toList[n1 - k - 1]? = some zz→Rk O ky y zz:=fun y hy zz ez=>by
  rw [e1,List.getElem?_take,if_pos (by omega),List.getElem?_drop,show k + (n1 - k - 1)=n1 - 1 by omega,ea1] at ez
  cases ez
  rw [e2] at hy
  exact KeyOrd.kle_of_klt (v1' y hy)
 by_cases c3:n1 - k≤m
 ·rw [if_pos c3]
  refine wpS_bind (mergeLo_ok hL hkd hfl (by rw [e1];exact sA') (by rw [e2];exact sB') mm1 mm2 (by omega) (by omega) (fun zz ez y hy=>hfst zz (by rw [← Array.getElem?_toList] at ez;exact ez) y hy) (fun y hy y' hy'=>?_) fun out st' kp pm so=>?_)
  ·rw [z1] at hy'
   obtain ⟨j,hj,rfl⟩:=List.mem_drop_iff_getElem.mp hy'
   have hl':(xs.extract (x + k) (x + n1)).toList.length=n1 - k:=by rw [Array.length_toList];exact z1
   have hi0:j=0:=by omega
   subst hi0
   exact hlst y hy _ (by rw [List.getElem?_eq_getElem (by omega)] <;> rfl)
  ·exact after out st' kp pm so
 ·rw [if_neg c3]
  refine wpS_bind (mergeHi_ok hL hkd hfl (by rw [e1];exact sA') (by rw [e2];exact sB') mm1 mm2 (by omega) (by omega) hfst (fun zz ez y hy=>hlst y hy zz (by rw [z1] at ez;exact ez)) fun out st' kp pm so=>?_)
  exact after out st' kp pm so
end
end TS
namespace TS
open PySem PyProof.Rows
section
variable {prog:Program}{w:World}{A:Around}{E:Value→Shared→Prop}{s:Shared}{k₀:SortKind}{O:KeyOrd}{ky:Keyed→O.α}{a₀:Array Keyed}
noncomputable def Runs (O:KeyOrd) (ky:Keyed→O.α) (xs:Array Keyed):List (Nat × Nat × Nat)→Nat→Nat→Prop
 | [],a,b=>a=b
 | p::ps,a,b=>p.1=a∧1≤p.2.1∧Up O ky xs a (a + p.2.1)∧Runs O ky xs ps (a + p.2.1) b
theorem runs_le {xs:Array Keyed}:∀ {ps:List (Nat × Nat × Nat)}{a b:Nat},Runs O ky xs ps a b→a + ps.length≤b
 | [],a,b,h=>by cases h;exact Nat.le_refl _
 | p::ps,a,b,⟨_,h2,_,h4⟩=>by have:=runs_le h4;rw [List.length_cons];omega
theorem runs_app {xs:Array Keyed}{qs:List (Nat × Nat × Nat)}:∀ {ps:List (Nat × Nat × Nat)}{a c:Nat},Runs O ky xs (ps++qs) a c↔∃ b,Runs O ky xs ps a b∧Runs O ky xs qs b c
 | [],a,c=>⟨fun h=>⟨a,rfl,h⟩,fun ⟨b,e,h⟩=>by cases e;exact h⟩
 | p::ps,a,c=>by
  constructor
  ·rintro ⟨h1,h2,h3,h4⟩
   obtain ⟨b,q1,q2⟩:=runs_app.mp h4
   exact ⟨b,⟨h1,h2,h3,q1⟩,q2⟩
  ·rintro ⟨b,⟨h1,h2,h3,h4⟩,q⟩
   exact ⟨h1,h2,h3,runs_app.mpr ⟨b,h4,q⟩⟩
theorem up_same {xs ys:Array Keyed}{a b:Nat} (e:∀ t,a≤t→t < b→ys[t]? = xs[t]?) (h:Up O ky xs a b):Up O ky ys a b:=fun i j i1 i2 i3=>by
 rw [kx_congr (e i i1 (by omega)),kx_congr (e j (by omega) i3)]
 exact h i j i1 i2 i3
theorem runs_same {xs ys:Array Keyed}:∀ {ps:List (Nat × Nat × Nat)}{a b:Nat},(∀ t,a≤t→t < b→ys[t]? = xs[t]?)→Runs O ky xs ps a b→Runs O ky ys ps a b
 | [],_,_,_,h=>h
 | p::ps,a,b,e,⟨h1,h2,h3,h4⟩=>by
  have:=runs_le h4
  exact ⟨h1,h2,up_same (fun t t1 t2=>e t t1 (by omega)) h3,runs_same (fun t t1 t2=>e t (by omega) t2) h4⟩
theorem runs_pw {xs:Array Keyed}:∀ {ps qs:List (Nat × Nat × Nat)}{a b:Nat},ps.map (fun p=>(p.1,p.2.1))=qs.map (fun p=>(p.1,p.2.1))→Runs O ky xs ps a b→Runs O ky xs qs a b
 | [],[],_,_,_,h=>h
 | [],q::qs,_,_,e,_=>by simp at e
 | p::ps,[],_,_,e,_=>by simp at e
 | p::ps,q::qs,a,b,e,⟨h1,h2,h3,h4⟩=>by
  rw [List.map_cons,List.map_cons] at e
  injection e with e1 e2
  have e3:p.1=q.1:=(Prod.mk.inj e1).1
  have e4:p.2.1=q.2.1:=(Prod.mk.inj e1).2
  rw [e3] at h1
  rw [e4] at h2 h3 h4
  exact ⟨h1,h2,h3,runs_pw e2 h4⟩
structure Rn (k₀:SortKind) (O:KeyOrd) (ky:Keyed→O.α) (a₀:Array Keyed) (b:Nat) (st:SortSt):Prop where
 perm:(arrOf st).Perm a₀
 kind:kindOf st=k₀
 fail:failedOf st=none
 le:b≤a₀.size
 runs:Runs O ky (arrOf st) (pendingOf st).toList 0 b
theorem Rn.size {b:Nat}{st:SortSt} (R:Rn k₀ O ky a₀ b st):(pendingOf st).size≤b:=by
 have:=runs_le R.runs
 rw [Array.length_toList] at this
 omega
theorem split_two {α:Type}{l:List α}{i:Nat} (h:i + 1 < l.length):∃ l1 p q l2,l=l1++p::q::l2∧l1.length=i:=
 ⟨l.take i,l[i],l[i + 1],l.drop (i + 2),by rw [← List.drop_eq_getElem_cons,← List.drop_eq_getElem_cons,List.take_append_drop],by rw [List.length_take];omega⟩
theorem erase_two {α:Type}{xs:Array α}{l1 l2:List α}{p q v:α} (e:xs.toList=l1++p::q::l2):((xs.setIfInBounds l1.length v).eraseIdxIfInBounds (l1.length + 1)).toList=l1++v::l2:=by
 have hs:xs.size=l1.length + (l2.length + 2):=by rw [← Array.length_toList,e,List.length_append,List.length_cons,List.length_cons]
 have hlt:l1.length + 1 < (xs.setIfInBounds l1.length v).size:=by rw [Array.size_setIfInBounds];omega
 unfold Array.eraseIdxIfInBounds
 rw [dif_pos hlt,Array.toList_eraseIdx,Array.toList_setIfInBounds,e,List.set_append_right _ _ (Nat.le_refl _),Nat.sub_self,List.set_cons_zero,List.eraseIdx_append_of_length_le (Nat.le_succ _),show l1.length.succ - l1.length=1 by omega]
 rfl
theorem mrg_rn {st:SortSt}{b i:Nat}{Q:Bool→SortSt→Prop} (hL:LtOk prog w A s k₀ O ky (MemA a₀)) (R:Rn k₀ O ky a₀ b st) (hi:i + 1 < (pendingOf st).size)
  (h:∀ st',Rn k₀ O ky a₀ b st'→(pendingOf st').size + 1=(pendingOf st).size→(∀ t,b≤t→(arrOf st')[t]? = (arrOf st)[t]?)→Q true st'):wpS (model prog w) A E s (mrgM i) Q st:=by
 obtain ⟨l1,⟨x,n1,pw⟩,⟨y,n2,z⟩,l2,e,hl⟩:=split_two (l:=(pendingOf st).toList) (i:=i) (by rw [Array.length_toList];exact hi)
 subst hl
 have r:=R.runs
 rw [e] at r
 obtain ⟨x',r1,ex,h1,u1,ey,h2,u2,r2⟩:=runs_app.mp r
 dsimp only at ex ey h1 h2 u1 u2 r2
 subst ex
 subst ey
 have r2le:=runs_le r2
 have ble:=R.le
 have gi:(pendingOf st)[l1.length]? = some (x,n1,pw):=by rw [← Array.getElem?_toList,e];simp
 have gj:(pendingOf st)[l1.length + 1]? = some (x + n1,n2,z):=by rw [← Array.getElem?_toList,e];simp
 have xle:=runs_le r1
 refine mrg_ok hL R.perm R.kind R.fail gi gj h1 h2 (by omega) u1 u2 fun st' q1 q2 q3 q4 q5 q6=>h st' ⟨q1,q2,q3,ble,?_⟩ ?_ fun t ht=>q5 t (.inr (by omega))
 ·rw [q4,erase_two e]
  refine runs_app.mpr ⟨x,runs_same (fun t _ t2=>q5 t (.inl t2)) r1,rfl,by show 1≤n1 + n2;omega,q6,runs_same (fun t t1 _=>q5 t (.inr ?_)) ?_⟩
  ·dsimp only at t1;omega
  ·dsimp only
   rw [← Nat.add_assoc]
   exact r2
 ·rw [q4,← Array.length_toList,erase_two e,← Array.length_toList,e]
  simp
  omega
theorem mod_pw {xs:Array (Nat × Nat × Nat)}{k pw:Nat}:((xs.modify k fun x=>(x.1,x.2.1,pw)).toList.map fun p=>(p.1,p.2.1))=xs.toList.map fun p=>(p.1,p.2.1):=by
 apply List.ext_getElem?
 intro i
 rw [List.getElem?_map,List.getElem?_map,Array.getElem?_toList,Array.getElem?_toList,Array.getElem?_modify]
 split
 ·cases xs[i]? <;> rfl
 ·rfl
theorem runs_ok {st:SortSt}{Q:Unit→SortSt→Prop} (hL:LtOk prog w A s k₀ O ky (MemA a₀)) (hk:kindOf st=k₀) (hf:failedOf st=none) (hp:(arrOf st).Perm a₀) (hpd:pendingOf st = #[]) (h1:1≤a₀.size)
  (h:∀ st',(arrOf st').Perm a₀→failedOf st'=none→(arrOf st').toList.Pairwise (Rk O ky)→Q () st'):wpS (model prog w) A E s runsM Q st:=by
 rw [runsM_eq]
 refine wpS_bind (wpS_get ?_)
 have hsz:(arrOf st).size=a₀.size:=hp.size_eq
 rw [hsz]
 dsimp only
 generalize hmr:mnrM a₀.size a₀.size 0=mr
 refine wpS_bind (wpS_mono (wpS_forRange (I:=fun x c st'=>c=(none,c.2)∧Rn k₀ O ky a₀ c.2 st'∧x≤c.2)
  (Q:=fun c st'=>c=(none,a₀.size)∧Rn k₀ O ky a₀ a₀.size st') ?step ?fin ⟨rfl,⟨hp,hk,hf,Nat.zero_le _,by rw [hpd];rfl⟩,Nat.le_refl _⟩) ?post)
 case fin=>
  rintro ⟨c1,l⟩ st' ⟨e,hS,hx⟩
  cases e
  have:=hS.le
  have:l=a₀.size:=by dsimp only at *;omega
  subst this
  exact ⟨rfl,hS⟩
 case step=>
  rintro x ⟨c1,l⟩ st' _ hx ⟨e,hS,hxl⟩
  cases e
  dsimp only at hS hxl ⊢
  by_cases hge:l ≥ a₀.size
  ·rw [if_pos hge]
   have:=hS.le
   have:l=a₀.size:=by omega
   subst this
   exact wpS_pure ⟨rfl,hS⟩
  rw [if_neg hge]
  have hB:Sb k₀ a₀ (pendingOf st') (arrOf st') l st':=⟨hS.perm,hS.kind,hS.fail,rfl,fun _ _=>rfl⟩
  have go:∀ (n:Nat) (st3:SortSt),Sb k₀ a₀ (pendingOf st') (arrOf st') l st3→1≤n→l + n≤a₀.size→Up O ky (arrOf st3) l (l + n)→Rn k₀ O ky a₀ l st3:=fun n st3 hB3 n1 n2 nu=>
   ⟨hB3.perm,hB3.kind,hB3.fail,by omega,by rw [hB3.pend];exact runs_same (fun t _ t2=>hB3.same t t2) hS.runs⟩
  have last:∀ (n:Nat) (ps:Array (Nat × Nat × Nat)) (st3:SortSt),Rn k₀ O ky a₀ l st3→(ps.toList.map fun p=>(p.1,p.2.1))=((pendingOf st3).toList.map fun p=>(p.1,p.2.1))→1≤n→l + n≤a₀.size→Up O ky (arrOf st3) l (l + n)→Rn k₀ O ky a₀ (l + n) (pendTo st3 (ps.push (l,n,0))):=fun n ps st3 R3 ep n1 n2 nu=>
   ⟨R3.perm,R3.kind,R3.fail,n2,by
    show Runs O ky (arrOf st3) (ps.push (l,n,0)).toList 0 (l + n)
    rw [Array.toList_push]
    exact runs_app.mpr ⟨l,runs_pw ep.symm R3.runs,rfl,n1,nu,rfl⟩⟩
  refine wpS_bind (cnt_ok hL hB (by omega) (by omega) fun f st2 hB2 f1 f2 fu=>?_)
  dsimp only
  by_cases c:f < mr
  ·rw [if_pos c]
   refine wpS_bind (wpS_lift (wpAny_rule ⟨rfl,?_⟩))
   refine wpS_bind (bin_ok hL hB2 (by omega) (by omega) fu fun st3 hB3 u3=>?_)
   rw [if_neg (by simp)]
   refine wpS_bind (wpS_get ?_)
   have R3:=go _ st3 hB3 (by omega) (by omega) u3
   cases hb:(pendingOf st3).back? with
   | none=>
    dsimp only
    refine wpS_bind (wpS_modify (wpS_pure ?_))
    exact ⟨rfl,last _ _ st3 R3 rfl (by omega) (by omega) u3,by dsimp only;omega⟩
   | some abc=>
    obtain ⟨ra,rb,rc⟩:=abc
    dsimp only
    refine wpS_bind (wpS_mono (wpS_forRange (I:=fun _ c st''=>c=(none,())∧Rn k₀ O ky a₀ l st''∧∀ t,l≤t→(arrOf st'')[t]? = (arrOf st3)[t]?) (Q:=fun c st''=>c=(none,())∧Rn k₀ O ky a₀ l st''∧∀ t,l≤t→(arrOf st'')[t]? = (arrOf st3)[t]?) ?_ (fun _ _ hh=>hh) ⟨rfl,R3,fun _ _=>rfl⟩) ?_)
    ·rintro y c' st'' _ _ ⟨rfl,R4,sm⟩
     refine wpS_bind (wpS_get ?_)
     by_cases c5:(pendingOf st'').size > 1
     ·rw [if_pos c5]
      obtain ⟨pq,epq⟩:∃ pq,(pendingOf st'')[(pendingOf st'').size - 2]? = some pq:=⟨_,getElem?_pos _ _ (by omega)⟩
      obtain ⟨p1,p2,p3⟩:=pq
      rw [epq]
      dsimp only
      split
      ·exact wpS_pure ⟨rfl,R4,sm⟩
      ·refine wpS_bind (mrg_rn hL R4 (by omega) fun st5 R5 _ sm5=>?_)
       rw [if_neg (by simp)]
       exact wpS_pure ⟨rfl,R5,fun t ht=>(sm5 t ht).trans (sm t ht)⟩
     ·rw [if_neg c5]
      exact wpS_pure ⟨rfl,R4,sm⟩
    ·rintro c' st'' ⟨rfl,R4,sm⟩
     dsimp only
     refine wpS_bind (wpS_modify (wpS_bind (wpS_modify (wpS_pure ?_))))
     exact ⟨rfl,last _ _ st'' R4 mod_pw (by omega) (by omega) (up_same (fun t t1 _=>sm t t1) u3),by dsimp only;omega⟩
  ·rw [if_neg c]
   refine wpS_bind (wpS_get ?_)
   have R3:=go _ st2 hB2 (by omega) (by omega) fu
   cases hb:(pendingOf st2).back? with
   | none=>
    dsimp only
    refine wpS_bind (wpS_modify (wpS_pure ?_))
    exact ⟨rfl,last _ _ st2 R3 rfl (by omega) (by omega) fu,by dsimp only;omega⟩
   | some abc=>
    obtain ⟨ra,rb,rc⟩:=abc
    dsimp only
    refine wpS_bind (wpS_mono (wpS_forRange (I:=fun _ c st''=>c=(none,())∧Rn k₀ O ky a₀ l st''∧∀ t,l≤t→(arrOf st'')[t]? = (arrOf st2)[t]?) (Q:=fun c st''=>c=(none,())∧Rn k₀ O ky a₀ l st''∧∀ t,l≤t→(arrOf st'')[t]? = (arrOf st2)[t]?) ?_ (fun _ _ hh=>hh) ⟨rfl,R3,fun _ _=>rfl⟩) ?_)
    ·rintro y c' st'' _ _ ⟨rfl,R4,sm⟩
     refine wpS_bind (wpS_get ?_)
     by_cases c5:(pendingOf st'').size > 1
     ·rw [if_pos c5]
      obtain ⟨pq,epq⟩:∃ pq,(pendingOf st'')[(pendingOf st'').size - 2]? = some pq:=⟨_,getElem?_pos _ _ (by omega)⟩
      obtain ⟨p1,p2,p3⟩:=pq
      rw [epq]
      dsimp only
      split
      ·exact wpS_pure ⟨rfl,R4,sm⟩
      ·refine wpS_bind (mrg_rn hL R4 (by omega) fun st5 R5 _ sm5=>?_)
       rw [if_neg (by simp)]
       exact wpS_pure ⟨rfl,R5,fun t ht=>(sm5 t ht).trans (sm t ht)⟩
     ·rw [if_neg c5]
      exact wpS_pure ⟨rfl,R4,sm⟩
    ·rintro c' st'' ⟨rfl,R4,sm⟩
     dsimp only
     refine wpS_bind (wpS_modify (wpS_bind (wpS_modify (wpS_pure ?_))))
     exact ⟨rfl,last _ _ st'' R4 mod_pw (by omega) (by omega) (up_same (fun t t1 _=>sm t t1) fu),by dsimp only;omega⟩
 case post=>
  rintro c st' ⟨rfl,hS⟩
  dsimp only
  refine wpS_bind (wpS_mono (wpS_forRange (I:=fun x c st''=>c=(none,())∧Rn k₀ O ky a₀ a₀.size st''∧(pendingOf st'').size≤a₀.size + 1 - x) (Q:=fun c st''=>c=(none,())∧Rn k₀ O ky a₀ a₀.size st''∧(pendingOf st'').size≤1) ?_ (fun c st'' hh=>?_) ⟨rfl,hS,by have:=hS.size;omega⟩) ?_)
  ·rintro x c' st'' _ hx ⟨rfl,R4,hz⟩
   refine wpS_bind (wpS_get ?_)
   by_cases c5:(pendingOf st'').size≤1
   ·rw [if_pos c5]
    exact wpS_pure ⟨rfl,R4,c5⟩
   ·rw [if_neg c5]
    try dsimp only
    refine wpS_bind (mrg_rn hL R4 ?_ fun st5 R5 z5 _=>?_)
    ·have ite_le:∀ (b:Bool) (n:Nat),(if b=true then n - 1 else n)≤n:=fun b n=>by cases b <;> simp
     have:=ite_le (Option.any (fun x=>decide (x < (pendingOf st'')[(pendingOf st'').size - 2 + 1]?.elim 0 fun x=>x.snd.fst)) (if (pendingOf st'').size - 2 > 0 then (pendingOf st'')[(pendingOf st'').size - 2 - 1]?.map (fun x=>x.snd.fst) else none)) ((pendingOf st'').size - 2)
     omega
    ·rw [if_neg (by simp)]
     exact wpS_pure ⟨rfl,R5,by omega⟩
  ·obtain ⟨e,R4,hz⟩:=hh
   exact ⟨e,R4,by omega⟩
  ·rintro c' st'' ⟨rfl,R4,hz⟩
   refine wpS_pure (h st'' R4.perm R4.fail ?_)
   have r:=R4.runs
   have hl:(pendingOf st'').toList.length≤1:=by rw [Array.length_toList];exact hz
   generalize (pendingOf st'').toList=ps at r hl
   cases ps with
   | nil=>have r:0=a₀.size:=r;omega
   | cons p tl=>
    cases tl with
    | cons p2 tl2=>exact (Nat.not_succ_le_zero _ (Nat.le_of_succ_le_succ hl)).elim
    | nil=>
     obtain ⟨_,_,u,r⟩:=r
     have r:0 + p.2.1=a₀.size:=r
     have:=up_list u (by rw [R4.perm.size_eq];omega)
     rwa [List.drop_zero,List.take_of_length_le (by rw [Array.length_toList,R4.perm.size_eq];omega)] at this
end
end TS
namespace TS
open PySem PyProof.Rows
theorem pw_short {α:Type}{R:α→α→Prop}{l:List α} (h:l.length≤1):l.Pairwise R:=by
 cases l with
 | nil=>exact .nil
 | cons a t=>
  cases t with
  | nil=>exact List.pairwise_singleton _ _
  | cons b u=>exact (Nat.not_succ_le_zero _ (Nat.le_of_succ_le_succ h)).elim
theorem runs_eq:(sortRuns':StateT SortSt Sem Unit)=runsM:=rfl
theorem pairs_mem {vs:List Value}{p:Keyed} (h:p∈(pairsOf vs).toList):p.1=p.2∧p.2∈vs:=by
 rw [pairsOf_toList] at h
 induction vs with
 | nil=>cases h
 | cons v vs ih=>
  rw [List.zip_cons_cons] at h
  rcases List.mem_cons.mp h with e | e
  ·rw [e];exact ⟨rfl,List.mem_cons_self⟩
  ·exact ⟨(ih e).1,List.mem_cons_of_mem _ (ih e).2⟩
theorem zip_self_snd:∀ vs:List Value,(vs.zip vs).map (·.2)=vs
 | []=>rfl
 | v::vs=>by rw [List.zip_cons_cons,List.map_cons,zip_self_snd vs]
theorem out_of {O:KeyOrd}{ky:Keyed→O.α}{vs:List Value}{st:SortSt} (hp:(arrOf st).Perm (pairsOf vs)) (hs:(arrOf st).toList.Pairwise (Rk O ky)) :
  ((arrOf st).map (·.2)).toList.Perm vs∧((arrOf st).map (·.2)).toList.Pairwise fun x y=>O.kle (ky (x,x)) (ky (y,y)):=by
 have pl:=Array.perm_iff_toList_perm.mp hp
 rw [Array.toList_map]
 constructor
 ·have:=pl.map (·.2)
  rwa [pairsOf_toList,zip_self_snd] at this
 ·rw [List.pairwise_map]
  refine hs.imp_of_mem fun {x y} hx hy h=>?_
  have e1:=(pairs_mem (pl.mem_iff.mp hx)).1
  have e2:=(pairs_mem (pl.mem_iff.mp hy)).1
  have q1:(x.2,x.2)=x:=Prod.ext e1.symm rfl
  have q2:(y.2,y.2)=y:=Prod.ext e2.symm rfl
  rw [q1,q2]
  exact h
section
variable {prog:Program}{w:World}{A:Around}{E:Value→Shared→Prop}{s:Shared}
theorem sort_list {k₀:SortKind}{O:KeyOrd}{ky:Keyed→O.α}{a:Addr}{vs:List Value}{n:Nat}{P:Fin→Shared→Prop} (ho:s.heap.get? a=some (seqObj "list" vs.toArray n)) (h64:vs.length≤900)
  (hkk:2≤vs.length→∀ h':Heap,(∀ b o,b≠a→s.heap.get? b=some o→h'.get? b=some o)→∀ Q':SortKind→Shared→Prop,Q' k₀ { s with heap:=h' }→wpAny (model prog w) A (keyKind' vs.toArray) Q' E { s with heap:=h' })
  (hL:2≤vs.length→∀ h':Heap,(∀ b o,b≠a→s.heap.get? b=some o→h'.get? b=some o)→LtOk prog w A { s with heap:=h' } k₀ O ky (MemA (pairsOf vs)))
  (h:∀ out:Array Value,out.toList.Perm vs→out.toList.Pairwise (fun x y=>O.kle (ky (x,x)) (ky (y,y)))→P (.done (.ret .none)) { s with heap:=sortedHeap s.heap a vs out }) :
  wpAny (model prog w) A (Builtin.«list.sort» ⟨[.ref a],[]⟩) P E s:=by
 have hlt:a < s.heap.objs.size:=Heap.lt_size ho
 have hsz:vs.toArray.size=vs.length:=by simp
 rw [list_sort_plain]
 refine wpAny_bind (listItems_at ho rfl (wpAny_bind (listUpdate_at ho rfl ?_)))
 obtain ⟨m1,g1⟩:∃ k,(s.heap.update a (Obj.mapSeq fun _=>#[])).get? a=some (seqObj "list" #[] k):=⟨_,get?_update_seq ho (fun _=>#[])⟩
 refine wpAny_bind (seqEpoch_at g1 rfl (wpAny_bind (wpAny_newTuple (wpAny_bind (wpAny_newList (wpAny_holding ?_))))))
 let H3:Heap:=((s.heap.update a (Obj.mapSeq fun _=>#[])).push (seqObj "tuple" vs.toArray 0)).push (seqObj "list" #[] 0)
 have g3:H3.get? a=some (seqObj "list" #[] m1):=Heap.get?_push_of_some _ (Heap.get?_push_of_some _ g1)
 have kept:∀ b o,b≠a→s.heap.get? b=some o→H3.get? b=some o:=fun b o hb e=>Heap.get?_push_of_some _ (Heap.get?_push_of_some _ ((Heap.get?_update_other _ _ (Ne.symm hb)).trans e))
 show wpAny (model prog w) A _ P E { s with heap:=H3 }
 dsimp only
 by_cases c:vs.toArray.size < 2
 ·rw [if_pos c,if_pos c]
  refine wpAny_bind (wpAny_pure ?_)
  rw [StateT.run_pure]
  refine wpAny_bind (wpAny_pure ?_)
  dsimp only
  have ez:(arrOf (SortSt.mk' general' (vs.toArray.zip vs.toArray) #[] 7 none)).map (·.2)=vs.toArray:=by
   apply Array.ext'
   rw [Array.toList_map]
   show ((pairsOf vs).toList.map (·.2))=_
   rw [pairsOf_toList,zip_self_snd]
  rw [ez]
  refine wpAny_bind (seqEpoch_at g3 rfl (wpAny_bind (listUpdate_at g3 rfl ?_ (hsz2:=by rw [hsz,sizeLine_eq];omega))))
  simp only [bne_self_eq_false,Bool.false_eq_true,if_false]
  refine wpAny_pure (h vs.toArray (List.Perm.refl _) ?_)
  rw [hsz] at c
  exact pw_short (Nat.le_of_lt_succ c)
 ·have c2:2≤vs.length:=by omega
  rw [if_neg c,if_neg c]
  refine wpAny_bind (hkk c2 H3 kept _ ?_)
  rw [runs_eq]
  refine wpAny_bind (wpAny_mono (runs_ok (st:=SortSt.mk' k₀ (vs.toArray.zip vs.toArray) #[] 7 none) (Q:=fun _ st'=>(arrOf st').Perm (pairsOf vs)∧failedOf st'=none∧(arrOf st').toList.Pairwise (Rk O ky))
   (hL c2 H3 kept) rfl rfl (Array.Perm.refl _) rfl (by rw [pairsOf_size];omega) fun st' q1 q2 q3=>⟨q1,q2,q3⟩) ?_ fun _ _ x=>x)
  rintro ⟨⟨⟩,st'⟩ s' ⟨rfl,q1,q2,q3⟩
  dsimp only
  obtain ⟨o1,o2⟩:=out_of q1 q3
  have oz:((arrOf st').map (·.2)).size=vs.length:=by rw [Array.size_map,q1.size_eq,pairsOf_size]
  refine wpAny_bind (seqEpoch_at g3 rfl (wpAny_bind (listUpdate_at g3 rfl ?_ (hsz2:=by rw [oz,sizeLine_eq];omega))))
  rw [q2]
  simp only [bne_self_eq_false,Bool.false_eq_true,if_false]
  exact wpAny_pure (h _ o1 o2)
theorem sorted_any {k₀:SortKind}{O:KeyOrd}{ky:Keyed→O.α}{l:Addr}{vs:List Value}{Q:Value→Shared→Prop} (hl:s.heap.IsList l vs.toArray) (h64:vs.length≤900)
  (hkk:2≤vs.length→∀ h':Heap,(∀ b o,s.heap.get? b=some o→h'.get? b=some o)→∀ Q':SortKind→Shared→Prop,Q' k₀ { s with heap:=h' }→wpAny (model prog w) A.in1.in1 (keyKind' vs.toArray) Q' E { s with heap:=h' })
  (hL:2≤vs.length→∀ h':Heap,(∀ b o,s.heap.get? b=some o→h'.get? b=some o)→LtOk prog w A.in1.in1 { s with heap:=h' } k₀ O ky (MemA (pairsOf vs)))
  (h:∀ out:Array Value,out.toList.Perm vs→out.toList.Pairwise (fun x y=>O.kle (ky (x,x)) (ky (y,y)))→Q (.ref (s.heap.objs.size + 1)) { s with heap:=sortedAll s.heap vs out }) :
  wpAny (model prog w) A (call (.builtin "sorted") [.ref l]) Q E s:=by
 refine Calls.call_function_entry kind_sorted plain_sorted entry_sorted (args_sorted1 _) ?_
 unfold Builtin.«sorted»
 refine wpAny_bind (m:=checkCount "sorted" 1 1 _) (wpAny_pure (wpAny_bind (collect_list hl (wpAny_bind (wpAny_newList ?_)) (by rw [sizeLine_eq];omega))))
 let H2:Heap:=(s.heap.push (seqObj "list" #[] 0)).update s.heap.objs.size (Obj.mapSeq (· ++ vs.toArray))
 have z2:H2.objs.size=s.heap.objs.size + 1:=by show ((s.heap.push _).update _ _).objs.size=_;rw [Heap.size_update,size_push']
 have g2:(H2.push (seqObj "list" vs.toArray 0)).get? (s.heap.objs.size + 1)=some (seqObj "list" vs.toArray 0):=by rw [← z2];exact Heap.get?_push_size _ rfl
 have kept:∀ b o,s.heap.get? b=some o→(H2.push (seqObj "list" vs.toArray 0)).get? b=some o:=fun b o e=>
  Heap.get?_push_of_some _ ((Heap.get?_update_other _ _ (Nat.ne_of_gt (Heap.lt_size e))).trans (Heap.get?_push_of_some _ e))
 have neN:∀ b o,s.heap.get? b=some o→b≠s.heap.objs.size + 1:=fun b o e=>Nat.ne_of_lt (Nat.lt_succ_of_lt (Heap.lt_size e))
 show wpAny _ _ _ _ _ { s with heap:=H2.push (seqObj "list" vs.toArray 0) }
 rw [z2]
 refine wpAny_bind (wpAny_holding (wpAny_call_entry slot_list_sort ⟨_,g2,rfl⟩ entry_list_sort (sort_list (k₀:=k₀) (ky:=ky) g2 h64
  (fun c h' kp Q' q=>hkk c h' (fun b o e=>kp b o (neN b o e) (kept b o e)) Q' q) (fun c h' kp=>hL c h' fun b o e=>kp b o (neN b o e) (kept b o e)) fun out p1 p2=>⟨_,rfl,?_⟩) (args_list_sort _)))
 exact wpAny_pure ⟨_,rfl,h out p1 p2⟩
end
end TS
end
namespace EqD
open PySem PyProof.Rows
section
open PySem.SeqAt
open PySem.AutoSeq1 (wpAny_loadPart')
open PySem.MeetsSeq PySem.MeetsSeq2 PySem.MeetsSeq3
noncomputable abbrev LObj (xs:Array Value) (n:Nat) (dd:Option Addr) (sl:Array (Option Value)):Obj:={ cls:=.type "list",dict:=dd,data:=.seq xs n,slots:=sl }
theorem lt_loop (l b:Addr) (p q:Array Value) (n n2:Nat) (dd dd2:Option Addr) (sl sl2:Array (Option Value)) (ns ms:List Int) (hi:IntsAre p.toList ns) (hj:IntsAre q.toList ms) (k:Nat) :
  ∀ i:Nat,p.size - i=k→i≤q.size→i≤p.size→Meets (Builtin.«list.__eq__.loop» ⟨[.ref l,.ref b,rawInt i,rawInt 0],[]⟩)
   (fun A R s=>s.heap.get? l=some (LObj p n dd sl)∧s.heap.get? b=some (LObj q n2 dd2 sl2)∧R (.ok (.ret (.bool (HT.lexLt (ns.drop i) (ms.drop i))))) s):=by
 have zp:p.size=ns.length:=by rw [← hi.length];simp
 have zq:q.size=ms.length:=by rw [← hj.length];simp
 have gp:∀ i,i < p.size→∃ a t,p[i]? = some (.int a t)∧ns.drop i=a::ns.drop (i + 1):=fun i h=>by
  obtain ⟨t,e⟩:=hi.get i (ns[i]'(by omega)) (List.getElem?_eq_getElem _)
  exact ⟨_,t,(Array.getElem?_toList).symm.trans e,List.drop_eq_getElem_cons _⟩
 have gq:∀ i,i < q.size→∃ a t,q[i]? = some (.int a t)∧ms.drop i=a::ms.drop (i + 1):=fun i h=>by
  obtain ⟨t,e⟩:=hj.get i (ms[i]'(by omega)) (List.getElem?_eq_getElem _)
  exact ⟨_,t,(Array.getElem?_toList).symm.trans e,List.drop_eq_getElem_cons _⟩
 induction k with
 | zero=>
  intro i hk hq hq2 prog w A R s h
  obtain ⟨hp,g,d,tk,os⟩:=s;obtain ⟨hl,hb,h⟩:=h
  wp_walk using wpAny_loadPart' hl,wpAny_loadPart' hb
  have e1:p[((i:Nat):Int).toNat]? = none:=by simp;omega
  rw [e1]
  wp_walk using wpAny_loadPart' hl,wpAny_loadPart' hb
  show R (.ok (.ret (.bool (decide (p.size < q.size))))) _
  have ed:ns.drop i=[]:=List.drop_eq_nil_of_le (by omega)
  rw [ed] at h
  by_cases c:i < q.size
  ·obtain ⟨a,t,_,e2⟩:=gq i c
   rw [e2,HT.lexLt_nil_cons] at h
   rw [decide_eq_true (by omega)]
   exact h
  ·rw [show ms.drop i=[] from List.drop_eq_nil_of_le (by omega),HT.lexLt_nil_nil] at h
   rw [decide_eq_false (by omega)]
   exact h
 | succ k ih=>
  intro i hk hq hq2 prog w A R s h
  obtain ⟨hp,g,d,tk,os⟩:=s;obtain ⟨hl,hb,h⟩:=h
  obtain ⟨a,t,e1,d1⟩:=gp i (by omega)
  rw [d1] at h
  wp_walk using wpAny_loadPart' hl,wpAny_loadPart' hb
  have e1':p[((i:Nat):Int).toNat]? = some (.int a t):=by simpa using e1
  rw [e1']
  by_cases c:i < q.size
  ·obtain ⟨a2,t2,e2,d2⟩:=gq i c
   rw [d2,HT.lexLt_cons] at h
   have e2':q[((i:Nat):Int).toNat]? = some (.int a2 t2):=by simpa using e2
   have hc:((i:Int) + 1)=((i + 1:Nat):Int):=by push_cast;rfl
   rw [e2']
   refine wpAny_bind (SeqAt.EqAt.int_int a t a2 t2 prog w _ _ ?_)
   by_cases ea:a=a2
   ·rw [if_pos ea] at h
    rw [show (a == a2)=true by simpa using ea]
    wp_walk
    rw [hc]
    exact ⟨plainId_quiet plain_eq_loop _,codeAny_builtin entry_eq_loop (by
     rw [Around.under_plainId plain_eq_loop _]
     exact ih (i + 1) (by omega) (by omega) (by omega) prog w A R _ ⟨hl,hb,h⟩)⟩
   ·rw [if_neg ea] at h
    rw [show (a == a2)=false by simpa using ea]
    have hri:=HT.rcLt_int A.in1 ⟨hp,g,d,tk,os⟩ a t a2 t2 prog w
    wp_walk using wpAny_loadPart' hl,wpAny_loadPart' hb
    rw [e1',e2']
    wp_walk using hri
    exact h
  ·have e2':q[((i:Nat):Int).toNat]? = none:=by simp;omega
   rw [show ms.drop i=[] from List.drop_eq_nil_of_le (by omega),HT.lexLt_cons_nil] at h
   rw [e2']
   wp_walk using wpAny_loadPart' hl,wpAny_loadPart' hb
   show R (.ok (.ret (.bool (decide (p.size < q.size))))) _
   rw [decide_eq_false (by omega)]
   exact h
theorem list_lt (l b:Addr) (p q:Array Value) (n n2:Nat) (dd dd2:Option Addr) (sl sl2:Array (Option Value)) (ns ms:List Int) (hi:IntsAre p.toList ns) (hj:IntsAre q.toList ms) :
  Meets (Builtin.«list.__lt__» ⟨[.ref l,.ref b],[]⟩)
   (fun A R s=>s.heap.get? l=some (LObj p n dd sl)∧s.heap.get? b=some (LObj q n2 dd2 sl2)∧R (.ok (.ret (.bool (HT.lexLt ns ms)))) s):=by
 intro prog w A R s h
 obtain ⟨hp,g,d,tk,os⟩:=s;obtain ⟨hl,hb,h⟩:=h
 have f3:=AutoSeq1.sub_list_list
 wp_walk using wpAny_loadPart' hl,wpAny_loadPart' hb
 exact ⟨plainId_quiet plain_eq_loop _,codeAny_builtin entry_eq_loop (by
  rw [Around.under_plainId plain_eq_loop _]
  exact lt_loop l b p q n n2 dd dd2 sl sl2 ns ms hi hj _ 0 rfl (Nat.zero_le _) (Nat.zero_le _) prog w A R _ ⟨hl,hb,by simpa using h⟩)⟩
theorem ne_loop (l b:Addr) (p q:Array Value) (n n2:Nat) (dd dd2:Option Addr) (sl sl2:Array (Option Value)) (hz:p.size=q.size) (e:Nat→Bool) (k:Nat) :
  ∀ i:Nat,p.size - i=k→Meets (Builtin.«list.__eq__.loop» ⟨[.ref l,.ref b,rawInt i,rawInt 3],[]⟩)
   (fun A R s=>s.heap.get? l=some (LObj p n dd sl)∧s.heap.get? b=some (LObj q n2 dd2 sl2)∧(∀ j (h1:j < p.size) (h2:j < q.size),EqAt A.in1 s p[j] q[j] (e j)) ∧
    R (.ok (.ret (.bool (!((List.range p.size).drop i).all e)))) s):=by
 induction k with
 | zero=>
  intro i hk prog w A R s h
  obtain ⟨hp,g,d,tk,os⟩:=s;obtain ⟨hl,hb,he,h⟩:=h
  wp_walk using wpAny_loadPart' hl,wpAny_loadPart' hb
  have e1:p[((i:Nat):Int).toNat]? = none:=by simp;omega
  have ed:(List.range p.size).drop i=[]:=by simp;omega
  rw [ed] at h
  rw [e1]
  wp_walk using wpAny_loadPart' hl,wpAny_loadPart' hb
  show R (.ok (.ret (.bool (p.size != q.size)))) _
  rw [hz]
  simpa using h
 | succ k ih=>
  intro i hk prog w A R s h
  obtain ⟨hp,g,d,tk,os⟩:=s;obtain ⟨hl,hb,he,h⟩:=h
  have c1:i < p.size:=by omega
  have c2:i < q.size:=by omega
  wp_walk using wpAny_loadPart' hl,wpAny_loadPart' hb
  have e1:p[((i:Nat):Int).toNat]? = some p[i]:=by simp [c1]
  have e2:q[((i:Nat):Int).toNat]? = some q[i]:=by simp [c2]
  have ed:(List.range p.size).drop i=i::(List.range p.size).drop (i + 1):=by simp [List.drop_eq_getElem_cons,c1]
  have hc:((i:Int) + 1)=((i + 1:Nat):Int):=by push_cast;rfl
  rw [ed,List.all_cons] at h
  rw [e1,e2]
  refine wpAny_bind (he i c1 c2 prog w _ _ ?_)
  cases hb':e i with
  | true=>
   rw [hb'] at h
   wp_walk
   rw [hc]
   exact ⟨plainId_quiet plain_eq_loop _,codeAny_builtin entry_eq_loop (by
    rw [Around.under_plainId plain_eq_loop _]
    exact ih (i + 1) (by omega) prog w A R _ ⟨hl,hb,he,by simpa using h⟩)⟩
  | false=>
   rw [hb'] at h
   wp_walk using wpAny_loadPart' hl,wpAny_loadPart' hb
   rw [e1,e2]
   wp_walk
   simpa using h
theorem list_ne (l b:Addr) (p q:Array Value) (n n2:Nat) (dd dd2:Option Addr) (sl sl2:Array (Option Value)) (hz:p.size=q.size) (e:Nat→Bool) :
  Meets (Builtin.«list.__ne__» ⟨[.ref l,.ref b],[]⟩)
   (fun A R s=>s.heap.get? l=some (LObj p n dd sl)∧s.heap.get? b=some (LObj q n2 dd2 sl2)∧(∀ j (h1:j < p.size) (h2:j < q.size),EqAt A.in1 s p[j] q[j] (e j)) ∧
    R (.ok (.ret (.bool (!(List.range p.size).all e)))) s):=by
 intro prog w A R s h
 obtain ⟨hp,g,d,tk,os⟩:=s;obtain ⟨hl,hb,he,h⟩:=h
 have f3:=AutoSeq1.sub_list_list
 have hne:¬ (p.size != q.size)=true:=by simp [hz]
 wp_walk using wpAny_loadPart' hl,wpAny_loadPart' hb
 exact ⟨plainId_quiet plain_eq_loop _,codeAny_builtin entry_eq_loop (by
  rw [Around.under_plainId plain_eq_loop _]
  exact ne_loop l b p q n n2 dd dd2 sl sl2 hz e _ 0 rfl prog w A R _ ⟨hl,hb,he,by simpa using h⟩)⟩
theorem list_ne_len (l b:Addr) (p q:Array Value) (n n2:Nat) (dd dd2:Option Addr) (sl sl2:Array (Option Value)) (hz:(p.size != q.size)=true) :
  Meets (Builtin.«list.__ne__» ⟨[.ref l,.ref b],[]⟩) (fun _ R s=>s.heap.get? l=some (LObj p n dd sl)∧s.heap.get? b=some (LObj q n2 dd2 sl2)∧R (.ok (.ret (.bool true))) s):=
 .of_wp fun prog w A R s h=>by
  obtain ⟨hp,g,d,tk,os⟩:=s;obtain ⟨hl,hb,h⟩:=h
  have f3:=AutoSeq1.sub_list_list
  wp_walk using wpAny_loadPart' hl,wpAny_loadPart' hb
  exact ⟨_,rfl,h⟩
end
end EqD
section
local macro_rules | `(tactic| omega)=>`(tactic| lia)
namespace EqD
open PySem PyProof.Rows
section
open PySem.SeqAt
open PySem.AutoSeq1 (wpAny_loadPart')
open PySem.MeetsSeq PySem.MeetsSeq2 PySem.MeetsSeq3
noncomputable abbrev TObj (xs:Array Value) (n:Nat) (dd:Option Addr) (sl:Array (Option Value)):Obj:={ cls:=.type "tuple",dict:=dd,data:=.seq xs n,slots:=sl }
noncomputable def two2 (a b:Bool) (j:Nat):Bool:=if j=0 then a else b
theorem two_all (a b:Bool):((List.range (min 2 2)).all (two2 a b) && 2 == 2)=(a && b):=by cases a <;> cases b <;> rfl
theorem two_at {A:Around}{s:Shared}{x0 x1 y0 y1:Value}{a b:Bool} (h0:EqAt A s x0 y0 a) (h1:EqAt A s x1 y1 b):∀ j (g1:j < #[x0,x1].size) (g2:j < #[y0,y1].size),EqAt A s #[x0,x1][j] #[y0,y1][j] (two2 a b j):=fun j g1 g2=>by
 rcases j with _ | _ | j
 ·exact h0
 ·exact h1
 ·exact absurd g1 (Nat.not_lt_of_le (Nat.le_add_left 2 j))
end
end EqD
namespace L2
open PySem PySem.Spec PyProof.Rows
structure Enc (X:Cx) {α:Type} [DecidableEq α] (enc:α→D) (n:Nat):Prop where
 inj:∀ (S S':Av) (x y:α) (v:V) (pins:List (Addr × Obj)) (σ:St) (H:Hp) (s:Shared),Inv X pins σ H s→Rep X.K S H (enc x) v→Rep X.K S' H (enc y) v→x=y
 eq:∀ (A:Around) (S S':Av) (x y:α) (v v':V) (u u':Value) (pins:List (Addr × Obj)) (σ:St) (H:Hp) (s:Shared),A.units + n < cLine→Inv X pins σ H s→Rep X.K S H (enc x) v→Rep X.K S' H (enc y) v'→RelV v u→RelV v' u'→SeqAt.EqAt A s u u' (decide (x=y))
section
variable {X:Cx}{S:Av}{σ:St}{H:Hp}{a b:Expr}{pos:Pos}
theorem enc_int:Enc X D.int 0:=by
 refine ⟨fun S S' x y v pins σ H s I h h'=>?_,fun A S S' x y v v' u u' pins σ H s hu I h h' r r'=>?_⟩
 ·simp only [Rep] at h h'
  rw [h] at h'
  exact V.int.inj h'
 ·simp only [Rep] at h h'
  subst h h'
  obtain ⟨t,rfl⟩:=r
  obtain ⟨t',rfl⟩:=r'
  have:=SeqAt.EqAt.int_int (A:=A) (s:=s) x t y t'
  rwa [show (x == y)=decide (x=y) from rfl] at this
theorem inj_list {α:Type} [DecidableEq α] {enc:α→D}{n:Nat} (E:Enc X enc n) {S S':Av}{pins:List (Addr × Obj)}{σ:St}{H:Hp}{s:Shared} (I:Inv X pins σ H s):∀ {xs ys:List α}{vs:List V},Reps X.K S H (xs.map enc) vs→Reps X.K S' H (ys.map enc) vs→xs=ys
 | [],[],_,_,_=>rfl
 | [],y::ys,vs,h,h'=>by
  simp only [List.map_nil,List.map_cons,Reps] at h h'
  obtain ⟨_,_,e,_⟩:=h'
  rw [h] at e;cases e
 | x::xs,[],vs,h,h'=>by
  simp only [List.map_nil,List.map_cons,Reps] at h h'
  obtain ⟨_,_,e,_⟩:=h
  rw [h'] at e;cases e
 | x::xs,y::ys,vs,h,h'=>by
  simp only [List.map_cons,Reps] at h h'
  obtain ⟨v,r,e,h1,h2⟩:=h
  obtain ⟨v',r',e',h1',h2'⟩:=h'
  rw [e] at e'
  cases e'
  rw [E.inj S S' x y v pins σ H s I h1 h1',inj_list E I h2 h2']
theorem elems_eq {α:Type} [DecidableEq α] {enc:α→D}{n:Nat} (E:Enc X enc n) {A:Around}{S S':Av}{pins:List (Addr × Obj)}{σ:St}{H:Hp}{s:Shared} (hu:A.units + (n + 1) < cLine) (I:Inv X pins σ H s) {x y:List α}{vs vs':List V}{its its':List Value}
  (h2:Reps X.K S H (x.map enc) vs) (h2':Reps X.K S' H (y.map enc) vs') (rv:Vals vs its) (rv':Vals vs' its') (j:Nat) (j1:j < its.toArray.size) (j2:j < its'.toArray.size):SeqAt.EqAt A.in1 s its.toArray[j] its'.toArray[j] (decide (x[j]? = y[j]?)):=by
 have l1:=h2.length
 have l2:=h2'.length
 have l3:=rv.length
 have l4:=rv'.length
 rw [List.length_map] at l1 l2
 rw [List.size_toArray] at j1 j2
 obtain ⟨w1,g1,q1⟩:=h2.get (i:=j) (d:=enc x[j]) (by rw [List.getElem?_map,List.getElem?_eq_getElem (by omega)];rfl)
 obtain ⟨w2,g2,q2⟩:=h2'.get (i:=j) (d:=enc y[j]) (by rw [List.getElem?_map,List.getElem?_eq_getElem (by omega)];rfl)
 obtain ⟨u1,k1,m1⟩:=rv.get g1
 obtain ⟨u2,k2,m2⟩:=rv'.get g2
 have e1:its.toArray[j]=u1:=by
  have:its[j]? = some its[j]:=List.getElem?_eq_getElem j1
  rw [k1] at this
  simpa using (Option.some.inj this).symm
 have e2:its'.toArray[j]=u2:=by
  have:its'[j]? = some its'[j]:=List.getElem?_eq_getElem j2
  rw [k2] at this
  simpa using (Option.some.inj this).symm
 rw [e1,e2]
 have:=E.eq A.in1 S S' x[j] y[j] w1 w2 u1 u2 pins σ H s (by show A.units + 1 + n < cLine;omega) I q1 q2 m1 m2
 have ed:decide (x[j]? = y[j]?)=decide (x[j]=y[j]):=by
  rw [List.getElem?_eq_getElem (by omega),List.getElem?_eq_getElem (by omega)]
  simp
 rw [ed]
 exact this
theorem all_eq {α:Type} [DecidableEq α] {x y:List α}{k:Nat} (hk:k=x.length) (hz:x.length=y.length):decide (x=y)=(List.range k).all fun j=>decide (x[j]? = y[j]?):=by
 subst hk
 rw [Bool.eq_iff_iff,decide_eq_true_iff,List.all_eq_true]
 constructor
 ·intro e j _;rw [e];simp
 ·intro q
  apply List.ext_getElem?
  intro j
  by_cases hj:j < x.length
  ·have:=q j (List.mem_range.mpr hj)
   simpa using this
  ·rw [List.getElem?_eq_none (by omega),List.getElem?_eq_none (by omega)]
theorem rc_list {α:Type} [DecidableEq α] {enc:α→D}{n:Nat} (E:Enc X enc n) {A:Around}{S S':Av}{pins:List (Addr × Obj)}{σ:St}{H:Hp}{s:Shared} (hu:A.units + (n + 1) < cLine) (I:Inv X pins σ H s) {x y:List α}{p p':Addr}
  (h:Rep X.K S H (.lst (x.map enc)) (.ref p)) (h':Rep X.K S' H (.lst (y.map enc)) (.ref p')):SeqAt.RcAt A s (.ref p) (.ref p') (decide (x=y)) ∧
  ∀ (prog:Program) (w:World) (E:Value→Shared→Prop) (Q:Value→Shared→Prop),Q (.bool (!decide (x=y))) s→wpAny (model prog w) A (richCompare .NotEq (.ref p) (.ref p')) Q E s:=by
 obtain ⟨_,vs,e,h1,h2⟩:=rep_seq h
 cases e
 obtain ⟨_,vs',e,h1',h2'⟩:=rep_seq h'
 cases e
 obtain ⟨its,rv,pl,_⟩:=I.list h1.sq
 obtain ⟨its',rv',pl',_⟩:=I.list h1'.sq
 have l1:=h2.length
 have l2:=h2'.length
 have l3:=rv.length
 have l4:=rv'.length
 rw [List.length_map] at l1 l2
 have el:=elems_eq (A:=A) E hu I h2 h2' rv rv'
 obtain ⟨⟨cls,dd,data,sl⟩,m,ho,hc,hdd,hd⟩:=id pl
 obtain ⟨⟨cls2,dd2,data2,sl2⟩,m2,ho2,hc2,hdd2,hd2⟩:=id pl'
 simp only at hc hd hc2 hd2
 subst hc hd hc2 hd2
 by_cases hz:x.length=y.length
 ·have hz':its.toArray.size=its'.toArray.size:=by rw [List.size_toArray,List.size_toArray];omega
  rw [all_eq (k:=its.toArray.size) (by rw [List.size_toArray];omega) hz]
  refine ⟨SeqAt.RcAt.lists pl.isList pl'.isList hz' (by omega) el,fun prog w E' Q q=>?_⟩
  exact richCompare_meets_room (op:=.NotEq) ⟨_,ho,rfl⟩ ⟨_,ho2,rfl⟩ PySem.F.slot_list_ne PySem.F.entry_list_ne (PySem.F.args_list_ne_2 _ _) (EqD.list_ne _ _ _ _ m m2 dd dd2 sl sl2 hz' _) ⟨ho,ho2,el,(fun z=>nomatch z),q⟩ (by omega)
 ·have hz':(its.toArray.size != its'.toArray.size)=true:=by simp;omega
  rw [decide_eq_false (fun e=>hz (by rw [e]))]
  refine ⟨SeqAt.RcAt.lists_lengths pl.isList pl'.isList hz' (by omega),fun prog w E' Q q=>?_⟩
  exact richCompare_meets_room (op:=.NotEq) ⟨_,ho,rfl⟩ ⟨_,ho2,rfl⟩ PySem.F.slot_list_ne PySem.F.entry_list_ne (PySem.F.args_list_ne_2 _ _) (EqD.list_ne_len _ _ _ _ m m2 dd dd2 sl sl2 hz') ⟨ho,ho2,(fun z=>nomatch z),q⟩ (by omega)
theorem enc_list {α:Type} [DecidableEq α] {enc:α→D}{n:Nat} (E:Enc X enc n):Enc X (fun (xs:List α)=>D.lst (xs.map enc)) (n + 1):=by
 refine ⟨fun S S' x y v pins σ H s I h h'=>?_,fun A S S' x y v v' u u' pins σ H s hu I h h' r r'=>?_⟩
 ·obtain ⟨p,vs,rfl,h1,h2⟩:=rep_seq h
  obtain ⟨p',vs',e,h1',h2'⟩:=rep_seq h'
  cases e
  have:=I.list_inj h1.sq h1'.sq
  subst this
  exact inj_list E I h2 h2'
 ·obtain ⟨p,vs,rfl,h1,h2⟩:=rep_seq h
  obtain ⟨p',vs',rfl,h1',h2'⟩:=rep_seq h'
  cases r
  cases r'
  by_cases hp:p=p'
  ·subst hp
   have:=I.list_inj h1.sq h1'.sq
   subst this
   rw [decide_eq_true (inj_list E I h2 h2')]
   exact SeqAt.EqAt.same _
  ·exact .of_refs hp (rc_list E hu I h h').1
noncomputable abbrev encSet:List Int→D:=fun ns=>.lst (ns.map D.int)
noncomputable abbrev encSets:List (List Int)→D:=fun nss=>.lst (nss.map encSet)
theorem enc_set:Enc X encSet 1:=enc_list enc_int
theorem enc_sets:Enc X encSets 2:=enc_list enc_set
noncomputable def rEqE (K:PySem.W.Frag) {α:Type} [DecidableEq α] (enc:α→D) (neg:Bool):R2:=fun x y H Q=>∃ (S:Av) (xs ys:List α),Rep K S H (.lst (xs.map enc)) x∧Rep K S H (.lst (ys.map enc)) y∧Q (.bl (if neg=true then !decide (xs=ys) else decide (xs=ys))) H
theorem op_eqE {α:Type} [DecidableEq α] {enc:α→D}{n:Nat} (E:Enc X enc n) (hu:X.A.units + (n + 1) < cLine):OpR X (compareOp .Eq) (rEqE X.K enc false):=by
 intro pins s σ H x y v u Q I rx ry h
 obtain ⟨S,xs,ys,h1,h2,q⟩:=h
 obtain ⟨p,vs,rfl,_⟩:=rep_seq h1
 obtain ⟨p',vs',rfl,_⟩:=rep_seq h2
 cases rx
 cases ry
 exact (rc_list E hu I h1 h2).1 X.prog X.w X.xe _ ⟨.bl _,H,I,rfl,q⟩
theorem op_neE {α:Type} [DecidableEq α] {enc:α→D}{n:Nat} (E:Enc X enc n) (hu:X.A.units + (n + 1) < cLine):OpR X (compareOp .NotEq) (rEqE X.K enc true):=by
 intro pins s σ H x y v u Q I rx ry h
 obtain ⟨S,xs,ys,h1,h2,q⟩:=h
 obtain ⟨p,vs,rfl,_⟩:=rep_seq h1
 obtain ⟨p',vs',rfl,_⟩:=rep_seq h2
 cases rx
 cases ry
 exact (rc_list E hu I h1 h2).2 X.prog X.w X.xe _ ⟨.bl _,H,I,rfl,q⟩
theorem good_eqE {α:Type} [DecidableEq α] {enc:α→D}{xs ys:List α}:GoodR X.K S H (.lst (xs.map enc)) (.lst (ys.map enc)) (.bl (decide (xs=ys))) (rEqE X.K enc false):=fun x y H' Q _ _ rx ry k=>⟨S,xs,ys,rx,ry,k _ H' (Same.refl _) (by simp only [Rep];rfl)⟩
theorem good_neE {α:Type} [DecidableEq α] {enc:α→D}{xs ys:List α}:GoodR X.K S H (.lst (xs.map enc)) (.lst (ys.map enc)) (.bl (!decide (xs=ys))) (rEqE X.K enc true):=fun x y H' Q _ _ rx ry k=>⟨S,xs,ys,rx,ry,k _ H' (Same.refl _) (by simp only [Rep];rfl)⟩
noncomputable def rInE (K:PySem.W.Frag) {α:Type} [DecidableEq α] (enc:α→D) (neg:Bool):R2:=fun x y H Q=>∃ (S:Av) (z:α) (ys:List α),Rep K S H (enc z) x∧Rep K S H (.lst (ys.map enc)) y∧Q (.bl (if neg=true then !decide (z∈ys) else decide (z∈ys))) H
noncomputable def saysE (K:PySem.W.Frag) (S:Av) (H:Hp) (d:D):Value→Bool:=fun u=>@decide (∃ w,RelV w u∧Rep K S H d w) (Classical.propDecidable _)
theorem says_eq {α:Type} [DecidableEq α] {enc:α→D}{n:Nat} (E:Enc X enc n) {S:Av}{pins:List (Addr × Obj)}{σ:St}{H:Hp}{s:Shared} (I:Inv X pins σ H s) {y z:α}{w:V}{u:Value} (h:Rep X.K S H (enc y) w) (r:RelV w u):saysE X.K S H (enc z) u=decide (y=z):=by
 unfold saysE
 rw [Bool.eq_iff_iff,@decide_eq_true_iff _ (Classical.propDecidable _),decide_eq_true_iff]
 constructor
 ·rintro ⟨w',r',h'⟩
  have:w'=w:=r'.inj r
  subst this
  exact E.inj S S y z w' pins σ H s I h h'
 ·intro e
  subst e
  exact ⟨w,r,h⟩
theorem in_items {α:Type} [DecidableEq α] {enc:α→D}{n:Nat} (E:Enc X enc n) {A:Around}{S:Av}{pins:List (Addr × Obj)}{σ:St}{H:Hp}{s:Shared} (hu:A.units + n < cLine) (I:Inv X pins σ H s) {z:α}{x:V}{v:Value} (hz:Rep X.K S H (enc z) x) (rx:RelV x v) :
  ∀ {ys:List α}{vs:List V}{its:List Value},Reps X.K S H (ys.map enc) vs→Vals vs its→(∀ u∈its,SeqAt.EqAt A s u v (saysE X.K S H (enc z) u))∧its.any (saysE X.K S H (enc z))=decide (z∈ys)
 | [],vs,its,h,r=>by
  simp only [List.map_nil,Reps] at h
  subst h
  have:its=[]:=by cases r;rfl
  subst this
  exact ⟨fun u hu=>(by cases hu),by simp⟩
 | y::ys,vs,its,h,r=>by
  simp only [List.map_cons,Reps] at h
  obtain ⟨w,r',rfl,h1,h2⟩:=h
  cases r with
  | cons q1 q2=>
   rename_i u us
   obtain ⟨e1,e2⟩:=in_items E hu I hz rx h2 q2
   have hs:=says_eq E I (z:=z) h1 q1
   refine ⟨fun t ht=>?_,?_⟩
   ·rcases List.mem_cons.mp ht with g | g
    ·rw [g,hs]
     exact E.eq A S S y z w x u v pins σ H s hu I h1 hz q1 rx
    ·exact e1 t g
   ·rw [List.any_cons,e2,hs,Bool.eq_iff_iff]
    simp only [Bool.or_eq_true,decide_eq_true_iff,List.mem_cons]
    exact ⟨fun g=>g.elim (fun g=>.inl g.symm) .inr,fun g=>g.elim (fun g=>.inl g.symm) .inr⟩
theorem op_inE {α:Type} [DecidableEq α] {enc:α→D}{n:Nat} (E:Enc X enc n) (hu:X.A.units + (n + 1) < cLine):OpR X (compareOp .In) (rInE X.K enc false):=by
 intro pins s σ H x y v u Q I rx ry h
 obtain ⟨S,z,ys,h1,h2,q⟩:=h
 obtain ⟨p,vs,rfl,g1,g2⟩:=rep_seq h2
 cases ry
 obtain ⟨its,rv,pl,_⟩:=I.list g1.sq
 obtain ⟨e1,e2⟩:=in_items (A:=X.A.in1) E (by show X.A.units + 1 + n < cLine;omega) I h1 rx g2 rv
 refine SeqAt.in_listAt (saysE X.K S H (enc z)) pl.isList (fun w hw=>e1 w (by simpa using hw)) ⟨.bl _,H,I,rfl,?_⟩
 rw [show its.toArray.any (saysE X.K S H (enc z))=its.any (saysE X.K S H (enc z)) by simp,e2]
 exact q
theorem op_notInE {α:Type} [DecidableEq α] {enc:α→D}{n:Nat} (E:Enc X enc n) (hu:X.A.units + (n + 1) < cLine):OpR X (compareOp .NotIn) (rInE X.K enc true):=by
 intro pins s σ H x y v u Q I rx ry h
 obtain ⟨S,z,ys,h1,h2,q⟩:=h
 obtain ⟨p,vs,rfl,g1,g2⟩:=rep_seq h2
 cases ry
 obtain ⟨its,rv,pl,_⟩:=I.list g1.sq
 obtain ⟨e1,e2⟩:=in_items (A:=X.A.in1) E (by show X.A.units + 1 + n < cLine;omega) I h1 rx g2 rv
 refine SeqAt.notIn_listAt (saysE X.K S H (enc z)) pl.isList (fun w hw=>e1 w (by simpa using hw)) ⟨.bl _,H,I,rfl,?_⟩
 rw [show its.toArray.any (saysE X.K S H (enc z))=its.any (saysE X.K S H (enc z)) by simp,e2]
 exact q
theorem good_inE {α:Type} [DecidableEq α] {enc:α→D}{z:α}{ys:List α}:GoodR X.K S H (enc z) (.lst (ys.map enc)) (.bl (decide (z∈ys))) (rInE X.K enc false):=fun x y H' Q _ _ rx ry k=>⟨S,z,ys,rx,ry,k _ H' (Same.refl _) (by simp only [Rep];rfl)⟩
theorem good_notInE {α:Type} [DecidableEq α] {enc:α→D}{z:α}{ys:List α}:GoodR X.K S H (enc z) (.lst (ys.map enc)) (.bl (!decide (z∈ys))) (rInE X.K enc true):=fun x y H' Q _ _ rx ry k=>⟨S,z,ys,rx,ry,k _ H' (Same.refl _) (by simp only [Rep];rfl)⟩
noncomputable abbrev encRow:Int × List Int→D:=fun r=>.tup [.int r.1,encSet r.2]
theorem row_parts {S:Av}{H:Hp}{r:Int × List Int}{v:V} (h:Rep X.K S H (encRow r) v):∃ p w,v = .ref p∧AvT X.K S H p [.int r.1,w]∧Rep X.K S H (encSet r.2) w:=by
 obtain ⟨p,ys,rfl,h1,h2⟩:=rep_seqT h
 obtain ⟨a,w,rfl,ra,rw'⟩:=reps_2 h2
 simp only [Rep] at ra
 subst ra
 exact ⟨p,w,rfl,h1,rw'⟩
theorem enc_row_inj {S S':Av}{pins:List (Addr × Obj)}{σ:St}{H:Hp}{s:Shared} (I:Inv X pins σ H s) {r r':Int × List Int}{v:V} (h:Rep X.K S H (encRow r) v) (h':Rep X.K S' H (encRow r') v):r=r':=by
 obtain ⟨p,w,rfl,h1,h2⟩:=row_parts h
 obtain ⟨p',w',e,h1',h2'⟩:=row_parts h'
 cases e
 have:=I.tuple_inj h1.sq h1'.sq
 simp only [List.cons.injEq,V.int.injEq,and_true] at this
 obtain ⟨e1,e2⟩:=this
 subst e2
 exact Prod.ext e1 (enc_set.inj S S' _ _ w pins σ H s I h2 h2')
end
end L2
namespace TS
open PySem PyProof.Rows
theorem lex_irrefl:∀ l:List Int,HT.lexLt l l=false
 | []=>rfl
 | x::l=>by rw [HT.lexLt_cons,if_pos rfl];exact lex_irrefl l
theorem lex_trans:∀ {a b c:List Int},HT.lexLt a b=true→HT.lexLt b c=true→HT.lexLt a c=true
 | [],[],_,h,_=>by cases h
 | _::_,[],_,h,_=>by cases h
 | [],_::_,[],_,h=>by cases h
 | [],_::_,_::_,_,_=>rfl
 | _::_,_::_,[],_,h=>by cases h
 | x::a,y::b,z::c,h,g=>by
  rw [HT.lexLt_cons] at h g ⊢
  by_cases e1:x=y
  ·rw [if_pos e1] at h
   by_cases e2:y=z
   ·rw [if_pos e2] at g
    rw [if_pos (e1.trans e2)]
    exact lex_trans h g
   ·rw [if_neg e2] at g
    rw [if_neg (by omega),e1]
    exact g
  ·rw [if_neg e1] at h
   have h':=of_decide_eq_true h
   by_cases e2:y=z
   ·rw [if_neg (by omega)]
    exact decide_eq_true (by omega)
   ·rw [if_neg e2] at g
    have g':=of_decide_eq_true g
    rw [if_neg (by omega)]
    exact decide_eq_true (by omega)
theorem lex_total:∀ {a b:List Int},HT.lexLt a b=false→HT.lexLt b a=false→a=b
 | [],[],_,_=>rfl
 | _::_,[],_,h=>by cases h
 | [],_::_,h,_=>by cases h
 | x::a,y::b,h,g=>by
  rw [HT.lexLt_cons] at h g
  by_cases e:x=y
  ·rw [if_pos e] at h
   rw [if_pos e.symm] at g
   rw [e,lex_total h g]
  ·rw [if_neg e] at h
   rw [if_neg (Ne.symm e)] at g
   have h':=of_decide_eq_false h
   have g':=of_decide_eq_false g
   omega
noncomputable def rowLt (a b:Int × List Int):Bool:=if a.1=b.1 then HT.lexLt a.2 b.2 else decide (a.1 < b.1)
theorem row_total {a b:Int × List Int} (h:rowLt a b=false) (g:rowLt b a=false):a=b:=by
 unfold rowLt at h g
 by_cases e:a.1=b.1
 ·rw [if_pos e] at h
  rw [if_pos e.symm] at g
  exact Prod.ext e (lex_total h g)
 ·rw [if_neg e] at h
  rw [if_neg (Ne.symm e)] at g
  have h':=of_decide_eq_false h
  have g':=of_decide_eq_false g
  omega
theorem row_trans {a b c:Int × List Int} (h:rowLt a b=true) (g:rowLt b c=true):rowLt a c=true:=by
 unfold rowLt at h g ⊢
 by_cases e1:a.1=b.1
 ·rw [if_pos e1] at h
  by_cases e2:b.1=c.1
  ·rw [if_pos e2] at g
   rw [if_pos (e1.trans e2)]
   exact lex_trans h g
  ·rw [if_neg e2] at g
   rw [if_neg (by omega),e1]
   exact g
 ·rw [if_neg e1] at h
  have h':=of_decide_eq_true h
  by_cases e2:b.1=c.1
  ·rw [if_neg (by omega)]
   exact decide_eq_true (by omega)
  ·rw [if_neg e2] at g
   have g':=of_decide_eq_true g
   rw [if_neg (by omega)]
   exact decide_eq_true (by omega)
theorem row_irrefl (a:Int × List Int):rowLt a a=false:=by unfold rowLt;rw [if_pos rfl];exact lex_irrefl _
noncomputable def rowOrd:KeyOrd where
 α:=Int × List Int
 blt:=rowLt
 irrefl:=row_irrefl
 trans:=fun a b c=>row_trans
 negTrans:=fun a b c h=>by
  cases e:rowLt a b with
  | true=>exact .inl rfl
  | false=>
   refine .inr ?_
   cases e2:rowLt b a with
   | true=>exact row_trans e2 h
   | false=>rw [← row_total e e2];exact h
 total:=fun a b=>row_total
end TS
namespace L2
open PySem PySem.Spec PyProof.Rows TS
theorem Vals.perm {us us':List Value} (h:us'.Perm us):∀ {xs:List V},Vals xs us→∃ zs,zs.Perm xs∧Vals zs us':=by
 induction h with
 | nil=>intro xs r;exact ⟨xs,.refl _,r⟩
 | cons u _ ih=>
  intro xs r
  cases r with
  | cons q1 q2=>
   obtain ⟨zs,p,r'⟩:=ih q2
   exact ⟨_::zs,p.cons _,.cons q1 r'⟩
 | swap a b l=>
  intro xs r
  cases r with
  | cons q1 q2=>
   cases q2 with
   | cons q3 q4=>exact ⟨_,List.Perm.swap _ _ _,.cons q3 (.cons q1 q4)⟩
 | trans _ _ ih1 ih2=>
  intro xs r
  obtain ⟨zs,p,r'⟩:=ih2 r
  obtain ⟨ws,p',r''⟩:=ih1 r'
  exact ⟨ws,p'.trans p,r''⟩
section
variable {X:Cx}{S:Av}{σ:St}{H:Hp}{pos:Pos}
noncomputable def rowAt (K:PySem.W.Frag) (S:Av) (H:Hp) (u:Value):Int × List Int:=@dite _ (∃ r w,RelV w u∧Rep K S H (encRow r) w) (Classical.propDecidable _) (fun h=>Classical.choose h) fun _=>(0,[])
theorem rowAt_eq {pins:List (Addr × Obj)}{s:Shared} (I:Inv X pins σ H s) {r:Int × List Int}{w:V}{u:Value} (h:Rep X.K S H (encRow r) w) (q:RelV w u):rowAt X.K S H u=r:=by
 unfold rowAt
 have ex:∃ r w,RelV w u∧Rep X.K S H (encRow r) w:=⟨r,w,q,h⟩
 rw [dif_pos ex]
 obtain ⟨w',q',h'⟩:=Classical.choose_spec ex
 have:w'=w:=q'.inj q
 subst this
 exact enc_row_inj I h' h
theorem row_obj {pins:List (Addr × Obj)}{s:Shared} (I:Inv X pins σ H s) {r:Int × List Int}{w:V}{u:Value} (h:Rep X.K S H (encRow r) w) (q:RelV w u):∃ p t w2 u2 o n,w = .ref p∧u = .ref p∧s.heap.get? p=some o∧o.cls = .type "tuple"∧o.data = .seq #[.int r.1 t,u2] n∧RelV w2 u2∧Rep X.K S H (encSet r.2) w2:=by
 obtain ⟨p,w2,rfl,h1,h2⟩:=row_parts h
 cases q
 obtain ⟨its,rv,tp,_⟩:=I.tuple h1.sq
 cases rv with
 | cons q1 q2=>
  cases q2 with
  | cons q3 q4=>
   cases q4
   obtain ⟨t,rfl⟩:=q1
   obtain ⟨o,ho,hc,n,hd⟩:=tp
   exact ⟨p,t,w2,_,o,n,rfl,rfl,ho,hc,by simpa using hd,q3,h2⟩
theorem set_obj {pins:List (Addr × Obj)}{s:Shared} (I:Inv X pins σ H s) {l:List Int}{w:V}{u:Value} (h:Rep X.K S H (encSet l) w) (q:RelV w u):∃ p its o n,w = .ref p∧u = .ref p∧s.heap.get? p=some o∧o.cls = .type "list"∧o.data = .seq its n∧IntsAre its.toList l:=by
 obtain ⟨p,vs,rfl,h1,h2⟩:=rep_seq h
 cases q
 rw [reps_ints.mp h2] at h1
 obtain ⟨its,rv,⟨o,n,ho,hc,_,hd⟩,_⟩:=I.list h1.sq
 exact ⟨p,its.toArray,o,n,rfl,rfl,ho,hc,hd,by simpa using intsAre_of rv⟩
theorem lt_rows {A:Around}{E:Value→Shared→Prop}{pins:List (Addr × Obj)}{s:Shared} (I:Inv X pins σ H s) (hu:A.units + 4 < cLine) {r r':Int × List Int}{w w':V}{u u':Value} (h:Rep X.K S H (encRow r) w) (q:RelV w u) (h':Rep X.K S H (encRow r') w') (q':RelV w' u') {Q:Bool→Shared→Prop}
  (hQ:Q (rowLt r r') s):wpAny (model X.prog X.w) A (keyLt' (tuples' true) u u') Q E s:=by
 obtain ⟨p,t,w2,u2,o,n,rfl,rfl,ho,hc,hd,q2,h2⟩:=row_obj I h q
 obtain ⟨p',t',w2',u2',o',n',rfl,rfl,ho',hc',hd',q2',h2'⟩:=row_obj I h' q'
 refine PySem.W.kat_lt ho hd ho' hd' ?_
 show PySem.W.KatLex X.prog X.w A true _ Q [(.int r.1 t,.int r'.1 t'),(u2,u2')] 0 s
 refine PySem.W.kat_cons (SeqAt.EqAt.int_int r.1 t r'.1 t' X.prog X.w _ _ ?_)
 unfold rowLt at hQ
 by_cases e:r.1=r'.1
 ·rw [if_pos e] at hQ
  rw [show (r.1 == r'.1)=true by simpa using e]
  refine PySem.W.kat_yes (PySem.W.kat_cons (enc_set.eq A S S r.2 r'.2 w2 w2' u2 u2' pins σ H s (by omega) I h2 h2' q2 q2' X.prog X.w _ _ ?_))
  by_cases e2:r.2=r'.2
  ·rw [decide_eq_true e2]
   refine PySem.W.kat_yes (PySem.W.kat_nil ?_)
   rw [e2,lex_irrefl] at hQ
   exact hQ
  ·rw [decide_eq_false e2]
   refine PySem.W.kat_no ?_
   obtain ⟨a,its,oa,na,rfl,rfl,hoa,hca,hda,hia⟩:=set_obj I h2 q2
   obtain ⟨b,its',ob,nb,rfl,rfl,hob,hcb,hdb,hib⟩:=set_obj I h2' q2'
   obtain ⟨cls,dd,data,sl⟩:=oa
   obtain ⟨cls2,dd2,data2,sl2⟩:=ob
   simp only at hca hda hcb hdb
   subst hca hda hcb hdb
   exact PySem.W.kat_one _ _ (richCompare_meets_room (op:=.Lt) ⟨_,hoa,rfl⟩ ⟨_,hob,rfl⟩ PySem.F.slot_list_lt PySem.F.entry_list_lt (PySem.F.args_list_lt_2 _ _) (EqD.list_lt a b its its' na nb dd dd2 sl sl2 r.2 r'.2 hia hib) ⟨hoa,hob,(fun z=>nomatch z),hQ⟩ (by omega))
 ·rw [if_neg e] at hQ
  rw [show (r.1 == r'.1)=false by simpa using e]
  exact PySem.W.kat_no (oneLt_int hQ)
end
end L2
namespace L2
open PySem PySem.Spec PyProof.Rows TS
theorem Reps.permE {α:Type}{enc:α→D}{K:PySem.W.Frag}{S:Av}{H:Hp}{vs vs':List V} (h:vs'.Perm vs):∀ {xs:List α},Reps K S H (xs.map enc) vs→∃ xs':List α,xs'.Perm xs∧Reps K S H (xs'.map enc) vs':=by
 induction h with
 | nil=>intro xs r;exact ⟨xs,.refl _,r⟩
 | cons u _ ih=>
  intro xs r
  cases xs with
  | nil=>simp only [List.map_nil,Reps] at r;cases r
  | cons d ds=>
   simp only [List.map_cons,Reps] at r
   obtain ⟨x,t,e,h1,h2⟩:=r
   cases e
   obtain ⟨es,p,r'⟩:=ih h2
   exact ⟨d::es,p.cons _,by simp only [List.map_cons,Reps];exact ⟨_,_,rfl,h1,r'⟩⟩
 | swap a b l=>
  intro xs r
  match xs,r with
  | [],r=>simp only [List.map_nil,Reps] at r;cases r
  | [d],r=>simp only [List.map_cons,List.map_nil,Reps] at r;obtain ⟨x,t,e,h1,h2⟩:=r;cases e;cases h2
  | d::d'::ds,r=>
   simp only [List.map_cons,Reps] at r
   obtain ⟨x,t,e,h1,y,t',e',h2,h3⟩:=r
   cases e
   cases e'
   exact ⟨d'::d::ds,List.Perm.swap _ _ _,by simp only [List.map_cons,Reps];exact ⟨_,_,rfl,h2,_,_,rfl,h1,h3⟩⟩
 | trans _ _ ih1 ih2=>
  intro xs r
  obtain ⟨es,p,r'⟩:=ih2 r
  obtain ⟨fs,p',r''⟩:=ih1 r'
  exact ⟨fs,p'.trans p,r''⟩
theorem reps_vals {α:Type}{enc:α→D}{K:PySem.W.Frag}{S:Av}{H:Hp}:∀ {xs:List α}{vs:List V}{us:List Value},Reps K S H (xs.map enc) vs→Vals vs us→∀ u∈us,∃ x w,RelV w u∧Rep K S H (enc x) w
 | [],vs,us,h,r,u,hu=>by
  simp only [List.map_nil,Reps] at h
  subst h
  cases r
  cases hu
 | x::xs,vs,us,h,r,u,hu=>by
  simp only [List.map_cons,Reps] at h
  obtain ⟨w,t,rfl,h1,h2⟩:=h
  cases r with
  | cons q1 q2=>
   rcases List.mem_cons.mp hu with e | e
   ·rw [e];exact ⟨x,w,q1,h1⟩
   ·exact reps_vals h2 q2 u e
section
variable {X:Cx}{S:Av}{σ:St}{H:Hp}{pos:Pos}
theorem rows_of {pins:List (Addr × Obj)}{s:Shared} (I:Inv X pins σ H s):∀ {rs:List (Int × List Int)}{vs:List V}{us:List Value},Reps X.K S H (rs.map encRow) vs→Vals vs us→us.map (rowAt X.K S H)=rs
 | [],vs,us,h,r=>by
  simp only [List.map_nil,Reps] at h
  subst h
  cases r
  rfl
 | x::xs,vs,us,h,r=>by
  simp only [List.map_cons,Reps] at h
  obtain ⟨w,t,rfl,h1,h2⟩:=h
  cases r with
  | cons q1 q2=>rw [List.map_cons,rowAt_eq I h1 q1,rows_of I h2 q2]
theorem katTups {pins:List (Addr × Obj)}{s:Shared} (I:Inv X pins σ H s):∀ {rs:List (Int × List Int)}{vs:List V}{us:List Value},Reps X.K S H (rs.map encRow) vs→Vals vs us→∃ fs,PySem.W.KatTups s.heap us fs∧fs.length=rs.length∧∀ f∈fs,∃ a t,f=Value.int a t
 | [],vs,us,h,r=>by
  simp only [List.map_nil,Reps] at h
  subst h
  cases r
  exact ⟨[],.nil,rfl,fun f hf=>(by cases hf)⟩
 | x::xs,vs,us,h,r=>by
  simp only [List.map_cons,Reps] at h
  obtain ⟨w,t,rfl,h1,h2⟩:=h
  cases r with
  | cons q1 q2=>
   obtain ⟨fs,k1,k2,k3⟩:=katTups I h2 q2
   obtain ⟨p,t',w2,u2,o,n,rfl,rfl,ho,hc,hd,_⟩:=row_obj I h1 q1
   refine ⟨.int x.1 t'::fs,.cons ho hc hd rfl k1,by rw [List.length_cons,List.length_cons,k2],fun f hf=>?_⟩
   rcases List.mem_cons.mp hf with e | e
   ·exact ⟨_,_,e⟩
   ·exact k3 f e
noncomputable abbrev RowsUp (rs:List (Int × List Int)):Prop:=rs.Pairwise fun a b=>rowLt b a=false
noncomputable def rSortRows (K:PySem.W.Frag):List V→Hp→VK→Prop:=fun xs H Q=>∃ (S:Av) (rs:List (Int × List Int)),Sub S H∧Reps K S H [.lst (rs.map encRow)] xs∧rs.length≤900 ∧
 ∀ rs',rs'.Perm rs→RowsUp rs'→∀ v H',Same H H'→Rep K S H' (.lst (rs'.map encRow)) v→Q v H'
theorem call_sortRows (hu:X.A.units + 8 < cLine):CallR X (.builtin "sorted") (rSortRows X.K):=by
 intro pins s σ H xs us Q I r h
 obtain ⟨S,rs,sb,rp,h64,q⟩:=h
 obtain ⟨v,rfl,rv⟩:=reps_1 rp
 obtain ⟨u,rfl,ru⟩:=vals1 r
 obtain ⟨p,ys,rfl,h1,h2⟩:=rep_seq rv
 cases ru
 obtain ⟨its,rv',pl,hz⟩:=I.list h1.sq
 have l1:=h2.length
 have l2:=rv'.length
 rw [List.length_map] at l1
 refine sorted_any (k₀:=tuples' true) (O:=rowOrd) (ky:=fun k=>rowAt X.K S H k.1) pl.isList (by omega) (fun c h' kp Q' q'=>?_) (fun c h' kp=>?_) fun out p1 p2=>?_
 ·have I':Inv X pins σ H { s with heap:=h' }:=I.kept (t':=s.toks) kp
  obtain ⟨fs,k1,k2,k3⟩:=katTups I' h2 rv'
  refine PySem.W.kat_kind (T:=.type "int") k1 (by omega) (fun f hf=>?_) (by decide) q'
  obtain ⟨a,t,rfl⟩:=k3 f hf
  exact PySem.W.Looks.now
 ·intro E' x y Q' mx my q'
  have I':Inv X pins σ H { s with heap:=h' }:=I.kept (t':=s.toks) kp
  obtain ⟨ex,mx'⟩:=pairs_mem mx
  obtain ⟨ey,my'⟩:=pairs_mem my
  rw [← ex] at mx'
  rw [← ey] at my'
  obtain ⟨r1,w1,a1,b1⟩:=reps_vals h2 rv' _ mx'
  obtain ⟨r2,w2,a2,b2⟩:=reps_vals h2 rv' _ my'
  refine lt_rows I' (by show X.A.units + 1 + 1 + 4 < cLine;omega) b1 a1 b2 a2 ?_
  have e1:=rowAt_eq I' b1 a1
  have e2:=rowAt_eq I' b2 a2
  dsimp only at q'
  rw [e1,e2] at q'
  exact q'
 ·obtain ⟨zs,pz,rz⟩:=rv'.perm p1
  obtain ⟨rs',pr,rr⟩:=Reps.permE pz h2
  have fr:H (s.heap.objs.size + 1)=none:=I.hok.fresh (Nat.le_succ _)
  have lz:zs.length=ys.length:=pz.length_eq
  obtain ⟨e,he⟩:=sortedAll_at s.heap its out
  refine ⟨.ref (s.heap.objs.size + 1),upd H (s.heap.objs.size + 1) (.lst zs),I.laid (t':=s.toks) (fun b o hb=>sortedAll_old hb) (Nat.le_succ _) ⟨by rw [lz];exact hz,out.toList,e,rz,by simpa using he⟩,rfl,?_⟩
  refine q rs' pr ?_ _ _ (same_new fr _) (rep_lst (sb.new fr) upd_same (rr.up (same_new fr _)))
  have:=rows_of I rr rz
  rw [← this]
  unfold RowsUp
  rw [List.pairwise_map]
  exact p2
theorem de_sortRows {e:Expr}{rs:List (Int × List Int)}{d:D} (hu:X.A.units + 8 < cLine) (h64:rs.length≤900) (hd:∀ rs',rs'.Perm rs→RowsUp rs'→d = .lst (rs'.map encRow)) (hp:PE X e (tCB (rSortRows X.K) (tDA X.K S σ H [.lst (rs.map encRow)]))):DE X S σ H e d:=
 de_cb (fun vs H' Q _ sb r k=>⟨S,rs,sb,r,h64,fun rs' p u v H'' s rv=>k v H'' s (by rw [hd rs' p u];exact rv)⟩) hp
theorem rowsUp_unique {a b:List (Int × List Int)} (p:a.Perm b) (ha:RowsUp a) (hb:RowsUp b):a=b:=by
 refine p.eq_of_pairwise (fun x y _ _ h1 h2=>row_total h2 h1) ha hb
noncomputable def rNeRow (K:PySem.W.Frag):R2:=fun x y H Q=>∃ (S:Av) (r r':Int × List Int),Rep K S H (encRow r) x∧Rep K S H (encRow r') y∧Q (.bl (!decide (r=r'))) H
theorem op_neRow (hu:X.A.units + 4 < cLine):OpR X (compareOp .NotEq) (rNeRow X.K):=by
 intro pins s σ H x y v u Q I rx ry h
 obtain ⟨S,r,r',h1,h2,q⟩:=h
 obtain ⟨p,t,w2,u2,o,n,rfl,rfl,ho,hc,hd,q2,g2⟩:=row_obj I h1 rx
 obtain ⟨p',t',w2',u2',o',n',rfl,rfl,ho',hc',hd',q2',g2'⟩:=row_obj I h2 ry
 obtain ⟨cls,dd,data,sl⟩:=o
 obtain ⟨cls2,dd2,data2,sl2⟩:=o'
 simp only at hc hd hc' hd'
 subst hc hd hc' hd'
 refine richCompare_meets_room (op:=.NotEq) ⟨_,ho,rfl⟩ ⟨_,ho',rfl⟩ PySem.F.slot_tuple_ne PySem.F.entry_tuple_ne (PySem.F.args_tuple_ne_2 _ _) (SeqAt.tuple_neAt p p' _ _ n n' dd dd2 sl sl2 (EqD.two2 (r.1 == r'.1) (decide (r.2=r'.2))))
  ⟨ho,ho',EqD.two_at (SeqAt.EqAt.int_int _ _ _ _) (enc_set.eq X.A.in1 S S r.2 r'.2 w2 w2' u2 u2' pins σ H s (by show X.A.units + 1 + 1 < cLine;omega) I g2 g2' q2 q2'),(fun z=>nomatch z),⟨.bl _,H,I,rfl,?_⟩⟩ (by omega)
 have:(!((List.range (min 2 2)).all (EqD.two2 (r.1 == r'.1) (decide (r.2=r'.2))) && 2 == 2)) = !decide (r=r'):=by
  rw [EqD.two_all]
  congr 1
  rw [Bool.eq_iff_iff,Bool.and_eq_true,beq_iff_eq,decide_eq_true_iff,decide_eq_true_iff]
  exact ⟨fun ⟨a,b⟩=>Prod.ext a b,fun e=>by rw [e];exact ⟨rfl,rfl⟩⟩
 show Q (.bl (!((List.range (min 2 2)).all (EqD.two2 (r.1 == r'.1) (decide (r.2=r'.2))) && 2 == 2))) H
 rw [this]
 exact q
theorem good_neRow {r r':Int × List Int}:GoodR X.K S H (encRow r) (encRow r') (.bl (!decide (r=r'))) (rNeRow X.K):=fun x y H' Q _ _ rx ry k=>⟨S,r,r',rx,ry,k _ H' (Same.refl _) (by simp only [Rep])⟩
end
end L2
namespace ST
open PySem
noncomputable abbrev Up (xs:Array Nat):Prop:=xs.toList.Pairwise (· < ·)
theorem up_get {xs:Array Nat} (h:Up xs) {i j a b:Nat} (hij:i < j) (ha:xs[i]? = some a) (hb:xs[j]? = some b):a < b:=by
 rw [← Array.getElem?_toList] at ha hb
 obtain ⟨hi,ea⟩:=List.getElem?_eq_some_iff.mp ha
 obtain ⟨hj,eb⟩:=List.getElem?_eq_some_iff.mp hb
 rw [← ea,← eb]
 exact List.pairwise_iff_getElem.mp h i j hi hj hij
noncomputable def Split (xs:Array Nat) (j k:Nat):Prop:=k≤xs.size∧(∀ i a,i < k→xs[i]? = some a→a < j)∧∀ i a,k≤i→xs[i]? = some a→j≤a
theorem below_go {xs:Array Nat} (h:Up xs) (j:Nat):∀ (fuel lo hi:Nat),hi - lo≤fuel→lo≤hi→hi≤xs.size→(∀ i a,i < lo→xs[i]? = some a→a < j)→(∀ i a,hi≤i→xs[i]? = some a→j≤a) →
  Split xs j (SetTable.below.go xs j fuel lo hi)
 | 0,lo,hi,hf,hl,hh,h1,h2=>by
  have:lo=hi:=by omega
  subst this
  unfold SetTable.below.go
  exact ⟨hh,h1,h2⟩
 | fuel + 1,lo,hi,hf,hl,hh,h1,h2=>by
  unfold SetTable.below.go
  by_cases c:lo < hi
  ·rw [if_pos c]
   dsimp only
   have hm:(lo + hi) / 2 < xs.size:=by omega
   have gm:xs[(lo + hi) / 2]? = some xs[(lo + hi) / 2]:=by simp [hm]
   have gd:xs.getD ((lo + hi) / 2) j=xs[(lo + hi) / 2]:=by simp [Array.getD,hm]
   rw [gd]
   by_cases c2:xs[(lo + hi) / 2] < j
   ·rw [if_pos c2]
    refine below_go h j fuel _ hi (by omega) (by omega) hh (fun i a hi' ea=>?_) h2
    by_cases e:i=(lo + hi) / 2
    ·subst e;rw [gm] at ea;cases ea;exact c2
    ·exact Nat.lt_trans (up_get h (by omega) ea gm) c2
   ·rw [if_neg c2]
    refine below_go h j fuel lo _ (by omega) (by omega) (by omega) h1 (fun i a hi' ea=>?_)
    by_cases e:i=(lo + hi) / 2
    ·subst e;rw [gm] at ea;cases ea;omega
    ·have:=up_get h (show (lo + hi) / 2 < i by omega) gm ea
     omega
  ·rw [if_neg c]
   have:lo=hi:=by omega
   subst this
   exact ⟨hh,h1,h2⟩
theorem below_split {xs:Array Nat} (h:Up xs) (j:Nat):Split xs j (SetTable.below xs j):=
 below_go h j xs.size 0 xs.size (by omega) (Nat.zero_le _) (Nat.le_refl _) (fun i a hi=>by omega) fun i a hi ea=>by
  have:=(Array.getElem?_eq_some_iff.mp ea).1
  omega
theorem split_unique {xs:Array Nat}{j k l:Nat} (a:Split xs j k) (b:Split xs j l):k=l:=by
 rcases Nat.lt_trichotomy k l with h | h | h
 ·have hk:k < xs.size:=Nat.lt_of_lt_of_le h b.1
  have g:xs[k]? = some xs[k]:=by simp [hk]
  have h1:=b.2.1 k _ h g
  have h2:=a.2.2 k _ (Nat.le_refl _) g
  omega
 ·exact h
 ·have hl:l < xs.size:=Nat.lt_of_lt_of_le h a.1
  have g:xs[l]? = some xs[l]:=by simp [hl]
  have h1:=a.2.1 l _ h g
  have h2:=b.2.2 l _ (Nat.le_refl _) g
  omega
structure Good (t:SetTable):Prop where
 up:Up t.place
 du:t.dummies = #[]
theorem slot_free {t:SetTable} (g:Good t) {j:Nat} (h:t.slot j = .empty):∀ i a,SetTable.below t.place j≤i→t.place[i]? = some a→j < a:=by
 intro i a hi ea
 have sp:=below_split g.up j
 have h1:=sp.2.2 i a hi ea
 refine Nat.lt_of_le_of_ne h1 fun e=>?_
 subst e
 have hb:t.place[SetTable.below t.place j]? = some j:=by
  by_cases q:i=SetTable.below t.place j
  ·rw [← q];exact ea
  ·have hz:=(Array.getElem?_eq_some_iff.mp ea).1
   have g2:t.place[SetTable.below t.place j]? = some (t.place[SetTable.below t.place j]'(by omega)):=by simp
   have l1:=up_get g.up (show SetTable.below t.place j < i by omega) g2 ea
   have l2:=sp.2.2 _ _ (Nat.le_refl _) g2
   omega
 unfold SetTable.slot at h
 simp only [hb,beq_self_eq_true,if_true] at h
 cases h
theorem slot_nodummy {t:SetTable} (g:Good t) (j:Nat):t.slot j≠.dummy:=by
 unfold SetTable.slot
 dsimp only
 split
 ·intro h;cases h
 ·rw [g.du]
  have:SetTable.has #[] j=false:=by unfold SetTable.has;simp
  rw [this]
  intro h;cases h
theorem probe_go {t:SetTable} (g:Good t) {hashAt:Nat→Int}{h:Int}:∀ (fuel:Nat) (p:SetTable.Probe),p.dummy=none→∀ j d,SetTable.probe.go t hashAt h fuel p=some (.empty j d)→d=none∧t.slot j = .empty
 | 0,p,_,j,d,e=>by unfold SetTable.probe.go at e;cases e
 | fuel + 1,p,hp,j,d,e=>by
  unfold SetTable.probe.go at e
  have adv:(t.advance p).dummy=none:=by
   unfold SetTable.advance
   split
   ·exact hp
   ·exact hp
  cases q:t.slot p.j with
  | empty=>
   rw [q] at e
   simp only [Option.some.injEq,SetTable.Met.empty.injEq] at e
   exact ⟨by rw [← e.2];exact hp,by rw [← e.1];exact q⟩
  | dummy=>exact (slot_nodummy g _ q).elim
  | live i=>
   rw [q] at e
   dsimp only at e
   split at e
   ·cases e
   ·exact probe_go g fuel _ adv j d e
theorem free_slot {t:SetTable} (g:Good t) {h:Int}{j:Nat}{wd:Bool} (e:t.freeSlot h=some (j,wd)):t.slot j = .empty:=by
 unfold SetTable.freeSlot at e
 cases q:t.probe (fun _=>h + 1) h (t.probeStart h) with
 | none=>rw [q] at e;cases e
 | some m=>
  rw [q] at e
  cases m with
  | candidate a b c=>cases e
  | empty k d=>
   obtain ⟨rfl,hs⟩:=probe_go g _ _ rfl k d q
   simp only [Option.getD_none,Option.some.injEq,Prod.mk.injEq] at e
   rw [← e.1];exact hs
theorem put_good {t:SetTable} (g:Good t) {j:Nat} (h:t.slot j = .empty):Good (t.put j).1:=by
 unfold SetTable.put
 dsimp only
 refine ⟨?_,?_⟩
 ·show ((SetTable.insertAt t.place (SetTable.below t.place j) j).toList).Pairwise (· < ·)
  rw [SetTable.toList_insertAt]
  have sp:=below_split g.up j
  have fr:=slot_free g h
  have hu:=g.up
  have e:=(List.take_append_drop (SetTable.below t.place j) t.place.toList).symm
  have hu':(t.place.toList.take (SetTable.below t.place j)++t.place.toList.drop (SetTable.below t.place j)).Pairwise (· < ·):=by rw [← e];exact hu
  rw [List.pairwise_append] at hu' ⊢
  have lo:∀ a∈t.place.toList.take (SetTable.below t.place j),a < j:=fun a ha=>by
   obtain ⟨i,hi⟩:=List.getElem?_of_mem ha
   rw [List.getElem?_take] at hi
   split at hi
   ·rename_i c
    exact sp.2.1 i a c (by rw [← Array.getElem?_toList];exact hi)
   ·cases hi
  have hi':∀ a∈t.place.toList.drop (SetTable.below t.place j),j < a:=fun a ha=>by
   obtain ⟨i,hi⟩:=List.getElem?_of_mem ha
   rw [List.getElem?_drop] at hi
   exact fr _ a (Nat.le_add_right _ i) (by rw [← Array.getElem?_toList];exact hi)
  refine ⟨hu'.1,List.pairwise_cons.mpr ⟨hi',hu'.2.1⟩,fun a ha b hb=>?_⟩
  rcases List.mem_cons.mp hb with rfl | hb
  ·exact lo a ha
  ·exact hu'.2.2 a ha b hb
 ·rw [g.du]
  have:SetTable.has #[] j=false:=by unfold SetTable.has;simp
  simp [this]
theorem stand_good (t:SetTable) (n:Nat):Good (t.standIn n):=by
 refine ⟨?_,rfl⟩
 show (Array.range n).toList.Pairwise (· < ·)
 rw [Array.toList_range]
 exact List.pairwise_lt_range
theorem orStand_good {t:SetTable} (g:Good t) (n:Nat):Good (t.orStandIn n):=by
 unfold SetTable.orStandIn
 split
 ·exact g
 ·exact stand_good t n
theorem layNew_good {t:SetTable} (g:Good t) (es:Array (Int × Value)) (h:Int) (x:Value):Good (layNew t es h x).2.1:=by
 unfold layNew
 split
 ·rename_i j wd e
  exact orStand_good (put_good g (free_slot g e)) _
 ·exact stand_good t _
theorem layNew_led (t:SetTable) (es:Array (Int × Value)) (h:Int) (x:Value):(layNew t es h x).2.1.led=t.led:=by
 unfold layNew
 split
 ·dsimp only
  unfold SetTable.orStandIn
  split <;> rfl
 ·rfl
theorem laid_good {mask finger moves:Nat}{led plain:Bool}{hs:Array Int}{t:SetTable}{o:Array Nat} (e:SetTable.laid mask finger moves led plain hs=some (t,o)):Good t∧t.led=led:=by
 unfold SetTable.laid at e
 cases q:SetTable.layClean mask hs with
 | none=>rw [q] at e;cases e
 | some owner=>
  rw [q] at e
  simp only [Option.bind_eq_bind,Option.bind_some,Option.pure_def,Option.some.injEq,Prod.mk.injEq] at e
  obtain ⟨rfl,_⟩:=e
  refine ⟨⟨?_,rfl⟩,rfl⟩
  show (List.map (fun x:Nat × Nat=>x.1) _).Pairwise (· < ·)
  rw [List.pairwise_map,List.pairwise_filterMap]
  refine List.pairwise_lt_range.imp ?_
  intro a b hab c hc d hd
  simp only [Option.map_eq_some_iff] at hc hd
  obtain ⟨_,_,rfl⟩:=hc
  obtain ⟨_,_,rfl⟩:=hd
  exact hab
theorem relay_good {t:SetTable} (es:Array (Int × Value)) (n:Nat):Good (relayAll t es n).2.1∧(relayAll t es n).2.1.led=t.led:=by
 unfold relayAll
 split
 ·rename_i t' o e
  dsimp only
  split
  ·exact laid_good e
  ·exact ⟨stand_good t _,rfl⟩
 ·exact ⟨stand_good t _,rfl⟩
theorem fresh_good (led:Bool):Good (.fresh 0 0 led):=⟨List.Pairwise.nil,rfl⟩
end ST
namespace ST
open PySem
variable {prog:Program}{w:World}
noncomputable def El (k:Int) (e:Int × Value):Prop:=(∃ t,e.2 = .int k t)∧e.1=hashInt k
noncomputable def Els:List Int→List (Int × Value)→Prop
 | [],es=>es=[]
 | k::ks,es=>∃ e r,es=e::r∧El k e∧Els ks r
theorem Els.len:∀ {ks:List Int}{es:List (Int × Value)},Els ks es→es.length=ks.length
 | [],_,h=>by rw [show _=[] from h];rfl
 | k::ks,_,⟨e,r,h,_,q⟩=>by rw [h,List.length_cons,List.length_cons,q.len]
theorem Els.mem:∀ {ks:List Int}{es:List (Int × Value)},Els ks es→∀ e∈es,∃ k∈ks,El k e
 | [],_,h,e,he=>by rw [show _=[] from h] at he;cases he
 | k::ks,_,⟨x,r,h,q,rest⟩,e,he=>by
  subst h
  rcases List.mem_cons.mp he with rfl | he
  ·exact ⟨k,by simp,q⟩
  ·obtain ⟨j,hj,z⟩:=rest.mem e he
   exact ⟨j,by simp [hj],z⟩
theorem Els.key:∀ {ks:List Int}{es:List (Int × Value)},Els ks es→∀ k∈ks,∃ e∈es,El k e
 | [],_,h,k,hk=>by cases hk
 | j::ks,_,⟨x,r,h,q,rest⟩,k,hk=>by
  subst h
  rcases List.mem_cons.mp hk with rfl | hk
  ·exact ⟨x,by simp,q⟩
  ·obtain ⟨e,he,z⟩:=rest.key k hk
   exact ⟨e,by simp [he],z⟩
theorem Els.snoc:∀ {ks:List Int}{es:List (Int × Value)}{k:Int}{e:Int × Value},Els ks es→El k e→Els (ks++[k]) (es++[e])
 | [],_,k,e,h,q=>by rw [show _=[] from h];exact ⟨e,[],rfl,q,rfl⟩
 | j::ks,_,k,e,⟨x,r,h,z,rest⟩,q=>⟨x,r++[e],by rw [h];rfl,z,rest.snoc q⟩
theorem Els.perm {es es':List (Int × Value)} (p:es'.Perm es):∀ {ks:List Int},Els ks es→∃ ks',ks'.Perm ks∧Els ks' es':=by
 induction p with
 | nil=>intro ks h;exact ⟨ks,.refl _,h⟩
 | @cons x l l' p ih=>
  intro ks h
  match ks,h with
  | [],h=>cases h
  | k::ks,⟨e,r,h,q,rest⟩=>
   injection h with h1 h2
   subst h1;subst h2
   obtain ⟨ks',p',z⟩:=ih rest
   exact ⟨k::ks',p'.cons k,x,l,rfl,q,z⟩
 | @swap x y l=>
  intro ks h
  match ks,h with
  | [],h=>cases h
  | [k],⟨e,r,h,q,rest⟩=>
   rw [show r=[] from rest] at h
   injection h with h1 h2
   cases h2
  | k::j::ks,⟨e,r,h,q,e',r',h',q',rest⟩=>
   subst h'
   injection h with h1 h2
   injection h2 with h2 h3
   subst h1;subst h2;subst h3
   exact ⟨j::k::ks,.swap k j ks,_,_,rfl,q',_,_,rfl,q,rest⟩
 | trans p1 p2 ih1 ih2=>
  intro ks h
  obtain ⟨k1,a1,b1⟩:=ih2 h
  obtain ⟨k2,a2,b2⟩:=ih1 b1
  exact ⟨k2,a2.trans a1,b2⟩
theorem Els.elems {ks:List Int}{es:List (Int × Value)} (h:Els ks es):ElemsOf (intKind prog w) es:=fun e he=>by
 obtain ⟨k,_,⟨t,ht⟩,hh⟩:=h.mem e he
 rw [ht]
 exact ⟨⟨k,intKind_is prog w k t,hh⟩,rfl⟩
noncomputable def IS (h:Heap) (a:Addr) (L:Bool) (ks:List Int):Prop:=∃ o es ep t ks',h.get? a=some o∧o.ExactSet∧o.data = .set es ep t∧Els ks' es.toList∧ks'.Perm ks∧t.fits es.size=true∧Good t∧t.led=L
noncomputable def addK (ks:List Int) (k:Int):List Int:=if k∈ks then ks else ks++[k]
section
variable {A:Around}{E:Value→Shared→Prop}{s:Shared}{a:Addr}{L:Bool}{ks:List Int}
theorem is_stored {h:Heap}{o:Obj}{es es':Array (Int × Value)}{ep:Nat}{t t':SetTable}{ks':List Int} (ho:h.get? a=some o) (hx:o.ExactSet) (hd:o.data = .set es ep t) (el:Els ks' es'.toList) (p:ks'.Perm ks) (hf:t'.fits es'.size=true) (g:Good t') (hl:t'.led=L) :
  (h.update a (Obj.putSet es' t')).get? a=some { o with data:=.set es' (ep + 1) t' }∧IS (h.update a (Obj.putSet es' t')) a L ks:=by
 have q:(h.update a (Obj.putSet es' t')).get? a=some { o with data:=.set es' (ep + 1) t' }:=by
  rw [← putSet_of es' t' hd]
  exact Heap.get?_update_self _ ho (by rw [putSet_of es' t' hd];rfl)
 exact ⟨q,_,es',ep + 1,t',ks',q,hx,rfl,el,p,hf,g,hl⟩
theorem rest_add {gw:Bool→Sem Unit} (hg:∀ (b:Bool) (s₁:Shared) (Q':Unit→Shared→Prop),Q' () s₁→wpAny (model prog w) A (gw b) Q' E s₁)
  {o:Obj}{es es1:Array (Int × Value)}{ep:Nat}{t t1:SetTable}{k1:List Int} (ho:s.heap.get? a=some o) (hx:o.ExactSet) (hd:o.data = .set es ep t)
  (el:Els k1 es1.toList) (p:k1.Perm ks) (hb:es1.size < scanBound) (hf:t1.fits es1.size=true) (g:Good t1) (hl:t1.led=L) {wd:Bool}{R:Option Bool→Shared→Prop}
  (h:∀ h',Heap.SameBut a s.heap h'→IS h' a L ks→R (some true) { s with heap:=h' }) :
  wpAny (model prog w) A (storeSet a es1 t1 >>= fun _=>if (!wd && t1.tooFull)=true then gw (relayAll t1 es1 (SetTable.grown es1.size)).2.2 >>= fun _=>storeSet a (relayAll t1 es1 (SetTable.grown es1.size)).1 (relayAll t1 es1 (SetTable.grown es1.size)).2.1 >>= fun _=>pure (some true) else pure (some true)) R E s:=by
 obtain ⟨o1,i1⟩:=is_stored (L:=L) ho hx hd el p hf g hl
 refine wpAny_bind (wpAny_storeSet_of ho hd ?_ (fits_of_scanBound hb))
 have b1:=Heap.SameBut.update s.heap a (Obj.putSet es1 t1)
 by_cases c:(!wd && t1.tooFull)=true
 ·rw [if_pos c]
  have pp:=relayAll_perm t1 es1 (SetTable.grown es1.size)
  have ff:=relayAll_fits t1 es1 (SetTable.grown es1.size)
  have gg:=relay_good (t:=t1) es1 (SetTable.grown es1.size)
  generalize relayAll t1 es1 (SetTable.grown es1.size)=rl at pp ff gg ⊢
  obtain ⟨k2,p2,el2⟩:=el.perm pp
  have zz:rl.1.size < scanBound:=by
   have:=pp.length_eq
   rw [Array.length_toList,Array.length_toList] at this
   rw [this];exact hb
  refine wpAny_bind (hg _ _ _ (wpAny_bind (wpAny_storeSet_of o1 rfl (wpAny_pure (h _ (b1.trans (Heap.SameBut.update _ a _)) ?_)) (fits_of_scanBound zz))))
  exact (is_stored (L:=L) o1 hx rfl el2 (p2.trans p) ff gg.1 (gg.2.trans hl)).2
 ·rw [if_neg c]
  exact wpAny_pure (h _ b1 i1)
theorem find_key {k:Int}{es:List (Int × Value)} (el:Els ks es):(es.findIdx? (fun e=>(intKind prog w).is k e.2)).isSome=decide (k∈ks):=by
 rw [List.findIdx?_isSome]
 rw [Bool.eq_iff_iff,List.any_eq_true,decide_eq_true_eq]
 constructor
 ·rintro ⟨e,he,q⟩
  obtain ⟨j,hj,⟨t,et⟩,_⟩:=el.mem e he
  rw [et] at q
  have:j=k:=(intKind prog w).inj _ _ _ (intKind_is prog w j t) q
  rw [← this];exact hj
 ·intro hk
  obtain ⟨e,he,⟨t,et⟩,_⟩:=el.key k hk
  exact ⟨e,he,by rw [et];exact intKind_is prog w k t⟩
theorem is_add {k:Int}{t:Tok}{Q:Bool→Shared→Prop} (hS:IS s.heap a L ks) (hr:ks.length + 1 < scanBound) (h:∀ b h',Heap.SameBut a s.heap h'→IS h' a L (addK ks k)→Q b { s with heap:=h' }) :
  wpAny (model prog w) A (setAddHashed a (.int k t) (hashInt k)) Q E s:=by
 obtain ⟨o,es,ep,tb,ks',ho,hx,hd,el,p,hf,g,hl⟩:=hS
 have hz:es.size=ks.length:=by rw [← Array.length_toList,el.len,p.length_eq]
 have hke:(intKind prog w).is k (.int k t)=true:=intKind_is prog w k t
 unfold setAddHashed setAddHashedIn
 refine wpAny_holding (wpAny_bind (wpAny_setState_of ho hd hf ?_))
 dsimp only
 rw [byScan_of (knd:=intKind prog w) rfl (by omega) el.elems,if_pos rfl]
 unfold setAddByScan
 refine wpAny_bind (wpAny_bind (wpAny_rule (wpAny_bind ?_)))
 show wpAny (model prog w) A (setScan a (.int k t) ((intKind prog w).hash k) true es) _ E s
 refine wpAny_setScan_of hke ho hd hf el.elems ?_
 have fk:=find_key (prog:=prog) (w:=w) (k:=k) el
 cases hq:List.findIdx? (fun e=>(intKind prog w).is k e.2) es.toList with
 | some j=>
  rw [hq] at fk
  have hm:k∈ks:=p.mem_iff.mp (of_decide_eq_true fk.symm)
  have ea:addK ks k=ks:=if_pos hm
  refine wpAny_pure (wpAny_pure ?_)
  exact h _ s.heap (Heap.SameBut.refl a s.heap) (by rw [ea];exact ⟨o,es,ep,tb,ks',ho,hx,hd,el,p,hf,g,hl⟩)
 | none=>
  rw [hq] at fk
  have hm:¬ k∈ks:=fun z=>by
   have:=of_decide_eq_false fk.symm
   exact this (p.mem_iff.mpr z)
  have ea:addK ks k=ks++[k]:=if_neg hm
  dsimp only
  have pp:=layNew_perm tb es (hashInt k) (.int k t)
  have ff:=layNew_fits tb es (hashInt k) (.int k t)
  have gg:=layNew_good g es (hashInt k) (.int k t)
  have ll:=layNew_led tb es (hashInt k) (.int k t)
  show wpAny (model prog w) A _ _ E s
  have el1:Els (ks'++[k]) (es.push (hashInt k,.int k t)).toList:=by rw [Array.toList_push];exact el.snoc ⟨⟨t,rfl⟩,rfl⟩
  generalize layNew tb es (hashInt k) (.int k t)=ln at pp ff gg ll ⊢
  obtain ⟨es1,t1,wd,gave⟩:=ln
  dsimp only at pp ff gg ll ⊢
  obtain ⟨k1,p1,el2⟩:=el1.perm pp
  have zz:es1.size < scanBound:=by
   rw [← Array.length_toList,pp.length_eq,Array.toList_push,List.length_append,Array.length_toList]
   simp only [List.length_cons,List.length_nil];omega
  have pe:k1.Perm (addK ks k):=by rw [ea];exact p1.trans (p.append_right [k])
  have gw:∀ (b:Bool) (s₁:Shared) (Q':Unit→Shared→Prop),Q' () s₁→wpAny (model prog w) A (match b with | true=>rule "set.scan.the-table-gave-way" | false=>pure ()) Q' E s₁:=fun b s₁ Q' q=>by
   cases b
   ·exact wpAny_pure q
   ·exact wpAny_rule q
  refine wpAny_bind (gw _ _ _ ?_)
  have hv:(hashByValue 8 (Value.int k t):Sem Bool)=pure true:=rfl
  by_cases c:t1.plain=true
  ·rw [if_pos c,hv]
   refine wpAny_bind (wpAny_pure ?_)
   rw [if_pos rfl]
   exact rest_add (L:=L) gw ho hx hd el2 pe zz ff gg (ll.trans hl) fun h' sb hS=>wpAny_pure (h _ h' sb hS)
  ·rw [if_neg c]
   refine wpAny_bind (wpAny_pure ?_)
   rw [if_pos rfl]
   exact rest_add (L:=L) gw ho hx hd el2 pe zz ff gg (ll.trans hl) fun h' sb hS=>wpAny_pure (h _ h' sb hS)
end
end ST
namespace ST
open PySem
namespace SF
theorem owner_si:Manifest.owners.lookup (String.ofList ['r','o','t','a','r','e','t','i','_','t','e','s'].reverse)=some Manifest.sig_set_iterator:=by kernel_rfl
theorem slot_next:Slot "set_iterator" "__next__" "set_iterator.__next__":=
 .of (owner:="set_iterator") (n:="__next__") (by rw [typeLookup_type,builtinLookup_eq_fast];kernel_rfl) (by decide +kernel) (by decide +kernel) (by decide +kernel) (by first | exact .inl (by decide +kernel) | exact .inr (by decide +kernel)) (by rw [isSubtype_type];kernel_rfl)
theorem slot_iter:Slot "set_iterator" "__iter__" "set_iterator.__iter__":=
 .of (owner:="set_iterator") (n:="__iter__") (by rw [typeLookup_type,builtinLookup_eq_fast];kernel_rfl) (by decide +kernel) (by decide +kernel) (by decide +kernel) (by first | exact .inl (by decide +kernel) | exact .inr (by decide +kernel)) (by rw [isSubtype_type];kernel_rfl)
theorem entry_next:entryFor table "set_iterator.__next__" = some Builtin.«set_iterator.__next__»:=entryFor_of_tree (by kernel_rfl)
theorem entry_iter:entryFor table "set_iterator.__iter__" = some Builtin.«dict_keyiterator.__iter__»:=
 entryFor_alias (id':="dict_keyiterator.__iter__") (by kernel_rfl) rfl (by decide +kernel) (by kernel_rfl)
theorem entry_set_iter:entryFor table "set.__iter__" = some Builtin.«frozenset.__iter__»:=
 entryFor_alias (id':="frozenset.__iter__") (by kernel_rfl) rfl (by decide +kernel) (by kernel_rfl)
theorem args_next (a:Value):argsOk "set_iterator.__next__" ⟨[a],[]⟩:=by
 unfold argsOk;rw [signature?_of (id:="set_iterator.__next__") (n:=['_','_','t','x','e','n','_','_']) (o:=['r','o','t','a','r','e','t','i','_','t','e','s']) (by kernel_rfl) owner_si];kernel_rfl
theorem args_iter (a:Value):argsOk "set_iterator.__iter__" ⟨[a],[]⟩:=by
 unfold argsOk;rw [signature?_of (id:="set_iterator.__iter__") (n:=['_','_','r','e','t','i','_','_']) (o:=['r','o','t','a','r','e','t','i','_','t','e','s']) (by kernel_rfl) owner_si];kernel_rfl
end SF
theorem erase_perm {α:Type}:∀ (l:List α) (i:Nat) (h:i < l.length),(l[i]::l.eraseIdx i).Perm l
 | x::l,0,_=>.refl _
 | x::l,i + 1,h=>by
  have hi:i < l.length:=by simpa using h
  have:=erase_perm l i hi
  show (l[i]::x::l.eraseIdx i).Perm (x::l)
  exact (List.Perm.swap x _ _).trans (this.cons x)
theorem pick_go {α:Type} (next:Nat→Nat):∀ (fuel k:Nat) (left:List α) (out:Array α),fuel=left.length→(pickOrder.go next fuel k left out).toList.Perm (out.toList++left)
 | 0,k,left,out,h=>by
  have:left=[]:=List.length_eq_zero_iff.mp h.symm
  subst this
  unfold pickOrder.go
  rw [List.append_nil]
 | fuel + 1,k,left,out,h=>by
  unfold pickOrder.go
  have hl:next k % left.length < left.length:=Nat.mod_lt _ (by omega)
  rw [List.getElem?_eq_getElem hl]
  dsimp only
  refine (pick_go next fuel (k + 1) _ _ (by rw [List.length_eraseIdx_of_lt hl];omega)).trans ?_
  rw [Array.toList_push,List.append_assoc]
  refine List.Perm.append_left _ ?_
  exact erase_perm left _ hl
theorem pick_perm {α:Type} (next:Nat→Nat) (xs:Array α):(pickOrder next xs).toList.Perm xs.toList:=by
 unfold pickOrder
 have:=pick_go next xs.size 0 xs.toList #[] (by rw [Array.length_toList])
 simpa using this
section
variable {prog:Program}{w:World}{A:Around}{E:Value→Shared→Prop}{s:Shared}
theorem wpAny_choose {src:Source}{n:Nat}{Q:Nat→Shared→Prop} (hn:n≠0) (h:∀ i d,i < n→Q i { s with drawn:=d }):wpAny (model prog w) A (choose src n) Q E s:=fun Γ p hΓ=>by
 unfold choose
 rw [Sem.wp_choose]
 exact ⟨hn,by simp;exact h _ _ (Nat.mod_lt _ (Nat.pos_of_ne_zero hn))⟩
theorem draw_perm {α:Type}:∀ (n:Nat) (xs:List α) {s:Shared}{Q:List α→Shared→Prop},n=xs.length→(∀ ys d,ys.Perm xs→Q ys { s with drawn:=d })→wpAny (model prog w) A (drawOrder n xs) Q E s
 | 0,xs,s,Q,h,q=>by
  have:xs=[]:=List.length_eq_zero_iff.mp h.symm
  subst this
  unfold drawOrder
  exact wpAny_pure (q [] s.drawn (.refl _))
 | n + 1,[],s,Q,h,q=>by cases h
 | n + 1,x::xs,s,Q,h,q=>by
  unfold drawOrder
  refine wpAny_bind (wpAny_choose (by simp) fun i d hi=>?_)
  rw [List.getElem?_eq_getElem hi]
  dsimp only
  refine wpAny_bind (draw_perm n _ (by rw [List.length_eraseIdx_of_lt hi];omega) fun ys d' p=>?_)
  exact wpAny_pure (q _ d' ((p.cons _).trans (erase_perm (x::xs) i hi)))
end
end ST
namespace ST
open PySem
noncomputable def SObj (h:Heap) (a:Addr) (es:Array (Int × Value)) (ep:Nat) (t:SetTable):Prop:=∃ o,h.get? a=some o∧o.ExactSet∧o.data = .set es ep t
noncomputable def SI (h:Heap) (I a:Addr) (first:Value) (i n ep:Nat):Prop:=h.get? I=some { cls:=.type "set_iterator",dict:=none,data:=.fields #[first,.int (i:Int) 0,.ref a,.int (n:Int) 0,.int (ep:Int) 0],slots:=#[] }
section
variable {prog:Program}{w:World}{A:Around}{E:Value→Shared→Prop}{s:Shared}{I a:Addr}{es:Array (Int × Value)}{ep i n slot nx:Nat}{t:SetTable}{x:Value}{Q:Option Value→Shared→Prop}
theorem SI.ty {first:Value} (h:SI s.heap I a first i n ep):s.TypeIs (.ref I) "set_iterator":=⟨_,h,rfl⟩
noncomputable abbrev NextIs (prog:Program) (w:World) (s:Shared) (a:Addr) (slot i ep:Nat) (r:Option (Value × Nat)):Prop:=
 ∀ (A:Around) (E:Value→Shared→Prop) (h':Heap) (Q:Option (Value × Nat)→Shared→Prop),(∀ o,s.heap.get? a=some o→h'.get? a=some o)→Q r { s with heap:=h' }→wpAny (model prog w) A (setNext a slot i ep) Q E { s with heap:=h' }
theorem next_item (hi:SI s.heap I a (.int (slot:Int) 0) i n ep) (so:SObj s.heap a es ep t) (hf:t.fits es.size=true) (hn:n=es.size) (hs:NextIs prog w s a slot i ep (some (x,nx)))
  (hQ:∀ h',SI h' I a (.int (nx:Int) 0) (i + 1) n ep→Heap.SameBut I s.heap h'→Q (some x) { s with heap:=h' }):wpAny (model prog w) A (pyNext (.ref I)) Q E s:=by
 obtain ⟨o,ho,hx,hd⟩:=so
 unfold pyNext
 refine wpAny_bind (wpAny_attempt (wpAny_callSpecial?_slot (name:=Str.ofString "__next__") hi.ty SF.slot_next (wpAny_call_entry SF.slot_next hi.ty SF.entry_next ?_ (SF.args_next _))))
 unfold Builtin.«set_iterator.__next__»
 refine wpAny_bind (wpAny_pure ?_)
 refine wpAny_bind (wpAny_fieldsOf hi rfl ?_)
 dsimp only
 refine wpAny_bind (wpAny_setEntries_of ho hd hf ?_)
 rw [if_neg (by rw [hn];simp)]
 refine wpAny_bind ?_
 have e1:((slot:Int)).toNat=slot:=by omega
 have e2:((i:Int)).toNat=i:=by omega
 have e3:((ep:Int)).toNat=ep:=by omega
 rw [e1,e2,e3]
 refine hs _ _ s.heap _ (fun _ h=>h) ?_
 dsimp only
 refine wpAny_bind (wpAny_setField hi rfl (by show 0 < 5;decide) ?_)
 have g1:(s.heap.update I (Obj.mapFields (·.setIfInBounds 0 (rawInt (nx:Int))))).get? I=some { cls:=.type "set_iterator",dict:=none,data:=.fields #[.int (nx:Int) 0,.int (i:Int) 0,.ref a,.int (n:Int) 0,.int (ep:Int) 0],slots:=#[] }:=Heap.get?_update_self _ hi rfl
 refine wpAny_bind (wpAny_setField g1 rfl (by show 1 < 5;decide) ?_)
 refine wpAny_pure ⟨x,rfl,wpAny_pure (hQ _ ?_ ?_)⟩
 ·exact Heap.get?_update_self _ g1 rfl
 ·exact (Heap.SameBut.update ..).trans (Heap.SameBut.update ..)
theorem stop_tail {h0:Heap} (hh:A.handled=none) (hQ:∀ h',Heap.ExtBut I h0 h'→Q none { s with heap:=h' }) (h1:Heap) (he:Heap.ExtBut I h0 h1) :
  wpAny (model prog w) A.in1 (newExc (.type "StopIteration") [] >>= raiseNew) (fun fin s'=>∃ r,fin=Fin.done (.ret r)∧wpAny (model prog w) A (pure (some r)) Q E s') (fun e s'=>wpAny (model prog w) A (isInstance e (.type "StopIteration")) (fun b s''=>wpAny (model prog w) A (if b=true then pure none else throw e) Q E s'') E s') { s with heap:=h1 }:=by
 refine wpAny_bind ?_
 simp only [newExc,newTuple]
 refine wpAny_bind (wpAny_newObj_type ?_ (by size_fits))
 refine wpAny_bind (m:=firstArgMember _ _) (wpAny_of_eq (a:=Value.none) (by first | rfl | (simp only [firstArgMember];rfl)) ?_)
 refine wpAny_newObj_type ?_ (by size_fits)
 simp only [raiseNew]
 refine wpAny_bind (wpAny_handled ?_)
 rw [show A.in1.handled=none from hh]
 refine wpAny_bind (wpAny_pure (wpAny_throw ?_))
 refine wpAny_isInstance (T:="StopIteration") (b:=true) ⟨_,Heap.get?_push_size _ rfl,rfl⟩ isSubtype_stop ?_
 exact wpAny_pure (hQ _ ((he.push _).push _))
theorem next_end (hh:A.handled=none) (hi:SI s.heap I a (.int (slot:Int) 0) i n ep) (so:SObj s.heap a es ep t) (hf:t.fits es.size=true) (hn:n=es.size) (hs:NextIs prog w s a slot i ep none)
  (hQ:∀ h',Heap.ExtBut I s.heap h'→Q none { s with heap:=h' }):wpAny (model prog w) A (pyNext (.ref I)) Q E s:=by
 obtain ⟨o,ho,hx,hd⟩:=so
 unfold pyNext
 refine wpAny_bind (wpAny_attempt (wpAny_callSpecial?_slot (name:=Str.ofString "__next__") hi.ty SF.slot_next (wpAny_call_entry SF.slot_next hi.ty SF.entry_next ?_ (SF.args_next _))))
 unfold Builtin.«set_iterator.__next__»
 refine wpAny_bind (wpAny_pure ?_)
 refine wpAny_bind (wpAny_fieldsOf hi rfl ?_)
 dsimp only
 refine wpAny_bind (wpAny_setEntries_of ho hd hf ?_)
 rw [if_neg (by rw [hn];simp)]
 refine wpAny_bind ?_
 have e1:((slot:Int)).toNat=slot:=by omega
 have e2:((i:Int)).toNat=i:=by omega
 have e3:((ep:Int)).toNat=ep:=by omega
 rw [e1,e2,e3]
 refine hs _ _ s.heap _ (fun _ h=>h) ?_
 dsimp only
 refine wpAny_bind (wpAny_setField hi rfl (by show 2 < 5;decide) ?_)
 refine wpAny_mono (stop_tail hh hQ _ (Heap.SameBut.update ..).extBut) (fun r s' q=>q) (fun e s' q=>?_)
 exact wpAny_bind q
end
end ST
namespace ST
open PySem
noncomputable abbrev byT (w:World):Bool:=w.params.followText "set-order"
section
variable {prog:Program}{w:World}{A:Around}{E:Value→Shared→Prop}{s:Shared}{I a:Addr}{es:Array (Int × Value)}{ep i n slot nx:Nat}{t:SetTable}{x:Value}{Q:Option Value→Shared→Prop}
theorem by_text {Q:Bool→Shared→Prop} (h:Q (byT w) s):wpAny (model prog w) A setsByText Q E s:=by
 unfold setsByText
 exact wpAny_bind (wpAny_askSetting (wpAny_pure h))
theorem nextT (hT:byT w=true) (so:SObj s.heap a es ep t) (hf:t.fits es.size=true):NextIs prog w s a slot i ep (((pickOrder (w.params.setOrder a ep) es)[i]?).map fun e=>(e.2,slot)):=by
 intro A E h' Q hk q
 obtain ⟨o,ho,hx,hd⟩:=so
 have ho':({ s with heap:=h' }:Shared).heap.get? a=some o:=hk o ho
 unfold setNext
 refine wpAny_bind (wpAny_setState_of ho' hd hf ?_)
 dsimp only
 refine wpAny_bind (by_text ?_)
 rw [if_pos hT,if_neg (by simp)]
 unfold setWalk
 refine wpAny_bind (wpAny_bind (wpAny_setState_of ho' hd hf ?_))
 dsimp only
 refine wpAny_bind (by_text ?_)
 rw [if_pos hT]
 refine wpAny_bind (wpAny_askSetting (wpAny_pure ?_))
 exact wpAny_pure q
noncomputable def atP (es:Array (Int × Value)) (t:SetTable) (k:Nat):Option (Value × Nat):=match es[k]?,t.place[k]? with
 | some (_,x),some j=>some (x,j + 1)
 | _,_=>none
theorem nextP (hT:byT w=false) (hp:(!t.plain && decide (es.size > 1))=false) (hl:t.led=true) (so:SObj s.heap a es ep t) (hf:t.fits es.size=true):NextIs prog w s a slot i ep (atP es t (SetTable.below t.place slot)):=by
 intro A E h' Q hk q
 obtain ⟨o,ho,hx,hd⟩:=so
 have ho':({ s with heap:=h' }:Shared).heap.get? a=some o:=hk o ho
 have hp':¬ (!t.plain && decide (es.size > 1))=true:=by rw [hp];exact Bool.false_ne_true
 unfold setNext
 refine wpAny_bind (wpAny_setState_of ho' hd hf ?_)
 dsimp only
 refine wpAny_bind (by_text ?_)
 rw [if_neg (by rw [hT];exact Bool.false_ne_true)]
 rw [if_neg (by exact hp')]
 refine wpAny_bind ?_
 show wpAny (model prog w) A (if (!t.led && !es.isEmpty)=true then unsupported "set:maker-not-led" else pure ()) _ E _
 rw [if_neg (by rw [hl];simp)]
 refine wpAny_pure (wpAny_pure ?_)
 exact q
theorem nextD_item {tp:Addr}{os:List Nat}{k:Nat}{h:Int} (hi:SI s.heap I a (.ref tp) i n ep) (so:SObj s.heap a es ep t) (hf:t.fits es.size=true) (hn:n=es.size) (ht:∃ ot m,s.heap.get? tp=some ot∧ot.data = .seq (os.map fun (k:Nat)=>rawInt (k:Int)).toArray m) (hk:os[i]? = some k) (he:es[k]? = some (h,x))
  (hQ:∀ h',SI h' I a (.ref tp) (i + 1) n ep→Heap.SameBut I s.heap h'→Q (some x) { s with heap:=h' }):wpAny (model prog w) A (pyNext (.ref I)) Q E s:=by
 obtain ⟨o,ho,hx,hd⟩:=so
 obtain ⟨ot,m,hot,hdt⟩:=ht
 unfold pyNext
 refine wpAny_bind (wpAny_attempt (wpAny_callSpecial?_slot (name:=Str.ofString "__next__") hi.ty SF.slot_next (wpAny_call_entry SF.slot_next hi.ty SF.entry_next ?_ (SF.args_next _))))
 unfold Builtin.«set_iterator.__next__»
 refine wpAny_bind (wpAny_pure ?_)
 refine wpAny_bind (wpAny_fieldsOf hi rfl ?_)
 dsimp only
 refine wpAny_bind (wpAny_setEntries_of ho hd hf ?_)
 rw [if_neg (by rw [hn];simp)]
 refine wpAny_bind (wpAny_seqItems hot hdt ?_)
 dsimp only
 have e1:((i:Int)).toNat=i:=by omega
 have e2:(os.map fun (k:Nat)=>rawInt (k:Int)).toArray[((i:Int)).toNat]? = some (Value.int (k:Int) 0):=by
  rw [e1,List.getElem?_toArray,List.getElem?_map,hk];rfl
 rw [e2]
 dsimp only
 refine wpAny_bind ?_
 unfold setNextDrawn
 have e3:((ep:Int)).toNat=ep:=by omega
 have e4:((k:Int)).toNat=k:=by omega
 refine wpAny_bind (wpAny_setState_of ho hd hf ?_)
 dsimp only
 rw [e3,e4,if_neg (by simp),he]
 dsimp only
 refine wpAny_pure (wpAny_bind (wpAny_setField hi rfl (by show 1 < 5;decide) ?_))
 refine wpAny_pure ⟨x,rfl,wpAny_pure (hQ _ ?_ (Heap.SameBut.update ..))⟩
 exact Heap.get?_update_self _ hi rfl
theorem nextD_end {tp:Addr}{os:List Nat} (hh:A.handled=none) (hi:SI s.heap I a (.ref tp) i n ep) (so:SObj s.heap a es ep t) (hf:t.fits es.size=true) (hn:n=es.size) (ht:∃ ot m,s.heap.get? tp=some ot∧ot.data = .seq (os.map fun (k:Nat)=>rawInt (k:Int)).toArray m) (hk:os[i]? = none)
  (hQ:∀ h',Heap.ExtBut I s.heap h'→Q none { s with heap:=h' }):wpAny (model prog w) A (pyNext (.ref I)) Q E s:=by
 obtain ⟨o,ho,hx,hd⟩:=so
 obtain ⟨ot,m,hot,hdt⟩:=ht
 unfold pyNext
 refine wpAny_bind (wpAny_attempt (wpAny_callSpecial?_slot (name:=Str.ofString "__next__") hi.ty SF.slot_next (wpAny_call_entry SF.slot_next hi.ty SF.entry_next ?_ (SF.args_next _))))
 unfold Builtin.«set_iterator.__next__»
 refine wpAny_bind (wpAny_pure ?_)
 refine wpAny_bind (wpAny_fieldsOf hi rfl ?_)
 dsimp only
 refine wpAny_bind (wpAny_setEntries_of ho hd hf ?_)
 rw [if_neg (by rw [hn];simp)]
 refine wpAny_bind (wpAny_seqItems hot hdt ?_)
 dsimp only
 have e1:((i:Int)).toNat=i:=by omega
 have e2:(os.map fun (k:Nat)=>rawInt (k:Int)).toArray[((i:Int)).toNat]? = none:=by
  rw [e1,List.getElem?_toArray,List.getElem?_map,hk];rfl
 rw [e2]
 dsimp only
 refine wpAny_bind (wpAny_setField hi rfl (by show 0 < 5;decide) ?_)
 have g1:(s.heap.update I (Obj.mapFields (·.setIfInBounds 0 (rawInt 0)))).get? I=some { cls:=.type "set_iterator",dict:=none,data:=.fields #[rawInt 0,.int (i:Int) 0,.ref a,.int (n:Int) 0,.int (ep:Int) 0],slots:=#[] }:=Heap.get?_update_self _ hi rfl
 refine wpAny_bind (wpAny_setField g1 rfl (by show 2 < 5;decide) ?_)
 refine wpAny_mono (stop_tail hh hQ _ ((Heap.SameBut.update ..).trans (Heap.SameBut.update ..)).extBut) (fun r s' q=>q) (fun e s' q=>?_)
 exact wpAny_bind q
theorem iter_self {first:Value}{Q:Value→Shared→Prop} (hi:SI s.heap I a first i n ep) (h:Q (.ref I) s):wpAny (model prog w) A (pyIter (.ref I)) Q E s:=by
 refine wpAny_pyIter_slot hi.ty SF.slot_iter (wpAny_call_entry SF.slot_iter hi.ty SF.entry_iter ?_ (SF.args_iter _))
 show wpAny _ _ (ret (.ref I)) _ _ s
 exact wpAny_pure ⟨_,rfl,"set_iterator",_,hi.ty,SF.slot_next.lookup,h⟩
end
theorem SObj.keep {h h':Heap}{a:Addr}{es:Array (Int × Value)}{ep:Nat}{t:SetTable} (so:SObj h a es ep t) (e:∀ o,h.get? a=some o→h'.get? a=some o):SObj h' a es ep t:=let ⟨o,ho,r⟩:=so;⟨o,e o ho,r⟩
section
variable {prog:Program}{w:World}{A:Around}{I a:Addr}{es:Array (Int × Value)}{ep:Nat}{t:SetTable}
theorem walkT (hh:A.handled=none) (hT:byT w=true) (hne:a≠I) (hf:t.fits es.size=true) :
  Walks prog w A I [I,a] [I] es.size (fun i v=>∃ e,(pickOrder (w.params.setOrder a ep) es)[i]? = some e∧v=e.2) (fun i h=>SI h I a (.int ((0:Nat):Int) 0) i es.size ep∧SObj h a es ep t) where
 sub:=fun b hb=>by simp at hb;simp [hb]
 frame:=fun _ h h' st hk=>⟨hk I (by simp) _ st.1,st.2.keep fun o e=>hk a (by simp) o e⟩
 item:=fun i s Q E hi st hQ=>by
  have hz:(pickOrder (w.params.setOrder a ep) es).size=es.size:=by rw [← Array.length_toList,(pick_perm _ es).length_eq,Array.length_toList]
  have hg:(pickOrder (w.params.setOrder a ep) es)[i]? = some ((pickOrder (w.params.setOrder a ep) es)[i]'(by omega)):=by simp [hz,hi]
  refine next_item (x:=((pickOrder (w.params.setOrder a ep) es)[i]'(by omega)).2) (nx:=0) st.1 st.2 hf rfl ?_ fun h' si sb=>?_
  ·have:=nextT (prog:=prog) (i:=i) (slot:=0) hT st.2 hf
   rw [hg] at this;exact this
  ·exact hQ _ h' s.toks ⟨_,hg,rfl⟩ ⟨si,st.2.keep fun o e=>(sb.2 a hne).trans e⟩ fun b o hb e=>(sb.2 b (fun z=>hb (by simp [z]))).trans e
 done:=fun s Q E st hQ=>by
  have hz:(pickOrder (w.params.setOrder a ep) es).size=es.size:=by rw [← Array.length_toList,(pick_perm _ es).length_eq,Array.length_toList]
  refine next_end hh st.1 st.2 hf rfl ?_ fun h' eb=>hQ h' s.toks fun b o hb e=>eb b o (fun z=>hb (by simp [z])) e
  have:=nextT (prog:=prog) (i:=es.size) (slot:=0) hT st.2 hf
  rw [Array.getElem?_eq_none (by omega)] at this;exact this
 self:=fun _ _ _ _ st hQ=>iter_self st.1 hQ
noncomputable def slotAt (t:SetTable) (i:Nat):Nat:=match i with
 | 0=>0
 | i + 1=>t.place.getD i 0 + 1
theorem below_slot (g:Good t) (hz:t.place.size=es.size) {i:Nat} (hi:i≤es.size):SetTable.below t.place (slotAt t i)=i:=by
 refine split_unique (below_split g.up _) ⟨by omega,fun j x hj ex=>?_,fun j x hj ex=>?_⟩
 ·cases i with
  | zero=>omega
  | succ i=>
   have gi:t.place[i]? = some (t.place.getD i 0):=by
    have:i < t.place.size:=by omega
    simp [Array.getD,this]
   show x < t.place.getD i 0 + 1
   by_cases e:j=i
   ·subst e;rw [gi] at ex;cases ex;omega
   ·have:=up_get g.up (show j < i by omega) ex gi
    omega
 ·cases i with
  | zero=>exact Nat.zero_le _
  | succ i=>
   have hjs:=(Array.getElem?_eq_some_iff.mp ex).1
   have gi:t.place[i]? = some (t.place.getD i 0):=by
    have:i < t.place.size:=by omega
    simp [Array.getD,this]
   exact up_get g.up (show i < j by omega) gi ex
theorem walkP (hh:A.handled=none) (hT:byT w=false) (hp:(!t.plain && decide (es.size > 1))=false) (hl:t.led=true) (g:Good t) (hne:a≠I) (hf:t.fits es.size=true) :
  Walks prog w A I [I,a] [I] es.size (fun i v=>∃ e,es[i]? = some e∧v=e.2) (fun i h=>SI h I a (.int (slotAt t i:Int) 0) i es.size ep∧SObj h a es ep t) where
 sub:=fun b hb=>by simp at hb;simp [hb]
 frame:=fun _ h h' st hk=>⟨hk I (by simp) _ st.1,st.2.keep fun o e=>hk a (by simp) o e⟩
 item:=fun i s Q E hi st hQ=>by
  have hz:t.place.size=es.size:=by
   simp only [SetTable.fits,Bool.and_eq_true,beq_iff_eq] at hf
   exact hf.1
  have hg:es[i]? = some es[i]:=by simp [hi]
  have hg2:t.place[i]? = some (t.place.getD i 0):=by
   have:i < t.place.size:=by omega
   simp [Array.getD,this]
  refine next_item (x:=es[i].2) (nx:=slotAt t (i + 1)) st.1 st.2 hf rfl ?_ fun h' si sb=>?_
  ·have:=nextP (prog:=prog) (i:=i) (slot:=slotAt t i) hT hp hl st.2 hf
   rw [below_slot g hz (Nat.le_of_lt hi)] at this
   unfold atP at this
   rw [hg,hg2] at this;exact this
  ·exact hQ _ h' s.toks ⟨_,hg,rfl⟩ ⟨si,st.2.keep fun o e=>(sb.2 a hne).trans e⟩ fun b o hb e=>(sb.2 b (fun z=>hb (by simp [z]))).trans e
 done:=fun s Q E st hQ=>by
  have hz:t.place.size=es.size:=by
   simp only [SetTable.fits,Bool.and_eq_true,beq_iff_eq] at hf
   exact hf.1
  refine next_end hh st.1 st.2 hf rfl ?_ fun h' eb=>hQ h' s.toks fun b o hb e=>eb b o (fun z=>hb (by simp [z])) e
  have:=nextP (prog:=prog) (i:=es.size) (slot:=slotAt t es.size) hT hp hl st.2 hf
  rw [below_slot g hz (Nat.le_refl _)] at this
  unfold atP at this
  rw [Array.getElem?_eq_none (by omega)] at this;exact this
 self:=fun _ _ _ _ st hQ=>iter_self st.1 hQ
theorem walkD {tp:Addr}{os:List Nat} (hh:A.handled=none) (hne:a≠I) (hnt:tp≠I) (hos:os.Perm (List.range es.size)) (hf:t.fits es.size=true) :
  Walks prog w A I [I,a,tp] [I] es.size (fun i v=>∃ k e,os[i]? = some k∧es[k]? = some e∧v=e.2) (fun i h=>SI h I a (.ref tp) i es.size ep∧SObj h a es ep t∧∃ ot m,h.get? tp=some ot∧ot.data = .seq (os.map fun (k:Nat)=>rawInt (k:Int)).toArray m) where
 sub:=fun b hb=>by simp at hb;simp [hb]
 frame:=fun _ h h' st hk=>⟨hk I (by simp) _ st.1,st.2.1.keep fun o e=>hk a (by simp) o e,let ⟨ot,m,q,z⟩:=st.2.2;⟨ot,m,hk tp (by simp) _ q,z⟩⟩
 item:=fun i s Q E hi st hQ=>by
  have hl:os.length=es.size:=by rw [hos.length_eq,List.length_range]
  have hg:os[i]? = some (os[i]'(by omega)):=by simp [hl,hi]
  have hk:os[i]'(by omega) < es.size:=List.mem_range.mp (hos.mem_iff.mp (List.getElem_mem _))
  have hg2:es[os[i]'(by omega)]? = some (es[os[i]'(by omega)]'hk):=by simp [hk]
  refine nextD_item (h:=(es[os[i]'(by omega)]'hk).1) (x:=(es[os[i]'(by omega)]'hk).2) st.1 st.2.1 hf rfl st.2.2 hg hg2 fun h' si sb=>?_
  exact hQ _ h' s.toks ⟨_,_,hg,hg2,rfl⟩ ⟨si,st.2.1.keep fun o e=>(sb.2 a hne).trans e,let ⟨ot,m,q,z⟩:=st.2.2;⟨ot,m,(sb.2 tp hnt).trans q,z⟩⟩ fun b o hb e=>(sb.2 b (fun z=>hb (by simp [z]))).trans e
 done:=fun s Q E st hQ=>by
  have hl:os.length=es.size:=by rw [hos.length_eq,List.length_range]
  exact nextD_end hh st.1 st.2.1 hf rfl st.2.2 (by rw [List.getElem?_eq_none];omega) fun h' eb=>hQ h' s.toks fun b o hb e=>eb b o (fun z=>hb (by simp [z])) e
 self:=fun _ _ _ _ st hQ=>iter_self st.1 hQ
end
end ST
namespace ST
open PySem PyProof.Rows
noncomputable def kOf:Value→Int
 | .int k _=>k
 | _=>0
theorem ints_all:∀ {vs:List Value},(∀ v∈vs,∃ k t,v = .int k t)→IntsAre vs (vs.map kOf)
 | [],_=>.nil
 | v::vs,h=>by
  obtain ⟨k,t,e⟩:=h v (by simp)
  subst e
  exact .cons k t (ints_all fun u hu=>h u (by simp [hu]))
theorem els_vals:∀ {ks:List Int}{es:List (Int × Value)},Els ks es→(es.map (·.2)).map kOf=ks
 | [],_,h=>by rw [show _=[] from h];rfl
 | k::ks,_,⟨e,r,h,⟨⟨t,et⟩,_⟩,q⟩=>by
  subst h
  rw [List.map_cons,List.map_cons,els_vals q,et];rfl
theorem els_int {ks:List Int}{es:List (Int × Value)} (h:Els ks es):∀ v∈es.map (·.2),∃ k t,v = .int k t:=fun v hv=>by
 obtain ⟨e,he,rfl⟩:=List.mem_map.mp hv
 obtain ⟨k,_,⟨t,et⟩,_⟩:=h.mem e he
 exact ⟨k,t,et⟩
theorem items_eq {P:Nat→Value→Prop}{acc:Array Value}{L:List Value}{n:Nat} (h:ItemsOf P acc n) (hl:L.length=n) (hp:∀ i v,i < n→P i v→L[i]? = some v):acc.toList=L:=by
 apply List.ext_getElem?
 intro i
 by_cases hi:i < n
 ·have g:acc[i]? = some (acc[i]'(by rw [h.1];exact hi)):=by simp [h.1,hi]
  rw [hp i _ hi (h.2 i _ g),Array.getElem?_toList,g]
 ·rw [List.getElem?_eq_none (by rw [Array.length_toList,h.1];omega),List.getElem?_eq_none (by omega)]
section
variable {prog:Program}{w:World}{A:Around}{E:Value→Shared→Prop}{s:Shared}{a:Addr}{es:Array (Int × Value)}{ep:Nat}{t:SetTable}
structure SWalk (prog:Program) (w:World) (es:Array (Int × Value)) (n0:Nat) (I a:Addr) (h':Heap) (fp:List Addr) (P:Nat→Value→Prop) (St:Nat→Heap→Prop):Prop where
 mem:I∈fp
 lt:∀ b∈fp,b < h'.objs.size
 fr:∀ b∈fp,b=a∨n0≤b
 st:St 0 h'
 ty:∀ i h,St i h→∃ o,h.get? I=some o∧o.cls = .type "set_iterator"
 walk:∀ A',A'.handled=none→Walks prog w A' I fp [I] es.size P St
 all:∀ acc,ItemsOf P acc es.size→acc.toList.Perm (es.toList.map (·.2))
theorem set_iter (hx:SObj s.heap a es ep t) (hf:t.fits es.size=true) (g:Good t) (hl:t.led = !byT w) {Q:Value→Shared→Prop} (hz:es.size≤1000)
  (hQ:∀ I h' d fp P St,(∀ b o,s.heap.get? b=some o→h'.get? b=some o)→s.heap.objs.size≤I→SWalk prog w es s.heap.objs.size I a h' fp P St→Q (.ref I) { s with heap:=h',drawn:=d }):wpAny (model prog w) A (pyIter (.ref a)) Q E s:=by
 obtain ⟨o,ho,hex,hd⟩:=id hx
 have hT:s.TypeIs (.ref a) "set":=⟨o,ho,hex.1⟩
 have ha:a < s.heap.objs.size:=Heap.lt_size ho
 refine wpAny_pyIter_slot hT F.slot_set_iter (wpAny_call_entry F.slot_set_iter hT SF.entry_set_iter ?_ (F.args_set_iter_1 _))
 unfold Builtin.«frozenset.__iter__»
 show wpAny _ _ (Builtin.Frozenset.sizeOf a >>= _) _ _ s
 unfold Builtin.Frozenset.sizeOf
 refine wpAny_bind (wpAny_bind (wpAny_setEntries_of ho hd hf (wpAny_pure ?_)))
 unfold setDrawn
 refine wpAny_bind (wpAny_bind (wpAny_setState_of ho hd hf ?_))
 dsimp only
 refine wpAny_bind (by_text (wpAny_pure ?_))
 by_cases c:(!byT w && (!t.plain && decide (es.size > 1)))=true
 ·-- an order is drawn
  rw [if_pos (by exact c)]
  refine wpAny_bind (draw_perm _ _ (by rw [List.length_range]) fun os d p=>?_)
  have pl:os.length=es.size:=by rw [p.length_eq,List.length_range]
  refine wpAny_bind (wpAny_newTuple ?_ (by rw [List.length_map,pl,sizeLine_eq];omega))
  have k1:∀ b o,s.heap.get? b=some o→(s.heap.push { cls:=.type "tuple",data:=.seq (os.map fun (i:Nat)=>rawInt i).toArray }).get? b=some o:=fun b o e=>Heap.get?_push_of_some _ e
  refine wpAny_bind (wpAny_setEpoch_of (s:={ s with drawn:=d,heap:=s.heap.push { cls:=.type "tuple",data:=.seq (os.map fun (i:Nat)=>rawInt i).toArray } }) (k1 a o ho) hd hf ?_)
  refine wpAny_bind (wpAny_newObj_type (wpAny_pure ⟨_,rfl,"set_iterator",_,⟨_,Heap.get?_push_size _ rfl,rfl⟩,SF.slot_next.lookup,?_⟩))
  have zt:(s.heap.push { cls:=.type "tuple",data:=.seq (os.map fun (i:Nat)=>rawInt i).toArray }).objs.size=s.heap.objs.size + 1:=Heap.size_push ..
  refine hQ _ _ d [_,a,s.heap.objs.size] _ _ (fun b o e=>Heap.get?_push_of_some _ (k1 b o e)) (by rw [zt];omega) ⟨by simp,?_,?_,?_,?_,fun A' hh=>walkD (os:=os) (t:=t) (ep:=ep) (tp:=s.heap.objs.size) hh ?_ ?_ p hf,?_⟩
  ·intro b hb
   rw [Heap.size_push]
   simp at hb
   rcases hb with rfl | rfl | rfl
   ·rw [zt];exact Nat.lt_succ_self _
   ·rw [zt];exact Nat.lt_succ_of_lt (Nat.lt_succ_of_lt ha)
   ·rw [zt];exact Nat.lt_succ_of_lt (Nat.lt_succ_self _)
  ·intro b hb
   simp at hb
   rcases hb with rfl | rfl | rfl
   ·exact .inr (Nat.le_succ _)
   ·exact .inl rfl
   ·exact .inr (Nat.le_refl _)
  ·refine ⟨Heap.get?_push_size _ rfl,hx.keep fun o e=>Heap.get?_push_of_some _ (k1 a o e),?_⟩
   exact ⟨{ cls:=.type "tuple",data:=.seq (os.map fun (i:Nat)=>rawInt i).toArray },0,Heap.get?_push_of_some _ (Heap.get?_push_size _ rfl),rfl⟩
  ·exact fun i h st=>⟨_,st.1,rfl⟩
  ·rw [zt];exact Nat.ne_of_lt (Nat.lt_succ_of_lt ha)
  ·rw [zt];exact Nat.ne_of_lt (Nat.lt_succ_self _)
  ·intro acc ia
   have e:=items_eq (L:=os.map fun k=>((es[k]?).map (·.2)).getD .none) ia (by rw [List.length_map,pl]) fun i v hi ⟨k,x,h1,h2,h3⟩=>by
    rw [List.getElem?_map,h1];simp [h2,h3]
   rw [e]
   refine (p.map _).trans (List.Perm.of_eq ?_)
   apply List.ext_getElem?
   intro i
   rw [List.getElem?_map,List.getElem?_map]
   by_cases hi:i < es.size
   ·rw [List.getElem?_range hi,Array.getElem?_toList];simp [hi]
   ·rw [List.getElem?_eq_none (by rw [List.length_range];omega),List.getElem?_eq_none (by rw [Array.length_toList];omega)];rfl
 ·have c':(!byT w && (!t.plain && decide (es.size > 1)))=false:=by simpa using c
  rw [if_neg (by exact c)]
  refine wpAny_bind (wpAny_pure (wpAny_bind (wpAny_setEpoch_of ho hd hf ?_)))
  refine wpAny_bind (wpAny_newObj_type (wpAny_pure ⟨_,rfl,"set_iterator",_,⟨_,Heap.get?_push_size _ rfl,rfl⟩,SF.slot_next.lookup,?_⟩))
  have kk:∀ b o,s.heap.get? b=some o→(s.heap.push { cls:=.type "set_iterator",data:=.fields [rawInt 0,rawInt 0,.ref a,rawInt es.size,rawInt ep].toArray }).get? b=some o:=fun b o e=>Heap.get?_push_of_some _ e
  have fpl:∀ b∈[s.heap.objs.size,a],b < (s.heap.push { cls:=.type "set_iterator",data:=.fields [rawInt 0,rawInt 0,.ref a,rawInt es.size,rawInt ep].toArray }).objs.size:=fun b hb=>by
   rw [Heap.size_push]
   simp at hb
   rcases hb with rfl | rfl
   ·exact Nat.lt_succ_self _
   ·exact Nat.lt_succ_of_lt ha
  have fro:∀ b∈[s.heap.objs.size,a],b=a∨s.heap.objs.size≤b:=fun b hb=>by
   simp at hb
   rcases hb with rfl | rfl
   ·exact .inr (Nat.le_refl _)
   ·exact .inl rfl
  cases hT:byT w with
  | true=>
   refine hQ _ _ s.drawn [_,a] _ _ kk (Nat.le_refl _) ⟨by simp,fpl,fro,?_,fun i h st=>⟨_,st.1,rfl⟩,fun A' hh=>walkT (t:=t) (ep:=ep) hh hT (Nat.ne_of_lt ha) hf,?_⟩
   ·exact ⟨Heap.get?_push_size _ rfl,hx.keep fun o e=>kk a o e⟩
   ·intro acc ia
    have pp:=pick_perm (w.params.setOrder a ep) es
    have e:=items_eq (L:=(pickOrder (w.params.setOrder a ep) es).toList.map (·.2)) ia (by rw [List.length_map,pp.length_eq,Array.length_toList]) fun i v hi ⟨x,h1,h3⟩=>by
     rw [List.getElem?_map,Array.getElem?_toList,h1,h3];rfl
    rw [e]
    exact pp.map _
  | false=>
   rw [hT] at c' hl
   refine hQ _ _ s.drawn [_,a] _ _ kk (Nat.le_refl _) ⟨by simp,fpl,fro,?_,fun i h st=>⟨_,st.1,rfl⟩,fun A' hh=>walkP (t:=t) (ep:=ep) hh hT (by simpa using c') (by simpa using hl) g (Nat.ne_of_lt ha) hf,?_⟩
   ·exact ⟨Heap.get?_push_size _ rfl,hx.keep fun o e=>kk a o e⟩
   ·intro acc ia
    have e:=items_eq (L:=es.toList.map (·.2)) ia (by rw [List.length_map,Array.length_toList]) fun i v hi ⟨x,h1,h3⟩=>by
     rw [List.getElem?_map,Array.getElem?_toList,h1,h3];rfl
    rw [e]
end
end ST
namespace ST
open PySem PyProof.Rows
section
variable {prog:Program}{w:World}{A:Around}{E:Value→Shared→Prop}{s:Shared}{a:Addr}{ks:List Int}
theorem split_len:splitId "set.__len__" = some ("set","__len__"):=by decide +kernel
theorem touch_list {h:Heap}{l:Addr}{Q:Unit→Shared→Prop}{s:Shared}{xs:Array Value}{c:Nat} (hs:s.heap=h) (hl:h.get? l=some { cls:=.type "list",data:=.seq xs c }) (hz:xs.size < 1000)
  (q:∀ h',(∃ c',h'.get? l=some { cls:=.type "list",data:=.seq xs c' })→(∀ b o,b≠l→h.get? b=some o→h'.get? b=some o)→Q () { s with heap:=h' }):wpAny (model prog w) A (Builtin.List.listTouch (.ref l)) Q E s:=by
 subst hs
 show wpAny _ A (updateSeq l (·.push .none) >>= fun _=>updateSeq l (·.pop)) _ _ _
 have z:=sizeLine_eq
 refine wpAny_bind (wpAny_updateSeq hl rfl ?_ (by omega) (by show (xs.push .none).size≤sizeLine + 1;rw [Array.size_push];omega))
 have g1:=Heap.get?_update_self (Obj.mapSeq (·.push Value.none)) hl rfl
 have hp:(xs.push Value.none).pop=xs:=Array.pop_push ..
 refine wpAny_updateSeq g1 rfl ?_ (by show (xs.push .none).size≤sizeLine;rw [Array.size_push];omega) (by show (xs.push .none).pop.size≤sizeLine + 1;rw [hp];omega)
 have g2:=Heap.get?_update_self (Obj.mapSeq (·.pop)) g1 rfl
 refine q _ ⟨_,g2.trans (by simp only [Obj.mapSeq,hp];rfl)⟩ fun b o hb e=>(Heap.get?_update_other _ _ (Ne.symm hb)).trans ((Heap.get?_update_other _ _ (Ne.symm hb)).trans e)
theorem set_collect {Q:List Value→Shared→Prop} (hh:A.handled=none) (hS:IS s.heap a (!byT w) ks) (hz:ks.length≤900)
  (hQ:∀ vs ks' h' tk d,IntsAre vs ks'→ks'.Perm ks→(∀ b o,s.heap.get? b=some o→h'.get? b=some o)→s.heap.objs.size < h'.objs.size→Q vs { s with heap:=h',toks:=tk,drawn:=d }):wpAny (model prog w) A (collect (.ref a)) Q E s:=by
 obtain ⟨o,es,ep,t,k1,ho,hx,hd,el,p,hf,g,hl⟩:=hS
 have hes:es.size=ks.length:=by rw [← Array.length_toList,el.len,p.length_eq]
 have zl:=sizeLine_eq
 have ha:a < s.heap.objs.size:=Heap.lt_size ho
 unfold collect
 refine wpAny_bind (wpAny_runValue (codeAny_builtin F.entry_proto_collect ?_))
 rw [Around.under_plainId F.plain_proto_collect _]
 show wpAny _ A.in1 (newList [] >>= fun l=>again (.builtin "list.__iadd__" ⟨[l,.ref a],[]⟩)) _ _ s
 refine wpAny_bind (wpAny_newObj_type (wpAny_pure ⟨plainId_quiet F.plain_list_iadd _,codeAny_builtin F.entry_list_iadd ?_⟩))
 rw [Around.under_plainId F.plain_list_iadd _]
 show wpAny _ A.in1 (Builtin.List.listExtendWith (.ref s.heap.objs.size) (.ref a) (.ref s.heap.objs.size)) _ _ _
 unfold Builtin.List.listExtendWith
 generalize hs1:({ s with heap:=s.heap.push { cls:=.type "list",data:=.seq ([]:List Value).toArray } }:Shared)=s1
 have k1':∀ b o,s.heap.get? b=some o→s1.heap.get? b=some o:=fun b o e=>by rw [← hs1];exact Heap.get?_push_of_some _ e
 have gl:s1.heap.get? s.heap.objs.size=some { cls:=.type "list",data:=.seq ([]:List Value).toArray }:=by rw [← hs1];exact Heap.get?_push_size _ rfl
 have ho1:s1.heap.get? a=some o:=k1' a o ho
 have ty1:s1.TypeIs (.ref a) "set":=⟨o,ho1,hx.1⟩
 refine wpAny_bind (wpAny_typeOf ty1 ?_)
 have n1:Builtin.List.listSameRef (.ref s.heap.objs.size) (.ref a)=false:=by
  show (s.heap.objs.size == a)=false
  exact beq_eq_false_iff_ne.mpr (Nat.ne_of_gt ha)
 rw [if_neg (by rw [n1];decide)]
 refine wpAny_bind (set_iter (es:=es) (ep:=ep) (t:=t) ⟨o,ho1,hx,hd⟩ hf g hl (by omega) fun I h2 d fp P St kp hI W=>?_)
 have gl2:h2.get? s.heap.objs.size=some { cls:=.type "list",data:=.seq ([]:List Value).toArray }:=kp _ _ gl
 have ty2:({ s1 with heap:=h2,drawn:=d }:Shared).TypeIs (.ref a) "set":=⟨o,kp a o ho1,hx.1⟩
 refine wpAny_bind (wpAny_holding ?_)
 unfold Builtin.List.listLengthHint
 refine wpAny_bind (wpAny_specialOf ty2 F.slot_set_len.lookup ?_)
 dsimp only
 rw [split_len]
 dsimp only
 refine wpAny_bind (wpAny_isInstance (b:=true) ty2 (by rw [isSubtype_type];kernel_rfl) ?_)
 rw [if_neg (by decide)]
 rw [if_pos (by exact rfl)]
 refine wpAny_bind (wpAny_typeOf ty2 (wpAny_pure ?_))
 rw [if_pos (by exact rfl)]
 refine wpAny_bind (wpAny_rule (wpAny_bind (touch_list rfl gl2 (by simp) fun h3 ⟨c3,gl3⟩ kp3=>?_)))
 have hs0:s1.heap.objs.size=s.heap.objs.size + 1:=by rw [← hs1];exact Heap.size_push ..
 have hlf:s.heap.objs.size ∉ fp:=fun hm=>by
  rcases W.fr _ hm with e | e
  ·exact Nat.lt_irrefl _ (Nat.lt_of_lt_of_eq ha e)
  ·rw [hs0] at e;exact Nat.not_succ_le_self _ e
 have WS:=(W.walk A.in1 (by exact hh)).toS
 have st3:St 0 h3:=(W.walk A.in1 (by exact hh)).frame 0 h2 h3 W.st fun b hb o e=>kp3 b o (fun z=>hlf (z ▸ hb)) e
 refine wpAny_pure ⟨plainId_quiet F.plain_extend_loop _,codeAny_extend_loopS WS (by omega) s.heap.objs.size hlf _ es.size 0 _ #[] c3 rfl (Nat.zero_le _) st3 gl3 (ItemsOf.nil P) fun s' acc c' hm hS' hacc=>?_⟩
 show wpAny _ A (load s.heap.objs.size >>= _) _ _ s'
 refine wpAny_bind (wpAny_load hS' (wpAny_pure ?_))
 have pa:=W.all acc hacc
 have hv:∀ v∈acc.toList,∃ k t,v=Value.int k t:=fun v hv=>els_int el v (pa.mem_iff.mp hv)
 have e1:s'={ s with heap:=s'.heap,toks:=s'.toks,drawn:=d }:=by
  obtain ⟨h',g',d',tk',os'⟩:=s'
  have eg:g'=s.gens:=hm.gens.trans (by rw [← hs1])
  have ed:d'=d:=hm.drawn
  have eo:os'=s.os:=hm.os.trans (by rw [← hs1])
  rw [eg,ed,eo]
 rw [e1]
 refine hQ _ _ _ _ _ (ints_all hv) ?_ (fun b o e=>?_) (Heap.lt_size hS')
 ·refine (pa.map kOf).trans ?_
  rw [els_vals el]
  exact p
 ·have hb:b < s.heap.objs.size:=Heap.lt_size e
  refine hm.heap b o (fun z=>?_) (kp3 b o (Nat.ne_of_lt hb) (kp b o (k1' b o e)))
  rcases List.mem_cons.mp z with z | z
  ·exact Nat.lt_irrefl _ (z ▸ hb)
  ·rw [List.mem_singleton] at z
   rw [z] at hb
   rw [hs0] at hI
   exact Nat.lt_irrefl _ (Nat.lt_trans hb (Nat.lt_of_succ_le hI))
end
end ST
namespace TS
open PySem PySem.Spec PyProof.Rows
noncomputable def intOrd:KeyOrd where
 α:=Int
 blt:=fun a b=>decide (a < b)
 irrefl:=fun a=>decide_eq_false (Int.lt_irrefl a)
 trans:=fun a b c h g=>decide_eq_true (Int.lt_trans (of_decide_eq_true h) (of_decide_eq_true g))
 negTrans:=fun a b c h=>by
  have:=of_decide_eq_true h
  by_cases q:a < b
  ·exact .inl (decide_eq_true q)
  ·exact .inr (decide_eq_true (by omega))
 total:=fun a b h g=>by
  have:=of_decide_eq_false h
  have:=of_decide_eq_false g
  omega
theorem ints_mem:∀ {vs:List Value}{ns:List Int},IntsAre vs ns→∀ v∈vs,∃ k t,v = .int k t
 | _,_,.nil,v,h=>by cases h
 | _,_,.cons n t r,v,h=>by
  rcases List.mem_cons.mp h with rfl | h
  ·exact ⟨n,t,rfl⟩
  ·exact ints_mem r v h
theorem ints_map:∀ {vs:List Value}{ns:List Int},IntsAre vs ns→vs.map ST.kOf=ns
 | _,_,.nil=>rfl
 | _,_,.cons n t r=>by rw [List.map_cons,ints_map r];rfl
section
variable {prog:Program}{w:World}{A:Around}{E:Value→Shared→Prop}{s:Shared}
theorem sorted_set {a:Addr}{ks:List Int}{Q:Value→Shared→Prop} (hh:A.handled=none) (hS:ST.IS s.heap a (!ST.byT w) ks) (h64:ks.length≤64)
  (h:∀ l h' tk d us ns e,s.heap.objs.size≤l→(∀ b o,s.heap.get? b=some o→h'.get? b=some o)→h'.get? l=some (seqObj "list" us e)→IntsAre us.toList ns→ns.Perm ks→ns.Pairwise (·≤·)→Q (.ref l) { s with heap:=h',toks:=tk,drawn:=d }) :
  wpAny (model prog w) A (call (.builtin "sorted") [.ref a]) Q E s:=by
 have zl:=sizeLine_eq
 refine Calls.call_function_entry kind_sorted plain_sorted entry_sorted (args_sorted1 _) ?_
 unfold Builtin.«sorted»
 refine wpAny_bind (m:=checkCount "sorted" 1 1 _) (wpAny_pure (wpAny_bind (ST.set_collect (by exact hh) hS (by omega) fun vs ks' h1 tk d hi pk kp hbig=>?_)))
 have hl:vs.length=ks.length:=by rw [IntsAre.length hi,pk.length_eq]
 refine wpAny_bind (wpAny_newList ?_ (by omega))
 have g2:(h1.push (seqObj "list" vs.toArray 0)).get? h1.objs.size=some (seqObj "list" vs.toArray 0):=Heap.get?_push_size _ rfl
 refine wpAny_bind (wpAny_holding (wpAny_call_entry slot_list_sort ⟨_,g2,rfl⟩ entry_list_sort (sort_list (k₀:=oneType') (O:=intOrd) (ky:=fun k=>ST.kOf k.1) g2 (by omega) (fun c h' kp' Q' q'=>?_) (fun c h' kp'=>?_) fun out p1 p2=>⟨_,rfl,?_⟩) (args_list_sort _)))
 ·match vs,c,hi with
  | v1::v2::rest,_,hi=>
   rw [keyKind_ints hi]
   exact wpAny_pure q'
 ·intro E' x y Q' mx my q'
  obtain ⟨ex,mx'⟩:=pairs_mem mx
  obtain ⟨ey,my'⟩:=pairs_mem my
  rw [← ex] at mx'
  rw [← ey] at my'
  obtain ⟨k1,t1,e1⟩:=ints_mem hi _ mx'
  obtain ⟨k2,t2,e2⟩:=ints_mem hi _ my'
  rw [keyLt'_oneType]
  dsimp only at q'
  rw [e1,e2] at q' ⊢
  exact oneLt_int q'
 ·refine wpAny_pure ⟨_,rfl,?_⟩
  obtain ⟨e,he⟩:=sortedHeap_at (out:=out) g2
  have hv:∀ v∈out.toList,∃ k t,v=Value.int k t:=fun v hv=>ints_mem hi v (p1.mem_iff.mp hv)
  refine h h1.objs.size _ _ _ out (out.toList.map ST.kOf) e (Nat.le_of_lt hbig) (fun b o q=>?_) he (ST.ints_all hv) ?_ ?_
  ·have hb:=Heap.lt_size (kp b o q)
   rw [sortedHeap_old (Nat.ne_of_lt hb) (by rw [Heap.size_push];exact Nat.lt_succ_of_lt hb)]
   exact Heap.get?_push_of_some _ (kp b o q)
  ·refine (p1.map ST.kOf).trans ?_
   rw [ints_map hi]
   exact pk
  ·rw [List.pairwise_map]
   refine p2.imp fun {x y} q=>?_
   have q':decide (ST.kOf y < ST.kOf x)=false:=q
   have:=of_decide_eq_false q'
   omega
end
end TS
namespace L2
open PySem PySem.Spec PyProof.Rows
noncomputable def Ite (K:PySem.W.Frag) (a:Addr):It:=
 ⟨fun i H=>∃ xs x,SqL K H a xs∧xs[i]? = some x,fun i H v H'=>∃ t x,H t=none∧v = .ref t∧(∀ xs,SqL K H a xs→xs[i]? = some x)∧H'=upd H t (.tup [.int i,x]),fun i H=>∃ xs,SqL K H a xs∧xs.length≤i⟩
theorem two_turned {X:Cx}{pins:List (Addr × Obj)}{σ:St}{H:Hp}{s:Shared}{e it:Addr}{vs:List V}{us:List Value}{h':Heap}{t':Nat} (I:Inv X pins σ H s) (f1:FpOk X pins H e) (f2:FpOk X pins H it) (k:∀ b o,b≠e→b≠it→s.heap.get? b=some o→h'.get? b=some o)
  (ht:h'.get? s.heap.objs.size=some { cls:=.type "tuple",data:=.seq us.toArray }) (rv:Vals vs us) (hz:vs.length≤sizeLine) (he:e < s.heap.objs.size) (hit:it < s.heap.objs.size) (h'o:∀ b,b=e∨b=it→∃ o,h'.get? b=some o) :
  Inv X pins σ (upd H s.heap.objs.size (.tup vs)) { s with heap:=h',toks:=t' }:=by
 have fr:H s.heap.objs.size=none:=I.fresh
 have nh:∀ b u,H b=some u→b≠e∧b≠it:=fun b u q=>⟨fun z=>(by rw [z,f1.1] at q;cases q),fun z=>(by rw [z,f2.1] at q;cases q)⟩
 have mem:∀ {b},b∈[e,it]→b=e∨b=it:=fun {b} hb=>by simpa using hb
 have nmem:∀ {b},b ∉ [e,it]→b≠e∧b≠it:=fun {b} hb=>⟨fun z=>hb (by simp [z]),fun z=>hb (by simp [z])⟩
 refine I.step (g':=s.gens) (d':=s.drawn) (ch:=[e,it]) (fun b hb=>?_) (fun b o _ _ hc q _=>k b o (nmem hc).1 (nmem hc).2 q) (fun b o _ _ hc q _=>⟨o.slots,k b o (nmem hc).1 (nmem hc).2 q⟩)
  (fun b o _ q n=>by rw [upd_ne (Nat.ne_of_lt (Heap.lt_size q))];exact n) (fun b o hc q=>⟨o,k b o (nmem hc).1 (nmem hc).2 q⟩)
  (fun b xs q=>by rw [upd_ne (ne_of_none q fr)];exact q) (fun b o u q=>by rw [upd_ne (ne_of_none q fr)];exact q) (fun b ps q=>⟨#[],by rw [upd_ne (ne_of_none q fr),q];simp⟩) (fun m hm=>?_) (fun b u q=>?_) I.bare
 ·rcases mem hb with z | z
  ·rw [z];exact ⟨f1.2.2.2.1,f1.2.1,f1.2.2.2.2.1,f1.2.2.2.2.2⟩
  ·rw [z];exact ⟨f2.2.2.2.1,f2.2.1,f2.2.2.2.2.1,f2.2.2.2.2.2⟩
 ·obtain ⟨o,es,ep,ho,r⟩:=hm
  exact ⟨o,es,ep,k _ o (Ne.symm f1.2.1) (Ne.symm f2.2.1) ho,r⟩
 ·by_cases hb:b=s.heap.objs.size
  ·subst hb
   rw [upd_same] at q
   cases q
   exact ⟨hz,us,rv,⟨_,ht,rfl,0,rfl⟩⟩
  ·rw [upd_ne hb] at q
   refine (I.hok b u q).stay (fun c v hc g=>k c v ?_ ?_ g) (fun _ g=>?_) fun c v g=>?_
   ·rcases hc with z | z
    ·rw [z];exact (nh b u q).1
    ·exact (nh c _ z).1
   ·rcases hc with z | z
    ·rw [z];exact (nh b u q).2
    ·exact (nh c _ z).2
   all_goals first
    | (rw [upd_ne (ne_of_none g fr)];exact g)
theorem turn_enum {P:Program}{w:World}{K:PySem.W.Frag}{elts:List Expr}{x1:Nat}{pt:Pos} (a e it:Addr) (hne:e≠it):Turn P w K (.Tuple elts x1 pt) (Ite K a) [e,it] e (fun i h=>(∃ old,IsEnum h e it i old)∧h.IsListIter it a i) where
 mem:=by simp
 obj:=fun i h st b hb=>by
  obtain ⟨⟨old,h1⟩,o,h2,c,d⟩:=st
  rcases (by simpa using hb:b=e∨b=it) with z | z
  ·subst z;exact ⟨_,h1,fun v z=>by cases z⟩
  ·subst z;exact ⟨o,h2,fun v z=>by rw [d] at z;cases z⟩
 keep:=fun i h h' st k=>⟨let ⟨old,h1⟩:=st.1;⟨old,k e (by simp) _ h1⟩,st.2.at fun o q=>k it (by simp) o q⟩
 item:=by
  intro X hP hw hK hc i pins s σ H E I hf st hg
  subst hP hw hK
  obtain ⟨xs,x,hq,hx⟩:=hg
  obtain ⟨⟨old,he⟩,hit⟩:=st
  obtain ⟨its,rv,p,hz⟩:=I.list hq
  obtain ⟨u,hu,ru⟩:=rv.get hx
  have f1:=hf e (by simp)
  have f2:=hf it (by simp)
  refine wpAny_pyNext_enum_item he hit p.isList (x:=u) (by simpa using hu) hne fun h' heo hit' ht hsz hk=>?_
  refine ⟨.ref s.heap.objs.size,rfl,wpAny_letOwnedTupleGo_enum (s:={ s with heap:=h',toks:=s.toks + 1 }) heo fun h2 he2 sb=>?_⟩
  have hes:e < s.heap.objs.size:=Heap.lt_size he
  have hits:it < s.heap.objs.size:=let ⟨_,ho,_⟩:=hit;Heap.lt_size ho
  have fr:H s.heap.objs.size=none:=I.fresh
  have hit2:h2.IsListIter it a (i + 1):=hit'.extBut sb.extBut (Ne.symm hne)
  have I2:Inv X pins σ (upd H s.heap.objs.size (.tup [.int i,x])) { s with heap:=h2,toks:=s.toks + 1 }:=two_turned (us:=[.int i s.toks,u]) I f1 f2 (fun b o h1 h2' q=>(sb.2 b h1).trans (hk b o h1 h2' q))
   ((sb.2 _ (Nat.ne_of_gt hes)).trans ht) (.cons ⟨_,rfl⟩ (.cons ru .nil)) (by show 2≤sizeLine;decide) hes hits (fun b hb=>by
    rcases hb with z | z
    ·rw [z];exact ⟨_,he2⟩
    ·rw [z];obtain ⟨o,ho,_⟩:=hit2;exact ⟨o,ho⟩)
  refine ⟨.ref s.heap.objs.size,_,I2,rfl,⟨s.heap.objs.size,x,fr,rfl,fun ys hy=>by rw [I.list_inj hy hq];exact hx,rfl⟩,⟨⟨_,by simpa using he2⟩,hit2⟩,fun b hb=>?_⟩
  rcases (by simpa using hb:b=e∨b=it) with z | z
  ·rw [z,upd_ne (Nat.ne_of_lt hes)];exact f1.1
  ·rw [z,upd_ne (Nat.ne_of_lt hits)];exact f2.1
 done:=by
  intro X hP hw hK hc i pins s σ H E I hf st hg
  subst hP hw hK
  obtain ⟨xs,hq,hx⟩:=hg
  obtain ⟨⟨old,he⟩,hit⟩:=st
  obtain ⟨its,rv,p,hz⟩:=I.list hq
  obtain ⟨f0,f1,f2,f3,f4,f5⟩:=hf it (by simp)
  have hl:=rv.length
  exact wpAny_pyNext_enum_end (I.ok.hd hc) he hit p.isList (by simp;omega) fun h' eb=>⟨rfl,I.turned (t':=s.toks) (fun b o hb q=>eb b o hb q) f0 f1 f3 f4 f5⟩
 self:=fun _ _ _ _ _ st h=>let ⟨_,he⟩:=st.1;wpAny_pyIter_enum he h
section
variable {X:Cx}{S:Av}{σ:St}{H:Hp}{pos:Pos}{ds:List D}
noncomputable def enumD (ds:List D):List D:=ds.zipIdx.map fun p=>D.tup [.int (p.2:Int),p.1]
theorem enumD_len:(enumD ds).length=ds.length:=by unfold enumD;simp
theorem enumD_get {i:Nat}{d:D} (h:ds[i]? = some d):(enumD ds)[i]? = some (D.tup [.int (i:Int),d]):=by
 unfold enumD
 rw [List.getElem?_map,List.getElem?_zipIdx,h]
 simp
theorem enumD_of {i:Nat}{e:D} (h:(enumD ds)[i]? = some e):∃ d,ds[i]? = some d∧e=D.tup [.int (i:Int),d]:=by
 have hi:i < ds.length:=by rw [← enumD_len];exact (List.getElem?_eq_some_iff.mp h).1
 refine ⟨ds[i],List.getElem?_eq_getElem hi,?_⟩
 rw [enumD_get (List.getElem?_eq_getElem hi)] at h
 exact (Option.some.inj h).symm
theorem di_enum {elts:List Expr}{x1:Nat}{pt p:Pos}{l:Expr} (hm:X.mg "enumerate" = none) (hl:DE X S σ H l (.lst ds)) (hg:autoParam (Gl X "enumerate") au3._auto_1) (hs:autoParam (starEach [l] X.env=[(false,eval l X.env)]) au3._auto_1) (hsa:autoParam (starEach [l] X.env=(false,eval l X.env)::starEach [] X.env) au3._auto_1) :
  DI X S σ H (.Tuple elts x1 pt) (.Call (.Name "enumerate" p) [l] [] pos) (enumD ds):=by
 intro pins s σ' H' R I h
 obtain ⟨e1,sm,sb,k⟩:=h
 have ha:DA X S σ H [l] [.lst ds]:=da_cons hl da_nil hsa
 refine Call_ (ld_blt I hg hm boot_enumerate (PyProof.Rows.callWith_type1 (thn (ha pos pins s σ' H' (fun vs H1=>Same H' H1∧Reps X.K S H1 [.lst ds] vs) I ⟨e1,sm,sb,fun vs H1 s1 r1=>⟨s1,r1⟩⟩) fun us s1 ⟨vs,H1,I1,r1,s1',rp⟩=>?_) hs rfl))
 obtain ⟨v,rfl,rv⟩:=reps_1 rp
 obtain ⟨u,rfl,ru⟩:=vals1 r1
 obtain ⟨a,xs,rfl,h1,h2⟩:=rep_seq rv
 cases ru
 obtain ⟨its,rv',pl,hz⟩:=I1.list h1.sq
 refine call_enumerate_list pl.isList fun h' he hit hsz kp=>?_
 have I2:Inv X pins σ' H1 { s1 with heap:=h' }:=I1.kept (t':=s1.toks) kp
 refine wpAny_pyIter_enum he ?_
 have f1:FpOk X pins H1 (s1.heap.objs.size + 1):=I1.fpOk (Nat.le_succ _) (I1.hok.fresh (Nat.le_succ _))
 have f2:FpOk X pins H1 s1.heap.objs.size:=I1.fpOk (Nat.le_refl _) I1.fresh
 refine ⟨s1.heap.objs.size + 1,[s1.heap.objs.size + 1,s1.heap.objs.size],_,Ite X.K a,H1,rfl,I2,turn_enum a _ _ (Nat.succ_ne_self _),⟨⟨_,he⟩,hit⟩,fun b hb=>?_,k _ H1 s1' ?_⟩
 ·rcases (by simpa using hb:b=s1.heap.objs.size + 1∨b=s1.heap.objs.size) with z | z
  ·rw [z];exact f1
  ·rw [z];exact f2
 ·intro S' H2 i ex of sb2
  have q:=((h1.ext ex).off of).sq
  have rs:=(h2.ext ex).off of
  rw [enumD_len]
  refine ⟨fun hi=>?_,fun hi=>⟨xs,q,by rw [rs.length,hi];exact Nat.le_refl _⟩⟩
  have hi':i < xs.length:=by rw [rs.length];exact hi
  refine ⟨⟨xs,xs[i],q,by simp [hi']⟩,fun x H3 y=>?_⟩
  obtain ⟨t,z,ht,rfl,hz',rfl⟩:=y
  obtain ⟨d,hd⟩:∃ d,ds[i]? = some d:=⟨ds[i],List.getElem?_eq_getElem hi⟩
  obtain ⟨x',hx',rx⟩:=rs.get hd
  have e2:=hz' xs q
  rw [hx'] at e2
  cases e2
  refine ⟨same_new ht _,_,enumD_get hd,?_⟩
  refine rep_tup (sb2.new ht) upd_same ?_
  simp only [Reps,Rep]
  exact ⟨_,_,rfl,rfl,_,_,rfl,rx.up (same_new ht _),rfl⟩
noncomputable def rInsert:V→List V→Hp→VK→Prop:=fun x vs H Q=>∃ (l:Addr) (xs:List V) (i:Nat) (y:V),x = .ref l∧vs=[.int i,y]∧H l=some (.lst xs)∧xs.length < 1000∧i≤xs.length∧Q .non (upd H l (.lst (xs.take i++y::xs.drop i)))
theorem ins_call {prog:Program}{w:World}{A:Around}{E:Value→Shared→Prop}{s:Shared}{l:Addr}{its:List Value}{n:Nat}{x:Int}{i:Nat}{t:Tok}{u:Value}{Q:Value→Shared→Prop} (hx:x=i) (hi:i≤its.length) (hz:its.length < 1000)
  (e:s.heap.get? l=some { cls:=.type "list",data:=.seq its.toArray n }) (h:∀ f:Array Value→Array Value,f its.toArray=(its.take i++u::its.drop i).toArray→Q .none { s with heap:=s.heap.update l (Obj.mapSeq f) }) :
  wpAny (model prog w) A (call (.builtin "list.insert") [.ref l,.int x t,u]) Q E s:=by
 have hx0:0≤x:=by omega
 have hx1:x < 1000:=by omega
 have hxt:x.toNat=i:=by omega
 have hfit:Builtin.List.listFitsIndex x=true:=by
  unfold Builtin.List.listFitsIndex
  rw [Bool.and_eq_true,decide_eq_true_iff,decide_eq_true_iff]
  constructor <;> omega
 have hno:¬ (!Builtin.List.listFitsIndex x)=true:=by rw [hfit];exact Bool.false_ne_true
 have hs:=small1000 (n:=1000) (Nat.le_refl _)
 have hsz:its.toArray.size≤sizeLine:=by rw [List.size_toArray];omega
 clear hx hfit hs
 refine call_meets PySem.F.slot_list_insert ⟨_,e,rfl⟩ PySem.F.entry_list_insert (PySem.F.args_list_insert_3 _ _ _) (PySem.AutoSeq1.list_insert_list_int_val_1 l its.toArray n x t u hno hsz) ⟨e,h _ ?_⟩
 have hk:(if x < 0 then (x + (its.toArray.size:Int)).toNat else min x.toNat its.toArray.size)=i:=by
  rw [if_neg (by omega),hxt,List.size_toArray]
  omega
 show (its.toArray.extract 0 (if x < 0 then (x + (its.toArray.size:Int)).toNat else min x.toNat its.toArray.size)).push u++its.toArray.extract (if x < 0 then (x + (its.toArray.size:Int)).toNat else min x.toNat its.toArray.size)=_
 rw [hk]
 apply Array.ext'
 simp
 exact List.take_of_length_le (by rw [List.length_drop];exact Nat.le_refl _)
theorem mt_insert:MtM X "list.insert" rInsert:=by
 intro pins s σ H x vs v us Q I rx rv h
 obtain ⟨l,xs,i,y,rfl,rfl,hH,hz,hi,q⟩:=h
 cases rx
 obtain ⟨u0,u,rfl,ru0,ru⟩:=rv.two
 obtain ⟨t,rfl⟩:=ru0
 obtain ⟨z,its,n,r,hl,e⟩:=I.lstM hH
 refine ins_call (i:=i) rfl (by omega) (by omega) e fun f hf=>?_
 have hs:=small1000 (n:=1000) (Nat.le_refl _)
 have hlen:(xs.take i++y::xs.drop i).length≤sizeLine:=by
  simp only [List.length_append,List.length_cons,List.length_take,List.length_drop]
  omega
 exact ⟨.non,_,I.lset (t':=s.toks) hH e hf ((r.take i).append (.cons ru (r.drop i))) hlen,rfl,q⟩
end
end L2
theorem au10 (h:True:=by with_unfolding_all rfl):True:=h
namespace L2
open PySem PySem.Spec PyProof.Rows
noncomputable def spR (K:PySem.W.Frag) (R:List D→D→Prop):Sp:=fun vs H Q _=>∃ S ds d,Sub S H∧Reps K S H ds vs∧R ds d∧∀ v H',Same H H'→Rep K S H' d v→Q v H'
theorem spR.len {K:PySem.W.Frag}{R:List D→D→Prop}{n:Nat} (hn:∀ ds d,R ds d→ds.length=n):∀ vs H Q E,spR K R vs H Q E→vs.length=n:=fun vs H Q E ⟨S,ds,d,_,r,p,_⟩=>by rw [r.length];exact hn ds d p
structure Cal (P:Program) (w:World) (K:PySem.W.Frag) (mg:Str→Option Value) (base:Heap) (nm:Str) (k:Nat) (ps:List Str) (R:List D→D→Prop):Prop where
 ex:∃ f fd,FnOk P w K mg base CX0 k f fd ps (spR K R)∧Binds K fd ps []∧PySem.W.keepIn K (.ref f)=true∧mg nm=some (.ref f)
section
variable {X:Cx}{S M:Av}{H0 H:Hp}{δ:List (Option D)}{σ:St}{a b e:Expr}{es:List Expr}{pos p p2 p3:Pos}{d:D}{ds:List D}{i j:Int}
theorem de_cal {nm:Str}{k m:Nat}{ps:List Str}{R:List D→D→Prop} (C:Cal X.prog X.w X.K X.mg X.base nm k ps R) (hr:Room m X.A) (h:R ds d) (ha:DA X S σ H (e::es) ds) (hk:autoParam (k≤m) au1._auto_1) (hg:autoParam (Gl X nm) au3._auto_1)
  (hdb:autoParam ((nm == ("__debug__":Str))=false) au1._auto_1) (he:autoParam (starEach (e::es) X.env=(false,eval e X.env)::starEach es X.env) au3._auto_1) (hpl:autoParam ((backTo pos (starEach es X.env)).any (·.1)=false) au3._auto_1) :
  DE X S σ H (.Call (.Name nm p) (e::es) [] pos) d:=by
 obtain ⟨f,fd,G,B,kp,m'⟩:=C.ex
 refine (pe_call (sp:=spR X.K R) G (hr.mono hk) hg m' kp B .nil pass0 ha hdb he hpl).mono ?_
 intro σ' H' Q ⟨e1,sm,sb,k⟩
 exact ⟨e1,sm,sb,fun vs H1 s1 r1=>⟨S,ds,d,sb.up s1,by rw [List.append_nil];exact r1,h,fun v H2 s2 rv=>k v H2 (s1.trans s2) rv⟩⟩
theorem de_unI {op:UnaryOp}{g:Int→Int} (ho:UnR X (unaryOp op) (rU fun i=>.int (g i))) (ha:DE X S σ H a (.int i)):DE X S σ H (.UnaryOp op a pos) (.int (g i)):=
 (pe_un ho ha).mono fun σ' H' Q ⟨e1,sm,sb,k⟩=>⟨e1,sm,sb,fun v H1 s1 rv=>⟨i,by simpa only [Rep] using rv,k _ H1 s1 rep_int⟩⟩
theorem de_neg (ha:DE X S σ H a (.int i)):DE X S σ H (.UnaryOp .USub a pos) (.int (-i)):=de_unI un_neg ha
theorem dt_int (h:DE X S σ H e (.int i)) (he:autoParam (∀ whole,isTrue e X.env whole=(do let v ← whole;standAt e.pos;holding [v] (truthy v))) au2._auto_1):DT X S σ H e (i != 0):=
 (pt_truth h he).mono fun σ' H' Q ⟨e1,sm,sb,q⟩=>⟨e1,sm,sb,fun v H1 s1 rv=>⟨i != 0,by simp only [Rep] at rv;subst rv;rfl,q H1 s1⟩⟩
theorem dt_lst (h:DE X S σ H e (.lst ds)) (he:autoParam (∀ whole,isTrue e X.env whole=(do let v ← whole;standAt e.pos;holding [v] (truthy v))) au2._auto_1):DT X S σ H e (!ds.isEmpty):=
 (pt_truth h he).mono fun σ' H' Q ⟨e1,sm,sb,q⟩=>⟨e1,sm,sb,fun v H1 s1 rv=>by
  obtain ⟨a,xs,rfl,h1,h2⟩:=rep_seq rv
  refine ⟨!ds.isEmpty,.inl ⟨xs,h1.sq,?_⟩,q H1 s1⟩
  have:=h2.length
  cases ds <;> cases xs <;> simp_all⟩
noncomputable def isNon:D→Bool
 | .non=>true
 | _=>false
theorem rep_non {v:V} (r:Rep X.K S H d v):decide (v = .non)=isNon d:=by
 cases d with
 | non=>simp only [Rep] at r;subst r;rfl
 | bl b=>simp only [Rep] at r;subst r;rfl
 | int b=>simp only [Rep] at r;subst r;rfl
 | str b=>simp only [Rep] at r;subst r;rfl
 | ty b=>simp only [Rep] at r;subst r;rfl
 | lst b=>simp only [Rep] at r;obtain ⟨a,xs,rfl,_⟩:=r;rfl
 | tup b=>simp only [Rep] at r;obtain ⟨a,xs,rfl,_⟩:=r;rfl
 | dkt b=>simp only [Rep] at r;obtain ⟨a,rfl,_⟩:=r;rfl
 | dki b=>simp only [Rep] at r;obtain ⟨a,rfl,_⟩:=r;rfl
 | scr b=>simp only [Rep] at r;obtain ⟨a,rfl,_⟩:=r;rfl
 | adr b=>simp only [Rep] at r;subst r;rfl
theorem good_isN {H:Hp}:GoodR X.K S H d .non (.bl (isNon d)) (fun x y H Q=>y = .non∧Q (.bl (decide (x = .non))) H):=fun x y H' Q _ _ rx ry k=>by
 simp only [Rep] at ry
 exact ⟨ry,k _ H' (Same.refl _) (by rw [rep_non rx];exact rep_bl)⟩
theorem dt_isN (ha:DE X S σ H a d) (hb:DE X S σ H b .non):DT X S σ H (.Compare a [.Is] [b] pos) (isNon d):=dt_cmp op_isN ha hb good_isN (nomark _)
section
variable {α:Type} [DecidableEq α] {enc:α→D}{n:Nat}{xs ys:List α}{z:α}
theorem de_eqE (E:Enc X enc n) (hu:X.A.units + (n + 1) < cLine) (ha:DE X S σ H a (.lst (xs.map enc))) (hb:DE X S σ H b (.lst (ys.map enc))):DE X S σ H (.Compare a [.Eq] [b] pos) (.bl (decide (xs=ys))):=de_cmp (op_eqE E hu) ha hb good_eqE (nomark _)
theorem dt_neE (E:Enc X enc n) (hu:X.A.units + (n + 1) < cLine) (ha:DE X S σ H a (.lst (xs.map enc))) (hb:DE X S σ H b (.lst (ys.map enc))):DT X S σ H (.Compare a [.NotEq] [b] pos) (!decide (xs=ys)):=dt_cmp (op_neE E hu) ha hb good_neE (nomark _)
theorem dt_inE (E:Enc X enc n) (hu:X.A.units + (n + 1) < cLine) (ha:DE X S σ H a (enc z)) (hb:DE X S σ H b (.lst (ys.map enc))) (hm:autoParam (behindInMarks .In b=false) au10._auto_1):DT X S σ H (.Compare a [.In] [b] pos) (decide (z∈ys)):=dt_cmp (op_inE E hu) ha hb good_inE hm
theorem dt_notInE (E:Enc X enc n) (hu:X.A.units + (n + 1) < cLine) (ha:DE X S σ H a (enc z)) (hb:DE X S σ H b (.lst (ys.map enc))) (hm:autoParam (behindInMarks .NotIn b=false) au10._auto_1):DT X S σ H (.Compare a [.NotIn] [b] pos) (!decide (z∈ys)):=dt_cmp (op_notInE E hu) ha hb good_notInE hm
end
theorem units_of {m k:Nat} (hr:Room m X.A) (h:autoParam (k≤64) au1._auto_1):X.A.units + k < cLine:=Nat.lt_of_le_of_lt (Nat.add_le_add_left h _) hr.units
theorem good_inT {H:Hp}{x u v:Int}:GoodR X.K S H (.int x) (.tup [.int u,.int v]) (.bl (decide (x=u) || decide (x=v))) (rIn X.K false):=fun a b H' Q _ _ rx ry k=>by
 simp only [Rep] at rx
 subst rx
 obtain ⟨p,ys,rfl,h1,h2⟩:=rep_seqT ry
 obtain ⟨v1,v2,rfl,r1,r2⟩:=reps_2 h2
 simp only [Rep] at r1 r2
 subst r1 r2
 refine ⟨p,_,rfl,.inr h1.sq,rfl,rfl,k _ H' (Same.refl _) ?_⟩
 simp only [Rep]
 have e1:∀ a b:Int,(a == b)=decide (b=a):=fun a b=>by
  rw [Bool.eq_iff_iff,beq_iff_eq,decide_eq_true_eq]
  exact eq_comm
 show V.bl (u == x || (v == x || false))=_
 rw [e1,e1,Bool.or_false]
theorem dt_inT {x u v:Int} (ha:DE X S σ H a (.int x)) (hb:DE X S σ H b (.tup [.int u,.int v])) (hm:autoParam (behindInMarks .In b=false) au10._auto_1):DT X S σ H (.Compare a [.In] [b] pos) (decide (x=u) || decide (x=v)):=dt_cmp op_in_seq ha hb good_inT hm
theorem good_ixE {H:Hp} (h:ds.getLast? = some d):GoodR X.K S H (.lst ds) (.int (-1)) d (rIxL X.K):=by
 intro x y H' Q _ _ rx ry k
 obtain ⟨p,ys,rfl,h1,h2⟩:=rep_seq rx
 simp only [Rep] at ry
 subst ry
 rw [List.getLast?_eq_getElem?] at h
 obtain ⟨v,hv,rv⟩:=h2.get h
 rw [← h2.length,← List.getLast?_eq_getElem?] at hv
 obtain ⟨zs,rfl⟩:=List.getLast?_eq_some_iff.mp hv
 exact ⟨p,_,-1,v,rfl,rfl,h1.sq,atI_last zs v,k v H' (Same.refl _) rv⟩
end
end L2
end
namespace ST
open PySem PyProof.Rows
noncomputable abbrev fset (led:Bool):Obj:={ cls:=.type "set",dict:=none,data:=.set #[] 0 (.fresh 0 0 led) }
section
variable {prog:Program}{w:World}{A:Around}{E:Value→Shared→Prop}{s:Shared}
noncomputable def met (val:Nat→Int) (i:Nat):List Int:=((List.range i).map val).foldl addK []
theorem met_succ (val:Nat→Int) (i:Nat):met val (i + 1)=addK (met val i) (val i):=by
 unfold met;rw [List.range_succ,List.map_append,List.foldl_append];rfl
theorem addK_len (ks:List Int) (k:Int):(addK ks k).length≤ks.length + 1:=by
 unfold addK;split
 ·omega
 ·rw [List.length_append];exact Nat.le_refl _
theorem met_len (val:Nat→Int):∀ i,(met val i).length≤i
 | 0=>Nat.le_refl _
 | i + 1=>by rw [met_succ];have:=addK_len (met val i) (val i);have:=met_len val i;omega
theorem IS.keep {h h':Heap}{a:Addr}{L:Bool}{ks:List Int} (x:IS h a L ks) (e:∀ o,h.get? a=some o→h'.get? a=some o):IS h' a L ks:=
 let ⟨o,es,ep,t,k1,ho,r⟩:=x;⟨o,es,ep,t,k1,e o ho,r⟩
theorem fill_loop {R:Result→Shared→Prop}{I S:Addr}{fp wr:List Addr}{G:Array GenState→Array GenState→Prop}{n:Nat}{P:Nat→Value→Prop}{St:Nat→Shared→Prop}{L:Bool} (W:WalksS prog w A.in1 I fp wr G n P St) (hSf:S ∉ fp)
  (val:Nat→Int) (hv:∀ i v,P i v→∃ t,v = .int (val i) t) (hb:n + 1 < scanBound):∀ (k i:Nat) (s:Shared),n - i=k→i≤n→St i s→IS s.heap S L (met val i) →
   (∀ s',Moved (S::wr) G s s'→IS s'.heap S L (met val n)→R (.ok (.ret .none)) s')→codeAny (model prog w) A (.builtin "set.update.loop" ⟨[.ref S,.ref I],[]⟩) R s:=by
 have nw:S ∉ wr:=fun z=>hSf (W.sub _ z)
 have up:∀ b∈wr,b∈S::wr:=fun b z=>List.mem_cons_of_mem _ z
 intro k
 induction k with
 | zero=>
  intro i s hk hi st hS hR
  have e:i=n:=by omega
  subst e
  refine codeAny_builtin PyProof.Rows.F.entry_set_update_loop ?_
  rw [Around.under_plainId PyProof.Rows.F.plain_set_update_loop _]
  show wpAny _ A.in1 (pyNext (.ref I) >>= _) _ _ s
  refine wpAny_bind (W.done s _ _ st fun s' hm=>wpAny_pure (hR s' (hm.mono up) (hS.keep fun o e=>hm.heap S o nw e)))
 | succ k ih=>
  intro i s hk hi st hS hR
  have lt:i < n:=by omega
  refine codeAny_builtin PyProof.Rows.F.entry_set_update_loop ?_
  rw [Around.under_plainId PyProof.Rows.F.plain_set_update_loop _]
  show wpAny _ A.in1 (pyNext (.ref I) >>= _) _ _ s
  refine wpAny_bind (W.item i s _ _ lt st fun v s' hP st' hm=>?_)
  obtain ⟨t,rfl⟩:=hv i v hP
  have hS1:=hS.keep fun o e=>hm.heap S o nw e
  show wpAny _ A.in1 (holding [Value.int (val i) t] (setAdd S (.int (val i) t)) >>= _) _ _ s'
  refine wpAny_bind (wpAny_holding ?_)
  unfold setAdd
  refine wpAny_holding (wpAny_bind ((intKind prog w).pyHash (k:=val i) (intKind_is _ _ _ _) ?_))
  have hl:=met_len val i
  refine is_add (s:={ s' with toks:=s'.toks + 1 }) hS1 (by omega) fun b h' sb hS2=>?_
  rw [← met_succ] at hS2
  refine wpAny_pure ⟨plainId_quiet PyProof.Rows.F.plain_set_update_loop _,ih (i + 1) _ (by omega) lt (W.frame _ s' _ _ st' (Nat.le_succ _) fun c hc o e=>?_) hS2 fun s2 m2 i2=>?_⟩
  ·exact (sb.2 c fun z=>hSf (z ▸ hc)).trans e
  ·refine hR s2 (Moved.trans W.gtrans ((hm.mono up).then_heap (Nat.le_succ _) fun c o hc e=>?_) m2) i2
   exact (sb.2 c fun z=>hc (by rw [z];exact List.mem_cons_self)).trans e
theorem set_new (x:Value) {Q:Value→Shared→Prop} (h:Q (.ref s.heap.objs.size) { s with heap:=s.heap.push (fset (!byT w)) }):codeAny (model prog w) A (.call (.builtin "set.__new__") ⟨[.type "set",x],[]⟩) (wants Q E) s:=by
 refine codeAny_of_tree ?_
 show wpAny _ A.in1 (checkBuiltinCall "set.__new__" ⟨[.type "set",x],[]⟩ >>= fun _=>again (.builtin "set.__new__" ⟨[.type "set",x],[]⟩)) _ _ s
 refine wpAny_bind (wpAny_of_eq (PySem.F.newCall_set_1 x) (wpAny_pure ⟨plainId_quiet PySem.F.plain_set_new _,codeAny_builtin PySem.F.entry_set_new ?_⟩))
 rw [Around.under_plainId PySem.F.plain_set_new _]
 unfold Builtin.«set.__new__» Builtin.Frozenset.newClass
 have hsub:=sub_set_self
 obtain ⟨hp,g,d,tk,os⟩:=s
 dsimp only
 wp_walk
 refine wpAny_askSetting (wpAny_pure ?_)
 dsimp only
 simp only [newObj]
 exact wpAny_bind (wpAny_alloc (wpAny_pure (wpAny_pure h)))
theorem call_set {l:Addr}{items:Array Value}{ns:List Int}{Q:Value→Shared→Prop} (hh:A.handled=none) (hl:s.heap.IsList l items) (hi:IntsAre items.toList ns) (hb:items.size + 1 < scanBound)
  (h:∀ (h':Heap) (tk:Nat),IS h' s.heap.objs.size (!byT w) (met (fun i=>ns.getD i 0) items.size)→(∀ b o,s.heap.get? b=some o→h'.get? b=some o)→Q (.ref s.heap.objs.size) { s with heap:=h',toks:=tk }) :
  wpAny (model prog w) A (call (.type "set") [.ref l]) Q E s:=by
 obtain ⟨c,tl,hmro⟩:=PySem.F.called_set.mro
 have hmade:=PySem.F.called_set.made
 have hsub:=PySem.F.called_set.sub
 refine wpAny_call (codeAny_of_tree ?_)
 show wpAny _ _ (callAny (.type "set") _) _ _ _
 refine wpAny_pure ⟨Code.quiet_builtin _ (by decide +kernel),codeAny_builtin PySem.F.entry_type_call ?_⟩
 rw [Around.under_plain (weight_type_call_type "set" [.ref l] []) rfl]
 have a1:=PySem.F.called_set.notType
 have a2:=PySem.F.called_set.canCreate
 have a3:=PySem.F.typeCall_set_1 (.ref l)
 repeat (any_goals (first | assumption | wp_step))
 refine codeAny_mono (set_new (.ref l) (E:=E) (Q:=fun obj s₁=>obj = .ref s.heap.objs.size∧s₁={ s with heap:=s.heap.push (fset (!byT w)) }) ⟨rfl,rfl⟩) fun r s₁ hr=>?_
 match r,hr with
 | .ok (.ret obj),hr=>
  obtain ⟨rfl,rfl⟩:=hr
  have gS:(s.heap.push (fset (!byT w))).get? s.heap.objs.size=some (fset (!byT w)):=Heap.get?_push_size _ rfl
  have tS:Shared.TypeIs { s with heap:=s.heap.push (fset (!byT w)) } (.ref s.heap.objs.size) "set":=⟨_,gS,rfl⟩
  have b1:=PySem.F.called_set.init.lookup
  have b2:=PySem.F.called_set.init.bind (.ref s.heap.objs.size)
  repeat (any_goals (first | assumption | wp_step))
  refine codeAny_mono (codeAny_call_builtin (R:=wants (fun r s₂=>r = .none∧∃ h' tk,s₂={ s with heap:=h',toks:=tk }∧IS h' s.heap.objs.size (!byT w) (met (fun i=>ns.getD i 0) items.size)∧∀ b o,s.heap.get? b=some o→h'.get? b=some o) E) PySem.F.called_set.init.plain PySem.F.entry_set_init (check_set_init_1 tS ?_)) fun r₂ s₂ hr₂=>?_
  ·obtain ⟨ol,hol,hcl,nl,hdl⟩:=hl
   obtain ⟨ocls,odict,odata,oslots⟩:=ol
   simp only at hcl hdl
   subst hcl hdl
   have hol':(s.heap.push (fset (!byT w))).get? l=some { cls:=.type "list",dict:=odict,data:=.seq items nl,slots:=oslots }:=Heap.get?_push_of_some _ hol
   have c1:=PySem.F.sub_list_set
   have c2:=PySem.F.sub_list_frozenset
   have c3:(Value.type "list" == Value.type "dict")=false:=by decide
   have hl1:(s.heap.push (fset (!byT w))).IsList l items:=⟨_,hol',rfl,nl,rfl⟩
   unfold Builtin.«set.__init__» noKeywords Builtin.Frozenset.updateFrom
   generalize hPI:pyIter=PI
   wp_walk
   subst hPI
   refine wpAny_pyIter_list hl1 (wpAny_bind (wpAny_runValue ?_))
   have hlS:l < s.heap.objs.size:=Heap.lt_size hol
   have hh3:A.in1.in1.in1.handled=none:=by simp [hh]
   have z1:(s.heap.push (fset (!byT w))).objs.size=s.heap.objs.size + 1:=Heap.size_push ..
   have neI:l≠(s.heap.push (fset (!byT w))).objs.size:=by rw [z1];exact Nat.ne_of_lt (Nat.lt_succ_of_lt hlS)
   have nS:s.heap.objs.size ∉ [(s.heap.push (fset (!byT w))).objs.size,l]:=by
    rw [z1];simp only [List.mem_cons,List.not_mem_nil,or_false,not_or]
    exact ⟨Nat.ne_of_lt (Nat.lt_succ_self _),Nat.ne_of_gt hlS⟩
   have hval:∀ (i:Nat) (v:Value),items[i]? = some v→∃ t,v = .int ((fun i=>ns.getD i 0) i) t:=fun i v hv=>IntsAre.int_at hi i v (by rw [Array.getElem?_toList];exact hv)
   refine fill_loop (L:=!byT w) ((Walks.list hh3 _ l neI items).toS) (S:=s.heap.objs.size) nS (fun i=>ns.getD i 0) hval hb (items.size - 0) 0 _ (by omega) (Nat.zero_le _) ⟨⟨_,Heap.get?_push_size _ rfl,rfl,rfl⟩,hl1.push _⟩ ?iS ?fin
   case iS=>exact ⟨fset (!byT w),#[],0,_,[],Heap.get?_push_of_some _ gS,⟨rfl,rfl,rfl⟩,rfl,rfl,.refl _,rfl,fresh_good _,rfl⟩
   case fin=>
    intro s' hm hS'
    obtain ⟨h',g',d',tk',os'⟩:=s'
    have eg:g'=s.gens:=hm.gens
    have ed:d'=s.drawn:=hm.drawn
    have eo:os'=s.os:=hm.os
    subst eg ed eo
    refine wpAny_pure (wpAny_pure ⟨rfl,h',tk',rfl,hS',fun b o e=>?_⟩)
    have hb':b < s.heap.objs.size:=Heap.lt_size e
    refine hm.heap b o (fun z=>?_) (Heap.get?_push_of_some _ (Heap.get?_push_of_some _ e))
    simp only [List.mem_cons,List.not_mem_nil,or_false] at z
    rcases z with z | z
    ·exact Nat.lt_irrefl _ (z ▸ hb')
    ·rw [z1] at z;exact Nat.lt_irrefl _ (Nat.lt_succ_of_lt (z ▸ hb'))
  ·match r₂,hr₂ with
   | .ok (.ret r),hr₂=>
    obtain ⟨rfl,h',tk,rfl,hS',hk'⟩:=hr₂
    repeat (any_goals (first | assumption | wp_step))
    exact h _ _ hS' hk'
   | .ok .next,hr₂=>exact hr₂.elim
   | .ok .brk,hr₂=>exact hr₂.elim
   | .ok .cont,hr₂=>exact hr₂.elim
   | .error e,hr₂=>exact hr₂
 | .ok .next,hr=>exact hr.elim
 | .ok .brk,hr=>exact hr.elim
 | .ok .cont,hr=>exact hr.elim
 | .error e,hr=>exact hr
end
end ST
section
local macro_rules | `(tactic| omega)=>`(tactic| lia)
namespace L2
open PySem PySem.Spec PyProof.Rows
section
variable {X:Cx}{S M:Av}{H0 H:Hp}{δ:List (Option D)}{σ:St}{a b e:Expr}{es:List Expr}{pos p p2 p3 p4:Pos}{d:D}{ds:List D}{i j:Int}
theorem de_up {H':Hp} (h:DE X S σ H e d) (s:Same H H'):DE X S σ H' e d:=h.mono fun σ' H'' Q ⟨e1,sm,sb,k⟩=>⟨e1,s.trans sm,sb,k⟩
theorem items_ints {f:Nat→Int}{acc:Array Value}{n:Nat} (h:ItemsOf (fun i v=>∃ t,v = .int (f i) t) acc n):IntsAre acc.toList ((List.range n).map f):=by
 have hv:∀ v∈acc.toList,∃ k t,v=Value.int k t:=fun v hv=>by
  obtain ⟨i,hi⟩:=List.getElem?_of_mem hv
  obtain ⟨t,e⟩:=h.2 i v (by rw [← Array.getElem?_toList];exact hi)
  exact ⟨_,t,e⟩
 have e:acc.toList.map ST.kOf=(List.range n).map f:=by
  apply List.ext_getElem?
  intro i
  rw [List.getElem?_map,List.getElem?_map]
  by_cases hi:i < n
  ·have g:acc.toList[i]? = some (acc[i]'(by rw [h.1];exact hi)):=by rw [Array.getElem?_toList];simp [h.1,hi]
   obtain ⟨t,e⟩:=h.2 i _ (by rw [← Array.getElem?_toList];exact g)
   rw [g,List.getElem?_range hi,Option.map_some,Option.map_some,e];rfl
  ·rw [List.getElem?_eq_none (by rw [Array.length_toList,h.1];omega),List.getElem?_eq_none (by rw [List.length_range];omega)];rfl
 rw [← e]
 exact ST.ints_all hv
theorem de_listrange (ha:DE X S σ H a (.int j)) (h0:0≤j) (h1:j≤1000) (hc:autoParam (X.calm=true) au3._auto_1) (hl:X.mg "list" = none) (hr:X.mg "range" = none) (gl:autoParam (Gl X "list") au3._auto_1) (gr:autoParam (Gl X "range") au3._auto_1)
  (hs:autoParam (starEach [a] X.env=[(false,eval a X.env)]) au3._auto_1) (hsa:autoParam (starEach [a] X.env=(false,eval a X.env)::starEach [] X.env) au3._auto_1)
  (hs2:autoParam (starEach [.Call (.Name "range" p2) [a] [] p3] X.env=[(false,eval (.Call (.Name "range" p2) [a] [] p3) X.env)]) au3._auto_1):DE X S σ H (.Call (.Name "list" p) [.Call (.Name "range" p2) [a] [] p3] [] p4) (dInts ((List.range j.toNat).map fun (k:Nat)=>(k:Int))):=by
 intro pins s σ' H' Q I ⟨e1,sm,sb,k⟩
 have bl:bootBuiltins "list" = some (.type "list"):=by decide +kernel
 refine wpAny_Call_Name_kw (ld_blt I gl hl bl ?_ (by decide) (by decide))
 refine PyProof.Rows.callWith_type1 ?_ hs2 rfl
 rw [hs2]
 show wpAny _ _ (spliced ((false,eval (.Call (.Name "range" p2) [a] [] p3) X.env)::backTo p4 [])) _ _ s
 refine Calls.spliced_cons (Call_ (ld_blt I gr hr boot_range (PyProof.Rows.callWith_type1 (thn ((da_cons ha da_nil hsa) p3 pins s σ' H' _ I ⟨e1,sm,sb,fun vs H1 s1 r1=>(show (fun (vs:List V) (H1:Hp)=>vs=[.int j]∧Same H' H1) vs H1 from ⟨by obtain ⟨v,rfl,rv⟩:=reps_1 r1;simp only [Rep] at rv;rw [rv],s1⟩)⟩) fun us s1 ⟨vs,H1,I1,r1,e2,sm1⟩=>?_) hs rfl)))
 subst e2
 obtain ⟨u,rfl,t,rfl⟩:=vals1 r1
 refine call_range_1 (Calls.spliced_nil ?_)
 have hr':IsRange (s1.heap.push { cls:=.type "range",data:=.fields #[.int 0 s1.toks,.int j t,.int 1 (s1.toks + 1)] }) s1.heap.objs.size 0 j 1 s1.toks t (s1.toks + 1):=IsRange.new ..
 refine call_list_range (n:=j.toNat) (I1.ok.hd hc) hr' (small_one (by omega) (by omega) (by omega) (by omega)) (by rw [rangeSize_one];split <;> omega) (by omega) fun h' tk acc c' kp gS ia=>?_
 have I2:Inv X pins σ' H1 { s1 with heap:=s1.heap.push { cls:=.type "range",data:=.fields #[.int 0 s1.toks,.int j t,.int 1 (s1.toks + 1)] },toks:=s1.toks + 1 + 1 }:=I1.kept fun b o e=>Heap.get?_push_of_some _ e
 have hz:((List.range j.toNat).map fun (k:Nat)=>(k:Int)).length≤1000:=by rw [List.length_map,List.length_range];omega
 have ii:IntsAre acc.toList ((List.range j.toNat).map fun (k:Nat)=>(k:Int)):=by
  refine items_ints ⟨ia.1,fun n v hv=>?_⟩
  obtain ⟨t,e⟩:=ia.2 n v hv
  exact ⟨t,by rw [e];congr 1;omega⟩
 have I3:=I2.laid (t':=tk) (a:=_) (o:=.lst (((List.range j.toNat).map fun (k:Nat)=>(k:Int)).map V.int)) kp (Nat.le_refl _) (show ObjOk X.prog X.w _ h' _ (.lst _) from ⟨by rw [List.length_map];exact small_line hz,acc.toList,c',vals_ints ii,by rw [Array.toArray_toList];exact gS⟩)
 have fr:=I2.fresh
 refine ⟨.ref _,_,I3,rfl,k _ _ (sm1.trans (same_new fr _)) ?_⟩
 exact rep_lst (((sb.up sm1)).new fr) upd_same (reps_ints.mpr rfl)
theorem reps_bls {K:PySem.W.Frag}{S:Av}{H:Hp}:∀ {bs:List Bool}{xs:List V},Reps K S H (bs.map D.bl) xs↔xs=bs.map V.bl
 | [],_=>by simp only [List.map_nil,Reps]
 | n::ns,xs=>by
  simp only [List.map_cons,Reps,Rep]
  constructor
  ·rintro ⟨x,r,rfl,rfl,h⟩
   rw [reps_bls.mp h]
  ·intro h
   exact ⟨.bl n,ns.map V.bl,h,rfl,reps_bls.mpr rfl⟩
noncomputable def uniq (ns:List Int):List Int:=ns.foldl ST.addK []
theorem met_uniq (ns:List Int):ST.met (fun i=>ns.getD i 0) ns.length=uniq ns:=by
 unfold ST.met uniq
 congr 1
 apply List.ext_getElem?
 intro i
 rw [List.getElem?_map]
 by_cases hi:i < ns.length
 ·rw [List.getElem?_range hi,List.getElem?_eq_getElem hi];simp [List.getD_eq_getElem?_getD,hi]
 ·rw [List.getElem?_eq_none (by rw [List.length_range];omega),List.getElem?_eq_none (by omega)];rfl
theorem uniq_mem (ns:List Int) (k:Int):k∈uniq ns↔k∈ns:=by
 have:∀ (ns acc:List Int),k∈ns.foldl ST.addK acc↔k∈acc∨k∈ns:=by
  intro ns
  induction ns with
  | nil=>intro acc;simp
  | cons n ns ih=>
   intro acc
   rw [List.foldl_cons,ih]
   have:k∈ST.addK acc n↔k∈acc∨k=n:=by
    unfold ST.addK
    split
    ·rename_i h;constructor
     ·exact .inl
     ·rintro (z | z)
      ·exact z
      ·rw [z];exact h
    ·rw [List.mem_append,List.mem_singleton]
   rw [this,List.mem_cons,or_assoc]
 unfold uniq
 rw [this];simp
theorem uniq_nodup (ns:List Int):(uniq ns).Nodup:=by
 have:∀ (ns acc:List Int),acc.Nodup→(ns.foldl ST.addK acc).Nodup:=by
  intro ns
  induction ns with
  | nil=>exact fun acc h=>h
  | cons n ns ih=>
   intro acc h
   rw [List.foldl_cons]
   refine ih _ ?_
   unfold ST.addK
   split
   ·exact h
   ·rename_i q
    rw [List.nodup_append]
    exact ⟨h,by simp,fun a ha b hb e=>q (by simp at hb;rw [← hb,← e];exact ha)⟩
 exact this ns [] List.nodup_nil
theorem ev_set {pins:List (Addr × Obj)}{s:Shared}{Q:Value→Shared→Prop}{ns:List Int} (hc:X.calm=true) (hm:X.mg "set" = none) (gs:Gl X "set") (hs:starEach [e] X.env=[(false,eval e X.env)]) (hsa:starEach [e] X.env=(false,eval e X.env)::starEach [] X.env)
  (he:DE X S σ H e (dInts ns)) (hz:ns.length≤900) (I:Inv X pins σ H s) (sb:Sub S H)
  (k:∀ (q:Addr) (s1:Shared) (H1:Hp),Inv X pins σ H1 s1→Same H H1→ST.IS s1.heap q (!ST.byT X.w) (uniq ns)→Q (.ref q) s1):wpAny (model X.prog X.w) X.A (eval (.Call (.Name "set" p2) [e] [] p3) X.env) Q X.xe s:=by
 have bs:bootBuiltins "set" = some (.type "set"):=by decide +kernel
 refine Call_ (ld_blt I gs hm bs (PyProof.Rows.callWith_type1 (thn ((da_cons he da_nil hsa) p3 pins s σ H _ I ⟨rfl,Same.refl _,sb,fun vs H1 s1 r1=>(show (fun (vs:List V) (H1:Hp)=>Same H H1∧∃ a,vs=[.ref a]∧SqL X.K H1 a (ns.map V.int)) vs H1 from ⟨s1,?_⟩)⟩) fun us s1 ⟨vs,H1,I1,r1,sm1,a,e2,sq⟩=>?_) hs rfl))
 ·obtain ⟨v,rfl,rv⟩:=reps_1 r1
  obtain ⟨q,ys,rfl,h1,h2⟩:=rep_seq rv
  rw [reps_ints.mp h2] at h1
  exact ⟨q,rfl,h1.sq⟩
 ·subst e2
  obtain ⟨u,rfl,ru⟩:=vals1 r1
  cases ru
  obtain ⟨its,rv,pl,hz'⟩:=I1.list sq
  have ii:=intsAre_of rv
  have hl:its.length=ns.length:=by have:=rv.length;rw [List.length_map] at this;exact this.symm
  refine ST.call_set (items:=its.toArray) (ns:=ns) (I1.ok.hd hc) pl.isList (by simpa using ii) (by rw [List.size_toArray,hl];show ns.length + 1 < 4096;omega) fun h' tk iS kp=>?_
  have e3:its.toArray.size=ns.length:=by rw [List.size_toArray,hl]
  rw [e3,met_uniq] at iS
  exact k _ _ H1 (I1.kept kp) sm1 iS
theorem de_lenset {ns:List Int} (he:DE X S σ H e (dInts ns)) (hz:ns.length≤900) (ml:X.mg "len" = none) (hm:X.mg "set" = none) (hc:autoParam (X.calm=true) au3._auto_1) (gs:autoParam (Gl X "set") au3._auto_1) (gl:autoParam (Gl X "len") au3._auto_1)
  (hs:autoParam (starEach [e] X.env=[(false,eval e X.env)]) au3._auto_1) (hsa:autoParam (starEach [e] X.env=(false,eval e X.env)::starEach [] X.env) au3._auto_1)
  (hs2:autoParam (starEach [.Call (.Name "set" p2) [e] [] p3] X.env=[(false,eval (.Call (.Name "set" p2) [e] [] p3) X.env)]) au3._auto_1):DE X S σ H (.Call (.Name "len" p) [.Call (.Name "set" p2) [e] [] p3] [] p4) (.int (uniq ns).length):=by
 rintro pins s σ' H' Q I ⟨rfl,sm,sb,k⟩
 refine wpAny_Call_Name_kw (ld_blt I gl ml PySem.boot_len ?_ (by decide) (by decide))
 refine PyProof.Rows.callWith_builtin1 ?_ hs2 rfl
 rw [hs2]
 show wpAny _ _ (spliced ((false,eval (.Call (.Name "set" p2) [e] [] p3) X.env)::backTo p4 [])) _ _ s
 refine Calls.spliced_cons (ev_set hc hm gs hs hsa (de_up he sm) hz I sb fun q s1 H1 I1 sm1 iS=>Calls.spliced_nil ?_)
 obtain ⟨o,es,ep,t,k1,ho,hx,hd,el,pp,hf,g,hl⟩:=iS
 have hes:es.size=(uniq ns).length:=by rw [← Array.length_toList,el.len,pp.length_eq]
 have hle:(uniq ns).length≤ns.length:=by rw [← met_uniq];exact ST.met_len _ _
 refine call_len_set ho hx hd hf (by omega) ?_
 refine ⟨.int es.size,H1,I1.tok _,⟨_,rfl⟩,k _ H1 sm1 ?_⟩
 simp only [Rep,hes]
end
end L2
namespace L2
open PySem PySem.Spec PyProof.Rows
section
variable {P:Program}{w:World}{K:PySem.W.Frag}{mg:Str→Option Value}{base:Heap}
noncomputable abbrev Fx (P:Program) (w:World) (K:PySem.W.Frag) (mg:Str→Option Value) (base:Heap) (N:List Str) (x:Str) (st:Stmt) (f:Addr) (cdv:Value) (A:Around) (outer:List Env) (s:Shared) (H:Hp) (E:XK):Cx:=(cxOf CX0 P w K mg base N x (defScope st) f cdv A outer s H E).nox
theorem fn_ok {x:Str}{st:Stmt}{f:Addr}{fd:FuncData}{N ps:List Str}{k:Nat}{R:List D→D→Prop} (F:Fun K x x st f fd) (sc:FnScope N ps (defScope st)) (hl:∀ ds d,R ds d→ds.length=ps.length) (hle:ps.length≤N.length)
  (h:∀ (cdv:Value) (A:Around) (outer:List Env) (s:Shared) (H:Hp) (E:XK) (S:Av) (ds:List D) (d:D) (Q:VK) (σ:St),Room k (A.deeper (envOfC x (defScope st) s.heap.objs.size f cdv))→R ds d →
   (∀ v H',Same H H'→Rep K S H' d v→Q v H')→At (Fx P w K mg base N x st f cdv A outer s H E) S no H (ds.map some++List.replicate (N.length - ds.length) none) σ H →
   DSs (Fx P w K mg base N x st f cdv A outer s H E) (defBody st) { nx:=fun _ H'=>Q .non H',rt:=Q } σ H):FnOk P w K mg base CX0 (k + 1) f fd ps (spR K R):=by
 refine F.ok sc (spR.len hl) (fun cdv A outer s H vs Q E hr h'=>?_)
 obtain ⟨S,ds,d,sb,r,hR,q⟩:=h'
 refine ⟨_,pss_of,?_⟩
 exact h cdv A outer s H E S ds d Q _ hr hR q (at_start sb r (by rw [hl ds d hR];exact hle))
theorem cal_of {x:Str}{st:Stmt}{f:Addr}{fd:FuncData}{ps:List Str}{k:Nat}{R:List D→D→Prop} (F:Fun K x x st f fd) (G:FnOk P w K mg base CX0 k f fd ps (spR K R)) (m:mg x=some (.ref f))
  (b:∀ (kV doc pm:Value) (an:Option Addr) (cdv ct:Value) (us:List Value),us.length=ps.length→bindArgs (PySem.W.fnOf x x (defArgs st) (defBody st) (defScope st) .none kV doc pm an cdv ct) ⟨us,[]⟩=pure (ps.zip us)):Cal P w K mg base x k ps R:=
 ⟨f,fd,G,F.binds b,F.kp,m⟩
end
section
variable {X:Cx}{S M:Av}{H0 H:Hp}{δ:List (Option D)}{σ:St}{a b e:Expr}{es:List Expr}{pos p p2 p3 p4:Pos}{d d':D}{ds:List D}{i j:Int}{E:Ends}{rest:List Stmt}
theorem st_retD (A:At X S no H0 δ σ H) (q:∀ v H',Same H0 H'→Rep X.K S H' d v→E.rt v H') (he:DE X S σ H e d):DSs X (.Return (some e) pos::rest) E σ H:=st_ret A he fun v H' s r=>q v H' (A.same.same.trans s) r
theorem st_call (A:At X S M H0 δ σ H) (he:DE X S σ H e d) (k:∀ H',At X S M H0 δ σ H'→DSs X rest E σ H') (hs:autoParam (swapsWith e none pos.line X.env=pure false) au3._auto_1):DSs X (.Expr e pos::rest) E σ H:=st_expr A he k hs
theorem de_len (ml:X.mg "len" = none) (ha:DE X S σ H a (.lst ds)) (hg:autoParam (Gl X "len") au3._auto_1) (hs:autoParam (starEach [a] X.env=(false,eval a X.env)::starEach [] X.env) au3._auto_1):DE X S σ H (.Call (.Name "len" p) [a] [] pos) (.int ds.length):=
 de_cb good_len (pe_callB call_len_seq hg ml PySem.boot_len (da_cons ha da_nil hs) (he:=hs))
theorem de_sum {ns:List Int} (ms:X.mg "sum" = none) (ha:DE X S σ H a (dInts ns)) (hc:autoParam (X.calm=true) au3._auto_1) (hg:autoParam (Gl X "sum") au3._auto_1) (hs:autoParam (starEach [a] X.env=(false,eval a X.env)::starEach [] X.env) au3._auto_1):DE X S σ H (.Call (.Name "sum" p) [a] [] pos) (.int ns.sum):=
 de_cb good_sum (pe_callB (call_sum hc) hg ms PyProof.Rows.boot_sum (da_cons ha da_nil hs) (he:=hs))
theorem de_list (ms:X.mg "list" = none) (ha:DE X S σ H a (.lst ds)) (hg:autoParam (Gl X "list") au3._auto_1) (hs:autoParam (starEach [a] X.env=(false,eval a X.env)::starEach [] X.env) au3._auto_1):DE X S σ H (.Call (.Name "list" p) [a] [] pos) (.lst ds):=
 de_cb good_list (pe_callTy call_list_of hg ms (by decide +kernel) (da_cons ha da_nil hs) (he:=hs))
end
end L2
theorem au11 (h:True:=by kernel_rfl):True:=h
namespace L2
open PySem PySem.Spec PyProof.Rows
noncomputable def nodupB:List Str→Bool
 | []=>true
 | x::xs=>!decide (x∈xs) && nodupB xs
theorem nodup_of:∀ {l:List Str},nodupB l=true→l.Nodup
 | [],_=>List.nodup_nil
 | x::xs,h=>by
  rw [nodupB,Bool.and_eq_true,Bool.not_eq_true',decide_eq_false_iff_not] at h
  exact List.nodup_cons.mpr ⟨h.1,nodup_of h.2⟩
section
variable {α:Type}{enc:α→D}{xs:List α}
open Classical in
noncomputable def dec (enc:α→D) (xs:List α) (d:D):Option α:=xs.find? fun x=>decide (enc x=d)
theorem dec_enc (inj:∀ x∈xs,∀ y∈xs,enc x=enc y→x=y) {a:α} (h:a∈xs):dec enc xs (enc a)=some a:=by
 classical
 unfold dec
 cases q:xs.find? (fun x=>decide (enc x=enc a)) with
 | none=>
  have:=List.find?_eq_none.mp q a h
  simp at this
 | some b=>
  have h1:=List.find?_some q
  have h2:=List.mem_of_find?_eq_some q
  rw [inj b h2 a h (of_decide_eq_true h1)]
noncomputable def decP (enc:α→D) (xs:List α) (p:α→Bool) (d:D):Bool:=match dec enc xs d with
 | some a=>p a
 | none=>false
noncomputable def decF (enc:α→D) (xs:List α) (f:α→D) (d:D):D:=match dec enc xs d with
 | some a=>f a
 | none=>.non
theorem dec_map (inj:∀ x∈xs,∀ y∈xs,enc x=enc y→x=y) (p:α→Bool) (f:α→D):((xs.map enc).filter (decP enc xs p)).map (decF enc xs f)=(xs.filter p).map f:=by
 rw [List.filter_map,List.map_map]
 have e:xs.filter (decP enc xs p ∘ enc)=xs.filter p:=List.filter_congr fun a ha=>by show decP enc xs p (enc a)=p a;unfold decP;rw [dec_enc inj ha]
 rw [e]
 exact List.map_congr_left fun a ha=>by show decF enc xs f (enc a)=f a;unfold decF;rw [dec_enc inj ((List.mem_filter.mp ha).1)]
end
section
variable {X:Cx}{S M:Av}{H0 H:Hp}{δ:List (Option D)}{σ:St}{scope:Scope}{iter elt:Expr}{ifs:List Expr}{x:Str}{px pos:Pos}{α:Type}{enc:α→D}{xs:List α}
noncomputable def LcEl (X:Cx) (scope:Scope) (x:Str) (δ:List (Option D)) (enc:α→D) (xs:List α) (ifs:List Expr) (elt:Expr) (p:α→Bool) (f:α→D):Prop:=
 ∀ (S':Av) (σ2:St) (H':Hp) (a:α),a∈xs→∀ C fp s₀ H₀ pins,At (X.blk scope (x::X.N) C fp s₀ H₀ pins) S' no H' (some (enc a)::δ) σ2 H' →
  PIfs (X.blk scope (x::X.N) C fp s₀ H₀ pins) ifs (tDT S' σ2 H' (p a))∧(p a=true→DE (X.blk scope (x::X.N) C fp s₀ H₀ pins) S' σ2 H' elt (f a))
theorem LcEl.raw (inj:∀ x∈xs,∀ y∈xs,enc x=enc y→x=y) {p:α→Bool}{f:α→D} (h:LcEl X scope x δ enc xs ifs elt p f):∀ (S':Av) (σ2:St) (H':Hp) (i:Nat) (d:D),(xs.map enc)[i]? = some d→(∀ C fp s₀ H₀ pins,At (X.blk scope (x::X.N) C fp s₀ H₀ pins) S' no H' (some d::δ) σ2 H') →
   (∀ C fp s₀ H₀ pins,PIfs (X.blk scope (x::X.N) C fp s₀ H₀ pins) ifs (tDT S' σ2 H' (decP enc xs p d)))∧(decP enc xs p d=true→∀ C fp s₀ H₀ pins,DE (X.blk scope (x::X.N) C fp s₀ H₀ pins) S' σ2 H' elt (decF enc xs f d)):=by
 intro S' σ2 H' i d hd A8
 rw [List.getElem?_map] at hd
 cases q:xs[i]? with
 | none=>rw [q] at hd;cases hd
 | some a=>
  rw [q] at hd
  have ha:a∈xs:=List.mem_of_getElem? q
  have e:d=enc a:=by simpa using hd.symm
  subst e
  have e1:decP enc xs p (enc a)=p a:=by unfold decP;rw [dec_enc inj ha]
  have e2:decF enc xs f (enc a)=f a:=by unfold decF;rw [dec_enc inj ha]
  rw [e1,e2]
  exact ⟨fun C fp s₀ H₀ pins=>(h S' σ2 H' a ha C fp s₀ H₀ pins (A8 C fp s₀ H₀ pins)).1,fun hp C fp s₀ H₀ pins=>(h S' σ2 H' a ha C fp s₀ H₀ pins (A8 C fp s₀ H₀ pins)).2 hp⟩
theorem de_lcE (A:At X S M H0 δ σ H) (p:α→Bool) (f:α→D) (hI:DI X S σ H (.Name x px) iter (xs.map enc)) (inj:∀ x∈xs,∀ y∈xs,enc x=enc y→x=y) (hn:xs.length≤1000) (hel:LcEl X scope x δ enc xs ifs elt p f)
  (B:autoParam (blkOk X.env.scope scope X.N (x::X.N) 1=true) au11._auto_1) (hN:autoParam (nodupB (x::X.N)=true) au11._auto_1) (hx:autoParam (scope.names.lookup x=some .local) au3._auto_1) (hc:autoParam (X.calm=true) au3._auto_1) (hs:autoParam (∀ x,foldedSetIterable iter X.env x=pure x) au2._auto_1) :
  DE X S σ H (.ListComp elt [⟨.Name x px,iter,ifs,0⟩] scope pos) (.lst ((xs.filter p).map f)):=by
 have:=de_lc (N':=x::X.N) (pos:=pos) A (decP enc xs p) (decF enc xs f) hI (by rw [List.length_map];exact hn) (LcEl.raw inj hel) (blk_of B) (nodup_of hN) rfl hx hc hs
 rw [dec_map inj] at this
 exact this
theorem st_lcE {E:Ends}{rest:List Stmt}{y:Str}{pos' pos2:Pos} (A:At X S M H0 δ σ H) (j:Nat) (p:α→Bool) (f:α→D) (hI:DI X S σ H (.Name x px) iter (xs.map enc)) (inj:∀ x∈xs,∀ y∈xs,enc x=enc y→x=y) (hn:xs.length≤1000) (hel:LcEl X scope x δ enc xs ifs elt p f)
  (k:∀ σ' H',At X S M H0 (δ.set j (some (.lst ((xs.filter p).map f)))) σ' H'→DSs X rest E σ' H') (hNX:X.N.Nodup)
  (B:autoParam (blkOk X.env.scope scope X.N (x::X.N) 1=true) au11._auto_1) (hN:autoParam (nodupB (x::X.N)=true) au11._auto_1) (hj:autoParam (X.N[j]? = some y) au3._auto_1) (hy:autoParam (X.env.scope.names.lookup y=some .local) au3._auto_1) (hx:autoParam (scope.names.lookup x=some .local) au3._auto_1) (hc:autoParam (X.calm=true) au3._auto_1)
  (hsw:autoParam (swapsWith (.ListComp elt [⟨.Name x px,iter,ifs,0⟩] scope pos) (some (.Name y pos')) pos2.line X.env=pure true) au3._auto_1) (hs:autoParam (∀ x,foldedSetIterable iter X.env x=pure x) au2._auto_1) :
  DSs X (.Assign [.Name y pos'] (.ListComp elt [⟨.Name x px,iter,ifs,0⟩] scope pos) pos2::rest) E σ H:=by
 refine st_lc (N':=x::X.N) A j (decP enc xs p) (decF enc xs f) hI (by rw [List.length_map];exact hn) (LcEl.raw inj hel) (fun σ' H' A'=>k σ' H' ?_) (blk_of B) (nodup_of hN) hNX hj hy rfl hx hc hsw hs
 rw [dec_map inj] at A'
 exact A'
theorem lc_all {xs:List α}:xs.filter (fun _=>true)=xs:=List.filter_eq_self.mpr fun _ _=>rfl
theorem LcEl.of {f:α→D} (h:∀ (S':Av) (σ2:St) (H':Hp) (a:α),a∈xs→∀ C fp s₀ H₀ pins,At (X.blk scope (x::X.N) C fp s₀ H₀ pins) S' no H' (some (enc a)::δ) σ2 H'→DE (X.blk scope (x::X.N) C fp s₀ H₀ pins) S' σ2 H' elt (f a)):LcEl X scope x δ enc xs [] elt (fun _=>true) f:=
 fun S' σ2 H' a ha C fp s₀ H₀ pins A8=>⟨ifs_nil,fun _=>h S' σ2 H' a ha C fp s₀ H₀ pins A8⟩
theorem LcEl.test {c:Expr}{p:α→Bool}{f:α→D} (h:∀ (S':Av) (σ2:St) (H':Hp) (a:α),a∈xs→∀ C fp s₀ H₀ pins,At (X.blk scope (x::X.N) C fp s₀ H₀ pins) S' no H' (some (enc a)::δ) σ2 H'→DT (X.blk scope (x::X.N) C fp s₀ H₀ pins) S' σ2 H' c (p a)∧(p a=true→DE (X.blk scope (x::X.N) C fp s₀ H₀ pins) S' σ2 H' elt (f a))):LcEl X scope x δ enc xs [c] elt p f:=
 fun S' σ2 H' a ha C fp s₀ H₀ pins A8=>⟨ifs_one (h S' σ2 H' a ha C fp s₀ H₀ pins A8).1,(h S' σ2 H' a ha C fp s₀ H₀ pins A8).2⟩
theorem de_lcM (A:At X S M H0 δ σ H) (f:α→D) (hI:DI X S σ H (.Name x px) iter (xs.map enc)) (inj:∀ x∈xs,∀ y∈xs,enc x=enc y→x=y) (hn:xs.length≤1000)
  (hel:∀ (S':Av) (σ2:St) (H':Hp) (a:α),a∈xs→∀ C fp s₀ H₀ pins,At (X.blk scope (x::X.N) C fp s₀ H₀ pins) S' no H' (some (enc a)::δ) σ2 H'→DE (X.blk scope (x::X.N) C fp s₀ H₀ pins) S' σ2 H' elt (f a))
  (B:autoParam (blkOk X.env.scope scope X.N (x::X.N) 1=true) au11._auto_1) (hN:autoParam (nodupB (x::X.N)=true) au11._auto_1) (hx:autoParam (scope.names.lookup x=some .local) au3._auto_1) (hc:autoParam (X.calm=true) au3._auto_1) (hs:autoParam (∀ x,foldedSetIterable iter X.env x=pure x) au2._auto_1) :
  DE X S σ H (.ListComp elt [⟨.Name x px,iter,[],0⟩] scope pos) (.lst (xs.map f)):=by
 have:=de_lcE (pos:=pos) A (fun _=>true) f hI inj hn (LcEl.of hel) B hN hx hc hs
 rw [lc_all] at this
 exact this
theorem st_lcM {E:Ends}{rest:List Stmt}{y:Str}{pos' pos2:Pos} (A:At X S M H0 δ σ H) (j:Nat) (f:α→D) (hI:DI X S σ H (.Name x px) iter (xs.map enc)) (inj:∀ x∈xs,∀ y∈xs,enc x=enc y→x=y) (hn:xs.length≤1000)
  (hel:∀ (S':Av) (σ2:St) (H':Hp) (a:α),a∈xs→∀ C fp s₀ H₀ pins,At (X.blk scope (x::X.N) C fp s₀ H₀ pins) S' no H' (some (enc a)::δ) σ2 H'→DE (X.blk scope (x::X.N) C fp s₀ H₀ pins) S' σ2 H' elt (f a))
  (k:∀ σ' H',At X S M H0 (δ.set j (some (.lst (xs.map f)))) σ' H'→DSs X rest E σ' H') (hNX:X.N.Nodup)
  (B:autoParam (blkOk X.env.scope scope X.N (x::X.N) 1=true) au11._auto_1) (hN:autoParam (nodupB (x::X.N)=true) au11._auto_1) (hj:autoParam (X.N[j]? = some y) au3._auto_1) (hy:autoParam (X.env.scope.names.lookup y=some .local) au3._auto_1) (hx:autoParam (scope.names.lookup x=some .local) au3._auto_1) (hc:autoParam (X.calm=true) au3._auto_1)
  (hsw:autoParam (swapsWith (.ListComp elt [⟨.Name x px,iter,[],0⟩] scope pos) (some (.Name y pos')) pos2.line X.env=pure true) au3._auto_1) (hs:autoParam (∀ x,foldedSetIterable iter X.env x=pure x) au2._auto_1) :
  DSs X (.Assign [.Name y pos'] (.ListComp elt [⟨.Name x px,iter,[],0⟩] scope pos) pos2::rest) E σ H:=by
 refine st_lcE A j (fun _=>true) f hI inj hn (LcEl.of hel) (fun σ' H' A'=>k σ' H' ?_) hNX B hN hj hy hx hc hsw hs
 rw [lc_all] at A'
 exact A'
end
theorem inj_int {xs:List Int}:∀ x∈xs,∀ y∈xs,D.int x=D.int y→x=y:=fun _ _ _ _ e=>by injection e
theorem ints_inj:∀ {a b:List Int},a.map D.int=b.map D.int→a=b
 | [],[],_=>rfl
 | [],_::_,e=>by simp at e
 | _::_,[],e=>by simp at e
 | x::xs,y::ys,e=>by
  rw [List.map_cons,List.map_cons] at e
  injection e with e1 e2
  injection e1 with e1
  rw [e1,ints_inj e2]
theorem inj_set {xs:List (List Int)}:∀ x∈xs,∀ y∈xs,dInts x=dInts y→x=y:=fun _ _ _ _ e=>by injection e with e;exact ints_inj e
end L2
namespace L2
open PySem PySem.Spec PyProof.Rows
noncomputable def spX (K:PySem.W.Frag) (pre:List D→Prop) (R:List D→D→Prop):Sp:=fun vs H Q _=>∃ S ds,Sub S H∧Reps K S H ds vs∧pre ds∧∀ d v H',R ds d→Same H H'→Rep K S H' d v→Q v H'
structure CalX (P:Program) (w:World) (K:PySem.W.Frag) (mg:Str→Option Value) (base:Heap) (nm:Str) (k:Nat) (ps:List Str) (pre:List D→Prop) (R:List D→D→Prop):Prop where
 ex:∃ f fd,FnOk P w K mg base CX0 k f fd ps (spX K pre R)∧Binds K fd ps []∧PySem.W.keepIn K (.ref f)=true∧mg nm=some (.ref f)
section
variable {P:Program}{w:World}{K:PySem.W.Frag}{mg:Str→Option Value}{base:Heap}
theorem fn_okX {x:Str}{st:Stmt}{f:Addr}{fd:FuncData}{N ps:List Str}{k:Nat}{pre:List D→Prop}{R:List D→D→Prop} (F:Fun K x x st f fd) (sc:FnScope N ps (defScope st)) (hl:∀ ds,pre ds→ds.length=ps.length) (hle:ps.length≤N.length)
  (h:∀ (cdv:Value) (A:Around) (outer:List Env) (s:Shared) (H:Hp) (E:XK) (S:Av) (ds:List D) (Q:VK) (σ:St),Room k (A.deeper (envOfC x (defScope st) s.heap.objs.size f cdv))→pre ds →
   (∀ d,R ds d→∀ v H',Same H H'→Rep K S H' d v→Q v H')→At (Fx P w K mg base N x st f cdv A outer s H E) S no H (ds.map some++List.replicate (N.length - ds.length) none) σ H →
   DSs (Fx P w K mg base N x st f cdv A outer s H E) (defBody st) { nx:=fun _ H'=>Q .non H',rt:=Q } σ H):FnOk P w K mg base CX0 (k + 1) f fd ps (spX K pre R):=by
 refine F.ok sc (fun vs H Q E ⟨S,ds,_,r,p,_⟩=>by rw [r.length];exact hl ds p) (fun cdv A outer s H vs Q E hr h'=>?_)
 obtain ⟨S,ds,sb,r,hR,q⟩:=h'
 refine ⟨_,pss_of,?_⟩
 exact h cdv A outer s H E S ds Q _ hr hR (fun d hd v H' s' rv=>q d v H' hd s' rv) (at_start sb r (by rw [hl ds hR];exact hle))
theorem calX_of {x:Str}{st:Stmt}{f:Addr}{fd:FuncData}{ps:List Str}{k:Nat}{pre:List D→Prop}{R:List D→D→Prop} (F:Fun K x x st f fd) (G:FnOk P w K mg base CX0 k f fd ps (spX K pre R)) (m:mg x=some (.ref f))
  (b:∀ (kV doc pm:Value) (an:Option Addr) (cdv ct:Value) (us:List Value),us.length=ps.length→bindArgs (PySem.W.fnOf x x (defArgs st) (defBody st) (defScope st) .none kV doc pm an cdv ct) ⟨us,[]⟩=pure (ps.zip us)):CalX P w K mg base x k ps pre R:=
 ⟨f,fd,G,F.binds b,F.kp,m⟩
end
section
variable {X:Cx}{S M:Av}{H0 H:Hp}{δ:List (Option D)}{σ:St}{a b e:Expr}{es:List Expr}{pos pos' p p2 p3 p4:Pos}{d d':D}{ds:List D}{i j:Int}{E:Ends}{rest:List Stmt}
theorem di_rangeN {tg:Expr}{n:Nat} (hm:X.mg "range" = none) (ha:DE X S σ H a (.int j)) (hj:j=n) (h2:n≤1000) (hg:autoParam (Gl X "range") au3._auto_1)
  (hs:autoParam (starEach [a] X.env=[(false,eval a X.env)]) au3._auto_1) (hsa:autoParam (starEach [a] X.env=(false,eval a X.env)::starEach [] X.env) au3._auto_1):DI X S σ H tg (.Call (.Name "range" p) [a] [] pos) ((List.range n).map fun (k:Nat)=>D.int (k:Int)):=by
 subst hj
 have:=di_range (tg:=tg) (p:=p) (pos:=pos) hm ha (by omega) (by omega) hg hs hsa
 rwa [Int.toNat_natCast] at this
theorem de_orV {k:Bool}{rs:List Expr} (ha:DE X S σ H a (.bl k)) (hb:k=false→DE X S σ H (.BoolOp .Or (b::rs) pos) d) (hd:k=true→d = .bl true):DE X S σ H (.BoolOp .Or (a::b::rs) pos) d:=by
 cases k with
 | false=>
  refine (pe_or ha (hb rfl)).mono fun σ' H' Q ⟨e,sm,sb,q⟩=>⟨e,sm,sb,fun v H1 s1 rv=>⟨false,by simpa only [Rep] using rv,?_⟩⟩
  refine iteF ?_
  exact ⟨e,sm.trans s1,sb.up s1,fun v H2 s2 r2=>q v H2 (s1.trans s2) r2⟩
 | true=>
  refine (pe_or ha pe_none).mono fun σ' H' Q ⟨e,sm,sb,q⟩=>⟨e,sm,sb,fun v H1 s1 rv=>⟨true,by simpa only [Rep] using rv,?_⟩⟩
  refine iteT ?_
  refine q _ H1 s1 ?_
  rw [hd rfl]
  exact rep_bl
noncomputable abbrev plus (S:Av) (L:Addr):Av:=fun a=>S a∨a=L
structure Own (X:Cx) (S:Av) (σ:St) (H:Hp) (i:Nat) (L:Addr) (ds:List D):Prop where
 slot:σ[i]? = some (some (.ref L))
 inS:S L
 lst:∃ xs,H L=some (.lst xs)∧Reps X.K S H ds xs
theorem Own.up {n:Nat}{L:Addr} (O:Own X S σ H n L ds) {H':Hp} (s:Same H H'):Own X S σ H' n L ds:=⟨O.slot,O.inS,let ⟨xs,h,r⟩:=O.lst;⟨xs,s _ _ h,r.up s⟩⟩
theorem Own.set {n m:Nat}{L:Addr} (O:Own X S σ H n L ds) (h:m≠n) (v:Option V):Own X S (σ.set m v) H n L ds:=⟨by rw [List.getElem?_set_ne h];exact O.slot,O.inS,O.lst⟩
theorem st_own {y:Str} (n:Nat) (A:At X S M H0 δ σ H) (hn:δ[n]? = some none) (k:∀ L,H L=none→∀ σ' H',At X (plus S L) (plus M L) H0 δ σ' H'→Own X (plus S L) σ' H' n L []→DSs X rest E σ' H') (hN:X.N.Nodup) (hi:autoParam (X.N[n]? = some y) au3._auto_1) (hx:autoParam (Loc X.env.scope y) au7._auto_1)
  (hs:autoParam (swapsWith (.List [] p) (some (.Name y pos')) pos.line X.env=pure false) au3._auto_1) (hf:autoParam (X.fn y=true∨X.env.scope.names.lookup y=some .local) au8._auto_1):DSs X (.Assign [.Name y pos'] (.List [] p) pos::rest) E σ H:=by
 refine dss_cons (DS.of (ps_set hN hi hx (pe_lst pa_nil) hs hf) ⟨Nat.zero_le _,fun L hL=>?_⟩)
 have ex:Ext S (plus S L) H:=fun a z=>z.elim .inl fun z=>.inr (by rw [z];exact hL)
 have sn:=same_new hL (.lst [])
 have hln:n < δ.length:=(List.getElem?_eq_some_iff.mp hn).1
 refine k L hL _ _ ⟨fun b o nb h=>?_,fun b z hb=>?_,fun b z=>z.imp (A.ms b) id,by rw [List.length_set];exact A.len,fun m d h=>?_⟩ ⟨List.getElem?_set_self (by rw [← A.len];exact hln),.inr rfl,[],upd_same,by simp only [Reps]⟩
 ·rw [upd_ne (fun z=>nb (.inr z))]
  exact A.same b o (fun z=>nb (.inl z)) h
 ·rcases z with z | z
  ·exact A.sub b z (sn.free hb)
  ·rw [z,upd_same] at hb;cases hb
 ·obtain ⟨v,h1,h2⟩:=A.env m d h
  have hmn:n≠m:=fun e=>by rw [e,h] at hn;cases hn
  exact ⟨v,by rw [List.getElem?_set_ne hmn];exact h1,(h2.ext ex).up sn⟩
theorem off_upd {L:Addr}{o:HO} (h:S L):Off S H (upd H L o):=fun b u n q=>by
 rw [upd_ne (fun z:b=L=>n (by rw [z];exact h))];exact q
theorem At.write {L:Addr}{o:HO} (A:At X S M H0 δ σ H) (hL:M L):At X S M H0 δ σ (upd H L o):=
 have of:Off M H (upd H L o):=off_upd hL
 ⟨A.same.trans of,fun b z hb=>by
  by_cases e:b=L
  ·rw [e,upd_same] at hb;cases hb
  ·rw [upd_ne e] at hb;exact A.sub b z hb,A.ms,A.len,fun m d h=>let ⟨v,h1,h2⟩:=A.env m d h;⟨v,h1,h2.off fun b u n h=>of b u (fun z=>n (A.ms b z)) h⟩⟩
theorem st_insert {n q:Nat}{L:Addr}{y:Str}{ap cp:Pos}{e1 e2:Expr} (A:At X S M H0 δ σ H) (O:Own X S σ H n L ds) (hM:M L) (h1:DE X S σ H e1 (.int (q:Int))) (h2:DE X S σ H e2 d) (hq:q≤ds.length) (hz:ds.length < 1000)
  (k:∀ H',At X S M H0 δ σ H'→Own X S σ H' n L (ds.take q++d::ds.drop q)→DSs X rest E σ H') (hN:autoParam (X.N[n]? = some y) au3._auto_1) (hv:autoParam (Vis X.env.scope y) au4._auto_1)
  (hd:autoParam ((y == ("__debug__":Str))=false) au1._auto_1) (hcd:autoParam ((y == ("__classdict__":Str))=false) au1._auto_1) (hb:autoParam (attributeBase (.Name y p) "insert" X.env (eval (.Name y p) X.env)=eval (.Name y p) X.env) au3._auto_1)
  (hfew:autoParam (((backTo cp (starEach [e1,e2] X.env)).all (fun x=>!x.1) && (backToKw cp (keywordEach [] X.env)).all (fun x=>x.1.isSome) && decide ([e1,e2].length + ([]:List Keyword).length + (if ([]:List Keyword).isEmpty then 0 else 1) < 30))=true) au3._auto_1)
  (hline:autoParam ((ap.endLine == cp.line)=true) au3._auto_1) (hs:autoParam (starEach [e1,e2] X.env=(false,eval e1 X.env)::starEach [e2] X.env) au3._auto_1) (hs2:autoParam (starEach [e2] X.env=(false,eval e2 X.env)::starEach [] X.env) au3._auto_1) (hplain:autoParam ((backTo cp (starEach [e2] X.env)).any (·.1)=false) au3._auto_1)
  (hsw:autoParam (swapsWith (.Call (.Attribute (.Name y p) "insert" ap) [e1,e2] [] cp) none pos.line X.env=pure false) au3._auto_1) :
  DSs X (.Expr (.Call (.Attribute (.Name y p) "insert" ap) [e1,e2] [] cp) pos::rest) E σ H:=by
 obtain ⟨xs,hL,rx⟩:=O.lst
 refine dss_cons (DS.of (ps_expr (pe_bm PySem.F.plainAttrs_list PySem.F.slot_list_insert PySem.F.type_list_insert mt_insert (pe_var hN hv hd hcd) (da_cons h1 (da_cons h2 da_nil hs2) hs) hb hfew hline hs hplain) hsw) ?_)
 refine ⟨.ref L,O.slot,.inl ⟨rfl,xs,SqL.of hL⟩,rfl,Same.refl _,A.sub,fun vs H1 s1 r1=>?_⟩
 obtain ⟨v1,v2,rfl,r2,r3⟩:=reps_2 r1
 simp only [Rep] at r2
 have hl:=rx.length
 refine ⟨L,xs,q,v2,rfl,by rw [r2],s1 _ _ hL,by omega,by omega,k _ ((A.up s1).write hM) ⟨O.slot,O.inS,_,upd_same,?_⟩⟩
 have of:Off S H1 (upd H1 L (.lst (xs.take q++v2::xs.drop q))):=off_upd O.inS
 refine Reps.off of ?_
 refine Reps.append ((rx.up s1).take q) ?_
 simp only [Reps]
 exact ⟨v2,_,rfl,r3,(rx.up s1).drop q⟩
theorem st_append {n:Nat}{L:Addr}{y:Str}{ap cp:Pos}{e1:Expr} (A:At X S M H0 δ σ H) (O:Own X S σ H n L ds) (hM:M L) (h1:DE X S σ H e1 d) (hz:ds.length < 1000)
  (k:∀ H',At X S M H0 δ σ H'→Own X S σ H' n L (ds++[d])→DSs X rest E σ H') (hN:autoParam (X.N[n]? = some y) au3._auto_1) (hv:autoParam (Vis X.env.scope y) au4._auto_1)
  (hd:autoParam ((y == ("__debug__":Str))=false) au1._auto_1) (hcd:autoParam ((y == ("__classdict__":Str))=false) au1._auto_1) (hb:autoParam (attributeBase (.Name y p) "append" X.env (eval (.Name y p) X.env)=eval (.Name y p) X.env) au3._auto_1)
  (hfew:autoParam (((backTo cp (starEach [e1] X.env)).all (fun x=>!x.1) && (backToKw cp (keywordEach [] X.env)).all (fun x=>x.1.isSome) && decide ([e1].length + ([]:List Keyword).length + (if ([]:List Keyword).isEmpty then 0 else 1) < 30))=true) au3._auto_1)
  (hline:autoParam ((ap.endLine == cp.line)=true) au3._auto_1) (hs:autoParam (starEach [e1] X.env=(false,eval e1 X.env)::starEach [] X.env) au3._auto_1) (hplain:autoParam ((backTo cp (starEach [] X.env)).any (·.1)=false) au3._auto_1)
  (hsw:autoParam (swapsWith (.Call (.Attribute (.Name y p) "append" ap) [e1] [] cp) none pos.line X.env=pure false) au3._auto_1) :
  DSs X (.Expr (.Call (.Attribute (.Name y p) "append" ap) [e1] [] cp) pos::rest) E σ H:=by
 obtain ⟨xs,hL,rx⟩:=O.lst
 refine dss_cons (DS.of (ps_expr (pe_bm PySem.F.plainAttrs_list PySem.F.slot_list_append PySem.F.type_list_append mt_append (pe_var hN hv hd hcd) (da_cons h1 da_nil hs) hb hfew hline hs hplain) hsw) ?_)
 refine ⟨.ref L,O.slot,.inl ⟨rfl,xs,SqL.of hL⟩,rfl,Same.refl _,A.sub,fun vs H1 s1 r1=>?_⟩
 obtain ⟨v1,rfl,r2⟩:=reps_1 r1
 have hl:=rx.length
 refine ⟨L,xs,v1,rfl,rfl,s1 _ _ hL,by have:=small_line (n:=1000) (Nat.le_refl _);omega,k _ ((A.up s1).write hM) ⟨O.slot,O.inS,_,upd_same,?_⟩⟩
 have of:Off S H1 (upd H1 L (.lst (xs++[v1]))):=off_upd O.inS
 exact Reps.off of ((rx.up s1).append (Reps.one r2))
theorem de_lenO {n:Nat}{L:Addr}{y:Str} (O:Own X S σ H n L ds) (ml:X.mg "len" = none) (hN:autoParam (X.N[n]? = some y) au3._auto_1) (hv:autoParam (Vis X.env.scope y) au4._auto_1)
  (hd:autoParam ((y == ("__debug__":Str))=false) au1._auto_1) (hcd:autoParam ((y == ("__classdict__":Str))=false) au1._auto_1) (hg:autoParam (Gl X "len") au3._auto_1) (hs:autoParam (starEach [.Name y p] X.env=(false,eval (.Name y p) X.env)::starEach [] X.env) au3._auto_1) :
  DE X S σ H (.Call (.Name "len" p2) [.Name y p] [] pos) (.int ds.length):=by
 obtain ⟨xs,hL,rx⟩:=O.lst
 refine (pe_callB call_len_seq hg ml PySem.boot_len (pa_cons (pe_var hN hv hd hcd) pa_nil hs) (he:=hs)).mono ?_
 rintro σ' H' Q ⟨rfl,sm,sb,q⟩
 exact ⟨.ref L,O.slot,L,xs,rfl,.inl (SqL.of (sm _ _ hL)),q _ H' (Same.refl _) (by rw [rx.length];exact rep_int)⟩
theorem At.free {n:Nat}{L:Addr} (A:At X (plus S L) (plus M L) H0 δ σ H) (O:Own X (plus S L) σ H n L ds) (h0:H0 L=none) (ms:∀ a,M a→S a) (hS:¬ S L):At X S M H0 (δ.set n (some (.lst ds))) σ H:=by
 refine ⟨fun b o nb h=>A.same b o (fun z=>z.elim nb fun z=>?_) h,fun b z=>A.sub b (.inl z),ms,by rw [List.length_set];exact A.len,fun m d h=>?_⟩
 ·rw [z,h0] at h;cases h
 ·obtain ⟨xs,hL,rx⟩:=O.lst
  by_cases e:n=m
  ·subst e
   have hl:n < δ.length:=by
    have:=(List.getElem?_eq_some_iff.mp h).1
    rwa [List.length_set] at this
   rw [List.getElem?_set_self hl] at h
   cases h
   exact ⟨_,O.slot,rep_lst hS hL (rx.less fun a z=>.inl z)⟩
  ·rw [List.getElem?_set_ne e] at h
   obtain ⟨v,h1,h2⟩:=A.env m d h
   exact ⟨v,h1,h2.less fun a z=>.inl z⟩
theorem st_forS {tg iter:Expr}{body:List Stmt}{g:TG} (A:At X S M H0 δ σ H) (hI:DI X S σ H tg iter ds) (hg:PG X tg g) (Iv:Hp→Nat→St→Hp→Prop)
  (h0:∀ H1,Same H H1→At X S M H0 δ σ H1→Iv H1 0 σ H1) (hk:∀ H1 i σ' H',Iv H1 i σ' H'→Off S H1 H'∧Sub S H')
  (hs:∀ H1 i d σ' H' H'' v,Same H H1→Iv H1 i σ' H'→ds[i]? = some d→Same H' H''→Rep X.K S H'' d v→g v σ' H'' fun σ2 H2=>DSs X body { E with nx:=Iv H1 (i + 1),ct:=Iv H1 (i + 1),bk:=DSs X rest E } σ2 H2)
  (hd:∀ H1 σ' H',Same H H1→Iv H1 ds.length σ' H'→DSs X rest E σ' H') (hp:autoParam (PassesOwn (model X.prog X.w) X.A X.env X.xe) L2.au9._auto_1) (hc:autoParam (X.calm=true) au3._auto_1) (hf:autoParam (∀ x,foldedSetIterable iter X.env x=pure x) au2._auto_1):DSs X (.For tg iter body [] pos::rest) E σ H:=by
 refine dss_cons (DS.of (ps_for hp hc hI hg pss_of hf) ⟨rfl,Same.refl _,A.sub,fun J H1 s1 it=>?_⟩)
 refine ⟨fun i m σ' H'=>m=ds.length - i∧i≤ds.length∧Iv H1 i σ' H',⟨ds.length,by simp,Nat.zero_le _,h0 H1 s1 (A.up s1)⟩,?_⟩
 rintro i m σ' H' ⟨rfl,hi,iv⟩
 obtain ⟨go,stop⟩:=it S H' i (fun a z=>.inl z) (hk H1 i σ' H' iv).1 (hk H1 i σ' H' iv).2
 by_cases hlt:i < ds.length
 ·obtain ⟨g1,g2⟩:=go hlt
  refine .inr ⟨g1,Iv H1 (i + 1),fun σ2 H2 n2=>⟨ds.length - (i + 1),by omega,rfl,hlt,n2⟩,fun x H'' y=>?_⟩
  obtain ⟨s2,d,hd',r⟩:=g2 x H'' y
  exact hs H1 i d σ' H' H'' x s1 iv hd' s2 r
 ·have e:i=ds.length:=by omega
  subst e
  exact .inl ⟨stop rfl,hd H1 σ' H' s1 iv⟩
theorem pg_two {n m:Nat}{x y:Str}{px py pt:Pos}{k:Nat} (hN:X.N.Nodup) (hn:autoParam (X.N[n]? = some x) au3._auto_1) (hm:autoParam (X.N[m]? = some y) au3._auto_1) (hx:autoParam (Loc X.env.scope x) au7._auto_1) (hy:autoParam (Loc X.env.scope y) au7._auto_1)
  (hfx:autoParam (X.fn x=true∨X.env.scope.names.lookup x=some .local) au8._auto_1) (hfy:autoParam (X.fn y=true∨X.env.scope.names.lookup y=some .local) au8._auto_1) (hc:autoParam (X.calm=true) au3._auto_1)
  (h1:autoParam ((assignEach [.Name x px,.Name y py] X.env).map (·.2)=assign (.Name x px) X.env::(assignEach [.Name y py] X.env).map (·.2)) au3._auto_1) (h2:autoParam ((assignEach [.Name y py] X.env).map (·.2)=assign (.Name y py) X.env::(assignEach [] X.env).map (·.2)) au3._auto_1)
  (h3:autoParam ((assignEach [.Name x px,.Name y py] X.env).length=2) au3._auto_1) (h4:autoParam ((assignEach [.Name x px,.Name y py] X.env).findIdx? (·.1)=none) au3._auto_1) :
  PG X (.Tuple [.Name x px,.Name y py] k pt) (gTup X.K 2 (gCons (gName n) (gCons (gName m) gNil))):=
 pg_tup hc (pgs_cons (pg_name hN hn hx hfx) (pgs_cons (pg_name hN hm hy hfy) pgs_nil h2) h1) h3 h4
theorem two_read {n m:Nat}{d1 d2:D}{v:V}{Q:St→Hp→Prop} (r:Rep X.K S H (.tup [d1,d2]) v) (k:∀ u w,Rep X.K S H d1 u→Rep X.K S H d2 w→Q ((σ.set n (some u)).set m (some w)) H):gTup X.K 2 (gCons (gName n) (gCons (gName m) gNil)) v σ H Q:=by
 obtain ⟨a,ys,rfl,h1,h2⟩:=rep_seqT r
 obtain ⟨u,w,rfl,r1,r2⟩:=reps_2 h2
 exact ⟨a,_,rfl,h1.sq,rfl,u,[w],rfl,w,[],rfl,rfl,k u w r1 r2⟩
theorem DSs.next {sts:List Stmt}{J J':St→Hp→Prop} (h:DSs X sts { E with nx:=J } σ H) (hj:∀ σ' H',J σ' H'→J' σ' H'):DSs X sts { E with nx:=J' } σ H:=fun pins s I=>by
 refine wpAny_mono (h pins s I) (fun fl s' q=>?_) fun _ _ x=>x
 cases fl with
 | next=>
  obtain ⟨σ',H',I',q'⟩:=q
  exact ⟨σ',H',I',hj _ _ q'⟩
 | ret u=>exact q
 | brk=>exact q
 | cont=>exact q
theorem st_ifJ {c:Expr}{k:Bool}{as bs:List Stmt} (J:St→Hp→Prop) (A:At X S M H0 δ σ H) (hc:DT X S σ H c k) (h1:k=true→∀ H',Same H H'→At X S M H0 δ σ H'→DSs X as { E with nx:=J } σ H') (h2:k=false→∀ H',Same H H'→At X S M H0 δ σ H'→DSs X bs { E with nx:=J } σ H')
  (hJ:∀ σ' H',J σ' H'→DSs X rest E σ' H'):DSs X (.If c as bs pos::rest) E σ H:=by
 refine dss_cons (DS.of (ps_if hc pss_of pss_of) ⟨rfl,Same.refl _,A.sub,fun H' s=>?_⟩)
 cases k with
 | true=>exact iteT ((h1 rfl H' s (A.up s)).next hJ)
 | false=>exact iteF ((h2 rfl H' s (A.up s)).next hJ)
theorem st_setO {n m:Nat}{L:Addr}{x:Str} (A:At X S M H0 δ σ H) (O:Own X S σ H n L ds) (he:DE X S σ H e d) (k:∀ σ' H',At X S M H0 (δ.set m (some d)) σ' H'→Own X S σ' H' n L ds→DSs X rest E σ' H') (hmn:m≠n) (hN:X.N.Nodup) (hi:autoParam (X.N[m]? = some x) au3._auto_1) (hx:autoParam (Loc X.env.scope x) au7._auto_1)
  (hs:autoParam (swapsWith e (some (.Name x pos')) pos.line X.env=pure false) au3._auto_1) (hf:autoParam (X.fn x=true∨X.env.scope.names.lookup x=some .local) au8._auto_1):DSs X (.Assign [.Name x pos'] e pos::rest) E σ H:=
 dss_cons (DS.of (ps_set hN hi hx he hs hf) ⟨rfl,Same.refl _,A.sub,fun v H' s r=>k _ H' ((A.up s).set r) ((O.up s).set hmn _)⟩)
end
end L2
namespace ET
open PySem PyProof.Rows
section
variable {prog:Program}{w:World}{A:Around}{E:Value→Shared→Prop}{s:Shared}
theorem next_item {it t:Addr}{i:Nat}{items:Array Value}{x:Value}{Q:Value→Shared→Prop} (hi:s.heap.IsTupleIter it t i) (ht:s.heap.IsTuple t items) (hx:items[i]? = some x)
  (hQ:∀ h',h'.IsTupleIter it t (i + 1)→Heap.SameBut it s.heap h'→Q x { s with heap:=h' }):wpAny (model prog w) A (Builtin.SmallTypes.nextOf (.ref it)) Q E s:=by
 obtain ⟨o,ho,hc,hd⟩:=id hi
 obtain ⟨ot,hot,_,nt,hdt⟩:=ht
 unfold Builtin.SmallTypes.nextOf
 refine wpAny_bind (wpAny_callSpecial?_slot (name:=Str.ofString "__next__") hi.typeIs PySem.F.slot_tuple_iterator_next (wpAny_call_entry PySem.F.slot_tuple_iterator_next hi.typeIs PySem.F.entry_tuple_iterator_next ?_ (PySem.F.args_tuple_iterator_next_1 _)))
 show wpAny _ _ (field (.ref it) 0 >>= _) _ _ s
 refine wpAny_bind (wpAny_field ho hd (x:=.ref t) rfl ?_)
 show wpAny _ _ (if (Value.ref t == Value.none)=true then _ else _) _ _ s
 rw [if_neg (by exact Bool.false_ne_true)]
 show wpAny _ _ (field (.ref it) 1 >>= _) _ _ s
 refine wpAny_bind (wpAny_field ho hd (x:=.int i 0) rfl ?_)
 show wpAny _ _ (seqItems? (.ref t) >>= _) _ _ s
 refine wpAny_bind (wpAny_seqItems hot hdt ?_)
 simp only [Int.toNat_natCast,hx]
 refine wpAny_bind (wpAny_setField ho hd (by simp) (wpAny_pure ⟨x,rfl,wpAny_pure (hQ _ ?_ (Heap.SameBut.update ..))⟩))
 refine ⟨_,Heap.get?_update_self _ ho (Obj.isFreed_of_fields (Obj.data_mapFields hd _)),(Obj.cls_mapFields ..).trans hc,?_⟩
 rw [Obj.data_mapFields hd]
 simp [rawInt]
theorem next_end {it t:Addr}{i:Nat}{items:Array Value}{Q:Value→Shared→Prop} (hh:A.handled=none) (hi:s.heap.IsTupleIter it t i) (ht:s.heap.IsTuple t items) (hx:items[i]? = none)
  (hE:∀ h' e,Heap.ExtBut it s.heap h'→(∃ o,h'.get? e=some o∧o.cls = .type "StopIteration")→E (.ref e) { s with heap:=h' }):wpAny (model prog w) A (Builtin.SmallTypes.nextOf (.ref it)) Q E s:=by
 obtain ⟨o,ho,hc,hd⟩:=id hi
 obtain ⟨ot,hot,_,nt,hdt⟩:=ht
 unfold Builtin.SmallTypes.nextOf
 refine wpAny_bind (wpAny_callSpecial?_slot (name:=Str.ofString "__next__") hi.typeIs PySem.F.slot_tuple_iterator_next (wpAny_call_entry PySem.F.slot_tuple_iterator_next hi.typeIs PySem.F.entry_tuple_iterator_next ?_ (PySem.F.args_tuple_iterator_next_1 _)))
 show wpAny _ _ (field (.ref it) 0 >>= _) _ _ s
 refine wpAny_bind (wpAny_field ho hd (x:=.ref t) rfl ?_)
 show wpAny _ _ (if (Value.ref t == Value.none)=true then _ else _) _ _ s
 rw [if_neg (by exact Bool.false_ne_true)]
 show wpAny _ _ (field (.ref it) 1 >>= _) _ _ s
 refine wpAny_bind (wpAny_field ho hd (x:=.int i 0) rfl ?_)
 show wpAny _ _ (seqItems? (.ref t) >>= _) _ _ s
 refine wpAny_bind (wpAny_seqItems hot hdt ?_)
 simp only [Int.toNat_natCast,hx]
 refine wpAny_bind (wpAny_rule (wpAny_bind (wpAny_setField ho hd (by simp) ?_)))
 refine wpAny_bind (m:=newExc (.type "StopIteration") []) ?_
 simp only [newExc,newTuple]
 refine wpAny_bind (wpAny_newObj_type ?_ (by size_fits))
 refine wpAny_bind (m:=firstArgMember _ _) (wpAny_of_eq (a:=Value.none) (by first | rfl | (simp only [firstArgMember];rfl)) (wpAny_newObj_type ?_ (by size_fits)))
 simp only [raiseNew]
 refine wpAny_bind (wpAny_handled ?_)
 rw [show A.in1.handled=none from hh]
 exact wpAny_bind (wpAny_pure (wpAny_throw (hE _ _ (((Heap.SameBut.update ..).extBut.push _).push _) ⟨_,Heap.get?_push_size _ rfl,rfl⟩)))
theorem draws (hh:A.handled=none) (it t:Addr) (hne:t≠it) (items:Array Value):Draws prog w A it [it,t] items.size (fun i v=>items[i]? = some v) (fun i h=>h.IsTupleIter it t i∧h.IsTuple t items) where
 live:=fun _ _ st=>let ⟨o,ho,_⟩:=st.1;⟨o,ho⟩
 frame:=fun _ _ _ st hk=>⟨let ⟨o,ho,r⟩:=st.1;⟨o,hk it (by simp) o ho,r⟩,let ⟨o,ho,r⟩:=st.2;⟨o,hk t (by simp) o ho,r⟩⟩
 item:=fun i s Q E hi st hQ=>next_item st.1 st.2 (x:=items[i]) (by simp [hi]) fun h' a b=>hQ _ h' s.toks (by simp [hi]) ⟨a,st.2.extBut b.extBut hne⟩ b
 done:=fun s Q E st hE=>next_end hh st.1 st.2 (by simp) hE
theorem enum_end {e it t:Addr}{i:Nat}{items:Array Value}{old:Value}{Q:Option Value→Shared→Prop} (hh:A.handled=none) (he:IsEnum s.heap e it i old) (hi:s.heap.IsTupleIter it t i) (ht:s.heap.IsTuple t items) (hx:items[i]? = none)
  (hQ:∀ h',Heap.ExtBut it s.heap h'→Q none { s with heap:=h' }):wpAny (model prog w) A (pyNext (.ref e)) Q E s:=by
 have hT:s.TypeIs (.ref e) "enumerate":=⟨_,he,rfl⟩
 unfold pyNext
 refine wpAny_bind (wpAny_attempt (wpAny_callSpecial?_slot (name:=Str.ofString "__next__") hT PySem.F.slot_enumerate_next (wpAny_call_entry PySem.F.slot_enumerate_next hT PySem.F.entry_enumerate_next ?_ (PySem.F.args_enumerate_next_1 _))))
 show wpAny _ _ (field (.ref e) 2 >>= _) _ _ _
 refine wpAny_bind (wpAny_field he rfl (x:=.ref it) rfl (wpAny_bind (next_end (A:=A.in1) hh hi ht hx fun h' x eb ⟨o,ho,hc⟩=>?_)))
 exact wpAny_bind (wpAny_isInstance (T:="StopIteration") (b:=true) ⟨o,ho,hc⟩ isSubtype_stop (wpAny_pure (hQ _ eb)))
noncomputable abbrev oI (t:Addr):Obj:={ cls:=.type "tuple_iterator",data:=.fields #[.ref t,.int 0 0] }
noncomputable abbrev oE (i:Addr):Obj:={ cls:=.type "enumerate",data:=.fields #[.none,.bool false,.ref i,rawInt 0,.none,.none] }
theorem new_meets (t:Addr) (items:Array Value) (n:Nat) (od:Option Addr) (sl:Array (Option Value)) :
  Meets (Builtin.«enumerate.__new__» ⟨[.type "enumerate",.ref t],[]⟩) (fun _ R s=>s.heap.get? t=some { cls:=.type "tuple",dict:=od,data:=.seq items n,slots:=sl } ∧
   R (.ok (.ret (.ref (s.heap.push (oI t)).objs.size))) { s with heap:=(s.heap.push (oI t)).push (oE s.heap.objs.size) }):=
 .of_wp fun prog w A R s h=>by
  obtain ⟨hp,g,d,tk,os⟩:=s
  obtain ⟨hl,h⟩:=h
  have hsub:=sub_enumerate
  have hL:Heap.IsTuple (Shared.heap ⟨hp,g,d,tk,os⟩) t items:=⟨_,hl,rfl,n,rfl⟩
  wp_walk using wpAny_loadPart' hl
  refine wpAny_stack_any fun st=>wpAny_pure ?_
  split
  ·rename_i c _ _ _ _ _
   cases (c == Value.type "enumerate") <;> (wp_walk using wpAny_loadPart' hl,wpAny_pyIter_tuple hL;exact ⟨_,rfl,h⟩)
  ·wp_walk using wpAny_loadPart' hl,wpAny_pyIter_tuple hL
   exact ⟨_,rfl,h⟩
theorem call_enum {t:Addr}{items:Array Value}{Q:Value→Shared→Prop} (hT:s.heap.IsTuple t items)
  (h:∀ h',IsEnum h' (s.heap.objs.size + 1) s.heap.objs.size 0 .none→h'.IsTupleIter s.heap.objs.size t 0→(∀ b o,s.heap.get? b=some o→h'.get? b=some o)→Q (.ref (s.heap.objs.size + 1)) { s with heap:=h' }) :
  wpAny (model prog w) A (call (.type "enumerate") [.ref t]) Q E s:=by
 obtain ⟨⟨c,dct,dt,sl⟩,hl,hc,n,hd⟩:=hT
 simp only at hc hd
 subst hc hd
 refine callType_new PySem.F.called_enumerate (by decide) (PySem.F.typeCall_enumerate_1 _) (PySem.F.newCall_enumerate_1 _) (fun obj=>PySem.F.args_object_init_2 obj _) PySem.F.entry_enumerate_new (new_meets t items n dct sl) ⟨hl,?_⟩
 have hz:(s.heap.push (oI t)).objs.size=s.heap.objs.size + 1:=Heap.size_push ..
 show _∧_
 rw [hz]
 have he:IsEnum ((s.heap.push (oI t)).push (oE s.heap.objs.size)) (s.heap.objs.size + 1) s.heap.objs.size 0 .none:=by
  have:=Heap.get?_push_size (s.heap.push (oI t)) (o:=oE s.heap.objs.size) rfl
  rw [hz] at this;exact this
 exact ⟨⟨_,he,rfl⟩,h _ he ⟨_,Heap.get?_push_of_some _ (Heap.get?_push_size _ rfl),rfl,rfl⟩ fun b o x=>Heap.get?_push_of_some _ (Heap.get?_push_of_some _ x)⟩
end
end ET
namespace L2
open PySem PySem.Spec PyProof.Rows
noncomputable def IteT (K:PySem.W.Frag) (a:Addr):It:=
 ⟨fun i H=>∃ xs x,SqT K H a xs∧xs[i]? = some x,fun i H v H'=>∃ t x,H t=none∧v = .ref t∧(∀ xs,SqT K H a xs→xs[i]? = some x)∧H'=upd H t (.tup [.int i,x]),fun i H=>∃ xs,SqT K H a xs∧xs.length≤i⟩
theorem turn_enumT {P:Program}{w:World}{K:PySem.W.Frag}{elts:List Expr}{x1:Nat}{pt:Pos} (a e it:Addr) (hne:e≠it) (hea:e≠a) (hia:a≠it) (ys:List V) (hK:KT' K a ys):Turn P w K (.Tuple elts x1 pt) (IteT K a) [e,it] e (fun i h=>(∃ old,IsEnum h e it i old)∧h.IsTupleIter it a i) where
 mem:=by simp
 obj:=fun i h st b hb=>by
  obtain ⟨⟨old,h1⟩,o,h2,c,d⟩:=st
  rcases (by simpa using hb:b=e∨b=it) with z | z
  ·subst z;exact ⟨_,h1,fun v z=>by cases z⟩
  ·subst z;exact ⟨o,h2,fun v z=>by rw [d] at z;cases z⟩
 keep:=fun i h h' st k=>⟨let ⟨old,h1⟩:=st.1;⟨old,k e (by simp) _ h1⟩,let ⟨o,q,r⟩:=st.2;⟨o,k it (by simp) o q,r⟩⟩
 item:=by
  intro X hP hw hK' hc i pins s σ H E I hf st hg
  subst hP hw hK'
  obtain ⟨xs,x,hq,hx⟩:=hg
  obtain ⟨⟨old,he⟩,hit⟩:=st
  obtain ⟨its,rv,p,hz⟩:=I.tuple hq
  obtain ⟨u,hu,ru⟩:=rv.get hx
  have f1:=hf e (by simp)
  have f2:=hf it (by simp)
  have hi:i < its.toArray.size:=by
   have:=(List.getElem?_eq_some_iff.mp hu).1
   simpa using this
  refine wpAny_pyNext_enum_itemD (ET.draws (A:=X.A.in1) (by exact I.ok.hd hc) it a hia its.toArray) he ⟨hit,p⟩ hi hne (by simp [hne,hea]) fun x' h' tk hP heo hst' ht hsz hk=>?_
  have ex:x'=u:=by
   have h1:its[i]? = some x':=by simpa using hP
   rw [hu] at h1
   exact (Option.some.inj h1).symm
  subst ex
  have hes:e < s.heap.objs.size:=Heap.lt_size he
  have hits:it < s.heap.objs.size:=let ⟨_,ho,_⟩:=hit;Heap.lt_size ho
  have fr:H s.heap.objs.size=none:=I.fresh
  refine ⟨.ref s.heap.objs.size,rfl,wpAny_letOwnedTupleGo_enum (s:={ s with heap:=h',toks:=tk + 1 }) heo fun h2 he2 sb=>?_⟩
  have hit2:h2.IsTupleIter it a (i + 1):=hst'.1.extBut sb.extBut (Ne.symm hne)
  have I2:Inv X pins σ (upd H s.heap.objs.size (.tup [.int i,x])) { s with heap:=h2,toks:=tk + 1 }:=two_turned (us:=[.int i tk,x']) I f1 f2 (fun b o h1 h2' q=>(sb.2 b h1).trans (hk b o h1 h2' q))
   ((sb.2 _ (Nat.ne_of_gt hes)).trans ht) (.cons ⟨_,rfl⟩ (.cons ru .nil)) (by show 2≤sizeLine;decide) hes hits (fun b hb=>by
    rcases hb with z | z
    ·rw [z];exact ⟨_,he2⟩
    ·rw [z];obtain ⟨o,ho,_⟩:=hit2;exact ⟨o,ho⟩)
  refine ⟨.ref s.heap.objs.size,_,I2,rfl,⟨s.heap.objs.size,x,fr,rfl,fun zs hy=>?_,rfl⟩,⟨⟨_,by simpa using he2⟩,hit2⟩,fun b hb=>?_⟩
  ·rw [I.tuple_inj hy hq];exact hx
  ·rcases (by simpa using hb:b=e∨b=it) with z | z
   ·rw [z,upd_ne (Nat.ne_of_lt hes)];exact f1.1
   ·rw [z,upd_ne (Nat.ne_of_lt hits)];exact f2.1
 done:=by
  intro X hP hw hK' hc i pins s σ H E I hf st hg
  subst hP hw hK'
  obtain ⟨xs,hq,hx⟩:=hg
  obtain ⟨⟨old,he⟩,hit⟩:=st
  obtain ⟨its,rv,p,hz⟩:=I.tuple hq
  obtain ⟨f0,f1,f2,f3,f4,f5⟩:=hf it (by simp)
  have hl:=rv.length
  exact ET.enum_end (I.ok.hd hc) he hit p (by simp;omega) fun h' eb=>⟨rfl,I.turned (t':=s.toks) (fun b o hb q=>eb b o hb q) f0 f1 f3 f4 f5⟩
 self:=fun _ _ _ _ _ st h=>let ⟨_,he⟩:=st.1;wpAny_pyIter_enum he h
section
variable {X:Cx}{S:Av}{σ:St}{H:Hp}{pos:Pos}{ds:List D}
theorem di_enumT {elts:List Expr}{x1:Nat}{pt p p2:Pos}{x:Str}{a:Addr}{ns:List Int} (hm:X.mg "enumerate" = none) (hx:X.mg x=some (.ref a)) (hK:KT' X.K a (ns.map V.int)) (hg:autoParam (Gl X "enumerate") au3._auto_1) (hgx:autoParam (Gl X x) au3._auto_1) (hdx:autoParam ((x == ("__debug__":Str))=false) au1._auto_1)
  (hs:autoParam (starEach [.Name x p2] X.env=[(false,eval (.Name x p2) X.env)]) au3._auto_1) (hsa:autoParam (starEach [.Name x p2] X.env=(false,eval (.Name x p2) X.env)::starEach [] X.env) au3._auto_1) :
  DI X S σ H (.Tuple elts x1 pt) (.Call (.Name "enumerate" p) [.Name x p2] [] pos) (enumD (ns.map D.int)):=by
 intro pins s σ' H' R I h
 obtain ⟨e1,sm,sb,k⟩:=h
 have hl:DE X S σ H (.Name x p2) (.tup (ns.map D.int)):=de_glob hx (v:=.ref a) rfl (fun H' _=>by simp only [Rep];exact ⟨a,_,rfl,.inr hK,reps_ints.mpr rfl⟩) hgx hdx
 have ha:DA X S σ H [.Name x p2] [.tup (ns.map D.int)]:=da_cons hl da_nil hsa
 refine Call_ (ld_blt I hg hm boot_enumerate (PyProof.Rows.callWith_type1 (thn ((pa_cons (pe_glob hgx hx (v:=.ref a) rfl hdx) pa_nil hsa) pos pins s σ' H' (fun vs H1=>H1=H'∧vs=[.ref a]) I ⟨rfl,rfl⟩) fun us s1 ⟨vs,H1,I1,r1,e2,e3⟩=>?_) hs rfl))
 subst e2 e3
 obtain ⟨u,rfl,ru⟩:=vals1 r1
 cases ru
 obtain ⟨its,rv',pl,hz⟩:=I1.tuple (.inr hK)
 have hal:a < s1.heap.objs.size:=let ⟨o,ho,_⟩:=pl;Heap.lt_size ho
 refine ET.call_enum pl fun h' he hit kp=>?_
 have I2:Inv X pins σ' H1 { s1 with heap:=h' }:=I1.kept (t':=s1.toks) kp
 refine wpAny_pyIter_enum he ?_
 have f1:FpOk X pins H1 (s1.heap.objs.size + 1):=I1.fpOk (Nat.le_succ _) (I1.hok.fresh (Nat.le_succ _))
 have f2:FpOk X pins H1 s1.heap.objs.size:=I1.fpOk (Nat.le_refl _) I1.fresh
 refine ⟨s1.heap.objs.size + 1,[s1.heap.objs.size + 1,s1.heap.objs.size],_,IteT X.K a,H1,rfl,I2,turn_enumT a _ _ (Nat.succ_ne_self _) (Nat.ne_of_gt (Nat.lt_succ_of_lt hal)) (Nat.ne_of_lt hal) _ hK,⟨⟨_,he⟩,hit⟩,fun b hb=>?_,k _ H1 (Same.refl _) ?_⟩
 ·rcases (by simpa using hb:b=s1.heap.objs.size + 1∨b=s1.heap.objs.size) with z | z
  ·rw [z];exact f1
  ·rw [z];exact f2
 ·intro S' H2 i ex of sb2
  have q:SqT X.K H2 a (ns.map V.int):=.inr hK
  rw [enumD_len]
  refine ⟨fun hi=>?_,fun hi=>⟨_,q,by rw [hi];simp⟩⟩
  have hi':i < ns.length:=by simpa using hi
  refine ⟨⟨_,.int ns[i],q,by simp [hi']⟩,fun x H3 y=>?_⟩
  obtain ⟨t,z,ht,rfl,hz',rfl⟩:=y
  have e2:=hz' _ q
  rw [List.getElem?_map,List.getElem?_eq_getElem hi'] at e2
  have e3:z = .int ns[i]:=by simpa using e2.symm
  subst e3
  have hd:(ns.map D.int)[i]? = some (.int ns[i]):=by rw [List.getElem?_map,List.getElem?_eq_getElem hi'];rfl
  refine ⟨same_new ht _,_,enumD_get hd,?_⟩
  refine rep_tup (sb2.new ht) upd_same ?_
  simp only [Reps,Rep]
  exact ⟨_,_,rfl,rfl,_,_,rfl,rfl,rfl⟩
end
end L2
namespace L2
open PySem PySem.Spec PyProof.Rows
section
variable {X:Cx}{S M:Av}{H0 H:Hp}{δ:List (Option D)}{σ:St}{scope:Scope}{N':List Str}{iter elt:Expr}{ifs:List Expr}{x y:Str}{px py pt pos:Pos}{ps:List (D × D)}{k0:Nat}
noncomputable abbrev tupD (p:D × D):D:=.tup [p.1,p.2]
theorem filter_take2 {α:Type}{p:α→Bool}{ds:List α}{i:Nat}{d:α} (h:ds[i]? = some d):(ds.take (i + 1)).filter p=(ds.take i).filter p++(if p d=true then [d] else []):=by
 rw [List.take_add_one,h,List.filter_append]
 cases hp:p d <;> simp [hp]
theorem lc_read2 (A:At X S M H0 δ σ H) (p:D × D→Bool) (f:D × D→D) (hn:ps.length≤1000)
  (hel:∀ (S':Av) (σ2:St) (H':Hp) (i:Nat) (d:D × D),ps[i]? = some d→(∀ C fp s₀ H₀ pins,At (X.blk scope N' C fp s₀ H₀ pins) S' no H' (some d.1::some d.2::δ) σ2 H') →
   (∀ C fp s₀ H₀ pins,PIfs (X.blk scope N' C fp s₀ H₀ pins) ifs (tDT S' σ2 H' (p d)))∧(p d=true→∀ C fp s₀ H₀ pins,DE (X.blk scope N' C fp s₀ H₀ pins) S' σ2 H' elt (f d)))
  {σ':St}{H':Hp}{Q:VK} (q:tD X.K S σ H (.lst ((ps.filter p).map f)) σ' H' Q):tComp (tDI X.K S σ H (ps.map tupD)) 2 (gTup X.K 2 (gCons (gName 0) (gCons (gName 1) gNil))) (fun σ H Q=>∃ S',tIfs X scope N' ifs S' σ H Q) (fun σ H Q=>∃ S',tEl X scope N' elt S' σ H Q) σ' H' Q:=by
 obtain ⟨rfl,sm,sb,k⟩:=q
 refine ⟨rfl,sm,sb,fun J H1 s1 it=>fun L hL=>?_⟩
 have sb1:=sb.up s1
 let S':Av:=fun a=>S a∨a=L
 have ex:Ext S S' H1:=fun a z=>z.elim .inl fun z=>.inr (by rw [z];exact hL)
 have nL:¬ S L:=sb1.new hL
 have hneL:∀ b o,H1 b=some o→b≠L:=fun b o h z=>by rw [z,hL] at h;cases h
 let Wi:Nat→Hp→Prop:=fun i H2=>(∀ b o,b≠L→H1 b=some o→H2 b=some o)∧∃ ys,H2 L=some (.lst ys)∧ys.length≤i∧Reps X.K S' H2 (((ps.take i).filter p).map f) ys
 refine ⟨fun i m H2=>m=ps.length - i∧i≤ps.length∧Wi i H2,⟨ps.length,by simp,Nat.zero_le _,fun b o n h=>by rw [upd_ne n];exact h,[],upd_same,Nat.le_refl _,by simp only [List.take_zero,List.filter_nil,List.map_nil,Reps]⟩,?_⟩
 rintro i m H2 ⟨rfl,hi,sm2,ys,hy,hly,ry⟩
 have of2:Off S' H1 H2:=fun b o n h=>sm2 b o (fun z=>n (.inr z)) h
 have sub2:Sub S' H2:=fun a z hn=>by
  rcases z with z | z
  ·cases h1:H1 a with
   | none=>exact sb1 a z h1
   | some o=>rw [sm2 a o (hneL a o h1) h1] at hn;cases hn
  ·rw [z,hy] at hn;cases hn
 obtain ⟨go,stop⟩:=it S' H2 i ex of2 sub2
 rw [List.length_map] at go stop
 by_cases hlt:i < ps.length
 ·obtain ⟨g1,g2⟩:=go hlt
  refine .inr ⟨g1,Wi (i + 1),fun H3 w3=>⟨ps.length - (i + 1),by omega,rfl,hlt,w3⟩,fun x H3 y=>?_⟩
  obtain ⟨s3,dd,hdd,rx⟩:=g2 x H3 y
  obtain ⟨d,hd,rfl⟩:∃ d,ps[i]? = some d∧dd=tupD d:=by
   rw [List.getElem?_map] at hdd
   cases e:ps[i]? with
   | none=>rw [e] at hdd;cases hdd
   | some d=>rw [e] at hdd;exact ⟨d,rfl,by simpa using hdd.symm⟩
  refine two_read rx fun u w ru rw'=>?_
  have at3:∀ H4,Same H3 H4→∀ C fp s₀ H₀ pins,At (X.blk scope N' C fp s₀ H₀ pins) S' no H4 (some d.1::some d.2::δ) (some u::some w::σ') H4:=fun H4 s4 C fp s₀ H₀ pins=>by
   refine ⟨Off.refl,(sub2.up s3).up s4,fun _ z=>z.elim,by simp [A.len],fun j d' h=>?_⟩
   match j,h with
   | 0,h=>
    have e:d.1=d':=by simpa using h
    rw [← e]
    exact ⟨u,rfl,ru.up s4⟩
   | 1,h=>
    have e:d.2=d':=by simpa using h
    rw [← e]
    exact ⟨w,rfl,rw'.up s4⟩
   | j + 2,h=>
    obtain ⟨v,h1,h2⟩:=A.env j d' (by simpa using h)
    refine ⟨v,by simpa using h1,?_⟩
    exact ((((h2.up (sm.trans s1)).ext ex).off of2).up s3).up s4
  refine ⟨⟨[some u,some w],rfl,rfl⟩,S',p d,(hel S' _ H3 i d hd (at3 H3 (Same.refl _))).1,sub2.up s3,fun H4 s4=>?_⟩
  have hy4:H4 L=some (.lst ys):=s4 _ _ (s3 _ _ hy)
  have sm4:∀ b o,b≠L→H1 b=some o→H4 b=some o:=fun b o n h=>s4 _ _ (s3 _ _ (sm2 b o n h))
  have ry4:=(ry.up s3).up s4
  cases hp:p d with
  | false=>
   refine iteF ⟨sm4,ys,hy4,by omega,?_⟩
   rw [filter_take2 hd,hp]
   simpa using ry4
  | true=>
   refine iteT ⟨S',f d,(hel S' _ H4 i d hd (at3 H4 s4)).2 hp,(sub2.up s3).up s4,fun v H5 s5 rv=>?_⟩
   have hy5:=s5 _ _ hy4
   refine ⟨ys,hy5,by have:=small_line hn;have:=small1000 (n:=1000) (Nat.le_refl _);omega,?_⟩
   have of5:Off S' H5 (upd H5 L (.lst (ys++[v]))):=fun b o n h=>by rw [upd_ne (fun z=>n (.inr z))];exact h
   refine ⟨fun b o n h=>by rw [upd_ne n];exact s5 _ _ (sm4 b o n h),ys++[v],upd_same,by rw [List.length_append,List.length_singleton];omega,?_⟩
   rw [filter_take2 hd,hp,List.map_append]
   exact ((ry4.up s5).off of5).append (Reps.one (rv.off of5))
 ·have e:i=ps.length:=by omega
  subst e
  refine .inl ⟨stop rfl,k _ H2 (fun b o h=>sm2 b o (hneL b o (s1 _ _ h)) (s1 _ _ h)) ?_⟩
  rw [List.take_of_length_le (Nat.le_refl _)] at ry
  exact rep_lst nL hy (ry.less fun a z=>.inl z)
theorem de_lc2 (A:At X S M H0 δ σ H) (p:D × D→Bool) (f:D × D→D) (hI:DI X S σ H (.Tuple [.Name x px,.Name y py] k0 pt) iter (ps.map tupD)) (hn:ps.length≤1000)
  (hel:∀ (S':Av) (σ2:St) (H':Hp) (d:D × D),d∈ps→∀ C fp s₀ H₀ pins,At (X.blk scope (x::y::X.N) C fp s₀ H₀ pins) S' no H' (some d.1::some d.2::δ) σ2 H' →
   PIfs (X.blk scope (x::y::X.N) C fp s₀ H₀ pins) ifs (tDT S' σ2 H' (p d))∧(p d=true→DE (X.blk scope (x::y::X.N) C fp s₀ H₀ pins) S' σ2 H' elt (f d)))
  (B:autoParam (blkOk X.env.scope scope X.N (x::y::X.N) 2=true) au11._auto_1) (hN:autoParam (nodupB (x::y::X.N)=true) au11._auto_1) (hx:autoParam (scope.names.lookup x=some .local) au3._auto_1) (hy:autoParam (scope.names.lookup y=some .local) au3._auto_1) (hc:autoParam (X.calm=true) au3._auto_1) (hs:autoParam (∀ x,foldedSetIterable iter X.env x=pure x) au2._auto_1)
  (h1:autoParam (∀ C,(assignEach [.Name x px,.Name y py] (compEnvC scope (clos X.env scope.names []) C X.env)).map (·.2)=assign (.Name x px) (compEnvC scope (clos X.env scope.names []) C X.env)::(assignEach [.Name y py] (compEnvC scope (clos X.env scope.names []) C X.env)).map (·.2)) au2._auto_1)
  (h2:autoParam (∀ C,(assignEach [.Name y py] (compEnvC scope (clos X.env scope.names []) C X.env)).map (·.2)=assign (.Name y py) (compEnvC scope (clos X.env scope.names []) C X.env)::(assignEach [] (compEnvC scope (clos X.env scope.names []) C X.env)).map (·.2)) au2._auto_1)
  (h3:autoParam (∀ C,(assignEach [.Name x px,.Name y py] (compEnvC scope (clos X.env scope.names []) C X.env)).length=2) au2._auto_1) (h4:autoParam (∀ C,(assignEach [.Name x px,.Name y py] (compEnvC scope (clos X.env scope.names []) C X.env)).findIdx? (·.1)=none) au2._auto_1) :
  DE X S σ H (.ListComp elt [⟨.Tuple [.Name x px,.Name y py] k0 pt,iter,ifs,0⟩] scope pos) (.lst ((ps.filter p).map f)):=by
 refine (pe_lc hc (blk_of B) hI (fun C fp s₀ H₀ pins=>pg_two (X:=X.blk scope (x::y::X.N) C fp s₀ H₀ pins) (n:=0) (m:=1) (nodup_of hN) rfl rfl (.inl (lookup_relabel_local hx)) (.inl (lookup_relabel_local hy)) (.inr (lookup_relabel_local hx)) (.inr (lookup_relabel_local hy)) hc (h1 C) (h2 C) (h3 C) (h4 C)) ifs_any el_any hs).mono fun _ _ _ q=>lc_read2 A p f hn ?_ q
 intro S' σ2 H' i d hd A8
 have hm:=List.mem_of_getElem? hd
 exact ⟨fun C fp s₀ H₀ pins=>(hel S' σ2 H' d hm C fp s₀ H₀ pins (A8 C fp s₀ H₀ pins)).1,fun hp C fp s₀ H₀ pins=>(hel S' σ2 H' d hm C fp s₀ H₀ pins (A8 C fp s₀ H₀ pins)).2 hp⟩
end
end L2
namespace L2
open PySem PySem.Spec PyProof.Rows TS
theorem Inv.adopt {X:Cx}{pins:List (Addr × Obj)}{σ:St}{H:Hp}{s:Shared}{L:Addr}{zs:List V}{its:List Value}{h':Heap}{c t':Nat} (I:Inv X pins σ H s) (f1:FpOk X pins H L) (k:∀ b o,b≠L→s.heap.get? b=some o→h'.get? b=some o)
  (hl:h'.get? L=some { cls:=.type "list",data:=.seq its.toArray c }) (rv:Vals zs its) (hz:zs.length≤sizeLine):Inv X pins σ (upd H L (.lst zs)) { s with heap:=h',toks:=t' }:=by
 have nh:∀ b u,H b=some u→b≠L:=fun b u q z=>by rw [z,f1.1] at q;cases q
 have nmem:∀ {b},b ∉ [L]→b≠L:=fun {b} hb z=>hb (by simp [z])
 refine I.step (g':=s.gens) (d':=s.drawn) (ch:=[L]) (fun b hb=>?_) (fun b o _ _ hc q _=>k b o (nmem hc) q) (fun b o _ _ hc q _=>⟨o.slots,k b o (nmem hc) q⟩)
  (fun b o hc q n=>by rw [upd_ne (nmem hc)];exact n) (fun b o hc q=>⟨o,k b o (nmem hc) q⟩)
  (fun b xs q=>by rw [upd_ne (nh b _ q)];exact q) (fun b o u q=>by rw [upd_ne (nh b _ q)];exact q) (fun b ps q=>⟨#[],by rw [upd_ne (nh b _ q),q];simp⟩) (fun m hm=>?_) (fun b u q=>?_) I.bare
 ·rw [List.mem_singleton] at hb
  rw [hb];exact ⟨f1.2.2.2.1,f1.2.1,f1.2.2.2.2.1,f1.2.2.2.2.2⟩
 ·obtain ⟨o,es,ep,ho,r⟩:=hm
  exact ⟨o,es,ep,k _ o (Ne.symm f1.2.1) ho,r⟩
 ·by_cases hb:b=L
  ·subst hb
   rw [upd_same] at q
   cases q
   exact ⟨hz,its,c,rv,hl⟩
  ·rw [upd_ne hb] at q
   refine (I.hok b u q).stay (fun c v hc g=>k c v ?_ g) (fun _ g=>?_) fun c v g=>?_
   ·rcases hc with z | z
    ·rw [z];exact hb
    ·exact nh c _ z
   all_goals first
    | (rw [upd_ne (nh _ _ g)];exact g)
section
variable {X:Cx}{S:Av}{σ:St}{H:Hp}{pins:List (Addr × Obj)}{s:Shared}
noncomputable def R_place (ds:List D) (d:D):Prop:=∃ l:List Int,l.length≤100∧ds=[encSet l]∧d=encRow ((l.length:Int),l)
noncomputable abbrev rowL (l:List Int):Int × List Int:=((l.length:Int),l)
theorem run_in {k:Nat}{f:Addr}{fd:FuncData}{R:List D→D→Prop}{A:Around}{E:Value→Shared→Prop}{Q:Value→Shared→Prop}{u:Value}{v:V}{x:D}{d:D} (G:FnOk X.prog X.w X.K X.mg X.base CX0 k f fd ["one"] (spR X.K R)) (B:Binds X.K fd ["one"] []) (hr:Room k A) (hA:A.frames=X.A.frames)
  (I:Inv X pins σ H s) (sb:Sub S H) (rv:RelV v u) (rx:Rep X.K S H x v) (hR:R [x] d) (q:∀ u' s' w H',Inv X pins σ H' s'→Same H H'→RelV w u'→Rep X.K S H' d w→Q u' s'):wpAny (model X.prog X.w) A (call (.ref f) [u]) Q E s:=by
 have e0:Env0 X.prog X.w X.K X.mg X.base A X.stack s H:=⟨hA.trans I.ok.frames,I.ok.mod,I.bs,Nat.le_trans I.ok.bsz I.sz,I.stack,I.stkFree,I.hok,I.bare⟩
 have hb:=B s [u] I.kIn rfl
 refine wpAny_call (codeAny_mono (G.run A X.stack s H ⟨[u],[]⟩ [u] [v] (fun w H'=>Same H H'∧Rep X.K S H' d w) (fun _ _ _=>False) hr e0 hb (.cons rv .nil) ⟨S,[x],d,sb,Reps.one rx,hR,fun w H' sm rw'=>⟨sm,rw'⟩⟩) fun r s' hq=>?_)
 cases r with
 | error e=>exact hq.elim
 | ok fl=>
  cases fl with
  | ret u'=>
   obtain ⟨w,H',I',rw',sm,rp⟩:=I.after hq
   exact q u' s' w H' I' sm rw' rp
  | next=>exact False.elim hq
  | brk=>exact False.elim hq
  | cont=>exact False.elim hq
noncomputable def Prs (K:PySem.W.Frag) (S:Av) (H:Hp) (p:Keyed):Prop:=∃ w,RelV w p.2∧Rep K S H (encSet (rowAt K S H p.1).2) w∧rowAt K S H p.1=rowL (rowAt K S H p.1).2
theorem prs_zip (I:Inv X pins σ H s):∀ {ss:List (List Int)}{kv iv:List V}{ku iu:List Value},Reps X.K S H (ss.map fun l=>encRow (rowL l)) kv→Vals kv ku→Reps X.K S H (ss.map encSet) iv→Vals iv iu →
  (∀ p∈ku.zip iu,Prs X.K S H p)∧(ku.zip iu).map (fun p=>(rowAt X.K S H p.1).2)=ss
 | [],kv,iv,ku,iu,h1,r1,h2,r2=>by
  simp only [List.map_nil,Reps] at h1 h2
  subst h1 h2
  cases r1
  cases r2
  exact ⟨fun p hp=>by simp at hp,rfl⟩
 | l::ss,kv,iv,ku,iu,h1,r1,h2,r2=>by
  simp only [List.map_cons,Reps] at h1 h2
  obtain ⟨w,t,rfl,a1,a2⟩:=h1
  obtain ⟨w',t',rfl,b1,b2⟩:=h2
  cases r1 with
  | cons q1 q2=>
   cases r2 with
   | cons q3 q4=>
    obtain ⟨c1,c2⟩:=prs_zip I a2 q2 b2 q4
    have e:=rowAt_eq I a1 q1
    rw [List.zip_cons_cons,List.map_cons,c2]
    refine ⟨fun p hp=>?_,by simp only [e]⟩
    rcases List.mem_cons.mp hp with rfl | hp
    ·exact ⟨w',q3,by simp only [e];exact b1,by simp only [e]⟩
    ·exact c1 p hp
theorem prs_out {K:PySem.W.Frag}{S:Av}{H:Hp}:∀ {ps:List Keyed},(∀ p∈ps,Prs K S H p)→∃ zs,Vals zs (ps.map (·.2))∧Reps K S H ((ps.map fun p=>(rowAt K S H p.1).2).map encSet) zs
 | [],_=>⟨[],.nil,by simp only [List.map_nil,Reps]⟩
 | p::ps,h=>by
  obtain ⟨w,q1,q2,_⟩:=h p (by simp)
  obtain ⟨zs,a,b⟩:=prs_out (ps:=ps) fun p' hp=>h p' (List.mem_cons_of_mem _ hp)
  refine ⟨w::zs,.cons q1 a,?_⟩
  simp only [List.map_cons,Reps]
  exact ⟨w,zs,rfl,q2,b⟩
noncomputable abbrev SetsUp (ss:List (List Int)):Prop:=RowsUp (ss.map rowL)
theorem sort_key {k:Nat}{f:Addr}{fd:FuncData}{p:Addr}{ss:List (List Int)}{Q:VK} (hc:X.calm=true) (G:FnOk X.prog X.w X.K X.mg X.base CX0 k f fd ["one"] (spR X.K R_place)) (B:Binds X.K fd ["one"] []) (hr:Room (k + 2) X.A)
  (I:Inv X pins σ H s) (sb:Sub S H) (rp:Rep X.K S H (.lst (ss.map encSet)) (.ref p)) (h64:ss.length≤64) (hss:∀ l∈ss,l.length≤100) (q:∀ ss',ss'.Perm ss→SetsUp ss'→∀ v H',Same H H'→Rep X.K S H' (.lst (ss'.map encSet)) v→Q v H') :
  wpAny (model X.prog X.w) X.A (call (.builtin "sorted") [.ref p] [(Str.ofString "key",.ref f)]) (EP X pins σ Q) X.xe s:=by
 have zl:=sizeLine_eq
 have hr1:Room (k + 1) X.A.in1:=hr.in1
 have hr2:Room k X.A.in1.in1:=hr1.in1
 obtain ⟨p',ys,ep,h1,h2⟩:=rep_seq rp
 cases ep
 obtain ⟨its,rv,pl,hz⟩:=I.list h1.sq
 have hlen:its.length=ss.length:=by rw [← rv.length,h2.length,List.length_map]
 refine call_function_entry_kw kind_sorted plain_sorted entry_sorted (ksk_s1 _ _) ?_
 unfold Builtin.«sorted»
 refine wpAny_bind (m:=checkCount "sorted" 1 1 _) (wpAny_pure (wpAny_bind (collect_list pl.isList (wpAny_bind (wpAny_newList ?_ (by omega))) (by omega))))
 generalize hg1:(s.heap.push (seqObj "list" #[] 0)).update s.heap.objs.size (Obj.mapSeq (· ++ its.toArray))=g1
 have kp1:∀ b o,s.heap.get? b=some o→g1.get? b=some o:=fun b o e=>by
  rw [← hg1]
  exact (Heap.get?_update_other _ _ (Nat.ne_of_gt (Heap.lt_size e))).trans (Heap.get?_push_of_some _ e)
 have I1:Inv X pins σ H { s with heap:=g1 }:=I.kept (t':=s.toks) kp1
 generalize hL:g1.objs.size=L
 have gL0:(g1.push (seqObj "list" its.toArray 0)).get? L=some (seqObj "list" its.toArray 0):=by rw [← hL];exact Heap.get?_push_size _ rfl
 have fL:FpOk X pins H L:=by rw [← hL];exact I1.fpOk (Nat.le_refl _) I1.fresh
 have kp2:∀ b o,g1.get? b=some o→(g1.push (seqObj "list" its.toArray 0)).get? b=some o:=fun b o e=>Heap.get?_push_of_some _ e
 have I2:Inv X pins σ H { s with heap:=g1.push (seqObj "list" its.toArray 0) }:=I1.kept (t':=s.toks) kp2
 refine wpAny_bind (wpAny_holding (wpAny_call_entry_kw slot_list_sort ⟨_,gL0,rfl⟩ entry_list_sort ?body (ksk_l1 _ _)))
 show wpAny (model X.prog X.w) X.A.in1.in1 (Builtin.«list.sort» ⟨[.ref L],[(Str.ofString "key",.ref f)]⟩) _ _ _
 rw [ksk_t1]
 unfold ksk_tree
 refine wpAny_bind (listItems_at gL0 rfl (wpAny_bind (listUpdate_at gL0 rfl ?_ (by rw [List.size_toArray];omega))))
 generalize hg3:(g1.push (seqObj "list" its.toArray 0)).update L (Obj.mapSeq fun _=>#[])=g3
 obtain ⟨m1,gL⟩:∃ m,g3.get? L=some (seqObj "list" #[] m):=⟨_,by rw [← hg3];exact get?_update_seq gL0 (fun _=>#[])⟩
 have I3:Inv X pins σ H { s with heap:=g3 }:=Inv.turned (s:={ s with heap:=g1.push (seqObj "list" its.toArray 0) }) (h':=g3) (t':=s.toks) (it:=L) I2 (fun b o hb e=>by rw [← hg3];exact (Heap.get?_update_other _ _ (Ne.symm hb)).trans e) fL.1 fL.2.1 fL.2.2.2.1 fL.2.2.2.2.1 fL.2.2.2.2.2
 refine wpAny_bind (seqEpoch_at gL rfl (wpAny_bind (wpAny_newTuple ?_ (by rw [Array.toArray_toList] <;> simp <;> omega))))
 generalize hg4:g3.push { cls:=.type "tuple",data:=.seq its.toArray.toList.toArray }=g4
 have kp4:∀ b o,g3.get? b=some o→g4.get? b=some o:=fun b o e=>by rw [← hg4];exact Heap.get?_push_of_some _ e
 have I4:Inv X pins σ H { s with heap:=g4 }:=I3.kept (t':=s.toks) kp4
 refine wpAny_bind (wpAny_newList ?_)
 generalize hk:g4.objs.size=kS
 have hkn:H kS=none:=by rw [← hk];exact I4.fresh
 have I5:=I4.lnew (ys:=[]) (its:=[]) (t':=s.toks) .nil (Nat.zero_le _)
 generalize hg5:g4.push { cls:=.type "list",data:=.seq ([]:List Value).toArray }=g5
 have hg5':({ s with heap:=g4 }:Shared).heap.push { cls:=.type "list",data:=.seq ([]:List Value).toArray }=g5:=hg5
 have hk':({ s with heap:=g4 }:Shared).heap.objs.size=kS:=hk
 rw [hg5',hk'] at I5
 have gL4:=kp4 _ _ gL
 have hLk:L≠kS:=by rw [← hk];exact Nat.ne_of_lt (Heap.lt_size gL4)
 have gL5:g5.get? L=some (seqObj "list" #[] m1):=by rw [← hg5];exact Heap.get?_push_of_some _ gL4
 have fL5:FpOk X pins (upd H kS (.lst [])) L:=⟨by rw [upd_ne hLk];exact fL.1,fL.2⟩
 have I6:Inv X (pins++[(L,seqObj "list" #[] m1)]) σ (upd H kS (.lst [])) { s with heap:=g5 }:=by
  have:=I5.pinned (fp:=[L]) (fun b hb=>by rw [List.mem_singleton] at hb;rw [hb];exact fL5) (fun b hb=>by rw [List.mem_singleton] at hb;rw [hb];exact ⟨_,gL5,fun v z=>by cases z⟩)
  have e:pinsAt [L] ({ s with heap:=g5,toks:=s.toks }:Shared).heap=[(L,seqObj "list" #[] m1)]:=by
   simp [pinsAt,gL5]
  rw [e] at this
  exact this
 refine wpAny_holding ?_
 unfold ksk_rest
 refine wpAny_bind (wpAny_rule ?_)
 rw [List.forIn_toArray]
 let S2:Av:=plus S kS
 have ex:Ext S S2 H:=fun a z=>z.elim .inl fun z=>.inr (by rw [z];exact hkn)
 let pk:List (Addr × Obj):=pins++[(L,seqObj "list" #[] m1)]
 refine wpAny_bind (ksk_fold (fun i s'=>∃ H' kvs,Inv X pk σ H' s'∧(∀ b o,b≠kS→H b=some o→H' b=some o)∧H' kS=some (.lst kvs)∧Reps X.K S2 H' ((ss.take i).map fun l=>encRow (rowL l)) kvs) its 0 _ ⟨_,[],I6,fun b o hb e=>by rw [upd_ne hb];exact e,upd_same,by simp only [List.take_zero,List.map_nil,Reps]⟩ ?step ?done)
 case step=>
  rintro j u s' hu ⟨H',kvs,I',kpH,hkS,rk⟩
  simp only [Nat.zero_add] at rk ⊢
  have hj:j < ss.length:=by have:=(List.getElem?_eq_some_iff.mp hu).1;omega
  have hsj:(ss.map encSet)[j]? = some (encSet ss[j]):=by rw [List.getElem?_map,List.getElem?_eq_getElem hj];rfl
  obtain ⟨x,hx,rx⟩:=h2.get hsj
  obtain ⟨u2,hu2,ru⟩:=rv.get hx
  rw [hu] at hu2
  cases hu2
  have sb':Sub S2 H':=fun a z hn=>by
   rcases z with z | z
   ·cases e:H a with
    | none=>exact sb a z e
    | some o=>rw [kpH a o (fun y=>by rw [y,hkn] at e;cases e) e] at hn;cases hn
   ·rw [z,hkS] at hn;cases hn
  have of':Off S2 H H':=fun b o nb e=>kpH b o (fun z=>nb (.inr z)) e
  have rx':Rep X.K S2 H' (encSet ss[j]) x:=(rx.ext ex).off of'
  refine wpAny_bind (wpAny_attempt (run_in G B hr2 rfl I' sb' ru rx' ⟨ss[j],hss _ (List.getElem_mem hj),rfl,rfl⟩ fun u' s'' w H'' I'' sm rw' rp'=>?_))
  have hkS'':=sm _ _ hkS
  obtain ⟨z,kits,n,r,hl,e⟩:=I''.lstM hkS''
  have lk:kvs.length=j:=by rw [rk.length,List.length_map,List.length_take];omega
  refine wpAny_bind (listUpdate_at e rfl ?_ (by rw [List.size_toArray];omega) (by show (kits.toArray.push u').size≤_;rw [Array.size_push,List.size_toArray];omega))
  refine wpAny_pure ⟨rfl,upd H'' kS (.lst (kvs++[w])),kvs++[w],I''.lset (t':=s''.toks) (its':=kits++[u']) hkS'' e (by simp) (r.append (.cons rw' .nil)) (by rw [List.length_append,List.length_singleton];omega),fun b o hb e=>by rw [upd_ne hb];exact sm _ _ (kpH b o hb e),upd_same,?_⟩
  have of2:Off S2 H'' (upd H'' kS (.lst (kvs++[w]))):=off_upd (.inr rfl)
  rw [List.take_add_one,List.getElem?_eq_getElem hj,List.map_append]
  exact Reps.off of2 ((rk.up sm).append (Reps.one rp'))
 case done=>
  rintro s' ⟨H',kvs,I',kpH,hkS,rk⟩
  rw [Nat.zero_add,List.take_of_length_le (by omega)] at rk
  obtain ⟨z,kits,n,r,hlk,ek⟩:=I'.lstM hkS
  have lk:kits.length=ss.length:=by rw [← hlk,rk.length,List.length_map]
  have sb':Sub S2 H':=fun a z hn=>by
   rcases z with z | z
   ·cases e:H a with
    | none=>exact sb a z e
    | some o=>rw [kpH a o (fun y=>by rw [y,hkn] at e;cases e) e] at hn;cases hn
   ·rw [z,hkS] at hn;cases hn
  have of':Off S2 H H':=fun b o nb e=>kpH b o (fun z=>nb (.inr z)) e
  have h2':Reps X.K S2 H' (ss.map encSet) ys:=(h2.ext ex).off of'
  obtain ⟨pz,pe⟩:=prs_zip I' rk r h2' rv
  refine wpAny_bind (listItems_at ek rfl ?_)
  unfold ksk_end
  simp only [Bool.false_eq_true,if_false]
  have pinL:=I'.pin (L,seqObj "list" #[] m1) (List.mem_append_right _ (List.mem_append_right _ (List.mem_singleton.mpr rfl)))
  have tail:∀ st':SortSt,(arrOf st').toList.Perm (kits.zip its)→failedOf st'=none→(arrOf st').toList.Pairwise (Rk rowOrd fun k=>rowAt X.K S2 H' k.1) →
    wpAny (model X.prog X.w) X.A.in1.in1 (ksk_tail L false m1 (.ref kS) st') (fun fin s'=>∃ v,fin = .done (.ret v)∧wpAny (model X.prog X.w) X.A.in1 (ret (.ref L)) (fun fin s'=>∃ v,fin = .done (.ret v)∧EP X pins σ Q v s') X.xe s') X.xe s':=by
   intro st' pp pf ps
   obtain ⟨zs,vz,rz⟩:=prs_out fun p hp=>pz p (pp.mem_iff.mp hp)
   have pss:((arrOf st').toList.map fun p=>(rowAt X.K S2 H' p.1).2).Perm ss:=by rw [← pe];exact pp.map _
   have lz:zs.length=ss.length:=by rw [rz.length,List.length_map,pss.length_eq]
   unfold ksk_tail
   refine wpAny_bind (listUpdate_at ek rfl ?_ (by rw [List.size_toArray];omega))
   refine wpAny_bind (wpAny_letGo ?_)
   generalize hh1:s'.heap.update kS (Obj.mapSeq fun _=>#[])=h1'
   have I7:=I'.lset (t':=s'.toks) (its':=[]) (ys:=[]) (f:=fun _=>#[]) hkS ek rfl .nil (Nat.zero_le _)
   have hh1':({ s' with heap:=s'.heap.update kS (Obj.mapSeq fun _=>#[]),toks:=s'.toks }:Shared)={ s' with heap:=h1' }:=by rw [← hh1]
   rw [hh1'] at I7
   have pinL7:=I7.pin (L,seqObj "list" #[] m1) (List.mem_append_right _ (List.mem_append_right _ (List.mem_singleton.mpr rfl)))
   have gL7:h1'.get? L=some (seqObj "list" #[] m1):=pinL7.1
   refine wpAny_bind (seqEpoch_at gL7 rfl (wpAny_bind (listUpdate_at gL7 rfl ?_ (Nat.zero_le _) (by
    show ((arrOf st').map (·.2)).size≤_
    rw [Array.size_map,← Array.length_toList,pp.length_eq,List.length_zip];omega))))
   rw [pf]
   simp only [bne_self_eq_false,Bool.false_eq_true,if_false]
   refine wpAny_pure ⟨_,rfl,wpAny_pure ⟨_,rfl,?_⟩⟩
   have I8:Inv X pins σ (upd H' kS (.lst [])) { s' with heap:=h1' }:=I7.unpinned
   have fL8:FpOk X pins (upd H' kS (.lst [])) L:=⟨pinL7.2.1,fL.2⟩
   have eo:((arrOf st').map (·.2))=((arrOf st').toList.map (·.2)).toArray:=by
    apply Array.ext'
    simp
   have gL9:=get?_update_seq gL7 (fun _=>(arrOf st').map (·.2))
   have I9:=I8.adopt (s:={ s' with heap:=h1' }) (t':=s'.toks) (its:=(arrOf st').toList.map (·.2)) (zs:=zs) (h':=h1'.update L (Obj.mapSeq fun _=>(arrOf st').map (·.2))) fL8 (fun b o hb e=>(Heap.get?_update_other _ _ (Ne.symm hb)).trans e) (by rw [← eo];exact gL9) vz (by omega)
   refine ⟨.ref L,_,I9,rfl,?_⟩
   have hHL:∀ b o,H b=some o→(upd (upd H' kS (.lst [])) L (.lst zs)) b=some o:=fun b o e=>by
    have n1:b≠kS:=fun z=>by rw [z,hkn] at e;cases e
    have n2:b≠L:=fun z=>by rw [z,fL.1] at e;cases e
    rw [upd_ne n2,upd_ne n1]
    exact kpH b o n1 e
   refine q _ pss ?_ _ _ hHL ?_
   ·show RowsUp _
    unfold RowsUp
    rw [List.pairwise_map,List.pairwise_map]
    refine ps.imp_of_mem fun {x y} hx hy hxy=>?_
    obtain ⟨_,_,_,e1⟩:=pz x (pp.mem_iff.mp hx)
    obtain ⟨_,_,_,e2⟩:=pz y (pp.mem_iff.mp hy)
    rw [← e1,← e2]
    exact hxy
   ·have nSL:¬ S L:=fun z=>sb L z fL.1
    refine rep_lst nSL upd_same ?_
    have ofa:Off S2 H' (upd H' kS (.lst [])):=off_upd (.inr rfl)
    have hL2:(upd H' kS (.lst [])) L=none:=pinL7.2.1
    exact ((Reps.off ofa rz).up (same_new hL2 _)).less fun a z=>.inl z
  have zsz:its.toArray.size=ss.length:=by rw [List.size_toArray,hlen]
  have ezip:kits.toArray.zip its.toArray=(kits.zip its).toArray:=by simp
  by_cases c:its.toArray.size < 2
  ·rw [if_pos c,if_pos c]
   refine wpAny_bind (wpAny_pure ?_)
   rw [StateT.run_pure]
   refine wpAny_bind (wpAny_pure ?_)
   refine tail _ ?_ rfl ?_
   ·show (kits.toArray.zip its.toArray).toList.Perm _
    rw [ezip]
   ·show (kits.toArray.zip its.toArray).toList.Pairwise _
    rw [ezip]
    have:(kits.zip its).length≤1:=by rw [List.length_zip];omega
    exact pw_short this
  ·rw [if_neg c,if_neg c]
   have I'':Inv X pk σ H' s':=I'
   obtain ⟨fs,k1,k2,k3⟩:=katTups I' (rs:=ss.map rowL) (by rw [List.map_map];exact rk) r
   rw [List.length_map] at k2
   refine wpAny_bind (PySem.W.kat_kind (T:=.type "int") k1 (by omega) (fun f hf=>?_) (by decide) ?_)
   ·obtain ⟨a,t,rfl⟩:=k3 f hf
    exact PySem.W.Looks.now
   rw [runs_eq]
   refine wpAny_bind (wpAny_mono (runs_ok (k₀:=tuples' true) (O:=rowOrd) (ky:=fun k=>rowAt X.K S2 H' k.1) (a₀:=kits.toArray.zip its.toArray) (st:=SortSt.mk' (tuples' true) (kits.toArray.zip its.toArray) #[] 7 none) (Q:=fun _ st'=>(arrOf st').Perm (kits.toArray.zip its.toArray)∧failedOf st'=none∧(arrOf st').toList.Pairwise (Rk rowOrd fun k=>rowAt X.K S2 H' k.1))
    ?lt rfl rfl (Array.Perm.refl _) rfl (by rw [ezip,List.size_toArray,List.length_zip];omega) fun st' q1 q2 q3=>⟨q1,q2,q3⟩) ?_ fun _ _ x=>x)
   case lt=>
    intro E' x y Q' mx my q'
    rw [MemA,ezip] at mx my
    have mx':x.1∈kits:=(List.of_mem_zip mx).1
    have my':y.1∈kits:=(List.of_mem_zip my).1
    obtain ⟨r1,w1,a1,b1⟩:=reps_vals (xs:=ss.map rowL) (enc:=encRow) (by rw [List.map_map];exact rk) r _ mx'
    obtain ⟨r2,w2,a2,b2⟩:=reps_vals (xs:=ss.map rowL) (enc:=encRow) (by rw [List.map_map];exact rk) r _ my'
    refine lt_rows I' (by have:=hr2.units;omega) b1 a1 b2 a2 ?_
    have e1:=rowAt_eq I' b1 a1
    have e2:=rowAt_eq I' b2 a2
    dsimp only at q'
    rw [e1,e2] at q'
    exact q'
   ·rintro ⟨⟨⟩,st'⟩ s2 ⟨rfl,q1,q2,q3⟩
    refine tail st' ?_ q2 q3
    have:=Array.perm_iff_toList_perm.mp q1
    rw [ezip] at this
    exact this
end
end L2
namespace MO
open PySem L2 TS
noncomputable abbrev Row:=Int × List Int
noncomputable abbrev rowOf (s:List Int):Row:=((s.length:Int),s)
noncomputable def sortR (rs:List Row):List Row:=rs.mergeSort fun a b=>!rowLt b a
theorem le_total (a b:Row):((!rowLt b a) || (!rowLt a b))=true:=by
 cases h:rowLt b a with
 | false=>rfl
 | true=>
  cases g:rowLt a b with
  | false=>rfl
  | true=>have:=row_trans h g;rw [row_irrefl] at this;cases this
theorem le_trans {a b c:Row} (h:(!rowLt b a)=true) (g:(!rowLt c b)=true):(!rowLt c a)=true:=by
 cases e:rowLt c a with
 | false=>rfl
 | true=>
  rcases rowOrd.negTrans c b a e with q | q
  ·have q':rowLt c b=true:=q
   rw [q'] at g;cases g
  ·have q':rowLt b a=true:=q
   rw [q'] at h;cases h
theorem sortR_perm (rs:List Row):(sortR rs).Perm rs:=List.mergeSort_perm _ _
theorem sortR_up (rs:List Row):RowsUp (sortR rs):=by
 have:=List.pairwise_mergeSort (le:=fun a b=>!rowLt b a) (fun a b c h g=>le_trans h g) (fun a b=>le_total a b) rs
 exact this.imp fun h=>by simpa using h
theorem sortR_eq {rs rs':List Row} (p:rs'.Perm rs) (u:RowsUp rs'):rs'=sortR rs:=rowsUp_unique (p.trans (sortR_perm rs).symm) u (sortR_up rs)
noncomputable def keepAt (rs:List Row) (k:Nat):Bool:=decide ((k:Int)=0) || !decide (rs.getD k (0,[])=rs.getD (k - 1) (0,[]))
noncomputable def once (rs:List Row):List (List Int):=((List.range rs.length).filter (keepAt rs)).map fun k=>(rs.getD k (0,[])).2
noncomputable def inOrd (ss:List (List Int)):List (List Int):=once (sortR (ss.map rowOf))
noncomputable def Lt (a b:List Int):Prop:=rowLt (rowOf a) (rowOf b)=true
theorem mem_once {rs:List Row} (u:RowsUp rs) (s:List Int):s∈once rs↔∃ n,(n,s)∈rs:=by
 unfold once
 rw [List.mem_map]
 constructor
 ·rintro ⟨k,hk,rfl⟩
  have hk':=List.mem_range.mp (List.mem_filter.mp hk).1
  refine ⟨(rs.getD k (0,[])).1,?_⟩
  have:rs.getD k (0,[])=rs[k]:=by rw [List.getD_eq_getElem?_getD,List.getElem?_eq_getElem hk'];rfl
  show rs.getD k (0,[])∈rs
  rw [this]
  exact List.getElem_mem hk'
 ·rintro ⟨n,hn⟩
  obtain ⟨j,hj,e⟩:=List.getElem_of_mem hn
  have key:∀ m,∀ j (hj:j < rs.length),j≤m→rs[j]=(n,s)→∃ k,(k < rs.length∧keepAt rs k=true)∧rs.getD k (0,[])=(n,s):=by
   intro m
   induction m with
   | zero=>
    intro j hj hm e
    have:j=0:=by omega
    subst this
    exact ⟨0,⟨hj,rfl⟩,by rw [List.getD_eq_getElem?_getD,List.getElem?_eq_getElem hj];exact e⟩
   | succ m ih=>
    intro j hj hm e
    have ej:rs.getD j (0,[])=(n,s):=by rw [List.getD_eq_getElem?_getD,List.getElem?_eq_getElem hj];exact e
    by_cases h0:j=0
    ·subst h0;exact ⟨0,⟨hj,rfl⟩,ej⟩
    by_cases c:rs[j - 1]'(by omega)=(n,s)
    ·exact ih (j - 1) (by omega) (by omega) c
    ·refine ⟨j,⟨hj,?_⟩,ej⟩
     have e2:rs.getD (j - 1) (0,[])=rs[j - 1]'(by omega):=by rw [List.getD_eq_getElem?_getD,List.getElem?_eq_getElem (by omega)];rfl
     unfold keepAt
     rw [ej,e2]
     simp only [Bool.or_eq_true,Bool.not_eq_true',decide_eq_true_eq,decide_eq_false_iff_not]
     exact Or.inr fun h=>c h.symm
  obtain ⟨k,⟨k1,k2⟩,k3⟩:=key j j hj (Nat.le_refl _) e
  exact ⟨k,List.mem_filter.mpr ⟨List.mem_range.mpr k1,k2⟩,by rw [k3]⟩
theorem once_up {rs:List Row} (u:RowsUp rs) (w:∀ r∈rs,r=rowOf r.2):(once rs).Pairwise Lt:=by
 unfold once
 rw [List.pairwise_map]
 have hr:(List.range rs.length).Pairwise (· < ·):=List.pairwise_lt_range
 refine (hr.filter _).imp_of_mem fun {i j} hi hj hij=>?_
 have hi':=List.mem_range.mp (List.mem_filter.mp hi).1
 have hj':=List.mem_range.mp (List.mem_filter.mp hj).1
 have kj:=(List.mem_filter.mp hj).2
 have g:∀ k (hk:k < rs.length),rs.getD k (0,[])=rs[k]:=fun k hk=>by rw [List.getD_eq_getElem?_getD,List.getElem?_eq_getElem hk];rfl
 have le:∀ a b (ha:a < rs.length) (hb:b < rs.length),a≤b→rowLt rs[b] rs[a]=false:=fun a b ha hb hab=>by
  rcases Nat.lt_or_ge a b with q | q
  ·exact List.pairwise_iff_getElem.mp u a b ha hb q
  ·have:a=b:=by omega
   subst this;exact row_irrefl _
 have ne:rs[j]≠rs[j - 1]'(by omega):=by
  unfold keepAt at kj
  rw [decide_eq_false (by omega),Bool.false_or,g j hj',g (j - 1) (by omega)] at kj
  simpa using kj
 rw [g i hi',g j hj']
 show rowLt (rowOf (rs[i]).2) (rowOf (rs[j]).2)=true
 rw [← w _ (List.getElem_mem hi'),← w _ (List.getElem_mem hj')]
 cases e:rowLt rs[i] rs[j] with
 | true=>rfl
 | false=>
  exfalso
  have h1:=le i j hi' hj' (by omega)
  have eq1:=row_total e h1
  have h2:=le i (j - 1) hi' (by omega) (by omega)
  have h3:=le (j - 1) j (by omega) hj' (by omega)
  rw [← eq1] at h3
  have eq2:=row_total h3 h2
  exact ne (by rw [← eq1];exact eq2)
theorem inOrd_mem (ss:List (List Int)) (s:List Int):s∈inOrd ss↔s∈ss:=by
 unfold inOrd
 rw [mem_once (sortR_up _)]
 constructor
 ·rintro ⟨n,h⟩
  have:=(sortR_perm _).mem_iff.mp h
  obtain ⟨t,ht,e⟩:=List.mem_map.mp this
  cases e
  exact ht
 ·intro h
  exact ⟨_,(sortR_perm _).mem_iff.mpr (List.mem_map.mpr ⟨s,h,rfl⟩)⟩
theorem inOrd_up (ss:List (List Int)):(inOrd ss).Pairwise Lt:=by
 refine once_up (sortR_up _) fun r hr=>?_
 have:=(sortR_perm _).mem_iff.mp hr
 obtain ⟨t,ht,e⟩:=List.mem_map.mp this
 rw [← e]
theorem lt_irrefl (a:List Int):¬ Lt a a:=fun h=>by unfold Lt at h;rw [row_irrefl] at h;cases h
theorem lt_trans {a b c:List Int} (h:Lt a b) (g:Lt b c):Lt a c:=row_trans h g
theorem up_unique {a b:List (List Int)} (ha:a.Pairwise Lt) (hb:b.Pairwise Lt) (h:∀ s,s∈a↔s∈b):a=b:=by
 have na:a.Nodup:=List.Pairwise.imp (S:=fun x y=>x≠y) (fun {x y} q (e:x=y)=>lt_irrefl x (by rw [← e] at q;exact q)) ha
 have nb:b.Nodup:=List.Pairwise.imp (S:=fun x y=>x≠y) (fun {x y} q (e:x=y)=>lt_irrefl x (by rw [← e] at q;exact q)) hb
 have p:a.Perm b:=(List.perm_ext_iff_of_nodup na nb).mpr h
 refine p.eq_of_pairwise (fun x y _ _ h1 h2=>?_) ha hb
 exact absurd (lt_trans h1 h2) (lt_irrefl x)
end MO
namespace MC
noncomputable def U (cs:List Nat):Prop:=∀ c∈cs,c < 64
theorem and_lt {a s:Nat} (hs:s < 64) (h:a &&& s=a):a < 64:=by rw [← h];exact Nat.lt_of_le_of_lt Nat.and_le_right hs
end MC
namespace MC
noncomputable def Un (n:Nat) (cs:List Nat):Prop:=∀ c∈cs,c < 2 ^ n
theorem Un.u {n:Nat} (hn:n≤6) {cs:List Nat} (h:Un n cs):U cs:=fun c hc=>Nat.lt_of_lt_of_le (h c hc) (by rw [show (64:Nat)=2 ^ 6 from rfl];exact Nat.pow_le_pow_right (by decide) hn)
theorem len_le {a b:List Nat} (nd:a.Nodup) (h:∀ x∈a,x∈b):a.length≤b.length:=by
 induction a generalizing b with
 | nil=>simp
 | cons x a ih=>
  rw [List.nodup_cons] at nd
  have hx:=h x (by simp)
  have:=ih (b:=b.erase x) nd.2 fun y hy=>by
   have hne:y≠x:=fun e=>nd.1 (e ▸ hy)
   exact (List.mem_erase_of_ne hne).mpr (h y (by simp [hy]))
  rw [List.length_erase_of_mem hx] at this
  have:=List.length_pos_of_mem hx
  simp;omega
noncomputable def card (c:Nat):Nat:=((List.range 6).filter c.testBit).length
end MC
namespace MC
open PySem
noncomputable def lst (c:Nat):List Int:=((List.range 6).filter c.testBit).map fun (k:Nat)=>(k:Int)
noncomputable def pows:List Int:=[1,2,4,8,16,32,64]
noncomputable def codeI (s:List Int):Int:=(s.map fun t=>pows.getD t.toNat 0).sum
theorem all64 {p:Nat→Prop} [DecidablePred p] (h:(List.range 64).all (fun c=>decide (p c))=true) {c:Nat} (hc:c < 64):p c:=
 of_decide_eq_true (List.all_eq_true.mp h c (List.mem_range.mpr hc))
theorem all64x {p:Nat→Nat→Prop} [∀ a b,Decidable (p a b)] (h:(List.range 64).all (fun a=>(List.range 64).all fun b=>decide (p a b))=true) {a b:Nat} (ha:a < 64) (hb:b < 64):p a b:=
 of_decide_eq_true (List.all_eq_true.mp (List.all_eq_true.mp h a (List.mem_range.mpr ha)) b (List.mem_range.mpr hb))
theorem code_lst {c:Nat} (h:c < 64):codeI (lst c)=(c:Int):=all64 (p:=fun c=>codeI (lst c)=(c:Int)) (by decide +kernel) h
theorem lst_inj {a b:Nat} (ha:a < 64) (hb:b < 64) (e:lst a=lst b):a=b:=by
 have:=congrArg codeI e
 rw [code_lst ha,code_lst hb] at this
 omega
theorem lst_len (c:Nat):(lst c).length=card c:=by unfold lst card;rw [List.length_map]
theorem mem_lst {c:Nat}{t:Int}:t∈lst c↔∃ k:Nat,k < 6∧c.testBit k=true∧t=(k:Int):=by
 unfold lst
 rw [List.mem_map]
 constructor
 ·rintro ⟨k,hk,rfl⟩
  rw [List.mem_filter,List.mem_range] at hk
  exact ⟨k,hk.1,hk.2,rfl⟩
 ·rintro ⟨k,h1,h2,rfl⟩
  exact ⟨k,by rw [List.mem_filter,List.mem_range];exact ⟨h1,h2⟩,rfl⟩
theorem and_nat (a b:Nat):Builtin.bitAnd (a:Int) (b:Int)=((a &&& b:Nat):Int):=by
 unfold Builtin.bitAnd
 rw [show decide (0≤(a:Int))=true from decide_eq_true (Int.natCast_nonneg a),show decide (0≤(b:Int))=true from decide_eq_true (Int.natCast_nonneg b)]
 simp
theorem range_filter {n d:Nat} (hn:n≤6) (hd:d < 2 ^ n) (p:Int→Bool) (h:∀ k:Nat,k < n→d.testBit k=p (k:Int)):((List.range n).map fun (k:Nat)=>(k:Int)).filter p=lst d:=by
 have e:lst d=((List.range n).filter d.testBit).map fun (k:Nat)=>(k:Int):=by
  unfold lst
  congr 1
  have:List.range 6=List.range n++(List.range (6 - n)).map (n + ·):=by rw [← List.range_add];congr 1;omega
  rw [this,List.filter_append]
  have z:((List.range (6 - n)).map (n + ·)).filter d.testBit=[]:=by
   rw [List.filter_eq_nil_iff]
   intro a ha
   obtain ⟨j,_,rfl⟩:=List.mem_map.mp ha
   rw [Nat.testBit_lt_two_pow (Nat.lt_of_lt_of_le hd (Nat.pow_le_pow_right (by decide) (by omega)))]
   exact Bool.false_ne_true
  rw [z,List.append_nil]
 rw [e,List.filter_map]
 congr 1
 apply List.filter_congr
 intro k hk
 rw [h k (List.mem_range.mp hk)];rfl
theorem lst_full {n:Nat} (hn:n≤6):((List.range n).map fun (k:Nat)=>(k:Int))=lst (2 ^ n - 1):=by
 have:=range_filter (d:=2 ^ n - 1) hn (by have:=Nat.two_pow_pos n;omega) (fun _=>true) fun k hk=>by rw [Nat.testBit_two_pow_sub_one];simp [hk]
 rw [← this]
 exact (List.filter_eq_self.mpr fun _ _=>rfl).symm
noncomputable def rawParts (ts:List Int):List (List Int):=ts.foldl (fun found t=>found++found.map fun p=>p++[t]) [[]]
noncomputable def subs (d:Nat):List Nat:=(lst d).foldl (fun found t=>found++found.map fun p=>p + 2 ^ t.toNat) [0]
theorem raw_subs {d:Nat} (h:d < 64):rawParts (lst d)=(subs d).map lst:=all64 (p:=fun d=>rawParts (lst d)=(subs d).map lst) (by decide +kernel) h
theorem mem_subs {d a:Nat} (hd:d < 64) (ha:a < 64):a∈subs d↔a &&& d=a:=by
 have:=all64x (p:=fun d a=>decide (a∈subs d)=decide (a &&& d=a)) (by decide +kernel) hd ha
 constructor
 ·intro h;exact of_decide_eq_true (this ▸ decide_eq_true h)
 ·intro h;exact of_decide_eq_true (this.symm ▸ decide_eq_true h)
theorem subs_lt {d:Nat} (hd:d < 64):∀ a∈subs d,a < 64:=by
 have:=all64 (p:=fun d=>(subs d).all (fun a=>decide (a < 64))=true) (by decide +kernel) hd
 intro a ha
 exact of_decide_eq_true (List.all_eq_true.mp this a ha)
theorem subs_nodup {d:Nat} (hd:d < 64):(subs d).Nodup:=all64 (p:=fun d=>(subs d).Nodup) (by decide +kernel) hd
theorem subs_len {d:Nat} (hd:d < 64):(subs d).length=2 ^ card d:=all64 (p:=fun d=>(subs d).length=2 ^ card d) (by decide +kernel) hd
noncomputable def isSet (n:Int):Int→List Int→Bool
 | _,[]=>true
 | b,t::ts=>!(decide (t≤b) || decide (n≤t)) && isSet n t ts
theorem isSet_lst {n c:Nat} (hn:n≤6) (hc:c < 2 ^ n):isSet n (-1) (lst c)=true:=by
 have h6:c < 64:=Nat.lt_of_lt_of_le hc (by rw [show (64:Nat)=2 ^ 6 from rfl];exact Nat.pow_le_pow_right (by decide) hn)
 have:=all64 (p:=fun c=>(List.range 7).all (fun n=>decide (c < 2 ^ n→isSet (n:Int) (-1) (lst c)=true))=true) (by decide +kernel) h6
 exact of_decide_eq_true (List.all_eq_true.mp this n (List.mem_range.mpr (by omega))) hc
end MC
namespace MC
open L2 MO
noncomputable def cod (s:List Int):Nat:=(codeI s).toNat
theorem cod_lst {c:Nat} (h:c < 64):cod (lst c)=c:=by unfold cod;rw [code_lst h];exact Int.toNat_natCast c
noncomputable def ordC (cs:List Nat):List Nat:=(inOrd (cs.map lst)).map cod
theorem ord_map {cs:List Nat} (u:U cs):(ordC cs).map lst=inOrd (cs.map lst):=by
 unfold ordC
 rw [List.map_map]
 conv=>rhs;rw [← List.map_id (inOrd (cs.map lst))]
 refine List.map_congr_left fun s hs=>?_
 obtain ⟨c,hc,rfl⟩:=List.mem_map.mp ((inOrd_mem _ s).mp hs)
 show lst (cod (lst c))=lst c
 rw [cod_lst (u c hc)]
theorem ord_mem {cs:List Nat} (u:U cs) {c:Nat}:c∈ordC cs↔c∈cs:=by
 unfold ordC
 rw [List.mem_map]
 constructor
 ·rintro ⟨s,hs,rfl⟩
  obtain ⟨d,hd,rfl⟩:=List.mem_map.mp ((inOrd_mem _ s).mp hs)
  rw [cod_lst (u d hd)];exact hd
 ·exact fun h=>⟨lst c,(inOrd_mem _ _).mpr (List.mem_map_of_mem h),cod_lst (u c h)⟩
theorem ord_U {cs:List Nat} (u:U cs):U (ordC cs):=fun c h=>u c ((ord_mem u).mp h)
noncomputable abbrev UpC (cs:List Nat):Prop:=cs.Pairwise fun a b=>Lt (lst a) (lst b)
theorem ord_up {cs:List Nat} (u:U cs):UpC (ordC cs):=by
 have:=inOrd_up (cs.map lst)
 rw [← ord_map u,List.pairwise_map] at this
 exact this
theorem up_nodup {cs:List Nat} (h:UpC cs):cs.Nodup:=List.Pairwise.imp (S:=fun x y=>x≠y) (fun {x y} q (e:x=y)=>lt_irrefl (lst x) (by rw [← e] at q;exact q)) h
theorem ord_nodup {cs:List Nat} (u:U cs):(ordC cs).Nodup:=up_nodup (ord_up u)
theorem up_eq {as bs:List Nat} (ua:U as) (ub:U bs) (ha:UpC as) (hb:UpC bs) (h:∀ c,c∈as↔c∈bs):as=bs:=by
 have e:as.map lst=bs.map lst:=by
  refine up_unique (by rw [List.pairwise_map];exact ha) (by rw [List.pairwise_map];exact hb) fun s=>?_
  rw [List.mem_map,List.mem_map]
  exact ⟨fun ⟨c,hc,e⟩=>⟨c,(h c).mp hc,e⟩,fun ⟨c,hc,e⟩=>⟨c,(h c).mpr hc,e⟩⟩
 have:=congrArg (List.map cod) e
 rw [List.map_map,List.map_map] at this
 have key:∀ (l:List Nat),U l→l.map (cod ∘ lst)=l:=fun l ul=>by
  conv=>rhs;rw [← List.map_id l]
  exact List.map_congr_left fun c hc=>cod_lst (ul c hc)
 rwa [key as ua,key bs ub] at this
theorem ord_self {cs:List Nat} (u:U cs) (h:UpC cs):ordC cs=cs:=up_eq (ord_U u) u (ord_up u) h fun _=>ord_mem u
theorem ord_congr {as bs:List Nat} (ua:U as) (ub:U bs) (h:∀ c,c∈as↔c∈bs):ordC as=ordC bs:=
 up_eq (ord_U ua) (ord_U ub) (ord_up ua) (ord_up ub) fun c=>by rw [ord_mem ua,ord_mem ub];exact h c
theorem ord_len {cs:List Nat} (u:U cs) (nd:cs.Nodup):(ordC cs).length=cs.length:=
 Nat.le_antisymm (len_le (ord_nodup u) fun c h=>(ord_mem u).mp h) (len_le nd fun c h=>(ord_mem u).mpr h)
theorem up_filter {cs:List Nat} (p:Nat→Bool) (h:UpC cs):UpC (cs.filter p):=h.sublist List.filter_sublist
noncomputable def parts (d:Nat):List Nat:=ordC (subs d)
theorem subs_U {d:Nat} (h:d < 64):U (subs d):=subs_lt h
theorem parts_mem {d a:Nat} (h:d < 64):a∈parts d↔a &&& d=a:=by
 unfold parts
 rw [ord_mem (subs_U h)]
 constructor
 ·intro m;exact (mem_subs h (subs_lt h a m)).mp m
 ·intro e;exact (mem_subs h (and_lt h e)).mpr e
theorem parts_U {d:Nat} (h:d < 64):U (parts d):=ord_U (subs_U h)
theorem parts_up {d:Nat} (h:d < 64):UpC (parts d):=ord_up (subs_U h)
theorem parts_map {d:Nat} (h:d < 64):(parts d).map lst=inOrd (rawParts (lst d)):=by unfold parts;rw [ord_map (subs_U h),raw_subs h]
theorem parts_len {d:Nat} (h:d < 64):(parts d).length=2 ^ card d:=by unfold parts;rw [ord_len (subs_U h) (subs_nodup h),subs_len h]
theorem card_le (d:Nat):card d≤6:=by unfold card;exact Nat.le_trans (List.length_filter_le _ _) (by simp)
theorem parts_le {d:Nat} (h:d < 64):(parts d).length≤64:=by
 rw [parts_len h]
 exact Nat.pow_le_pow_right (by decide) (card_le d)
noncomputable def full (n:Nat):Nat:=2 ^ n - 1
theorem full_lt {n:Nat} (hn:n≤6):full n < 64:=by
 have:2 ^ n≤2 ^ 6:=Nat.pow_le_pow_right (by decide) hn
 have:=Nat.two_pow_pos n
 unfold full;omega
theorem and_full {n a:Nat}:a &&& full n=a↔a < 2 ^ n:=by
 unfold full
 rw [Nat.and_two_pow_sub_one_eq_mod]
 constructor
 ·intro h;rw [← h];exact Nat.mod_lt _ (Nat.two_pow_pos n)
 ·exact Nat.mod_eq_of_lt
theorem full_mem {n a:Nat} (hn:n≤6):a∈parts (full n)↔a < 2 ^ n:=by rw [parts_mem (full_lt hn),and_full]
end MC
namespace L2
open PySem PySem.Spec PyProof.Rows TS
noncomputable def sortI (ns:List Int):List Int:=ns.mergeSort fun a b=>decide (a≤b)
theorem sortI_eq {ns ns':List Int} (p:ns'.Perm ns) (u:ns'.Pairwise (·≤·)):ns'=sortI ns:=by
 have h1:(sortI ns).Pairwise (·≤·):=by
  have:=List.pairwise_mergeSort (le:=fun (a b:Int)=>decide (a≤b)) (fun a b c h g=>decide_eq_true (Int.le_trans (of_decide_eq_true h) (of_decide_eq_true g))) (fun a b=>by
   by_cases h:a≤b
   ·simp [h]
   ·simp [h];omega) ns
  exact this.imp fun h=>of_decide_eq_true h
 have h2:ns'.Perm (sortI ns):=p.trans (List.mergeSort_perm _ _).symm
 exact h2.eq_of_pairwise (fun a b _ _ h g=>Int.le_antisymm h g) u h1
theorem sortI_perm (ns:List Int):(sortI ns).Perm ns:=List.mergeSort_perm _ _
noncomputable def sortS (ss:List (List Int)):List (List Int):=(MO.sortR (ss.map rowL)).map (·.2)
theorem rowL_map (ss:List (List Int)):(ss.map rowL).map (·.2)=ss:=by
 rw [List.map_map]
 conv=>rhs;rw [← List.map_id ss]
 exact List.map_congr_left fun _ _=>rfl
theorem sortS_eq {ss ss':List (List Int)} (p:ss'.Perm ss) (u:SetsUp ss'):ss'=sortS ss:=by
 unfold sortS
 rw [← MO.sortR_eq (p.map rowL) u,rowL_map]
section
variable {X:Cx}{S M:Av}{H0 H:Hp}{δ:List (Option D)}{σ:St}{a b e:Expr}{es:List Expr}{pos p p2 p3 p4 pk:Pos}{d:D}{ds:List D}{i j:Int}
theorem de_sortset {ns:List Int} (he:DE X S σ H e (dInts ns)) (hz:ns.length≤900) (h64:(uniq ns).length≤64) (ml:X.mg "sorted" = none) (hm:X.mg "set" = none) (hc:autoParam (X.calm=true) au3._auto_1) (gs:autoParam (Gl X "set") au3._auto_1) (gl:autoParam (Gl X "sorted") au3._auto_1)
  (hs:autoParam (starEach [e] X.env=[(false,eval e X.env)]) au3._auto_1) (hsa:autoParam (starEach [e] X.env=(false,eval e X.env)::starEach [] X.env) au3._auto_1)
  (hs2:autoParam (starEach [.Call (.Name "set" p2) [e] [] p3] X.env=[(false,eval (.Call (.Name "set" p2) [e] [] p3) X.env)]) au3._auto_1):DE X S σ H (.Call (.Name "sorted" p) [.Call (.Name "set" p2) [e] [] p3] [] p4) (dInts (sortI (uniq ns))):=by
 rintro pins s σ' H' Q I ⟨rfl,sm,sb,k⟩
 have bs:bootBuiltins "sorted" = some (.builtin "sorted"):=by decide +kernel
 refine wpAny_Call_Name_kw (ld_blt I gl ml bs ?_ (by decide) (by decide))
 refine PyProof.Rows.callWith_builtin1 ?_ hs2 rfl
 rw [hs2]
 show wpAny _ _ (spliced ((false,eval (.Call (.Name "set" p2) [e] [] p3) X.env)::backTo p4 [])) _ _ s
 refine Calls.spliced_cons (ev_set hc hm gs hs hsa (de_up he sm) hz I sb fun q s1 H1 I1 sm1 iS=>Calls.spliced_nil ?_)
 refine sorted_set (I1.ok.hd hc) iS h64 fun l h' tk dr us ks e0 hl kp gl' ii pp up=>?_
 have ek:=sortI_eq pp up
 subst ek
 have hln:us.toList.length=(uniq ns).length:=by rw [IntsAre.length ii,(sortI_perm _).length_eq]
 have fr:H1 l=none:=I1.hok.fresh hl
 have I1':Inv X pins σ' H1 { s1 with drawn:=dr }:=I1.step (g':=s1.gens) (d':=dr) (t':=s1.toks) (h':=s1.heap) (ch:=[]) (fun b hb=>by simp at hb) (fun b o _ _ _ e _=>e) (fun b o _ _ _ e _=>⟨o.slots,e⟩) (fun _ _ _ _ n=>n) (fun b o _ e=>⟨o,e⟩) (fun _ _ e=>e) (fun _ _ _ e=>e) (fun b ps e=>⟨#[],by rw [e];simp⟩) (fun m hm=>hm) I1.hok I1.bare
 have I2:=Inv.laid (s:={ s1 with drawn:=dr }) (a:=l) (o:=.lst ((sortI (uniq ns)).map V.int)) (h':=h') (t':=tk) I1' kp hl (show ObjOk X.prog X.w _ h' _ (.lst _) from ⟨by rw [List.length_map,(sortI_perm _).length_eq];have:=sizeLine_eq;omega,us.toList,e0,vals_ints ii,by rw [Array.toArray_toList];exact gl'⟩)
 refine ⟨.ref l,_,I2,rfl,k _ _ (sm1.trans (same_new fr _)) (rep_lst ((sb.up sm1).new fr) upd_same (reps_ints.mpr rfl))⟩
theorem de_sortkey {nm:Str}{kk m:Nat}{ss:List (List Int)}{kpos:Pos} (C:Cal X.prog X.w X.K X.mg X.base nm kk ["one"] R_place) (hr:Room m X.A) (he:DE X S σ H e (.lst (ss.map encSet))) (h64:ss.length≤64) (hss:∀ l∈ss,l.length≤100) (ml:X.mg "sorted" = none) (hk:autoParam (kk + 2≤m) au1._auto_1) (hc:autoParam (X.calm=true) au3._auto_1) (gl:autoParam (Gl X "sorted") au3._auto_1) (gn:autoParam (Gl X nm) au3._auto_1) (hdn:autoParam ((nm == ("__debug__":Str))=false) au1._auto_1)
  (hsa:autoParam (starEach [e] X.env=(false,eval e X.env)::starEach [] X.env) au3._auto_1) (hb:autoParam (backTo p4 (starEach [e] X.env)=(false,eval e X.env)::backTo p4 (starEach [] X.env)) au3._auto_1) (hpl:autoParam ((backTo p4 (starEach [e] X.env)).any (·.1)=false) au3._auto_1) :
  DE X S σ H (.Call (.Name "sorted" p) [e] [⟨some "key",.Name nm pk,kpos⟩] p4) (.lst ((sortS ss).map encSet)):=by
 rintro pins s σ' H' Q I ⟨rfl,sm,sb,k⟩
 obtain ⟨f,fd,G,B,kp,m'⟩:=C.ex
 have bs:bootBuiltins "sorted" = some (.builtin "sorted"):=by decide +kernel
 refine wpAny_Call_Name_kw (ld_blt I gl ml bs ?_ (by decide) (by decide))
 refine callWith_kw (thn ((da_cons he da_nil hsa) p4 pins s σ' H' (fun vs H1=>Same H' H1∧∃ v,vs=[v]∧Rep X.K S H1 (.lst (ss.map encSet)) v) I ⟨rfl,sm,sb,fun vs H1 s1 r1=>⟨s1,let ⟨v,ev,rv⟩:=reps_1 r1;⟨v,ev,rv⟩⟩⟩) fun us s1 ⟨vs,H1,I1,r1,sm1,v,e2,rv⟩=>?_) hb hpl rfl rfl
 subst e2
 obtain ⟨u,rfl,ru⟩:=vals1 r1
 refine kws_cons (ld_glob I1 gn m' (kws_nil ?_) hdn)
 obtain ⟨a,xs,rfl,h1,h2⟩:=rep_seq rv
 cases ru
 refine sort_key (k:=kk) hc G B (hr.mono hk) I1 (sb.up sm1) rv h64 hss fun ss' pp up v' H2 s2 r2=>?_
 rw [sortS_eq pp up] at r2
 exact k v' H2 (sm1.trans s2) r2
end
end L2
namespace L2
open PySem PySem.Spec PyProof.Rows
section
variable {κ:Type} [DecidableEq κ]
end
section
variable {P:Program}{w:World}{H:Hp}{h:Heap}{a:Addr}
end
section
variable {X:Cx}{pins:List (Addr × Obj)}{σ:St}{H:Hp}{s:Shared}{a:Addr}{y v:V}{u r:Value}{o:Option V}{A:Around}{E:Value→Shared→Prop}
end
section
variable {X:Cx}{pins:List (Addr × Obj)}{σ:St}{H:Hp}{s:Shared}{a:Addr}{kvs:List (Key × V)}{k:Key}{u:Value}{A:Around}{E:Value→Shared→Prop}
end
section
variable {X:Cx}{o i e value:Expr}{pos pos' tpos:Pos}{td ty tv:TE}
end
section
variable {X:Cx}{pos:Pos}
end
structure M1 (X:Cx) (o:Expr) (m:Str) (apos:Pos) (e:Expr) (cpos:Pos):Prop where
 base:attributeBase o m X.env (eval o X.env)=eval o X.env
 few:((backTo cpos (starEach [e] X.env)).all (fun x=>!x.1) && (backToKw cpos (keywordEach [] X.env)).all (fun x=>x.1.isSome)
  && decide (([e]:List Expr).length + ([]:List Keyword).length + (if ([]:List Keyword).isEmpty then 0 else 1) < 30))=true
 line:(apos.endLine == cpos.line)=true
 trees:backTo cpos (starEach [e] X.env)=[(false,eval e X.env)]
section
variable {X:Cx}{pins:List (Addr × Obj)}{σ:St}{H:Hp}{s:Shared}{a:Addr}{y d:V}{u r:Value}{o:Option V}{A:Around}{E:Value→Shared→Prop}
end
section
variable {X:Cx}{o e f:Expr}{apos cpos:Pos}{td ty tx:TE}
end
section
variable {X:Cx}{pins:List (Addr × Obj)}{σ:St}{H:Hp}{s:Shared}{a:Addr}{kvs:List (Key × V)}{A:Around}{E:Value→Shared→Prop}
end
section
variable {X:Cx}{pins:List (Addr × Obj)}{σ:St}{H:Hp}{s:Shared}{a:Addr}{y:V}{u:Value}{A:Around}{E:Value→Shared→Prop}
end
end L2
namespace L2
open PySem PySem.Spec PyProof.Rows
section
variable {X:Cx}{S M:Av}{H0 H:Hp}{δ:List (Option D)}{σ:St}{a b e:Expr}{es:List Expr}{pos pos' p p2 p3 p4:Pos}{d d':D}{ds:List D}{i j:Int}{E:Ends}{rest:List Stmt}
end
section
variable {X:Cx}{S M:Av}{H0 H:Hp}{δ:List (Option D)}{σ:St}{p:Pos}
end
end L2
namespace L2
open PySem PySem.Spec PyProof.Rows
section
variable {X:Cx}{S M:Av}{H0 H:Hp}{δ:List (Option D)}{σ:St}{a b c e:Expr}{pos p:Pos}{d:D}{i j k:Int}
section
variable {α:Type} [DecidableEq α] {enc:α→D}{n:Nat}{xs ys:List α}{z:α}{r:Bool}
theorem dec_is {P:Prop} [Decidable P] (h:r=true↔P):decide P=r:=by rw [Bool.eq_iff_iff,decide_eq_true_eq,h]
theorem dec_not {P:Prop} [Decidable P] (h:r=true↔¬ P):(!decide P)=r:=by rw [Bool.eq_iff_iff,Bool.not_eq_true',decide_eq_false_iff_not,h]
theorem dt_inP (E:Enc X enc n) (hu:X.A.units + (n + 1) < cLine) (hk:r=true↔z∈ys) (ha:DE X S σ H a (enc z)) (hb:DE X S σ H b (.lst (ys.map enc))) (hm:autoParam (behindInMarks .In b=false) au10._auto_1):DT X S σ H (.Compare a [.In] [b] pos) r:=by rw [← dec_is hk];exact dt_inE E hu ha hb hm
theorem dt_notInP (E:Enc X enc n) (hu:X.A.units + (n + 1) < cLine) (hk:r=true↔¬ z∈ys) (ha:DE X S σ H a (enc z)) (hb:DE X S σ H b (.lst (ys.map enc))) (hm:autoParam (behindInMarks .NotIn b=false) au10._auto_1):DT X S σ H (.Compare a [.NotIn] [b] pos) r:=by rw [← dec_not hk];exact dt_notInE E hu ha hb hm
end
end
end L2
namespace L2
open PySem PySem.Spec PyProof.Rows
section
variable {X:Cx}{S M:Av}{H0 H:Hp}{δ:List (Option D)}{σ:St}{a b e:Expr}{es:List Expr}{pos pos' p p2 p3 p4:Pos}{d d':D}{ds:List D}{i j:Int}{E:Ends}{rest:List Stmt}{k:Bool}
end
end L2
namespace L2
open PySem PySem.Spec PyProof.Rows
section
variable {X:Cx}{S M:Av}{H0 H:Hp}{δ:List (Option D)}{σ:St}{scope:Scope}{iter elt:Expr}{ifs:List Expr}{x:Str}{px pos:Pos}{α:Type}{enc:α→D}{xs:List α}
end
section
variable {X:Cx}{S:Av}{H:Hp}{σ:St}{a b:Expr}{pos:Pos}{k l:Bool}
end
end L2
namespace L2
open PySem PySem.Spec PyProof.Rows
noncomputable def flat:D→Bool
 | .non=>true
 | .bl _=>true
 | .int _=>true
 | .str _=>true
 | .ty _=>true
 | .adr _=>true
 | _=>false
theorem rep_flat {K:PySem.W.Frag}{S T:Av}{H H':Hp}{v:V}:∀ {d:D},flat d=true→Rep K S H d v→Rep K T H' d v
 | .non,_,h=>by simp only [Rep] at h ⊢;exact h
 | .bl b,_,h=>by simp only [Rep] at h ⊢;exact h
 | .int i,_,h=>by simp only [Rep] at h ⊢;exact h
 | .str x,_,h=>by simp only [Rep] at h ⊢;exact h
 | .ty x,_,h=>by simp only [Rep] at h ⊢;exact h
 | .adr x,_,h=>by simp only [Rep] at h ⊢;exact h
theorem sub_no {H:Hp}:Sub no H:=fun _ z=>z.elim
section
variable {X:Cx}{S T M:Av}{H0 H:Hp}{δ:List (Option D)}{σ:St}{a b e:Expr}{es:List Expr}{pos pos' p p2 p3 p4:Pos}{d d':D}{ds:List D}{i j:Int}{E:Ends}{rest:List Stmt}
theorem DE.to (h:DE X S σ H e d) (hS:Sub S H) (m:∀ H v,Rep X.K S H d v→Rep X.K T H d v):DE X T σ H e d:=
 h.mono fun σ' H' Q ⟨e1,sm,_,k⟩=>⟨e1,sm,hS.up sm,fun v H1 s1 r=>k v H1 s1 (m _ _ r)⟩
theorem DE.flat (h:DE X S σ H e d) (hS:Sub S H) (hd:L2.flat d=true):DE X T σ H e d:=h.to hS fun _ _ r=>rep_flat hd r
theorem At.to (A:At X S no H0 δ σ H) {δ':List (Option D)} (hT:Sub T H) (hl:δ'.length=δ.length) (h:∀ (i:Nat) (d:D),δ'[i]? = some (some d)→δ[i]? = some (some d)∧flat d=true):At X T no H0 δ' σ H:=
 ⟨A.same,hT,fun _ z=>z.elim,hl.trans A.len,fun i d q=>let ⟨v,h1,h2⟩:=A.env i d (h i d q).1;⟨v,h1,rep_flat (h i d q).2 h2⟩⟩
noncomputable def domH (H:Hp):Av:=fun a=>H a≠none
theorem sub_dom {H':Hp} (s:Same H H'):Sub (domH H) H':=fun a z hn=>z (s.free hn)
noncomputable def spF (K:PySem.W.Frag) (R:List D→D→Prop):Sp:=fun vs H Q _=>∃ ds d,Reps K no H ds vs∧R ds d∧∀ v H',Same H H'→Rep K (domH H) H' d v→Q v H'
theorem spF.len {K:PySem.W.Frag}{R:List D→D→Prop}{n:Nat} (hn:∀ ds d,R ds d→ds.length=n):∀ vs H Q E,spF K R vs H Q E→vs.length=n:=fun vs H Q E ⟨ds,d,r,p,_⟩=>by rw [r.length];exact hn ds d p
structure CalF (P:Program) (w:World) (K:PySem.W.Frag) (mg:Str→Option Value) (base:Heap) (nm:Str) (k:Nat) (ps:List Str) (R:List D→D→Prop):Prop where
 ex:∃ f fd,FnOk P w K mg base CX0 k f fd ps (spF K R)∧Binds K fd ps []∧PySem.W.keepIn K (.ref f)=true∧mg nm=some (.ref f)
theorem de_calF {nm:Str}{k m:Nat}{ps:List Str}{R:List D→D→Prop} (C:CalF X.prog X.w X.K X.mg X.base nm k ps R) (hr:Room m X.A) (h:R ds d) (ha:DA X S σ H (e::es) ds) (hS:Sub S H) (hk:autoParam (k≤m) au1._auto_1) (hg:autoParam (Gl X nm) au3._auto_1)
  (hdb:autoParam ((nm == ("__debug__":Str))=false) au1._auto_1) (he:autoParam (starEach (e::es) X.env=(false,eval e X.env)::starEach es X.env) au3._auto_1) (hpl:autoParam ((backTo pos (starEach es X.env)).any (·.1)=false) au3._auto_1) :
  DE X T σ H (.Call (.Name nm p) (e::es) [] pos) d:=by
 obtain ⟨f,fd,G,B,kp,m'⟩:=C.ex
 refine (pe_call (sp:=spF X.K R) G (hr.mono hk) hg m' kp B .nil pass0 ha hdb he hpl).mono ?_
 intro σ' H' Q ⟨e1,sm,sb,k⟩
 exact ⟨e1,sm,hS.up sm,fun vs H1 s1 r1=>⟨ds,d,by rw [List.append_nil];exact r1.less fun _ z=>z.elim,h,fun v H2 s2 rv=>k v H2 (s1.trans s2) (rv.less fun a z=>(sb.up s1) a z)⟩⟩
theorem st_retF (A:At X S no H0 δ σ H) (q:∀ v H',Same H0 H'→Rep X.K (domH H0) H' d v→E.rt v H') (he:DE X (domH H0) σ H e d):DSs X (.Return (some e) pos::rest) E σ H:=
 dss_cons (DS.of (ps_ret he) ⟨rfl,Same.refl _,sub_dom A.same.same,fun v H' s r=>q v H' (A.same.same.trans s) r⟩)
theorem st_setV {n:Nat}{x:Str} (he:DE X T σ H e d) (hT:Sub T H) (k:∀ v H',Same H H'→Rep X.K T H' d v→DSs X rest E (σ.set n (some v)) H') (hN:X.N.Nodup) (hi:autoParam (X.N[n]? = some x) au3._auto_1) (hx:autoParam (Loc X.env.scope x) au7._auto_1)
  (hs:autoParam (swapsWith e (some (.Name x pos')) pos.line X.env=pure false) au3._auto_1) (hf:autoParam (X.fn x=true∨X.env.scope.names.lookup x=some .local) au8._auto_1):DSs X (.Assign [.Name x pos'] e pos::rest) E σ H:=
 dss_cons (DS.of (ps_set hN hi hx he hs hf) ⟨rfl,Same.refl _,hT,fun v H' s r=>k v H' s r⟩)
theorem de_lenS {ns:List Int} (ml:X.mg "len" = none) (ha:DE X S σ H a (.scr ns)) (hg:autoParam (Gl X "len") au3._auto_1) (hs:autoParam (starEach [a] X.env=(false,eval a X.env)::starEach [] X.env) au3._auto_1):DE X S σ H (.Call (.Name "len" p) [a] [] pos) (.int ns.length):=
 de_cb (fun vs H' Q _ _ r k=>by
  obtain ⟨v,rfl,rv⟩:=reps_1 r
  simp only [Rep] at rv
  obtain ⟨q,rfl,h1⟩:=rv
  exact ⟨q,_,rfl,.inl h1.sq,k _ H' (Same.refl _) (by rw [List.length_map];exact rep_int)⟩) (pe_callB call_len_seq hg ml PySem.boot_len (da_cons ha da_nil hs) (he:=hs))
theorem good_ixS {ns:List Int}{n:Nat} (h:ns[n]? = some j) (hi:i=n):GoodR X.K S H (.scr ns) (.int i) (.int j) (rIxL X.K):=by
 intro x y H' Q _ _ rx ry k
 simp only [Rep] at rx ry
 obtain ⟨q,rfl,h1⟩:=rx
 subst ry
 exact ⟨q,_,i,.int j,rfl,rfl,h1.sq,by rw [hi];exact atI_nat (by rw [List.getElem?_map,h];rfl),k _ H' (Same.refl _) rep_int⟩
end
section
variable {X:Cx}{S T M:Av}{H0 H:Hp}{δ:List (Option D)}{σ:St}{scope:Scope}{N':List Str}{iter elt:Expr}{ifs:List Expr}{x:Str}{px pos:Pos}{ds:List D}
variable {α:Type}{enc:α→D}{xs:List α}
end
section
variable {P:Program}{w:World}{K:PySem.W.Frag}{mg:Str→Option Value}{base:Heap}
theorem fn_okF {x:Str}{st:Stmt}{f:Addr}{fd:FuncData}{N ps:List Str}{k:Nat}{R:List D→D→Prop} (F:Fun K x x st f fd) (sc:FnScope N ps (defScope st)) (hl:∀ ds d,R ds d→ds.length=ps.length) (hle:ps.length≤N.length)
  (h:∀ (cdv:Value) (A:Around) (outer:List Env) (s:Shared) (H:Hp) (E:XK) (ds:List D) (d:D) (Q:VK) (σ:St),Room k (A.deeper (envOfC x (defScope st) s.heap.objs.size f cdv))→R ds d →
   (∀ v H',Same H H'→Rep K (domH H) H' d v→Q v H')→At (Fx P w K mg base N x st f cdv A outer s H E) no no H (ds.map some++List.replicate (N.length - ds.length) none) σ H →
   DSs (Fx P w K mg base N x st f cdv A outer s H E) (defBody st) { nx:=fun _ H'=>Q .non H',rt:=Q } σ H):FnOk P w K mg base CX0 (k + 1) f fd ps (spF K R):=by
 refine F.ok sc (spF.len hl) (fun cdv A outer s H vs Q E hr h'=>?_)
 obtain ⟨ds,d,r,hR,q⟩:=h'
 refine ⟨_,pss_of,?_⟩
 exact h cdv A outer s H E ds d Q _ hr hR q (at_start sub_no r (by rw [hl ds d hR];exact hle))
theorem calF_of {x:Str}{st:Stmt}{f:Addr}{fd:FuncData}{ps:List Str}{k:Nat}{R:List D→D→Prop} (F:Fun K x x st f fd) (G:FnOk P w K mg base CX0 k f fd ps (spF K R)) (m:mg x=some (.ref f))
  (b:∀ (kV doc pm:Value) (an:Option Addr) (cdv ct:Value) (us:List Value),us.length=ps.length→bindArgs (PySem.W.fnOf x x (defArgs st) (defBody st) (defScope st) .none kV doc pm an cdv ct) ⟨us,[]⟩=pure (ps.zip us)):CalF P w K mg base x k ps R:=
 ⟨f,fd,G,F.binds b,F.kp,m⟩
end
section
variable {X:Cx}{S T M:Av}{H0 H:Hp}{δ:List (Option D)}{σ:St}{a b e:Expr}{es:List Expr}{pos p p2 p3 p4 pk:Pos}{d:D}{ds:List D}{i j:Int}
end
end L2
namespace MC
open L2 MO
end MC
namespace R
open PySem L2 MC MO
noncomputable def top (i:Nat):Stmt:=PySem.Challenge.pw_pickhouse_k19_texts_refused.main.body.getD i (.Pass ⟨0,0,0,0⟩)
noncomputable abbrev s_code_of:Stmt:=top 2
noncomputable abbrev s_codes_of:Stmt:=top 3
noncomputable abbrev s_set_of:Stmt:=top 4
noncomputable abbrev s_place_in_order:Stmt:=top 5
noncomputable abbrev s_told:Stmt:=top 6
noncomputable abbrev s_sets_of:Stmt:=top 7
noncomputable abbrev s_all_sets:Stmt:=top 8
noncomputable abbrev s_is_set:Stmt:=top 18
noncomputable abbrev s_is_family:Stmt:=top 19
noncomputable abbrev s_check_family:Stmt:=top 20
noncomputable abbrev s_ordered:Stmt:=top 21
noncomputable abbrev s_head_of:Stmt:=top 23
noncomputable abbrev s_line_of:Stmt:=top 24
noncomputable abbrev s_shown:Stmt:=top 25
noncomputable abbrev s_number_at:Stmt:=top 26
noncomputable abbrev s_read:Stmt:=top 27
noncomputable abbrev s__law_cell_at:Stmt:=top 29
noncomputable abbrev s__law_stir:Stmt:=top 30
noncomputable abbrev s__law_in_order:Stmt:=top 31
noncomputable abbrev s__law_parts:Stmt:=top 32
noncomputable abbrev s__law_many:Stmt:=top 33
noncomputable abbrev s__law_taken:Stmt:=top 34
noncomputable abbrev s__law_family:Stmt:=top 35
noncomputable abbrev s__law_text:Stmt:=top 36
noncomputable abbrev s__law_which:Stmt:=top 37
noncomputable abbrev s__law_member:Stmt:=top 38
noncomputable abbrev s__law_written:Stmt:=top 39
noncomputable abbrev s__law_changed:Stmt:=top 40
noncomputable abbrev s__law_asked:Stmt:=top 41
noncomputable abbrev s_law:Stmt:=top 42
end R
namespace R
open PySem L2 MC MO
noncomputable abbrev dS (c:Nat):D:=dInts (lst c)
noncomputable abbrev dF (cs:List Nat):D:=.lst (cs.map dS)
noncomputable abbrev dC (cs:List Nat):D:=.lst (cs.map fun (c:Nat)=>D.int (c:Int))
theorem inj_dS {cs:List Nat} (u:U cs):∀ x∈cs,∀ y∈cs,dS x=dS y→x=y:=fun x hx y hy e=>by
 injection e with e
 exact lst_inj (u x hx) (u y hy) (ints_inj e)
theorem inj_dI {cs:List Nat}:∀ x∈cs,∀ y∈cs,D.int ((x:Nat):Int)=D.int ((y:Nat):Int)→x=y:=fun x _ y _ e=>by injection e with e;omega
noncomputable def PowOk (K:PySem.W.Frag) (mg:Str→Option Value):Prop:=∃ q,mg "POWERS" = some (.ref q)∧KT' K q (pows.map V.int)
section
variable {P:Program}{w:World}{K:PySem.W.Frag}{mg:Str→Option Value}{base:Heap}{f:Addr}{fd:FuncData}
theorem de_pow {X:Cx}{S:Av}{σ:St}{H:Hp}{pos:Pos} (hp:PowOk X.K X.mg) (hg:autoParam (Gl X "POWERS") au3._auto_1):DE X S σ H (.Name "POWERS" pos) (.tup (pows.map D.int)):=by
 obtain ⟨q,hm,hk⟩:=hp
 refine de_glob hm (v:=.ref q) rfl (fun H' _=>?_) hg
 simp only [Rep]
 exact ⟨q,pows.map V.int,rfl,.inr hk,reps_ints.mpr rfl⟩
noncomputable def R_code (ds:List D) (d:D):Prop:=∃ c,c < 64∧ds=[dS c]∧d = .int (c:Int)
theorem sc_code_of:FnScope ["things"] ["things"] (defScope s_code_of):=⟨rfl,rfl,rfl,by decide +kernel,rfl,by decide +kernel,by decide +kernel⟩
theorem pow_at {k:Nat} (h:k < 7):(pows.map D.int)[k]? = some (.int (2 ^ k:Nat)):=by
 rw [List.getElem?_map,(by decide:∀ k < 7,pows[k]? = some ((2 ^ k:Nat):Int)) k h]
 rfl
theorem pows_at {k:Nat} (h:k < 7):pows.getD k 0=((2 ^ k:Nat):Int):=by
 have:=pow_at h
 rw [List.getElem?_map] at this
 rw [List.getD_eq_getElem?_getD]
 cases q:pows[k]? with
 | none=>rw [q] at this;cases this
 | some v=>rw [q] at this;simpa using this
theorem ok_code_of (F:Fun K "code_of" "code_of" s_code_of f fd) (ms:mg "sum" = none) (mP:PowOk K mg):FnOk P w K mg base CX0 1 f fd ["things"] (spR K R_code):=by
 refine fn_ok F sc_code_of (fun ds d ⟨c,_,h,_⟩=>by rw [h];rfl) (by decide) ?_
 rintro cdv A outer s H E S _ _ Q σ hr ⟨c,hc,rfl,rfl⟩ q A0
 have A0:At (Fx P w K mg base ["things"] "code_of" s_code_of f cdv A outer s H E) S no H [some (dS c)] σ H:=A0
 refine st_retD A0 q ?_
 rw [← code_lst hc]
 unfold codeI
 refine de_sum ms ?_
 rw [show dInts ((lst c).map fun t=>pows.getD t.toNat 0) = .lst ((lst c).map fun t=>D.int (pows.getD t.toNat 0)) from congrArg D.lst (List.map_map ..)]
 refine de_lcM (enc:=D.int) (xs:=lst c) A0 _ (di_list (A0.v 0)) inj_int ?_ ?_
 ·have:=lst_len c
  have:card c≤6:=by unfold card;exact Nat.le_trans (List.length_filter_le _ _) (by simp)
  omega
 ·intro S' σ2 H' t ht C fp s₀ H₀ pins A1
  obtain ⟨k,hk,_,rfl⟩:=mem_lst.mp ht
  refine de_ix ix_tup (de_pow mP) (A1.v 0) (good_ixT (n:=k) ?_ rfl)
  rw [pow_at (by omega)]
  show _=some (D.int (pows.getD (((k:Nat):Int)).toNat 0))
  rw [Int.toNat_natCast,pows_at (by omega)]
end
end R
namespace R
open PySem L2 MC MO
structure Fam (n:Nat) (cs:List Nat):Prop where
 lo:1≤n
 hi:n≤6
 un:Un n cs
 nd:cs.Nodup
theorem Fam.u {n:Nat}{cs:List Nat} (h:Fam n cs):U cs:=h.un.u h.hi
theorem Fam.len {n:Nat}{cs:List Nat} (h:Fam n cs):cs.length≤64:=by
 have:=len_le h.nd (b:=List.range 64) fun c hc=>List.mem_range.mpr (h.u c hc)
 simpa using this
theorem lst_le (c:Nat):(lst c).length≤6:=by rw [lst_len];unfold card;exact Nat.le_trans (List.length_filter_le _ _) (by simp)
section
variable {P:Program}{w:World}{K:PySem.W.Frag}{mg:Str→Option Value}{base:Heap}{f:Addr}{fd:FuncData}
noncomputable def R_codes (ds:List D) (d:D):Prop:=∃ cs,U cs∧cs.length≤100∧ds=[dF cs]∧d=dC cs
theorem sc_codes_of:FnScope ["family"] ["family"] (defScope s_codes_of):=⟨rfl,rfl,rfl,by decide +kernel,rfl,by decide +kernel,by decide +kernel⟩
theorem ok_codes_of (F:Fun K "codes_of" "codes_of" s_codes_of f fd) (C:Cal P w K mg base "code_of" 1 ["things"] R_code):FnOk P w K mg base CX0 2 f fd ["family"] (spR K R_codes):=by
 refine fn_ok F sc_codes_of (fun ds d ⟨c,_,_,h,_⟩=>by rw [h];rfl) (by decide) ?_
 rintro cdv A outer s H E S _ _ Q σ hr ⟨cs,u,hl,rfl,rfl⟩ q A0
 have A0:At (Fx P w K mg base ["family"] "codes_of" s_codes_of f cdv A outer s H E) S no H [some (dF cs)] σ H:=A0
 refine st_retD A0 q ?_
 refine de_lcM (enc:=dS) (xs:=cs) A0 _ (di_list (A0.v 0)) (inj_dS u) (by omega) ?_
 intro S' σ2 H' c hc C' fp s₀ H₀ pins A1
 exact de_cal C hr ⟨c,u c hc,rfl,rfl⟩ (da_cons (A1.v 0) da_nil)
noncomputable def R_isset (ds:List D) (d:D):Prop:=∃ (n:Int) (s:List Int),s.length≤1000∧ds=[.int n,dInts s]∧d = .bl (isSet n (-1) s)
theorem sc_is_set:FnScope ["many","things","before","thing"] ["many","things"] (defScope s_is_set):=⟨rfl,rfl,rfl,by decide +kernel,rfl,by decide +kernel,by decide +kernel⟩
noncomputable def bef (s:List Int) (i:Nat):Int:=match i with
 | 0=>-1
 | i + 1=>s.getD i 0
theorem isSet_step {n:Int}{s:List Int}{i:Nat}{t:Int} (h:s[i]? = some t):isSet n (bef s i) (s.drop i)=(!(decide (t≤bef s i) || decide (n≤t)) && isSet n (bef s (i + 1)) (s.drop (i + 1))):=by
 have hi:=(List.getElem?_eq_some_iff.mp h).1
 have e:s.drop i=t::s.drop (i + 1):=by
  rw [List.drop_eq_getElem_cons hi]
  rw [List.getElem?_eq_getElem hi] at h
  rw [Option.some.inj h]
 rw [e,isSet]
 have:bef s (i + 1)=t:=by show s.getD i 0=t;rw [List.getD_eq_getElem?_getD,h];rfl
 rw [this]
theorem ok_is_set (F:Fun K "is_set" "is_set" s_is_set f fd):FnOk P w K mg base CX0 1 f fd ["many","things"] (spR K R_isset):=by
 refine fn_ok F sc_is_set (fun ds d ⟨_,_,_,h,_⟩=>by rw [h];rfl) (by decide) ?_
 rintro cdv A outer s H E S _ _ Q σ hr ⟨n,ss,hl,rfl,rfl⟩ q A0
 have A0:At (Fx P w K mg base ["many","things","before","thing"] "is_set" s_is_set f cdv A outer s H E) S no H [some (.int n),some (dInts ss),none,none] σ H:=A0
 refine st_set A0 2 (de_neg de_int) (fun σ1 H1 A1=>?_) sc_is_set.nd
 refine st_for (E:={ nx:=fun _ H'=>Q .non H',rt:=Q }) 3 A1 (di_list (A1.v 1)) (fun i δ=>∃ o,δ=[some (.int n),some (dInts ss),some (.int (bef ss i)),o]∧isSet n (-1) ss=isSet n (bef ss i) (ss.drop i)) ⟨none,rfl,rfl⟩ ?_ ?_ sc_is_set.nd
 ·rintro H2 i d δ σ2 H3 of ⟨o,rfl,inv⟩ hd A2
  rw [List.getElem?_map] at hd
  cases hq:ss[i]? with
  | none=>rw [hq] at hd;cases hd
  | some t=>
   rw [hq] at hd
   have e:d = .int t:=by simpa using hd.symm
   subst e
   rw [isSet_step hq] at inv
   refine st_if A2 (DW.dt (dw_or (dt_le (A2.v 3) (A2.v 2)) (fun _=>dw_or1 (dt_ge (A2.v 3) (A2.v 0))))) (fun hc H4 A4=>?_) (fun hc H4 A4=>?_)
   ·rw [hc] at inv
    refine st_retD (A4.base of) q ?_
    rw [inv]
    exact de_bl
   ·rw [hc] at inv
    refine dss_nil (st_set A4 2 (A4.v 3) (fun σ5 H5 A5=>dss_nil ?_) sc_is_set.nd)
    refine ⟨_,⟨some (.int t),rfl,by simpa using inv⟩,?_⟩
    have e:bef ss (i + 1)=t:=by show ss.getD i 0=t;rw [List.getD_eq_getElem?_getD,hq];rfl
    rw [e]
    exact A5
 ·rintro δ σ2 H2 ⟨o,rfl,inv⟩ A2
  rw [List.length_map] at inv
  refine st_retD A2 q ?_
  rw [inv,List.drop_of_length_le (Nat.le_refl _)]
  exact de_bl
noncomputable def R_isfam (ds:List D) (d:D):Prop:=∃ n cs,Fam n cs∧ds=[.int n,dF cs]∧d = .bl true
theorem sc_is_family:FnScope ["many","family","one"] ["many","family"] (defScope s_is_family):=⟨rfl,rfl,rfl,by decide +kernel,rfl,by decide +kernel,by decide +kernel⟩
theorem uniq_nodup_len {ns:List Int} (h:ns.Nodup):(uniq ns).length=ns.length:=by
 have key:∀ (ns acc:List Int),ns.Nodup→(∀ x∈ns,x ∉ acc)→(ns.foldl ST.addK acc).length=acc.length + ns.length:=by
  intro ns
  induction ns with
  | nil=>intro acc _ _;simp
  | cons n ns ih=>
   intro acc nd h
   rw [List.nodup_cons] at nd
   rw [List.foldl_cons,show ST.addK acc n=acc++[n] from if_neg (h n (by simp)),ih _ nd.2 fun x hx hm=>?_]
   ·simp;omega
   ·rcases List.mem_append.mp hm with hm | hm
    ·exact h x (by simp [hx]) hm
    ·rw [List.mem_singleton] at hm
     exact nd.1 (hm ▸ hx)
 have:=key ns [] h (by simp)
 simpa [uniq] using this
theorem nodup_cast {cs:List Nat} (h:cs.Nodup):(cs.map fun (c:Nat)=>(c:Int)).Nodup:=by
 rw [List.nodup_iff_pairwise_ne] at h ⊢
 rw [List.pairwise_map]
 exact h.imp fun hne e=>hne (by omega)
noncomputable def Six (mg:Str→Option Value):Prop:=∃ t,mg "MOST_THINGS" = some (.int 6 t)
theorem de_six {X:Cx}{S:Av}{σ:St}{H:Hp}{pos:Pos} (h:Six X.mg) (hg:autoParam (Gl X "MOST_THINGS") au3._auto_1):DE X S σ H (.Name "MOST_THINGS" pos) (.int 6):=by
 obtain ⟨t,ht⟩:=h
 exact de_glob ht (v:=.int 6) ⟨t,rfl⟩ (fun H' _=>by simp only [Rep]) hg
theorem dC_ints (cs:List Nat):dC cs=dInts (cs.map fun (c:Nat)=>(c:Int)):=congrArg D.lst (List.map_map ..).symm
theorem ok_is_family (F:Fun K "is_family" "is_family" s_is_family f fd) (CS:Cal P w K mg base "is_set" 1 ["many","things"] R_isset) (CC:Cal P w K mg base "codes_of" 2 ["family"] R_codes) (m6:Six mg) (ml:mg "len" = none) (mt:mg "set" = none) :
  FnOk P w K mg base CX0 3 f fd ["many","family"] (spR K R_isfam):=by
 refine fn_ok F sc_is_family (fun ds d ⟨_,_,_,h,_⟩=>by rw [h];rfl) (by decide) ?_
 rintro cdv A outer s H E S _ _ Q σ hr ⟨n,cs,fam,rfl,rfl⟩ q A0
 have A0:At (Fx P w K mg base ["many","family","one"] "is_family" s_is_family f cdv A outer s H E) S no H [some (.int n),some (dF cs),none] σ H:=A0
 have h1:=fam.lo
 have h6:=fam.hi
 refine st_if A0 (DW.dt (dw_or (dt_lt (A0.v 0) de_int) (fun _=>dw_or1 (dt_gt (A0.v 0) (de_six m6))))) (fun hc H1 A1=>?_) (fun hc H1 A1=>dss_nil ?_)
 ·exfalso
  rw [Bool.or_eq_true,decide_eq_true_eq,decide_eq_true_eq] at hc
  omega
 refine st_for (E:={ nx:=fun _ H'=>Q .non H',rt:=Q }) 2 A1 (di_list (A1.v 1)) (fun i δ=>∃ o,δ=[some (.int n),some (dF cs),o]) ⟨none,rfl⟩ ?_ ?_ sc_is_family.nd
 ·rintro H2 i d δ σ2 H3 of ⟨o,rfl⟩ hd A2
  rw [List.getElem?_map] at hd
  cases hq:cs[i]? with
  | none=>rw [hq] at hd;cases hd
  | some c=>
   rw [hq] at hd
   have e:d=dS c:=by simpa using hd.symm
   subst e
   have hc:=fam.un c (List.mem_of_getElem? hq)
   have hset:=isSet_lst (n:=n) h6 hc
   refine st_if A2 (dt_not (dt_val (k:=true) (de_cal CS hr (d:=.bl true) ⟨n,lst c,by have:=lst_le c;omega,rfl,by rw [hset]⟩ (da_cons (A2.v 0) (da_cons (A2.v 2) da_nil))))) (fun hc H4 A4=>nomatch hc) (fun _ H4 A4=>dss_nil (dss_nil ⟨_,⟨some (dS c),rfl⟩,A4⟩))
 ·rintro δ σ2 H2 ⟨o,rfl⟩ A2
  refine st_retD A2 q ?_
  have hl:=fam.len
  have e:D.bl true = .bl (decide (((uniq (cs.map fun (c:Nat)=>(c:Int))).length:Int)=((cs.map dS).length:Int))):=by
   rw [uniq_nodup_len (nodup_cast fam.nd),List.length_map,List.length_map];simp
  rw [e]
  refine de_eqI (de_lenset ?_ (by rw [List.length_map];omega) ml mt) (de_len ml (A2.v 1))
  rw [← dC_ints]
  exact de_cal CC hr ⟨cs,fam.u,by omega,rfl,rfl⟩ (da_cons (A2.v 1) da_nil)
end
end R
namespace R
open PySem L2 MC MO
section
variable {P:Program}{w:World}{K:PySem.W.Frag}{mg:Str→Option Value}{base:Heap}{f:Addr}{fd:FuncData}
noncomputable def R_cell (ds:List D) (d:D):Prop:=∃ (ns:List Int) (k:Nat),ns.length≤63∧ds=[.scr ns,.int k]∧d = .int (ns.getD k 0)
theorem sc_cell:FnScope ["script","k"] ["script","k"] (defScope s__law_cell_at):=⟨rfl,rfl,rfl,by decide +kernel,rfl,by decide +kernel,by decide +kernel⟩
theorem ok_cell (F:Fun K "_law_cell_at" "_law_cell_at" s__law_cell_at f fd) (ml:mg "len" = none):FnOk P w K mg base CX0 1 f fd ["script","k"] (spR K R_cell):=by
 refine fn_ok F sc_cell (fun ds d ⟨_,_,_,h,_⟩=>by rw [h];rfl) (by decide) ?_
 rintro cdv A outer s H E S _ _ Q σ hr ⟨ns,k,h63,rfl,rfl⟩ q A0
 have A0:At (Fx P w K mg base ["script","k"] "_law_cell_at" s__law_cell_at f cdv A outer s H E) S no H [some (.scr ns),some (.int k)] σ H:=A0
 refine st_if A0 (dt_lt (A0.v 1) (de_lenS ml (A0.v 0))) (fun hc H1 A1=>?_) (fun hc H1 A1=>dss_nil ?_)
 ·have hc':k < ns.length:=by
   have:=of_decide_eq_true hc
   omega
  refine st_retD A1 q (de_ix ix_list (A1.v 0) (A1.v 1) (good_ixS (n:=k) ?_ rfl))
  rw [List.getElem?_eq_getElem hc',List.getD_eq_getElem?_getD,List.getElem?_eq_getElem hc'];rfl
 ·have hc':¬ k < ns.length:=by
   have:=of_decide_eq_false hc
   omega
  refine st_retD A1 q ?_
  rw [List.getD_eq_getElem?_getD,List.getElem?_eq_none (by omega)]
  exact de_int
noncomputable def stir (x:Int):Int:=((x + 7919) % 2147483647 * ((x + 7919) % 2147483647) + 48271 * ((x + 7919) % 2147483647) + 12345) % 2147483629
noncomputable def R_stir (ds:List D) (d:D):Prop:=∃ x:Int,ds=[.int x]∧d = .int (stir x)
theorem sc_stir:FnScope ["seed"] ["seed"] (defScope s__law_stir):=⟨rfl,rfl,rfl,by decide +kernel,rfl,by decide +kernel,by decide +kernel⟩
theorem ok_stir (F:Fun K "_law_stir" "_law_stir" s__law_stir f fd):FnOk P w K mg base CX0 1 f fd ["seed"] (spR K R_stir):=by
 refine fn_ok F sc_stir (fun ds d ⟨_,h,_⟩=>by rw [h];rfl) (by decide) ?_
 rintro cdv A outer s H E S _ _ Q σ hr ⟨x,rfl,rfl⟩ q A0
 have A0:At (Fx P w K mg base ["seed"] "_law_stir" s__law_stir f cdv A outer s H E) S no H [some (.int x)] σ H:=A0
 refine st_set A0 0 (de_mod (de_add (A0.v 0) de_int) de_int (by decide)) (fun σ1 H1 A1=>?_) sc_stir.nd
 have l1:=Int.emod_nonneg (x + 7919) (show (2147483647:Int)≠0 by decide)
 have l2:=Int.emod_lt_of_pos (x + 7919) (show (0:Int) < 2147483647 by decide)
 refine st_retD A1 q ?_
 unfold stir
 exact de_mod (de_add (de_add (de_mul (A1.v 0) (A1.v 0) (.inr ⟨by omega,by omega⟩)) (de_mul de_int (A1.v 0) (.inr ⟨by omega,by omega⟩))) de_int) de_int (by decide)
noncomputable def R_inord (ds:List D) (d:D):Prop:=∃ ss:List (List Int),ss.length≤64∧(∀ x∈ss,x.length≤100)∧ds=[dSets ss]∧d=dSets (inOrd ss)
theorem sc_inord:FnScope ["sets","rows"] ["sets"] (defScope s__law_in_order):=⟨rfl,rfl,rfl,by decide +kernel,rfl,by decide +kernel,by decide +kernel⟩
theorem boot_sorted':bootBuiltins "sorted" = some (.builtin "sorted"):=by decide +kernel
theorem rows_at (rs:List Row) {k:Nat} (h:k < rs.length):(rs.map encRow)[k]? = some (encRow (rs.getD k (0,[]))):=by
 rw [List.getElem?_map,List.getElem?_eq_getElem h,List.getD_eq_getElem?_getD,List.getElem?_eq_getElem h];rfl
theorem ok_inord (F:Fun K "_law_in_order" "_law_in_order" s__law_in_order f fd) (ms:mg "sorted" = none) (ml:mg "len" = none) (mi:mg "list" = none) (mr:mg "range" = none):FnOk P w K mg base CX0 1 f fd ["sets"] (spR K R_inord):=by
 refine fn_ok F sc_inord (fun ds d ⟨_,_,_,h,_⟩=>by rw [h];rfl) (by decide) ?_
 rintro cdv A outer s H E S _ _ Q σ hr ⟨ss,h64,hx,rfl,rfl⟩ q A0
 have A0:At (Fx P w K mg base ["sets","rows"] "_law_in_order" s__law_in_order f cdv A outer s H E) S no H [some (dSets ss),none] σ H:=A0
 have hu:(Fx P w K mg base ["sets","rows"] "_law_in_order" s__law_in_order f cdv A outer s H E).A.units + 8 < cLine:=units_of hr
 have hu4:(Fx P w K mg base ["sets","rows"] "_law_in_order" s__law_in_order f cdv A outer s H E).A.units + 4 < cLine:=units_of hr
 have hl:(sortR (ss.map rowOf)).length=ss.length:=by rw [(sortR_perm _).length_eq,List.length_map]
 refine' st_set (d:=.lst ((sortR (ss.map rowOf)).map encRow)) A0 1 ?e1 (fun σ1 H1 A1=>?_) sc_inord.nd
 case e1=>
  refine de_sortRows (rs:=ss.map rowOf) hu (by rw [List.length_map];omega) (fun rs' p up=>by rw [sortR_eq p up]) ?_
  refine pe_callB (call_sortRows hu) rfl ms boot_sorted' (da_cons ?_ da_nil)
  rw [List.map_map]
  refine de_lcM (enc:=dInts) (xs:=ss) A0 _ (di_list (A0.v 0)) inj_set (by omega) ?_
  intro S' σ2 H' a ha C' fp s₀ H₀ pins A2
  have e:(encRow ∘ rowOf) a = .tup [.int ((a.map D.int).length:Int),dInts a]:=by show D.tup [.int (a.length:Int),_]=_;rw [List.length_map]
  rw [e]
  exact de_tup (da_cons (de_len ml (A2.v 0)) (da_cons (de_list mi (A2.v 0)) da_nil))
 ·generalize hrs:sortR (ss.map rowOf)=rs at A1 hl
  refine st_retD A1 q ?_
  have e:dSets (inOrd ss) = .lst (((List.range rs.length).filter (keepAt rs)).map fun k=>dInts (rs.getD k (0,[])).2):=by
   show D.lst ((inOrd ss).map dInts)=_
   unfold inOrd once
   rw [hrs,List.map_map];rfl
  rw [e]
  refine de_lcE (enc:=fun (k:Nat)=>D.int (k:Int)) (xs:=List.range rs.length) A1 (keepAt rs) _ ?_ inj_dI (by rw [List.length_range];omega) (LcEl.test ?_)
  ·exact di_rangeN mr (de_len ml (A1.v 1)) (by rw [List.length_map]) (by omega)
  ·intro S' σ2 H' k hk C' fp s₀ H₀ pins A2
   have hk':=List.mem_range.mp hk
   refine ⟨DW.dt (dw_or (dt_eqI (A2.v 0) de_int) fun h0=>dw_or1 ?_),fun _=>?_⟩
   ·have h0':k≠0:=fun z=>by rw [z] at h0;exact absurd h0 (by decide)
    refine dt_cmp (op_neRow hu4) (de_ix ix_list (A2.v 2) (A2.v 0) (good_ixL (n:=k) (rows_at rs hk') rfl)) (de_ix ix_list (A2.v 2) (de_sub (A2.v 0) de_int) (good_ixL (n:=k - 1) (rows_at rs (by omega)) (by omega))) good_neRow (nomark _)
   ·exact de_ix ix_tup (de_ix ix_list (A2.v 2) (A2.v 0) (good_ixL (n:=k) (rows_at rs hk') rfl)) de_int (good_ixT (n:=1) rfl rfl)
end
end R
namespace R
open PySem L2 MC MO
theorem dF_sets (cs:List Nat):dF cs=dSets (cs.map lst):=by
 show D.lst _=D.lst _
 rw [List.map_map];rfl
section
variable {P:Program}{w:World}{K:PySem.W.Frag}{mg:Str→Option Value}{base:Heap}{f:Addr}{fd:FuncData}
noncomputable def R_parts (ds:List D) (d:D):Prop:=∃ c,c < 64∧ds=[dS c]∧d=dF (parts c)
theorem sc_parts:FnScope ["things","found","thing"] ["things"] (defScope s__law_parts):=⟨rfl,rfl,rfl,by decide +kernel,rfl,by decide +kernel,by decide +kernel⟩
noncomputable def rawI (ts:List Int) (i:Nat):List (List Int):=rawParts (ts.take i)
theorem rawI_succ {ts:List Int}{i:Nat}{t:Int} (h:ts[i]? = some t):rawI ts (i + 1)=rawI ts i++(rawI ts i).map fun p=>p++[t]:=by
 unfold rawI rawParts
 rw [List.take_add_one,h,List.foldl_append];rfl
theorem rawI_len (ts:List Int):∀ i,(rawI ts i).length≤2 ^ i∧∀ p∈rawI ts i,p.length≤i
 | 0=>by
  unfold rawI rawParts
  simp
 | i + 1=>by
  obtain ⟨h1,h2⟩:=rawI_len ts i
  cases q:ts[i]? with
  | none=>
   have e:rawI ts (i + 1)=rawI ts i:=by unfold rawI;rw [List.take_add_one,q];simp
   rw [e]
   exact ⟨by rw [Nat.pow_succ];omega,fun p hp=>by have:=h2 p hp;omega⟩
  | some t=>
   rw [rawI_succ q]
   refine ⟨by rw [List.length_append,List.length_map,Nat.pow_succ];omega,fun p hp=>?_⟩
   rcases List.mem_append.mp hp with hp | hp
   ·have:=h2 p hp;omega
   ·obtain ⟨p',hp',rfl⟩:=List.mem_map.mp hp
    have:=h2 p' hp'
    rw [List.length_append,List.length_singleton];omega
theorem pow6 {i:Nat} (h:i≤6):2 ^ i≤64:=Nat.pow_le_pow_right (by decide) h
theorem ok_parts (F:Fun K "_law_parts" "_law_parts" s__law_parts f fd) (C:Cal P w K mg base "_law_in_order" 1 ["sets"] R_inord):FnOk P w K mg base CX0 2 f fd ["things"] (spR K R_parts):=by
 refine fn_ok F sc_parts (fun ds d ⟨_,_,h,_⟩=>by rw [h];rfl) (by decide) ?_
 rintro cdv A outer s H E S _ _ Q σ hr ⟨c,hc,rfl,rfl⟩ q A0
 have A0:At (Fx P w K mg base ["things","found","thing"] "_law_parts" s__law_parts f cdv A outer s H E) S no H [some (dS c),none,none] σ H:=A0
 have hl6:=lst_le c
 refine st_set A0 1 (de_lst (da_cons (de_lst da_nil) da_nil)) (fun σ1 H1 A1=>?_) sc_parts.nd
 refine st_for (E:={ nx:=fun _ H'=>Q .non H',rt:=Q }) 2 A1 (di_list (A1.v 0)) (fun i δ=>∃ o,δ=[some (dS c),some (dSets (rawI (lst c) i)),o]) ⟨none,rfl⟩ ?_ ?_ sc_parts.nd
 ·rintro H2 i d δ σ2 H3 of ⟨o,rfl⟩ hd A2
  rw [List.getElem?_map] at hd
  cases hq:(lst c)[i]? with
  | none=>rw [hq] at hd;cases hd
  | some t=>
   rw [hq] at hd
   have e:d = .int t:=by simpa using hd.symm
   subst e
   have hi:=(List.getElem?_eq_some_iff.mp hq).1
   obtain ⟨r1,r2⟩:=rawI_len (lst c) i
   have p6:=pow6 (i:=i) (by omega)
   refine' st_set (d:=dSets (rawI (lst c) (i + 1))) A2 1 ?e1 (fun σ4 H4 A4=>dss_nil ⟨_,⟨some (.int t),rfl⟩,A4⟩) sc_parts.nd
   rw [rawI_succ hq]
   have e:dSets (rawI (lst c) i++(rawI (lst c) i).map fun p=>p++[t]) = .lst ((rawI (lst c) i).map dInts++(rawI (lst c) i).map fun p=>dInts (p++[t])):=by
    show D.lst _=_
    rw [List.map_append,List.map_map];rfl
   rw [e]
   refine de_cat (A2.v 1) (de_lcM (enc:=dInts) (xs:=rawI (lst c) i) A2 _ (di_list (A2.v 1)) inj_set (by omega) ?_) (by rw [List.length_map,List.length_map];omega)
   intro S' σ5 H' p hp C' fp s₀ H₀ pins A5
   have e2:dInts (p++[t]) = .lst (p.map D.int++[D.int t]):=by show D.lst _=_;rw [List.map_append];rfl
   rw [e2]
   exact de_cat (A5.v 0) (de_lst (da_cons (A5.v 3) da_nil)) (by rw [List.length_map];have:=r2 p hp;simp;omega)
 ·rintro δ σ2 H2 ⟨o,rfl⟩ A2
  rw [List.length_map] at A2
  obtain ⟨r1,r2⟩:=rawI_len (lst c) (lst c).length
  have p6:=pow6 hl6
  refine st_retD A2 q ?_
  have e:dF (parts c)=dSets (inOrd (rawI (lst c) (lst c).length)):=by
   rw [dF_sets,parts_map hc];unfold rawI;rw [List.take_of_length_le (Nat.le_refl _)]
  rw [e]
  exact de_cal C hr ⟨_,by omega,fun x hx=>by have:=r2 x hx;omega,rfl,rfl⟩ (da_cons (A2.v 1) da_nil)
noncomputable def manyN (x:Int):Nat:=if x / 5 % 10=1 then 6 else (1 + x % 5).toNat
theorem many_lo (x:Int):1≤manyN x∧manyN x≤6:=by unfold manyN;split <;> omega
noncomputable def R_many (ds:List D) (d:D):Prop:=∃ (ns:List Int) (k:Nat),ns.length≤63∧ds=[.scr ns,.int k]∧d = .int (manyN (ns.getD k 0))
theorem sc_many:FnScope ["script","at","cell"] ["script","at"] (defScope s__law_many):=⟨rfl,rfl,rfl,by decide +kernel,rfl,by decide +kernel,by decide +kernel⟩
theorem ok_many (F:Fun K "_law_many" "_law_many" s__law_many f fd) (C:Cal P w K mg base "_law_cell_at" 1 ["script","k"] R_cell):FnOk P w K mg base CX0 2 f fd ["script","at"] (spR K R_many):=by
 refine fn_ok F sc_many (fun ds d ⟨_,_,_,h,_⟩=>by rw [h];rfl) (by decide) ?_
 rintro cdv A outer s H E S _ _ Q σ hr ⟨ns,k,h63,rfl,rfl⟩ q A0
 have A0:At (Fx P w K mg base ["script","at","cell"] "_law_many" s__law_many f cdv A outer s H E) S no H [some (.scr ns),some (.int k),none] σ H:=A0
 refine st_set A0 2 (de_cal C hr ⟨ns,k,h63,rfl,rfl⟩ (da_cons (A0.v 0) (da_cons (A0.v 1) da_nil))) (fun σ1 H1 A1=>?_) sc_many.nd
 refine st_if A1 (dt_eqI (de_mod (de_fdiv (A1.v 2) de_int ⟨by decide,by decide⟩) de_int (by decide)) de_int) (fun hc H2 A2=>?_) (fun hc H2 A2=>dss_nil ?_)
 ·refine st_retD A2 q ?_
  have e:manyN (ns.getD k 0)=6:=if_pos (of_decide_eq_true hc)
  rw [e]
  exact de_int
 ·refine st_retD A2 q ?_
  have e:((manyN (ns.getD k 0):Nat):Int)=1 + ns.getD k 0 % 5:=by
   unfold manyN
   rw [if_neg (of_decide_eq_false hc)];omega
  rw [e]
  exact de_add de_int (de_mod (A2.v 2) de_int (by decide))
noncomputable def R_taken (ds:List D) (d:D):Prop:=∃ (way number:Int) (c n:Nat),ds=[.int way,.int number,dS c,.int n]∧d = .bl (if way=1 then decide (((lst c).length:Int)≤number % ((n:Int) + 1)) else if way=2 then decide (lst c=[]) || decide (((lst c).getLast?.getD 0) - (lst c).getD 0 0=((lst c).length:Int) - 1) else decide (number / 7 % 8≤way / 4 % 8))
theorem sc_taken:FnScope ["way","number","part","many"] ["way","number","part","many"] (defScope s__law_taken):=⟨rfl,rfl,rfl,by decide +kernel,rfl,by decide +kernel,by decide +kernel⟩
theorem ok_taken (F:Fun K "_law_taken" "_law_taken" s__law_taken f fd) (ml:mg "len" = none):FnOk P w K mg base CX0 1 f fd ["way","number","part","many"] (spR K R_taken):=by
 refine fn_ok F sc_taken (fun ds d ⟨_,_,_,_,h,_⟩=>by rw [h];rfl) (by decide) ?_
 rintro cdv A outer s H E S _ _ Q σ hr ⟨way,number,c,n,rfl,rfl⟩ q A0
 have A0:At (Fx P w K mg base ["way","number","part","many"] "_law_taken" s__law_taken f cdv A outer s H E) S no H [some (.int way),some (.int number),some (dS c),some (.int n)] σ H:=A0
 refine st_if A0 (dt_eqI (A0.v 0) de_int) (fun hc H1 A1=>?_) (fun hc H1 A1=>dss_nil ?_)
 ·rw [if_pos (of_decide_eq_true hc)] at q
  refine st_retD A1 q ?_
  rw [show (lst c).length=((lst c).map D.int).length by rw [List.length_map]]
  exact de_le (de_len ml (A1.v 2)) (de_mod (A1.v 1) (de_add (A1.v 3) de_int) (by omega))
 rw [if_neg (of_decide_eq_false hc)] at q
 refine st_if A1 (dt_eqI (A1.v 0) de_int) (fun hc H2 A2=>?_) (fun hc H2 A2=>dss_nil ?_)
 ·rw [if_pos (of_decide_eq_true hc)] at q
  refine st_retD A2 q ?_
  refine de_orV (k:=decide (lst c=[])) (de_eqE (enc:=D.int) (ys:=[]) enc_int (units_of hr) (A2.v 2) (de_lst da_nil)) (fun h0=>de_one ?_) (fun h1=>by rw [h1];rfl)
  rw [h0,Bool.false_or]
  have hne:lst c≠[]:=of_decide_eq_false h0
  obtain ⟨x,hx⟩:∃ x,(lst c).getLast? = some x:=⟨_,List.getLast?_eq_getLast hne⟩
  have hpos:0 < (lst c).length:=List.length_pos_iff.mpr hne
  rw [show (((lst c).length:Nat):Int)=(((lst c).map D.int).length:Int) by rw [List.length_map],hx]
  refine de_eqI (de_sub (de_ix ix_list (A2.v 2) (de_neg de_int) (good_ixE ?_)) (de_ix ix_list (A2.v 2) de_int (good_ixL (n:=0) ?_ rfl))) (de_sub (de_len ml (A2.v 2)) de_int)
  ·rw [List.getLast?_map,hx];rfl
  ·rw [List.getElem?_map,List.getElem?_eq_getElem hpos,List.getD_eq_getElem?_getD,List.getElem?_eq_getElem hpos];rfl
 ·rw [if_neg (of_decide_eq_false hc)] at q
  refine st_retD A2 q ?_
  exact de_le (de_mod (de_fdiv (A2.v 1) de_int ⟨by decide,by decide⟩) de_int (by decide)) (de_mod (de_fdiv (A2.v 0) de_int ⟨by decide,by decide⟩) de_int (by decide))
end
end R
namespace R
open PySem L2 MC MO
section
variable {P:Program}{w:World}{K:PySem.W.Frag}{mg:Str→Option Value}{base:Heap}{f:Addr}{fd:FuncData}
noncomputable def P_family (ds:List D):Prop:=∃ (ns:List Int) (k n:Nat),ns.length≤63∧1≤n∧n≤6∧ds=[.scr ns,.int k,.int n]
noncomputable def R_family (ds:List D) (d:D):Prop:=∃ (ns:List Int) (k n:Nat) (cs:List Nat),ds=[.scr ns,.int k,.int n]∧Fam n cs∧d=dF cs
theorem sc_family:FnScope ["script","at","many","cell","way","family","k","part","number","place"] ["script","at","many"] (defScope s__law_family):=⟨rfl,rfl,rfl,by decide +kernel,rfl,by decide +kernel,by decide +kernel⟩
theorem emod_nat (x:Int) (n:Nat):∃ q:Nat,q≤n∧x % ((n:Int) + 1)=(q:Int):=by
 have h1:=Int.emod_nonneg x (show (n:Int) + 1≠0 by omega)
 have h2:=Int.emod_lt_of_pos x (show (0:Int) < (n:Int) + 1 by omega)
 exact ⟨(x % ((n:Int) + 1)).toNat,by omega,by omega⟩
theorem at_set2 {X:Cx}{S M:Av}{H0 H:Hp}{δ:List (Option D)}{σ:St}{i j:Nat}{v u:V}{d e:D} (A:At X S M H0 δ σ H) (r:Rep X.K S H d v) (q:Rep X.K S H e u):At X S M H0 ((δ.set i (some d)).set j (some e)) ((σ.set i (some v)).set j (some u)) H:=(A.set r).set q
theorem ok_family (F:Fun K "_law_family" "_law_family" s__law_family f fd) (C:Cal P w K mg base "_law_cell_at" 1 ["script","k"] R_cell) (CS:Cal P w K mg base "_law_stir" 1 ["seed"] R_stir) (CP:Cal P w K mg base "_law_parts" 2 ["things"] R_parts)
  (CT:Cal P w K mg base "_law_taken" 1 ["way","number","part","many"] R_taken) (ml:mg "len" = none) (mi:mg "list" = none) (mr:mg "range" = none) (me:mg "enumerate" = none):FnOk P w K mg base CX0 3 f fd ["script","at","many"] (spX K P_family R_family):=by
 refine fn_okX F sc_family (fun ds ⟨_,_,_,_,_,_,h⟩=>by rw [h];rfl) (by decide) ?_
 rintro cdv A outer s H E S _ Q σ hr ⟨ns,k,n,h63,n1,n6,rfl⟩ q A0
 have A0:At (Fx P w K mg base ["script","at","many","cell","way","family","k","part","number","place"] "_law_family" s__law_family f cdv A outer s H E) S no H [some (.scr ns),some (.int k),some (.int n),none,none,none,none,none,none,none] σ H:=A0
 refine' st_set (d:=.int (ns.getD k 0)) A0 3 ?e1 (fun σ1 H1 A1=>?_) sc_family.nd
 case e1=>exact de_cal C hr ⟨ns,k,h63,rfl,rfl⟩ (da_cons (A0.v 0) (da_cons (A0.v 1) da_nil))
 generalize ns.getD k 0=cc at A1
 refine st_set A1 4 (de_add (de_mod (A1.v 3) de_int (by decide)) (de_mul de_int (de_mod (de_fdiv (A1.v 3) de_int ⟨by decide,by decide⟩) de_int (by decide)) (.inl ⟨by decide,by decide⟩))) (fun σ2 H2 A2=>?_) sc_family.nd
 generalize hway:cc % 4 + 4 * (cc / 4 % 8)=way at A2
 refine st_own 5 A2 rfl (fun L hL σ3 H3 A3 O3=>?_) sc_family.nd
 have hS:¬ S L:=A2.sub.new hL
 have h0L:H L=none:=by
  cases e:H L with
  | none=>rfl
  | some o=>have:=A2.same L o (fun z=>z) e;rw [hL] at this;cases this
 have hfull:=full_lt n6
 have nd:=sc_family.nd
 refine' st_forS (E:={ nx:=fun _ H'=>Q .non H',rt:=Q }) (ds:=enumD ((parts (full n)).map dS)) A3 ?hI (pg_two (n:=6) (m:=7) nd)
  (fun H1 i σ' H'=>∃ (o1 o2 o3 o4:Option D) (cs:List Nat),At (Fx P w K mg base ["script","at","many","cell","way","family","k","part","number","place"] "_law_family" s__law_family f cdv A outer s H E) (plus S L) (plus no L) H1 [some (.scr ns),some (.int k),some (.int n),some (.int cc),some (.int way),none,o1,o2,o3,o4] σ' H' ∧
   Own (Fx P w K mg base ["script","at","many","cell","way","family","k","part","number","place"] "_law_family" s__law_family f cdv A outer s H E) (plus S L) σ' H' 5 L (cs.map dS)∧cs.Nodup∧∀ c∈cs,c∈(parts (full n)).take i) ?h0 ?hk ?hs ?hd
 case hI=>
  refine di_enum me ?_
  refine de_cal CP hr ⟨full n,hfull,rfl,rfl⟩ (da_cons ?_ da_nil)
  have e:dS (full n)=dInts ((List.range (((n:Nat):Int)).toNat).map fun (k:Nat)=>(k:Int)):=by rw [Int.toNat_natCast,lst_full n6];rfl
  rw [e]
  exact de_listrange (A3.v 2) (by omega) (by omega) rfl mi mr
 case h0=>exact fun H1 s1 A'=>⟨none,none,none,none,[],A'.here,O3.up s1,List.nodup_nil,fun c hc=>nomatch hc⟩
 case hk=>
  rintro H1 i σ' H' ⟨o1,o2,o3,o4,cs,A',O',_⟩
  exact ⟨fun b o nb h=>A'.same b o (fun z=>nb (A'.ms b z)) h,A'.sub⟩
 case hs=>
  rintro H4 i d σ4 H5 H6 v s4 ⟨o1,o2,o3,o4,cs,A4,O4,nd4,m4⟩ hd s5 rv
  obtain ⟨d',hd',rfl⟩:=enumD_of hd
  rw [List.getElem?_map] at hd'
  cases hq:(parts (full n))[i]? with
  | none=>rw [hq] at hd';cases hd'
  | some c=>
   rw [hq] at hd'
   have e:d'=dS c:=by simpa using hd'.symm
   subst e
   have hlen:cs.length≤64:=by
    have:=len_le nd4 (b:=List.range 64) fun c hc=>List.mem_range.mpr (parts_U hfull c (List.mem_of_mem_take (m4 c hc)))
    simpa using this
   refine two_read rv fun u u2 ru rw'=>?_
   have A5:=at_set2 (i:=6) (j:=7) (A4.up s5) ru rw'
   have O5:=((O4.up s5).set (m:=6) (by decide) (some u)).set (m:=7) (by decide) (some u2)
   generalize (σ4.set 6 (some u)).set 7 (some u2)=σ5 at A5 O5
   refine' st_setO (d:=.int (stir (ns.getD (k + 1) 0 + (i:Int)))) A5 O5 ?e2 (fun σ6 H7 A6 O6=>?_) (by decide:8≠5) nd
   case e2=>exact de_cal CS hr ⟨_,rfl,rfl⟩ (da_cons (de_add (de_cal C hr ⟨ns,k + 1,h63,rfl,rfl⟩ (da_cons (A5.v 0) (da_cons (de_add (A5.v 1) de_int) da_nil))) (A5.v 6)) da_nil)
   generalize stir (ns.getD (k + 1) 0 + (i:Int))=num0 at A6
   refine st_ifJ (fun σ' H'=>∃ num:Int,At (Fx P w K mg base ["script","at","many","cell","way","family","k","part","number","place"] "_law_family" s__law_family f cdv A outer s H E) (plus S L) (plus no L) H4 [some (.scr ns),some (.int k),some (.int n),some (.int cc),some (.int way),none,some (.int i),some (dS c),some (.int num),o4] σ' H'∧Own (Fx P w K mg base ["script","at","many","cell","way","family","k","part","number","place"] "_law_family" s__law_family f cdv A outer s H E) (plus S L) σ' H' 5 L (cs.map dS))
    A6 (dt_inT (de_mod (A6.v 4) de_int (by decide)) (de_tup (da_cons de_int (da_cons de_int da_nil)))) (fun _ H8 s8 A8=>?_) (fun _ H8 s8 A8=>dss_nil ⟨_,A8,O6.up s8⟩) ?_
   ·refine st_setO (m:=8) A8 (O6.up s8) (de_cal C hr ⟨ns,k + 1,h63,rfl,rfl⟩ (da_cons (A8.v 0) (da_cons (de_add (A8.v 1) de_int) da_nil))) (fun σ9 H9 A9 O9=>dss_nil ⟨_,A9,O9⟩) (by decide:8≠5) nd
   rintro σ9 H9 ⟨num,A9,O9⟩
   have more:∀ c'∈cs,c'∈(parts (full n)).take (i + 1):=fun c' h=>by
    rw [List.take_add_one];exact List.mem_append_left _ (m4 c' h)
   refine' st_ifJ (fun σ' H'=>∃ (o1 o2 o3 o4:Option D) (cs:List Nat),At (Fx P w K mg base ["script","at","many","cell","way","family","k","part","number","place"] "_law_family" s__law_family f cdv A outer s H E) (plus S L) (plus no L) H4 [some (.scr ns),some (.int k),some (.int n),some (.int cc),some (.int way),none,o1,o2,o3,o4] σ' H' ∧
     Own (Fx P w K mg base ["script","at","many","cell","way","family","k","part","number","place"] "_law_family" s__law_family f cdv A outer s H E) (plus S L) σ' H' 5 L (cs.map dS)∧cs.Nodup∧∀ c∈cs,c∈(parts (full n)).take (i + 1)) A9 (dt_val ?e3) (fun _ H10 s10 A10=>?_) (fun _ H10 s10 A10=>dss_nil ⟨_,_,_,_,cs,A10,O9.up s10,nd4,more⟩) (fun σ' H' h=>dss_nil h)
   case e3=>
    refine de_cal CT hr ⟨if (decide (way % 4=0) || decide (way % 4=3))=true then way else way % 4,num,c,n,rfl,rfl⟩ (da_cons (de_if (dt_inT (de_mod (A9.v 4) de_int (by decide)) (de_tup (da_cons de_int (da_cons de_int da_nil)))) (fun h=>?_) (fun h=>?_)) (da_cons (A9.v 8) (da_cons (A9.v 7) (da_cons (A9.v 2) da_nil))))
    ·rw [if_pos h];exact A9.v 4
    ·rw [if_neg (by rw [h];exact Bool.false_ne_true)];exact de_mod (A9.v 4) de_int (by decide)
   ·have O10:=O9.up s10
    obtain ⟨pl,hpl,epl⟩:=emod_nat (stir (ns.getD (k + 2) 0 + (i:Int)) / 7) (cs.map dS).length
    refine' st_setO (d:=.int (pl:Int)) A10 O10 ?e4 (fun σ11 H11 A11 O11=>?_) (by decide:9≠5) nd
    case e4=>
     rw [← epl]
     exact de_mod (de_fdiv (de_cal CS hr ⟨_,rfl,rfl⟩ (da_cons (de_add (de_cal C hr ⟨ns,k + 2,h63,rfl,rfl⟩ (da_cons (A10.v 0) (da_cons (de_add (A10.v 1) de_int) da_nil))) (A10.v 6)) da_nil)) de_int ⟨by decide,by decide⟩) (de_add (de_lenO O10 ml) de_int) (by omega)
    refine st_insert A11 O11 (.inr rfl) (A11.v 9) (A11.v 7) hpl (by rw [List.length_map];omega) (fun H12 A12 O12=>dss_nil ⟨_,_,_,_,cs.take pl++c::cs.drop pl,A12,?_,?_,?_⟩)
    ·have e:(cs.take pl++c::cs.drop pl).map dS=(cs.map dS).take pl++dS c::(cs.map dS).drop pl:=by
      rw [List.map_append,List.map_cons,List.map_take,List.map_drop]
     rw [e];exact O12
    ·have hcn:c ∉ cs:=fun z=>by
      have h1:=m4 c z
      obtain ⟨a,ha⟩:=List.getElem?_of_mem h1
      rw [List.getElem?_take] at ha
      split at ha
      ·rename_i hai
       have nd':=up_nodup (parts_up hfull)
       have hne:=List.pairwise_iff_getElem.mp (List.nodup_iff_pairwise_ne.mp nd') a i (List.getElem?_eq_some_iff.mp ha).1 (List.getElem?_eq_some_iff.mp hq).1 hai
       exact hne (by rw [(List.getElem?_eq_some_iff.mp ha).2,(List.getElem?_eq_some_iff.mp hq).2])
      ·cases ha
     have pm:(cs.take pl++c::cs.drop pl).Perm (c::cs):=by
      refine List.perm_middle.trans ?_
      rw [List.take_append_drop]
     exact pm.symm.nodup (List.nodup_cons.mpr ⟨hcn,nd4⟩)
    ·intro c' h
     rcases List.mem_append.mp h with h | h
     ·exact more c' (List.mem_of_mem_take h)
     ·rcases List.mem_cons.mp h with rfl | h
      ·rw [List.take_add_one,hq];simp
      ·exact more c' (List.mem_of_mem_drop h)
 case hd=>
  rintro H4 σ4 H5 s4 ⟨o1,o2,o3,o4,cs,A4,O4,nd4,m4⟩
  have cs_ok:∀ ds':List Nat,ds'.Nodup→(∀ c∈ds',c∈cs)→Fam n ds':=fun ds' nd' h=>⟨n1,n6,fun c hc=>(full_mem n6).mp (List.mem_of_mem_take (m4 c (h c hc))),nd'⟩
  have A5:At (Fx P w K mg base ["script","at","many","cell","way","family","k","part","number","place"] "_law_family" s__law_family f cdv A outer s H E) S no H [some (.scr ns),some (.int k),some (.int n),some (.int cc),some (.int way),some (dF cs),o1,o2,o3,o4] σ4 H5:=(A4.base (fun b o nb h=>s4 b o (A3.same b o nb h))).free O4 h0L (fun a z=>z.elim) hS
  refine st_ifJ (fun σ' H'=>∃ (o1 o2 o3 o4:Option D) (cs:List Nat),At (Fx P w K mg base ["script","at","many","cell","way","family","k","part","number","place"] "_law_family" s__law_family f cdv A outer s H E) S no H [some (.scr ns),some (.int k),some (.int n),some (.int cc),some (.int way),some (dF cs),o1,o2,o3,o4] σ' H'∧Fam n cs)
   A5 (DW.dt (dw_and (dt_eqI (de_mod (de_fdiv (A5.v 3) de_int ⟨by decide,by decide⟩) de_int (by decide)) de_int) fun _=>dw_and1 (dt_gt (de_len ml (A5.v 5)) de_int))) (fun _ H6 s6 A6=>?_) (fun _ H6 s6 A6=>dss_nil ⟨_,_,_,_,cs,A6,cs_ok cs nd4 fun _ h=>h⟩) ?_
  ·refine st_set A6 5 (de_slice (A6.v 5) do_none (do_some (de_add de_int (de_mod (de_fdiv (de_cal C hr ⟨ns,k + 2,h63,rfl,rfl⟩ (da_cons (A6.v 0) (da_cons (de_add (A6.v 1) de_int) da_nil))) de_int ⟨by decide,by decide⟩) de_int (by decide))))) (fun σ7 H7 A7=>dss_nil ?_) nd
   have e:∃ z,cutD (cs.map dS) none (some (1 + ns.getD (k + 2) 0 / 3 % 6))=(cs.take z).map dS:=by
    unfold cutD
    rw [HT.sIx_none]
    exact ⟨_,by rw [List.drop_zero,Nat.sub_zero,List.map_take]⟩
   obtain ⟨z,ez⟩:=e
   rw [ez] at A7
   exact ⟨_,_,_,_,cs.take z,A7,cs_ok _ (nd4.sublist (List.take_sublist ..)) fun c h=>List.mem_of_mem_take h⟩
  ·rintro σ7 H7 ⟨o1,o2,o3,o4,cs',A7,fam⟩
   exact st_retD A7 (q (dF cs') ⟨ns,k,n,cs',rfl,fam,rfl⟩) (A7.v 5)
end
end R
namespace R
open PySem L2 MC MO
section
variable {P:Program}{w:World}{K:PySem.W.Frag}{mg:Str→Option Value}{base:Heap}{f:Addr}{fd:FuncData}
noncomputable def R_check (ds:List D) (d:D):Prop:=∃ n cs,Fam n cs∧ds=[.int n,dF cs]∧d = .non
theorem sc_check_family:FnScope ["many","family"] ["many","family"] (defScope s_check_family):=⟨rfl,rfl,rfl,by decide +kernel,rfl,by decide +kernel,by decide +kernel⟩
theorem ok_check_family (F:Fun K "check_family" "check_family" s_check_family f fd) (C:Cal P w K mg base "is_family" 3 ["many","family"] R_isfam):FnOk P w K mg base CX0 4 f fd ["many","family"] (spR K R_check):=by
 refine fn_ok F sc_check_family (fun ds d ⟨_,_,_,h,_⟩=>by rw [h];rfl) (by decide) ?_
 rintro cdv A outer s H E S _ _ Q σ hr ⟨n,cs,fam,rfl,rfl⟩ q A0
 have A0:At (Fx P w K mg base ["many","family"] "check_family" s_check_family f cdv A outer s H E) S no H [some (.int n),some (dF cs)] σ H:=A0
 refine st_if A0 (dt_not (dt_val (k:=true) (de_cal C hr (d:=.bl true) ⟨n,cs,fam,rfl,rfl⟩ (da_cons (A0.v 0) (da_cons (A0.v 1) da_nil))))) (fun hc H1 A1=>nomatch hc) (fun hc H1 A1=>dss_nil (dss_nil ?_))
 exact q .non H1 A1.same.same (by simp only [Rep])
end
end R
namespace R
open PySem L2 MC MO
section
variable {P:Program}{w:World}{K:PySem.W.Frag}{mg:Str→Option Value}{base:Heap}{f:Addr}{fd:FuncData}
noncomputable def R_setof (ds:List D) (d:D):Prop:=∃ c,c < 64∧ds=[.int ((c:Nat):Int)]∧d=dS c
theorem sc_set_of:FnScope ["code"] ["code"] (defScope s_set_of):=⟨rfl,rfl,rfl,by decide +kernel,rfl,by decide +kernel,by decide +kernel⟩
theorem bits7 {c:Nat} (h:c < 64):(List.range 7).filter (fun k=>Builtin.bitAnd (c:Int) ((2 ^ k:Nat):Int) != 0)=(List.range 6).filter c.testBit:=
 all64 (p:=fun c=>(List.range 7).filter (fun k=>Builtin.bitAnd (c:Int) ((2 ^ k:Nat):Int) != 0)=(List.range 6).filter c.testBit) (by decide +kernel) h
noncomputable def bitP (c:Nat):D × D→Bool
 | (_,.int w)=>Builtin.bitAnd (c:Int) w != 0
 | _=>false
noncomputable def pairs7:List (D × D):=(List.range 7).map fun (k:Nat)=>(D.int (k:Int),D.int ((2 ^ k:Nat):Int))
theorem pairs7_enum:enumD (pows.map D.int)=pairs7.map tupD:=rfl
theorem ok_set_of (F:Fun K "set_of" "set_of" s_set_of f fd) (mP:PowOk K mg) (me:mg "enumerate" = none):FnOk P w K mg base CX0 1 f fd ["code"] (spR K R_setof):=by
 refine fn_ok F sc_set_of (fun ds d ⟨_,_,h,_⟩=>by rw [h];rfl) (by decide) ?_
 rintro cdv A outer s H E S _ _ Q σ hr ⟨c,hc,rfl,rfl⟩ q A0
 have A0:At (Fx P w K mg base ["code"] "set_of" s_set_of f cdv A outer s H E) S no H [some (.int (c:Int))] σ H:=A0
 obtain ⟨pq,hq,hk⟩:=mP
 refine st_retD A0 q ?_
 have e:dS c = .lst ((pairs7.filter (bitP c)).map fun p=>p.1):=by
  show D.lst _=_
  unfold pairs7 lst
  rw [List.filter_map,List.map_map,List.map_map]
  have:(bitP c ∘ fun (k:Nat)=>(D.int (k:Int),D.int ((2 ^ k:Nat):Int)))=fun k=>Builtin.bitAnd (c:Int) ((2 ^ k:Nat):Int) != 0:=rfl
  rw [this,bits7 hc];rfl
 rw [e]
 refine de_lc2 (ps:=pairs7) A0 (bitP c) _ (by rw [← pairs7_enum];exact di_enumT me hq hk) (by decide) ?_
 intro S' σ2 H' d hd C' fp s₀ H₀ pins A2
 obtain ⟨k,hk',rfl⟩:=List.mem_map.mp hd
 exact ⟨ifs_one (dt_int (de_and (A2.v 2) (A2.v 1))),fun _=>A2.v 0⟩
theorem sc_place:FnScope ["one"] ["one"] (defScope s_place_in_order):=⟨rfl,rfl,rfl,by decide +kernel,rfl,by decide +kernel,by decide +kernel⟩
theorem ok_place (F:Fun K "place_in_order" "place_in_order" s_place_in_order f fd) (ml:mg "len" = none):FnOk P w K mg base CX0 1 f fd ["one"] (spR K R_place):=by
 refine fn_ok F sc_place (fun ds d ⟨_,_,h,_⟩=>by rw [h];rfl) (by decide) ?_
 rintro cdv A outer s H E S _ _ Q σ hr ⟨l,hl,rfl,rfl⟩ q A0
 have A0:At (Fx P w K mg base ["one"] "place_in_order" s_place_in_order f cdv A outer s H E) S no H [some (encSet l)] σ H:=A0
 refine st_retD A0 q ?_
 have e:encRow ((l.length:Int),l) = .tup [.int ((l.map D.int).length:Int),encSet l]:=by show D.tup [.int (l.length:Int),_]=_;rw [List.length_map]
 rw [e]
 exact de_tup (da_cons (de_len ml (A0.v 0)) (da_cons (A0.v 0) da_nil))
noncomputable def R_told (ds:List D) (d:D):Prop:=∃ cs,U cs∧cs.length≤100∧ds=[dC cs]∧d=dF (ordC cs)
theorem sc_told:FnScope ["codes"] ["codes"] (defScope s_told):=⟨rfl,rfl,rfl,by decide +kernel,rfl,by decide +kernel,by decide +kernel⟩
noncomputable def es (cs:List Nat):List Nat:=(sortI (uniq (cs.map fun (c:Nat)=>(c:Int)))).map Int.toNat
theorem es_int {cs:List Nat}:sortI (uniq (cs.map fun (c:Nat)=>(c:Int)))=(es cs).map fun (c:Nat)=>(c:Int):=by
 unfold es
 rw [List.map_map]
 conv=>lhs;rw [← List.map_id (sortI _)]
 refine List.map_congr_left fun x hx=>?_
 have:=(uniq_mem _ _).mp ((sortI_perm _).mem_iff.mp hx)
 obtain ⟨c,_,rfl⟩:=List.mem_map.mp this
 show (c:Int)=(((c:Int)).toNat:Int)
 rw [Int.toNat_natCast]
theorem es_mem {cs:List Nat}{c:Nat}:c∈es cs↔c∈cs:=by
 have:c∈es cs↔(c:Int)∈(es cs).map fun (c:Nat)=>(c:Int):=by
  rw [List.mem_map]
  exact ⟨fun h=>⟨c,h,rfl⟩,fun ⟨d,h,e⟩=>by rw [← (show d=c by omega)];exact h⟩
 rw [this,← es_int,(sortI_perm _).mem_iff,uniq_mem,List.mem_map]
 exact ⟨fun ⟨d,h,e⟩=>by rw [← (show d=c by omega)];exact h,fun h=>⟨c,h,rfl⟩⟩
theorem es_nodup (cs:List Nat):(es cs).Nodup:=by
 have h:((es cs).map fun (c:Nat)=>(c:Int)).Nodup:=by rw [← es_int];exact (sortI_perm _).symm.nodup (uniq_nodup _)
 rw [List.nodup_iff_pairwise_ne,List.pairwise_map] at h
 exact h.imp fun hne e=>hne (by rw [e])
theorem es_len {cs:List Nat} (u:U cs):(es cs).length≤64:=by
 have:=len_le (es_nodup cs) (b:=List.range 64) fun c hc=>List.mem_range.mpr (u c (es_mem.mp hc))
 simpa using this
theorem nodup_lst {cs:List Nat} (u:U cs) (h:cs.Nodup):(cs.map lst).Nodup:=by
 rw [List.nodup_iff_pairwise_ne] at h ⊢
 rw [List.pairwise_map]
 exact h.imp_of_mem fun ha hb hne e=>hne (lst_inj (u _ ha) (u _ hb) e)
theorem es_sort {cs:List Nat} (u:U cs):sortS ((es cs).map lst)=(ordC cs).map lst:=by
 rw [ord_map u]
 symm
 refine sortS_eq ?_ ?_
 ·have n1:(inOrd (cs.map lst)).Nodup:=List.Pairwise.imp (S:=fun x y=>x≠y) (fun {x y} q (e:x=y)=>lt_irrefl x (by rw [← e] at q;exact q)) (inOrd_up _)
  refine (List.perm_ext_iff_of_nodup n1 (nodup_lst (fun c h=>u c (es_mem.mp h)) (es_nodup cs))).mpr fun s=>?_
  rw [inOrd_mem,List.mem_map,List.mem_map]
  exact ⟨fun ⟨c,h,e⟩=>⟨c,es_mem.mpr h,e⟩,fun ⟨c,h,e⟩=>⟨c,es_mem.mp h,e⟩⟩
 ·show RowsUp _
  unfold RowsUp
  rw [List.pairwise_map]
  refine (inOrd_up _).imp fun {a b} h=>?_
  cases q:TS.rowLt (rowL b) (rowL a) with
  | false=>rfl
  | true=>exact absurd (lt_trans h q) (lt_irrefl a)
theorem ok_told (F:Fun K "told" "told" s_told f fd) (C:Cal P w K mg base "set_of" 1 ["code"] R_setof) (CP:Cal P w K mg base "place_in_order" 1 ["one"] R_place) (ms:mg "sorted" = none) (mt:mg "set" = none):FnOk P w K mg base CX0 4 f fd ["codes"] (spR K R_told):=by
 refine fn_ok F sc_told (fun ds d ⟨_,_,_,h,_⟩=>by rw [h];rfl) (by decide) ?_
 rintro cdv A outer s H E S _ _ Q σ hr ⟨cs,u,hl,rfl,rfl⟩ q A0
 have A0:At (Fx P w K mg base ["codes"] "told" s_told f cdv A outer s H E) S no H [some (dC cs)] σ H:=A0
 refine st_retD A0 q ?_
 have ue:U (es cs):=fun c h=>u c (es_mem.mp h)
 have e:dF (ordC cs) = .lst ((sortS ((es cs).map lst)).map encSet):=by rw [es_sort u,dF_sets]
 rw [e]
 refine de_sortkey CP hr ?_ (by rw [List.length_map];exact es_len u) (fun l hl=>?_) ms
 ·rw [List.map_map]
  refine de_lcM (enc:=fun (c:Nat)=>D.int (c:Int)) (xs:=es cs) A0 _ (di_list ?_) inj_dI (by have:=es_len u;omega) ?_
  ·have e2:D.lst ((es cs).map fun (c:Nat)=>D.int (c:Int))=dInts (sortI (uniq (cs.map fun (c:Nat)=>(c:Int)))):=by rw [es_int];exact dC_ints _
   rw [e2]
   refine de_sortset ?_ (by rw [List.length_map];omega) ?_ ms mt
   ·rw [← dC_ints];exact A0.v 0
   ·have:=es_len u
    unfold es at this
    rwa [List.length_map,(sortI_perm _).length_eq] at this
  ·intro S' σ2 H' c hc C' fp s₀ H₀ pins A2
   exact de_cal C hr ⟨c,ue c hc,rfl,rfl⟩ (da_cons (A2.v 0) da_nil)
 ·obtain ⟨c,_,rfl⟩:=List.mem_map.mp hl
  have:=lst_le c
  omega
end
end R
namespace R
open PySem L2 MC MO
section
variable {P:Program}{w:World}{K:PySem.W.Frag}{mg:Str→Option Value}{base:Heap}{f:Addr}{fd:FuncData}
noncomputable def R_ordered (ds:List D) (d:D):Prop:=∃ n cs,Fam n cs∧ds=[.int (n:Nat),dF cs]∧d=dF (ordC cs)
theorem sc_ordered:FnScope ["many","family"] ["many","family"] (defScope s_ordered):=⟨rfl,rfl,rfl,by decide +kernel,rfl,by decide +kernel,by decide +kernel⟩
theorem ok_ordered (F:Fun K "ordered" "ordered" s_ordered f fd) (CC:Cal P w K mg base "check_family" 4 ["many","family"] R_check) (CO:Cal P w K mg base "codes_of" 2 ["family"] R_codes) (CA:Cal P w K mg base "told" 4 ["codes"] R_told):FnOk P w K mg base CX0 5 f fd ["many","family"] (spR K R_ordered):=by
 refine fn_ok F sc_ordered (fun ds d ⟨_,_,_,h,_⟩=>by rw [h];rfl) (by decide) ?_
 rintro cdv A outer s H E S _ _ Q σ hr ⟨n,cs,fam,rfl,rfl⟩ q A0
 have A0:At (Fx P w K mg base ["many","family"] "ordered" s_ordered f cdv A outer s H E) S no H [some (.int n),some (dF cs)] σ H:=A0
 have hl:=fam.len
 refine st_call A0 (de_cal CC hr ⟨n,cs,fam,rfl,rfl⟩ (da_cons (A0.v 0) (da_cons (A0.v 1) da_nil))) (fun H1 A1=>?_)
 exact st_retD A1 q (de_cal CA hr ⟨cs,fam.u,by omega,rfl,rfl⟩ (da_cons (de_cal CO hr ⟨cs,fam.u,by omega,rfl,rfl⟩ (da_cons (A1.v 1) da_nil)) da_nil))
end
end R
namespace R
open PySem L2 MC MO
section
variable {P:Program}{w:World}{K:PySem.W.Frag}{mg:Str→Option Value}{base:Heap}{f:Addr}{fd:FuncData}
noncomputable def R_setsof (ds:List D) (d:D):Prop:=∃ c,c < 64∧ds=[dS c]∧d=dF (parts c)
theorem sc_sets_of:FnScope ["things","whole"] ["things"] (defScope s_sets_of):=⟨rfl,rfl,rfl,by decide +kernel,rfl,by decide +kernel,by decide +kernel⟩
theorem parts_range {c:Nat} (h:c < 64):ordC ((List.range (c + 1)).filter fun a=>decide (((a &&& c:Nat):Int)=(a:Int)))=parts c:=by
 unfold parts
 refine ord_congr (fun a ha=>?_) (subs_U h) fun a=>?_
 ·have:=List.mem_range.mp (List.mem_filter.mp ha).1
  omega
 ·rw [List.mem_filter,List.mem_range,decide_eq_true_eq]
  constructor
  ·rintro ⟨h1,h2⟩
   exact (mem_subs h (by omega)).mpr (by omega)
  ·intro h1
   have h2:=(mem_subs h (subs_lt h a h1)).mp h1
   exact ⟨by have:a &&& c≤c:=Nat.and_le_right;omega,by rw [h2]⟩
theorem ok_sets_of (F:Fun K "sets_of" "sets_of" s_sets_of f fd) (C:Cal P w K mg base "code_of" 1 ["things"] R_code) (CT:Cal P w K mg base "told" 4 ["codes"] R_told) (mr:mg "range" = none):FnOk P w K mg base CX0 5 f fd ["things"] (spR K R_setsof):=by
 refine fn_ok F sc_sets_of (fun ds d ⟨_,_,h,_⟩=>by rw [h];rfl) (by decide) ?_
 rintro cdv A outer s H E S _ _ Q σ hr ⟨c,hc,rfl,rfl⟩ q A0
 have A0:At (Fx P w K mg base ["things","whole"] "sets_of" s_sets_of f cdv A outer s H E) S no H [some (dS c),none] σ H:=A0
 refine st_set A0 1 (de_cal C hr ⟨c,hc,rfl,rfl⟩ (da_cons (A0.v 0) da_nil)) (fun σ1 H1 A1=>?_) sc_sets_of.nd
 refine st_retD A1 q ?_
 rw [← parts_range hc]
 refine de_cal CT hr ⟨_,fun a ha=>?_,?_,rfl,rfl⟩ (da_cons ?_ da_nil)
 ·have:=List.mem_range.mp (List.mem_filter.mp ha).1
  omega
 ·refine Nat.le_trans (List.length_filter_le _ _) ?_
  rw [List.length_range];omega
 ·refine de_lcE (enc:=fun (c:Nat)=>D.int (c:Int)) (xs:=List.range (c + 1)) A1 _ _ (di_rangeN mr (de_add (A1.v 1) de_int) rfl (by omega)) inj_dI (by rw [List.length_range];omega) (LcEl.test ?_)
  intro S' σ2 H' a ha C' fp s₀ H₀ pins A2
  refine ⟨?_,fun _=>A2.v 0⟩
  rw [← and_nat]
  exact dt_eqI (de_and (A2.v 0) (A2.v 2)) (A2.v 0)
end
end R
namespace R
open PySem L2 MC MO
section
variable {P:Program}{w:World}{K:PySem.W.Frag}{mg:Str→Option Value}{base:Heap}{f:Addr}{fd:FuncData}
noncomputable def R_allsets (ds:List D) (d:D):Prop:=∃ n,n≤6∧ds=[.int ((n:Nat):Int)]∧d=dF (parts (full n))
theorem sc_all_sets:FnScope ["many"] ["many"] (defScope s_all_sets):=⟨rfl,rfl,rfl,by decide +kernel,rfl,by decide +kernel,by decide +kernel⟩
theorem ok_all_sets (F:Fun K "all_sets" "all_sets" s_all_sets f fd) (C:Cal P w K mg base "sets_of" 5 ["things"] R_setsof) (mi:mg "list" = none) (mr:mg "range" = none):FnOk P w K mg base CX0 6 f fd ["many"] (spR K R_allsets):=by
 refine fn_ok F sc_all_sets (fun ds d ⟨_,_,h,_⟩=>by rw [h];rfl) (by decide) ?_
 rintro cdv A outer s H E S _ _ Q σ hr ⟨n,n6,rfl,rfl⟩ q A0
 have A0:At (Fx P w K mg base ["many"] "all_sets" s_all_sets f cdv A outer s H E) S no H [some (.int (n:Int))] σ H:=A0
 refine st_retD A0 q ?_
 refine de_cal C hr ⟨full n,full_lt n6,rfl,rfl⟩ (da_cons ?_ da_nil)
 have e:dS (full n)=dInts ((List.range (((n:Nat):Int)).toNat).map fun (k:Nat)=>(k:Int)):=by rw [Int.toNat_natCast,lst_full n6];rfl
 rw [e]
 exact de_listrange (A0.v 0) (by omega) (by omega) rfl mi mr
end
end R
namespace L2
open PySem PySem.Spec PyProof.Rows
section
variable {K:PySem.W.Frag}{S T:Av}{H H':Hp}
end
section
variable {X:Cx}{S M:Av}{H0 H:Hp}{δ:List (Option D)}{σ:St}
theorem At.own (A:At X S M H0 δ σ H) {H':Hp}{S2:Av}{n:Nat}{v:V} (s:Same H H') (h1:∀ a,S2 a→H a=none) (h2:∀ a,S2 a→H' a≠none) (hn:δ[n]? = some none):At X (fun a=>S a∨S2 a) (fun a=>M a∨S2 a) H0 δ (σ.set n (some v)) H':=by
 refine ⟨fun b o nb h=>s b o (A.same b o (fun z=>nb (.inl z)) h),fun b z=>z.elim (fun z=>(A.sub.up s) b z) (h2 b),fun b z=>z.imp (A.ms b) id,by rw [List.length_set];exact A.len,fun m d h=>?_⟩
 obtain ⟨w,q1,q2⟩:=A.env m d h
 have hmn:n≠m:=fun e=>by rw [e,h] at hn;cases hn
 exact ⟨w,by rw [List.getElem?_set_ne hmn];exact q1,(q2.ext fun a z=>z.imp id (h1 a)).up s⟩
theorem At.put (A:At X S M H0 δ σ H) {n:Nat}{v:Option V} (hn:δ[n]? = some none):At X S M H0 δ (σ.set n v) H:=
 ⟨A.same,A.sub,A.ms,by rw [List.length_set];exact A.len,fun m d h=>by
  obtain ⟨w,q1,q2⟩:=A.env m d h
  have hmn:n≠m:=fun e=>by rw [e,h] at hn;cases hn
  exact ⟨w,by rw [List.getElem?_set_ne hmn];exact q1,q2⟩⟩
theorem At.slot (A:At X S M H0 δ σ H) {n:Nat}{v:Option V} (h:n < δ.length):(σ.set n v)[n]? = some v:=List.getElem?_set_self (by rw [← A.len];exact h)
end
section
variable {X:Cx}{S M:Av}{H0 H:Hp}{δ:List (Option D)}{σ:St}{E:Ends}{rest:List Stmt}{pos:Pos}{c:Expr}{k:Bool}
theorem st_ifS (A:At X S M H0 δ σ H) {a b:List Stmt} (hc:DT X S σ H c k) (h1:k=true→∀ H',Same H H'→At X S M H0 δ σ H'→DSs X a { E with nx:=DSs X rest E } σ H') (h2:k=false→∀ H',Same H H'→At X S M H0 δ σ H'→DSs X b { E with nx:=DSs X rest E } σ H'):DSs X (.If c a b pos::rest) E σ H:=by
 refine dss_cons (DS.of (ps_if hc pss_of pss_of) ⟨rfl,Same.refl _,A.sub,fun H' s=>?_⟩)
 cases k with
 | true=>exact iteT (h1 rfl H' s (A.up s))
 | false=>exact iteF (h2 rfl H' s (A.up s))
end
theorem de_cut {X:Cx}{S:Av}{σ:St}{H:Hp}{e:Expr}{lo hi:Option Expr}{l u:Option Int}{pos p2:Pos}{ds ds':List D} (he:DE X S σ H e (.lst ds)) (hl:DO X S σ H lo l) (hu:DO X S σ H hi u) (hd:cutD ds l u=ds'):DE X S σ H (.Subscript e (.Slice lo hi none p2) pos) (.lst ds'):=by
 subst hd
 exact de_slice he hl hu
end L2
namespace L2
open PySem PySem.Spec PyProof.Rows
section
variable {X:Cx}{S T M:Av}{H0 H:Hp}{δ:List (Option D)}{σ:St}{a b e:Expr}{es:List Expr}{pos pos' p p2 p3 p4 ap cp:Pos}{d d':D}{ds:List D}{i j:Int}{x y:Str}{xs:List Str}{E:Ends}{rest:List Stmt}
theorem rep_str {H:Hp}:Rep X.K S H (.str x) (.str x):=by simp only [Rep]
theorem reps_strs:∀ {xs:List Str}{vs:List V},Reps X.K S H (xs.map D.str) vs↔vs=xs.map V.str
 | [],vs=>by simp only [List.map_nil,Reps]
 | x::xs,vs=>by
  simp only [List.map_cons,Reps,Rep]
  constructor
  ·rintro ⟨v,r,rfl,rfl,h⟩
   rw [reps_strs.mp h]
  ·intro h
   exact ⟨.str x,xs.map V.str,h,rfl,reps_strs.mpr rfl⟩
theorem vals_strs:∀ {xs:List Str}{us:List Value},Vals (xs.map V.str) us→∃ l:List (Str × Tok),us=strValues l∧l.map (·.1)=xs
 | [],us,h=>by cases h;exact ⟨[],rfl,rfl⟩
 | x::xs,us,h=>by
  cases h with
  | cons h1 h2=>
   obtain ⟨t,rfl⟩:=h1
   obtain ⟨l,rfl,e⟩:=vals_strs h2
   exact ⟨(x,t)::l,rfl,by rw [List.map_cons,e]⟩
theorem strs_vals:∀ (l:List (Str × Tok)),Vals ((l.map (·.1)).map V.str) (strValues l)
 | []=>.nil
 | (x,t)::l=>.cons ⟨t,rfl⟩ (strs_vals l)
theorem de_strI (ms:X.mg "str" = none) (ha:DE X S σ H a (.int i)) (hz:i.natAbs.log2 < 1920) (hg:autoParam (Gl X "str") au3._auto_1) (hs:autoParam (starEach [a] X.env=(false,eval a X.env)::starEach [] X.env) au3._auto_1):DE X S σ H (.Call (.Name "str" p) [a] [] pos) (.str (Str.ofString (toString i))):=
 de_cb (fun vs H' Q _ _ r k=>by
  obtain ⟨v,rfl,rv⟩:=reps_1 r
  simp only [Rep] at rv
  subst rv
  exact ⟨i,rfl,hz,k _ H' (Same.refl _) rep_str⟩) (pe_callTy call_str_int hg ms (by decide +kernel) (da_cons ha da_nil hs) (he:=hs))
theorem de_addS (ha:DE X S σ H a (.str x)) (hb:DE X S σ H b (.str y)) (hl:x.length + y.length≤1000):DE X S σ H (.BinOp a .Add b pos) (.str (x++y)):=
 de_op op_add_str ha hb fun u v H' Q _ _ ru rv k=>by
  simp only [Rep] at ru rv
  exact ⟨x,y,ru,rv,small_line hl,k _ H' (Same.refl _) rep_str⟩
theorem good_eqS {H:Hp}:GoodR X.K S H (.str x) (.str y) (.bl (decide (x=y))) rEq:=by
 intro u v H' Q _ _ rx ry k
 simp only [Rep] at rx ry
 subst rx ry
 refine ⟨rfl,k _ H' (Same.refl _) ?_⟩
 simp only [Rep,V.str.injEq]
theorem good_neS {H:Hp}:GoodR X.K S H (.str x) (.str y) (.bl (!decide (x=y))) rNe:=by
 intro u v H' Q _ _ rx ry k
 simp only [Rep] at rx ry
 subst rx ry
 refine ⟨rfl,k _ H' (Same.refl _) ?_⟩
 simp only [Rep,V.str.injEq]
theorem dt_eqS (ha:DE X S σ H a (.str x)) (hb:DE X S σ H b (.str y)):DT X S σ H (.Compare a [.Eq] [b] pos) (decide (x=y)):=dt_cmp op_eq ha hb good_eqS (nomark _)
theorem dt_neS (ha:DE X S σ H a (.str x)) (hb:DE X S σ H b (.str y)):DT X S σ H (.Compare a [.NotEq] [b] pos) (!decide (x=y)):=dt_cmp op_ne ha hb good_neS (nomark _)
theorem enc_str:Enc X D.str 0:=by
 refine ⟨fun S S' x y v pins σ H s I h h'=>?_,fun A S S' x y v v' u u' pins σ H s hu I h h' r r'=>?_⟩
 ·simp only [Rep] at h h'
  rw [h] at h'
  exact V.str.inj h'
 ·simp only [Rep] at h h'
  subst h h'
  obtain ⟨t,rfl⟩:=r
  obtain ⟨t',rfl⟩:=r'
  have:=SeqAt.EqAt.str_str (A:=A) (s:=s) x t y t'
  rwa [show (x == y)=decide (x=y) from by rw [Bool.eq_iff_iff,beq_iff_eq,decide_eq_true_eq]] at this
theorem mt_join:MtR X "str.join" (fun v vs H Q=>∃ sep texts q,v = .str sep∧vs=[.ref q]∧SqL X.K H q (texts.map V.str)∧JoinOk sep texts=true∧Q (.str (Txt.join sep texts)) H):=by
 intro pins s σ H v vs u us Q I rx rv h
 obtain ⟨sep,texts,q,rfl,rfl,hS,hok,k⟩:=h
 obtain ⟨t,rfl⟩:=rx
 obtain ⟨u',rfl,ru⟩:=rv.one
 cases ru
 obtain ⟨its,r,pl,hz⟩:=I.list hS
 obtain ⟨l,rfl,el⟩:=vals_strs r
 exact SC.join pl.isList el hok fun t' tk=>⟨.str _,H,I.tok tk,⟨t',rfl⟩,k⟩
theorem de_join {o:Expr} (ho:DE X S σ H o (.str x)) (ha:DE X S σ H a (.lst (xs.map D.str))) (hok:JoinOk x xs=true) (hb:autoParam (attributeBase o "join" X.env (eval o X.env)=eval o X.env) au3._auto_1)
  (hfew:autoParam (((backTo cp (starEach [a] X.env)).all (fun x=>!x.1) && (backToKw cp (keywordEach [] X.env)).all (fun x=>x.1.isSome) && decide ([a].length + ([]:List Keyword).length + (if ([]:List Keyword).isEmpty then 0 else 1) < 30))=true) au3._auto_1)
  (hline:autoParam ((ap.endLine == cp.line)=true) au3._auto_1) (hs:autoParam (starEach [a] X.env=(false,eval a X.env)::starEach [] X.env) au3._auto_1) (hplain:autoParam ((backTo cp (starEach [] X.env)).any (·.1)=false) au3._auto_1) :
  DE X S σ H (.Call (.Attribute o "join" ap) [a] [] cp) (.str (Txt.join x xs)):=
 (pe_bm PySem.F.plainAttrs_str PySem.F.slot_str_join PySem.F.type_str_join mt_join ho (da_cons ha da_nil hs) hb hfew hline hs hplain).mono fun σ' H' Q ⟨e1,sm,sb,k⟩=>⟨e1,sm,sb,fun v H1 s1 rv=>by
  simp only [Rep] at rv
  subst rv
  refine ⟨rfl,e1,sm.trans s1,sb.up s1,fun vs H2 s2 r2=>?_⟩
  obtain ⟨v,rfl,rv⟩:=reps_1 r2
  obtain ⟨q,ys,rfl,h1,h2⟩:=rep_seq rv
  have:=reps_strs.mp h2
  subst this
  exact ⟨x,xs,q,rfl,rfl,h1.sq,hok,k _ H2 (s1.trans s2) rep_str⟩⟩
theorem split_len (x y:Str):(Txt.split x y).length≤x.length + 2:=by
 unfold Txt.split
 split
 ·simp
 ·split
  ·simp
  ·unfold Builtin.Str.partsBetween
   have:=StrLaws.occ_length_le_len x y 0 x.length (x.length + 1)
   simp only [List.length_map,List.length_zip,List.length_cons,List.length_append,List.length_nil]
   omega
theorem mt_split:MtR X "str.split" (fun v vs H Q=>∃ x y,v = .str x∧vs=[.str y]∧(y.length == 0)=false∧x.length + 2≤sizeLine∧∀ l,H l=none→Q (.ref l) (upd H l (.lst ((Txt.split x y).map V.str)))):=by
 intro pins s σ H v vs u us Q I rx rv h
 obtain ⟨x,y,rfl,rfl,hy,hz,k⟩:=h
 obtain ⟨t,rfl⟩:=rx
 obtain ⟨u',rfl,ru⟩:=rv.one
 obtain ⟨t',rfl⟩:=ru
 have hln:=split_len x y
 have go:∀ (l:List (Str × Tok)) (tk:Nat),l.map (·.1)=Txt.split x y→EP X pins σ Q (.ref s.heap.objs.size) { s with heap:=s.heap.push { cls:=.type "list",data:=.seq (strValues l).toArray },toks:=tk }:=fun l tk e=>
  ⟨.ref _,_,I.lnew (t':=tk) (its:=strValues l) (ys:=(Txt.split x y).map V.str) (by rw [← e];exact strs_vals l) (by rw [List.length_map];omega),rfl,k _ I.fresh⟩
 cases h1:(decide (x.length < y.length) || decide (Builtin.Str.strKind x < Builtin.Str.strKind y))
 ·cases hf:(Builtin.Str.occurrences x y 0 x.length (x.length + 1)).isEmpty
  ·have e:Txt.split x y=Builtin.Str.partsBetween x (Builtin.Str.occurrences x y 0 x.length (x.length + 1)) y.length:=by
    unfold Txt.split
    rw [h1,if_neg Bool.false_ne_true,hf,if_neg Bool.false_ne_true]
   refine call_meets F.slot_str_split (typeIs_str _ _ _) F.entry_str_split (F.args_str_split_2 _ _) (meets_str_split_sep x y t t' h1 hy hf (by omega) (by rw [← e];omega)) ?_
   show wants _ _ _ { s with toks:=_,heap:=s.heap.push { cls:=.type "list",data:=.seq (strsFrom s.toks (Builtin.Str.partsBetween x (Builtin.Str.occurrences x y 0 x.length (x.length + 1)) y.length)).toArray } }
   rw [strsFrom_eq]
   exact go (numbered s.toks _) _ ((numbered_texts _ _).trans e.symm)
  ·exact call_meets F.slot_str_split (typeIs_str _ _ _) F.entry_str_split (F.args_str_split_2 _ _) (meets_str_split_not_found x y t t' h1 hy hf)
    (go [(x,t)] s.toks (by unfold Txt.split;rw [h1,if_neg Bool.false_ne_true,hf,if_pos rfl];rfl))
 ·exact call_meets F.slot_str_split (typeIs_str _ _ _) F.entry_str_split (F.args_str_split_2 _ _) (meets_str_split_cannot_occur x y t t' h1)
   (go [(x,t)] s.toks (by unfold Txt.split;rw [h1,if_pos rfl];rfl))
theorem de_split {o:Expr} (ho:DE X S σ H o (.str x)) (ha:DE X S σ H a (.str y)) (hy:(y.length == 0)=false) (hz:x.length + 2≤2000) (hb:autoParam (attributeBase o "split" X.env (eval o X.env)=eval o X.env) au3._auto_1)
  (hfew:autoParam (((backTo cp (starEach [a] X.env)).all (fun x=>!x.1) && (backToKw cp (keywordEach [] X.env)).all (fun x=>x.1.isSome) && decide ([a].length + ([]:List Keyword).length + (if ([]:List Keyword).isEmpty then 0 else 1) < 30))=true) au3._auto_1)
  (hline:autoParam ((ap.endLine == cp.line)=true) au3._auto_1) (hs:autoParam (starEach [a] X.env=(false,eval a X.env)::starEach [] X.env) au3._auto_1) (hplain:autoParam ((backTo cp (starEach [] X.env)).any (·.1)=false) au3._auto_1) :
  DE X S σ H (.Call (.Attribute o "split" ap) [a] [] cp) (.lst ((Txt.split x y).map D.str)):=
 (pe_bm PySem.F.plainAttrs_str PySem.F.slot_str_split PySem.F.type_str_split mt_split ho (da_cons ha da_nil hs) hb hfew hline hs hplain).mono fun σ' H' Q ⟨e1,sm,sb,k⟩=>⟨e1,sm,sb,fun v H1 s1 rv=>by
  simp only [Rep] at rv
  subst rv
  refine ⟨rfl,e1,sm.trans s1,sb.up s1,fun vs H2 s2 r2=>?_⟩
  obtain ⟨v,rfl,rv⟩:=reps_1 r2
  simp only [Rep] at rv
  subst rv
  exact ⟨x,y,rfl,rfl,hy,by have:=sizeLine_eq;omega,fun l hl=>k _ _ (s1.trans (s2.trans (same_new hl _))) (rep_lst (((sb.up s1).up s2).new hl) upd_same (reps_strs.mpr rfl))⟩⟩
theorem de_fstr {q1 q2:Pos}{k1:Nat} (ha:DE X S σ H a (.int i)) (hz:i.natAbs.log2 < 1920) (hl:x.length + (Str.ofString (toString i)).length≤1000):DE X S σ H (.JoinedStr [.Constant (.str x) k1 q1,.FormattedValue a (-1) none q2] pos) (.str (x++Str.ofString (toString i))):=by
 rintro pins s σ' H' Q I ⟨rfl,sm,sb,k⟩
 have hx:(Str.empty++x)=x:=by
  cases x with
  | mk c=>show Str.mk (#[]++c)=_;rw [Array.empty_append]
 refine JoinedStr_many (joinParts_cons (Calls.Constant_str ⟨by rw [hx];exact small_line (by omega),joinParts_cons (FormattedValue_plain (thn (ha pins _ σ' H' (fun v H1=>Same H' H1∧v = .int i) (I.tok _) ⟨rfl,sm,sb,fun v H1 s1 r=>⟨s1,by simpa only [Rep] using r⟩⟩) fun v s2 ⟨vv,H2,I2,r2,s2',e2⟩=>?_))⟩))
 subst e2
 obtain ⟨t,rfl⟩:=r2
 have hln:(Str.empty++x++Str.ofString (toString i)).length≤sizeLine:=by
  rw [hx,Str.length_append]
  exact small_line hl
 exact formatField_int_small hz ⟨hln,joinParts_nil ⟨.str _,H2,I2.tok _,⟨_,rfl⟩,by rw [hx];exact k _ H2 s2' rep_str⟩ hln⟩
theorem sl_str:SlR X (fun v lo hi H Q=>∃ z,v = .str z∧z.length≤sizeLine∧Q (.str (Txt.slice z lo hi)) H):=by
 intro pins s σ H v u vl vu lo hi sl Q I rx hs pl pu h
 obtain ⟨z,rfl,hz,k⟩:=h
 obtain ⟨t,rfl⟩:=rx
 have fin:∀ t' tk,EP X pins σ Q (.str (Txt.slice z lo hi) t') { s with toks:=tk }:=fun t' tk=>⟨.str _,H,I.tok tk,⟨t',rfl⟩,k⟩
 refine ⟨"str",_,F.slot_str_getitem.lookup,typeIs_str _ _ _,?_⟩
 cases pl with
 | none=>cases pu with
  | none=>exact wpAny_getItem_str_slice (l:=none) (u:=none) (st:=none) hs rfl (post_val_or_str ⟨Nat.le_trans (Txt.slice_le z _ _) hz,fin⟩)
  | int j uj=>exact wpAny_getItem_str_slice (l:=none) (u:=some (j,uj)) (st:=none) hs rfl (post_val_or_str ⟨Nat.le_trans (Txt.slice_le z _ _) hz,fin⟩)
 | int i ui=>cases pu with
  | none=>exact wpAny_getItem_str_slice (l:=some (i,ui)) (u:=none) (st:=none) hs rfl (post_val_or_str ⟨Nat.le_trans (Txt.slice_le z _ _) hz,fin⟩)
  | int j uj=>exact wpAny_getItem_str_slice (l:=some (i,ui)) (u:=some (j,uj)) (st:=none) hs rfl (post_val_or_str ⟨Nat.le_trans (Txt.slice_le z _ _) hz,fin⟩)
theorem de_sliceS {lo hi:Option Expr}{l u:Option Int} (he:DE X S σ H e (.str x)) (hx:x.length≤1000) (hl:DO X S σ H lo l) (hu:DO X S σ H hi u):DE X S σ H (.Subscript e (.Slice lo hi none p2) pos) (.str (Txt.slice x l u)):=
 (pe_slice sl_str he hl hu).mono fun σ' H' Q ⟨e1,sm,sb,k⟩=>⟨e1,sm,sb,fun v H1 s1 rv=>⟨e1,sm.trans s1,sb.up s1,fun H2 s2=>⟨e1,(sm.trans s1).trans s2,(sb.up s1).up s2,fun H3 s3=>by
  simp only [Rep] at rv
  exact ⟨x,rv,small_line hx,k _ H3 (s1.trans (s2.trans s3)) rep_str⟩⟩⟩⟩
theorem di_range2 {tg:Expr}{n:Nat} (hm:X.mg "range" = none) (ha:DE X S σ H a (.int i)) (hb:DE X S σ H b (.int j)) (hi:-1000≤i∧i≤1000) (hj:-1000≤j∧j≤1000) (hn:(j - i).toNat=n) (hg:autoParam (Gl X "range") au3._auto_1)
  (hs:autoParam (starEach [a,b] X.env=[(false,eval a X.env),(false,eval b X.env)]) au3._auto_1) (hs2:autoParam (starEach [b] X.env=[(false,eval b X.env)]) au3._auto_1) (hsa:autoParam (starEach [a,b] X.env=(false,eval a X.env)::starEach [b] X.env) au3._auto_1) (hsb:autoParam (starEach [b] X.env=(false,eval b X.env)::starEach [] X.env) au3._auto_1) :
  DI X S σ H tg (.Call (.Name "range" p) [a,b] [] pos) ((List.range n).map fun (k:Nat)=>D.int (i + (k:Int))):=by
 refine (pi_range2 hg hm (da_cons ha (da_cons hb da_nil hsb) hsa) hs hs2).mono fun σ' H' R ⟨e,sm,sb,k⟩=>⟨e,sm,sb,fun vs H1 s1 r1=>?_⟩
 obtain ⟨v,v',rfl,rv,rv'⟩:=reps_2 r1
 simp only [Rep] at rv rv'
 subst rv rv'
 refine ⟨i,j,rfl,⟨by omega,by omega,by omega,by omega⟩,k _ H1 s1 ?_⟩
 intro S' H2 c ex of sb2
 rw [List.length_map,List.length_range,hn]
 refine ⟨fun hi=>⟨hi,fun x H3 y=>?_⟩,fun hi=>?_⟩
 ·obtain ⟨e3,y⟩:=y
  subst e3 y
  refine ⟨Same.refl _,.int (i + c),?_,?_⟩
  ·rw [List.getElem?_map,List.getElem?_range hi];rfl
  ·simp only [Rep]
 ·show n≤c
  omega
end
end L2
namespace MT
open PySem PySem.StrLaws
theorem str_ext {a b:Str} (h:a.cps.toList=b.cps.toList):a=b:=by
 cases a;cases b
 exact congrArg Str.mk (Array.toList_inj.mp h)
theorem app_list (a b:Str):(a++b).cps.toList=a.cps.toList++b.cps.toList:=by
 show (a.cps++b.cps).toList=_
 rw [Array.toList_append]
theorem cut_first {c:Nat}:∀ {a b x y:List Nat},c ∉ a→c ∉ b→a++c::x=b++c::y→a=b∧x=y
 | [],[],x,y,_,_,h=>⟨rfl,by simpa using h⟩
 | [],b::bs,x,y,_,hb,h=>by
  rw [List.nil_append,List.cons_append] at h
  injection h with h1 h2
  exact absurd (by rw [h1];simp) hb
 | a::as,[],x,y,ha,_,h=>by
  rw [List.nil_append,List.cons_append] at h
  injection h with h1 h2
  exact absurd (by rw [← h1];simp) ha
 | a::as,b::bs,x,y,ha,hb,h=>by
  rw [List.cons_append,List.cons_append] at h
  injection h with h1 h2
  obtain ⟨e1,e2⟩:=cut_first (fun z=>ha (List.mem_cons_of_mem _ z)) (fun z=>hb (List.mem_cons_of_mem _ z)) h2
  exact ⟨by rw [h1,e1],e2⟩
theorem join_cons2 (c:Nat) (p q:Str) (r:List Str):(Str.join ⟨#[c]⟩ (p::q::r)).cps.toList=p.cps.toList++c::(Str.join ⟨#[c]⟩ (q::r)).cps.toList:=by
 show (p++⟨#[c]⟩++Str.join ⟨#[c]⟩ (q::r)).cps.toList=_
 rw [app_list,app_list]
 simp
theorem join_inj {c:Nat}:∀ {ps qs:List Str},ps≠[]→qs≠[]→(∀ p∈ps,c ∉ p.cps.toList)→(∀ p∈qs,c ∉ p.cps.toList)→(Str.join ⟨#[c]⟩ ps).cps.toList=(Str.join ⟨#[c]⟩ qs).cps.toList→ps=qs
 | [],_,h,_,_,_,_=>absurd rfl h
 | _,[],_,h,_,_,_=>absurd rfl h
 | [p],[q],_,_,_,_,h=>by rw [str_ext (a:=p) (b:=q) h]
 | [p],q::q'::r,_,_,hp,_,h=>by
  rw [join_cons2] at h
  exact absurd (by show c∈(Str.join ⟨#[c]⟩ [p]).cps.toList;rw [h];simp) (hp p (by simp))
 | p::p'::r,[q],_,_,_,hq,h=>by
  rw [join_cons2] at h
  exact absurd (by show c∈(Str.join ⟨#[c]⟩ [q]).cps.toList;rw [← h];simp) (hq q (by simp))
 | p::p'::r,q::q'::r',_,_,hp,hq,h=>by
  rw [join_cons2,join_cons2] at h
  obtain ⟨e1,e2⟩:=cut_first (hp p (by simp)) (hq q (by simp)) h
  rw [str_ext e1,join_inj (by simp) (by simp) (fun x hx=>hp x (List.mem_cons_of_mem _ hx)) (fun x hx=>hq x (List.mem_cons_of_mem _ hx)) e2]
theorem split_ne (x y:Str):Txt.split x y≠[]:=by
 unfold Txt.split
 split
 ·simp
 ·split
  ·simp
  ·rw [partsBetween_eq]
   obtain ⟨p,r,e⟩:=partsFrom_ne x y.length 0 (Builtin.Str.occurrences x y 0 x.length (x.length + 1))
   rw [e]
   simp
theorem split_join {c:Nat}{rows:List Str} (ne:rows≠[]) (hf:∀ p∈rows,c ∉ p.cps.toList):Txt.split (Str.join ⟨#[c]⟩ rows) ⟨#[c]⟩=rows:=
 join_inj (split_ne _ _) ne (split_free _ c) hf (by rw [join_split])
end MT
namespace MT
open PySem PySem.StrLaws MC
noncomputable def digS (t:Int):Str:=Str.ofString (toString t)
noncomputable def headL (n:Nat):Str:=Str.ofString "things " ++ digS (n:Int)
noncomputable def lineL (c:Nat):Str:=if (lst c).isEmpty then Str.ofString "-" else Str.join (Str.ofString " ") ((lst c).map digS)
noncomputable def rowsL (n:Nat) (fs:List Nat):List Str:=headL n::fs.map lineL
noncomputable def textL (n:Nat) (fs:List Nat):Str:=Str.join (Str.ofString "\n") (rowsL n fs)
noncomputable def codeL (x:Str):Nat:=(x.cps.toList.map fun k=>if 48≤k∧k < 54 then 2 ^ (k - 48) else 0).sum
theorem line_code {c:Nat} (h:c < 64):codeL (lineL c)=c:=all64 (p:=fun c=>codeL (lineL c)=c) (by decide +kernel) h
theorem line_inj {a b:Nat} (ha:a < 64) (hb:b < 64) (e:lineL a=lineL b):a=b:=by rw [← line_code ha,e,line_code hb]
theorem line_free {c:Nat} (h:c < 64):10 ∉ (lineL c).cps.toList:=all64 (p:=fun c=>10 ∉ (lineL c).cps.toList) (by decide +kernel) h
theorem line_head {c:Nat} (h:c < 64):(lineL c).cps[0]?≠some 116:=all64 (p:=fun c=>(lineL c).cps[0]?≠some 116) (by decide +kernel) h
theorem line_size {c:Nat} (h:c < 64):(lineL c).length≤11:=all64 (p:=fun c=>(lineL c).length≤11) (by decide +kernel) h
theorem six {p:Nat→Prop} [DecidablePred p] (h:(List.range 7).all (fun c=>decide (p c))=true) {c:Nat} (hc:c≤6):p c:=of_decide_eq_true (List.all_eq_true.mp h c (List.mem_range.mpr (by omega)))
theorem head_is {n:Nat} (h:n≤6):headL n=⟨#[116,104,105,110,103,115,32,48 + n]⟩:=six (p:=fun n=>headL n=⟨#[116,104,105,110,103,115,32,48 + n]⟩) (by decide +kernel) h
theorem head_inj {a b:Nat} (ha:a≤6) (hb:b≤6) (e:headL a=headL b):a=b:=by
 rw [head_is ha,head_is hb] at e
 injection e with e
 have:=congrArg (fun x=>x[7]?) e
 simp at this
 omega
theorem head_free {n:Nat} (h:n≤6):10 ∉ (headL n).cps.toList:=by
 rw [head_is h]
 simp
 omega
theorem head_line {n c:Nat} (hn:n≤6) (hc:c < 64):lineL c≠headL n:=fun e=>by
 refine line_head hc ?_
 rw [e,head_is hn]
 rfl
theorem nl_is:Str.ofString "\n" = ⟨#[10]⟩:=by decide +kernel
theorem rows_free {n:Nat}{fs:List Nat} (hn:n≤6) (u:∀ c∈fs,c < 64):∀ p∈rowsL n fs,10 ∉ p.cps.toList:=fun p hp=>by
 rcases List.mem_cons.mp hp with rfl | hp
 ·exact head_free hn
 ·obtain ⟨c,hc,rfl⟩:=List.mem_map.mp hp
  exact line_free (u c hc)
theorem text_split {n:Nat}{fs:List Nat} (hn:n≤6) (u:∀ c∈fs,c < 64):Txt.split (textL n fs) (Str.ofString "\n")=rowsL n fs:=by
 unfold textL
 rw [nl_is]
 exact split_join (by simp [rowsL]) (rows_free hn u)
theorem line_in {n:Nat}{fs:List Nat} (hn:n≤6) (u:∀ c∈fs,c < 64) {c:Nat} (hc:c < 64):lineL c∈rowsL n fs↔c∈fs:=by
 unfold rowsL
 rw [List.mem_cons,List.mem_map]
 constructor
 ·rintro (h | ⟨d,hd,e⟩)
  ·exact absurd h (head_line hn hc)
  ·rw [← line_inj (u d hd) hc e];exact hd
 ·exact fun h=>.inr ⟨c,h,rfl⟩
noncomputable def rawL (l:List Int):Str:=l.foldl (fun x t=>x++Str.ofString " " ++ digS t) (Str.ofString "")
theorem raw_line {c:Nat} (h:c < 64):(if rawL (lst c)=Str.ofString "" then Str.ofString "-" else Txt.slice (rawL (lst c)) (some 1) none)=lineL c:=all64 (p:=fun c=>(if rawL (lst c)=Str.ofString "" then Str.ofString "-" else Txt.slice (rawL (lst c)) (some 1) none)=lineL c) (by decide +kernel) h
theorem raw_size {c:Nat} (h:c < 64):(rawL (lst c)).length≤12:=all64 (p:=fun c=>(rawL (lst c)).length≤12) (by decide +kernel) h
end MT
namespace R
open PySem L2 MC MO MT
section
variable {P:Program}{w:World}{K:PySem.W.Frag}{mg:Str→Option Value}{base:Heap}{f:Addr}{fd:FuncData}
theorem log_small {i:Int} (h0:0≤i) (h:i < 1000):i.natAbs.log2 < 1920:=by
 have h1:i.natAbs < 2 ^ 10:=by omega
 by_cases e:i.natAbs=0
 ·rw [e];decide
 ·have:=(Nat.log2_lt e).mpr h1
  omega
noncomputable def R_headof (ds:List D) (d:D):Prop:=∃ n:Nat,n≤6∧ds=[.int (n:Nat)]∧d = .str (headL n)
theorem sc_headof:FnScope ["many"] ["many"] (defScope s_head_of):=⟨rfl,rfl,rfl,by decide +kernel,rfl,by decide +kernel,by decide +kernel⟩
theorem head_size {n:Nat} (h:n≤6):(Str.ofString "things ").length + (Str.ofString (toString (n:Int))).length≤1000:=six (p:=fun n=>(Str.ofString "things ").length + (Str.ofString (toString (n:Int))).length≤1000) (by decide +kernel) h
theorem ok_headof (F:Fun K "head_of" "head_of" s_head_of f fd):FnOk P w K mg base CX0 1 f fd ["many"] (spR K R_headof):=by
 refine fn_ok F sc_headof (fun ds d ⟨_,_,h,_⟩=>by rw [h];rfl) (by decide) ?_
 rintro cdv A outer s H E S _ _ Q σ hr ⟨n,hn,rfl,rfl⟩ q A0
 have A0:At (Fx P w K mg base ["many"] "head_of" s_head_of f cdv A outer s H E) S no H [some (.int (n:Nat))] σ H:=A0
 exact st_retD A0 q (de_fstr (A0.v 0) (log_small (by omega) (by omega)) (head_size hn))
noncomputable def R_lineof (ds:List D) (d:D):Prop:=∃ c:Nat,c < 64∧ds=[dS c]∧d = .str (lineL c)
theorem sc_lineof:FnScope ["one"] ["one"] (defScope s_line_of):=⟨rfl,rfl,rfl,by decide +kernel,rfl,by decide +kernel,by decide +kernel⟩
theorem dig_size {t:Int} (h0:0≤t) (h:t < 6):(digS t).length≤2:=by
 obtain ⟨n,rfl⟩:∃ n:Nat,t=(n:Int):=⟨t.toNat,by omega⟩
 exact six (p:=fun n=>(digS (n:Int)).length≤2) (by decide +kernel) (show n≤6 by omega)
theorem join_fit {sep:Str}{texts:List Str} (h1:sep.length≤2) (h2:∀ y∈texts,y.length≤12) (h3:texts.length≤100):JoinOk sep texts=true:=by
 unfold JoinOk
 have a1:texts.length * 12≤1200:=by omega
 have a2:texts.length * sep.length≤100 * 2:=Nat.mul_le_mul h3 h1
 rw [StrLaws.joinFits (B:=12) h2 (by omega)]
 rfl
theorem lst_lo {c:Nat}{t:Int} (h:t∈lst c):0≤t∧t < 6:=by
 obtain ⟨k,hk,_,rfl⟩:=mem_lst.mp h
 omega
theorem ok_lineof (F:Fun K "line_of" "line_of" s_line_of f fd) (ms:mg "str" = none):FnOk P w K mg base CX0 1 f fd ["one"] (spR K R_lineof):=by
 refine fn_ok F sc_lineof (fun ds d ⟨_,_,h,_⟩=>by rw [h];rfl) (by decide) ?_
 rintro cdv A outer s H E S _ _ Q σ hr ⟨c,hc,rfl,rfl⟩ q A0
 have A0:At (Fx P w K mg base ["one"] "line_of" s_line_of f cdv A outer s H E) S no H [some (dS c)] σ H:=A0
 have h6:=lst_le c
 refine st_retD A0 q (de_if (dt_lst (A0.v 0)) (fun h=>?_) (fun h=>?_))
 ·have e:lineL c=Txt.join (Str.ofString " ") ((lst c).map digS):=by
   unfold lineL
   rw [if_neg (by intro z;rw [List.isEmpty_iff] at z;rw [z] at h;cases h)]
   exact (StrLaws.glued_eq_join _ _).symm
  rw [e]
  refine de_join de_str ?_ (join_fit (by decide +kernel) (fun y hy=>?_) (by rw [List.length_map];omega))
  ·rw [List.map_map]
   refine de_lcM (enc:=D.int) (xs:=lst c) A0 _ (di_list (A0.v 0)) inj_int (by omega) ?_
   intro S' σ2 H' t ht C' fp s₀ H₀ pins A2
   have:=lst_lo ht
   exact de_strI ms (A2.v 0) (log_small this.1 (by omega))
  ·obtain ⟨t,ht,rfl⟩:=List.mem_map.mp hy
   have:=lst_lo ht
   have:=dig_size this.1 this.2
   omega
 ·have e:lineL c=Str.ofString "-":=by
   unfold lineL
   rw [if_pos]
   rw [List.isEmpty_iff]
   cases hq:lst c with
   | nil=>rfl
   | cons a l=>rw [hq] at h;cases h
  rw [e]
  exact de_str
noncomputable def R_shown (ds:List D) (d:D):Prop:=∃ (n:Nat) (cs:List Nat),Fam n cs∧ds=[.int (n:Nat),dF cs]∧d = .str (textL n (ordC cs))
theorem sc_shown:FnScope ["many","family","members"] ["many","family"] (defScope s_shown):=⟨rfl,rfl,rfl,by decide +kernel,rfl,by decide +kernel,by decide +kernel⟩
theorem rows_size {n:Nat}{fs:List Nat} (hn:n≤6) (u:U fs):∀ y∈rowsL n fs,y.length≤12:=fun y hy=>by
 rcases List.mem_cons.mp hy with rfl | hy
 ·exact six (p:=fun n=>(headL n).length≤12) (by decide +kernel) hn
 ·obtain ⟨c,hc,rfl⟩:=List.mem_map.mp hy
  have:=line_size (u c hc)
  omega
theorem ok_shown (F:Fun K "shown" "shown" s_shown f fd) (CO:Cal P w K mg base "ordered" 5 ["many","family"] R_ordered) (CH:Cal P w K mg base "head_of" 1 ["many"] R_headof) (CL:Cal P w K mg base "line_of" 1 ["one"] R_lineof):FnOk P w K mg base CX0 6 f fd ["many","family"] (spR K R_shown):=by
 refine fn_ok F sc_shown (fun ds d ⟨_,_,_,h,_⟩=>by rw [h];rfl) (by decide) ?_
 rintro cdv A outer s H E S _ _ Q σ hr ⟨n,cs,fam,rfl,rfl⟩ q A0
 have A0:At (Fx P w K mg base ["many","family","members"] "shown" s_shown f cdv A outer s H E) S no H [some (.int (n:Nat)),some (dF cs),none] σ H:=A0
 have h6:=fam.hi
 have uo:=ord_U fam.u
 have lo:(ordC cs).length≤64:=by rw [ord_len fam.u fam.nd];exact fam.len
 refine st_set A0 2 (de_cal CO hr ⟨n,cs,fam,rfl,rfl⟩ (da_cons (A0.v 0) (da_cons (A0.v 1) da_nil))) (fun σ1 H1 A1=>?_) sc_shown.nd
 refine st_retD A1 q ?_
 have e:textL n (ordC cs)=Txt.join (Str.ofString "\n") (rowsL n (ordC cs)):=(StrLaws.glued_eq_join _ _).symm
 rw [e]
 refine de_join de_str ?_ (join_fit (by decide +kernel) (rows_size h6 uo) (by unfold rowsL;rw [List.length_cons,List.length_map];omega))
 have e2:D.lst ((rowsL n (ordC cs)).map D.str) = .lst ([D.str (headL n)]++(ordC cs).map fun c=>D.str (lineL c)):=by
  unfold rowsL
  rw [List.map_cons,List.map_map];rfl
 rw [e2]
 refine de_cat (de_lst (da_cons (de_cal CH hr ⟨n,h6,rfl,rfl⟩ (da_cons (A1.v 0) da_nil)) da_nil)) (de_lcM (enc:=dS) (xs:=ordC cs) A1 _ (di_list (A1.v 2)) (inj_dS uo) (by omega) ?_) (by rw [List.length_map];show 1 + _≤_;omega)
 intro S' σ2 H' c hc C' fp s₀ H₀ pins A2
 exact de_cal CL hr ⟨c,uo c hc,rfl,rfl⟩ (da_cons (A2.v 0) da_nil)
end
end R
namespace R
open PySem L2 MC MO MT
section
variable {P:Program}{w:World}{K:PySem.W.Frag}{mg:Str→Option Value}{base:Heap}{f:Addr}{fd:FuncData}
noncomputable def R_numat (ds:List D) (d:D):Prop:=∃ n:Nat,1≤n∧n≤6∧ds=[.str (headL n)]∧d = .int (n:Nat)
theorem sc_numat:FnScope ["head","many"] ["head"] (defScope s_number_at):=⟨rfl,rfl,rfl,by decide +kernel,rfl,by decide +kernel,by decide +kernel⟩
theorem ok_numat (F:Fun K "number_at" "number_at" s_number_at f fd) (CH:Cal P w K mg base "head_of" 1 ["many"] R_headof) (m6:Six mg) (mr:mg "range" = none):FnOk P w K mg base CX0 2 f fd ["head"] (spR K R_numat):=by
 refine fn_ok F sc_numat (fun ds d ⟨_,_,_,h,_⟩=>by rw [h];rfl) (by decide) ?_
 rintro cdv A outer s H E S _ _ Q σ hr ⟨n,n1,n6,rfl,rfl⟩ q A0
 have A0:At (Fx P w K mg base ["head","many"] "number_at" s_number_at f cdv A outer s H E) S no H [some (.str (headL n)),none] σ H:=A0
 have nd:=sc_numat.nd
 refine st_for (E:={ nx:=fun _ H'=>Q .non H',rt:=Q }) (ds:=(List.range 6).map fun (k:Nat)=>D.int (1 + (k:Int))) 1 A0 (di_range2 (i:=1) (j:=7) mr de_int (de_add (de_six m6) de_int) (by decide) (by decide) (by decide)) (fun i δ=>(∃ o1,δ=[some (.str (headL n)),o1])∧∀ k < i,1 + k≠n) ⟨⟨none,rfl⟩,fun k hk=>by omega⟩ ?_ ?_ nd
 ·rintro H4 i d δ σ4 H5 of ⟨⟨o1,rfl⟩,hall⟩ hd A4
  rw [List.getElem?_map] at hd
  by_cases hi:i < 6
  ·rw [List.getElem?_range hi] at hd
   have e:d = .int (((1 + i:Nat):Int)):=by
    have:d = .int (1 + (i:Int)):=by simpa using hd.symm
    rw [this];congr 1
   subst e
   have A4:At (Fx P w K mg base ["head","many"] "number_at" s_number_at f cdv A outer s H E) S no H4 [some (.str (headL n)),some (.int ((1 + i:Nat):Int))] σ4 H5:=A4
   refine st_if A4 (dt_eqS (A4.v 0) (de_cal CH hr ⟨1 + i,by omega,rfl,rfl⟩ (da_cons (A4.v 1) da_nil))) (fun hc H6 A6=>?_) (fun hc H6 A6=>dss_nil (dss_nil ⟨_,⟨⟨some (.int ((1 + i:Nat):Int)),rfl⟩,fun k hk=>?_⟩,A6⟩))
   ·have e:=head_inj n6 (by omega) (of_decide_eq_true hc)
    subst e
    exact st_retD (A6.base of) q (A6.v 1)
   ·by_cases e:k=i
    ·subst e
     exact fun z=>of_decide_eq_false hc (by rw [← z])
    ·exact hall k (by omega)
  ·rw [List.getElem?_eq_none (by simpa using hi)] at hd
   cases hd
 ·rintro δ σ4 H4 ⟨⟨o1,rfl⟩,hall⟩ A4
  exact absurd (show 1 + (n - 1)=n by omega) (hall (n - 1) (by rw [List.length_map,List.length_range];omega))
noncomputable def R_read (ds:List D) (d:D):Prop:=∃ (n:Nat) (fs:List Nat),Fam n fs∧ordC fs=fs∧ds=[.str (textL n fs)]∧d = .tup [.int (n:Nat),dF fs]
theorem sc_read:FnScope ["text","lines","many","family"] ["text"] (defScope s_read):=⟨rfl,rfl,rfl,by decide +kernel,rfl,by decide +kernel,by decide +kernel⟩
theorem text_size {n:Nat}{fs:List Nat} (fam:Fam n fs):(textL n fs).length + 2≤2000:=by
 unfold textL
 have h1:=StrLaws.join_length_le (Str.ofString "\n") (rowsL n fs)
 have h2:=StrLaws.sumLen_le (B:=12) (rowsL n fs) (rows_size fam.hi fam.u)
 have h3:(rowsL n fs).length≤65:=by unfold rowsL;rw [List.length_cons,List.length_map];have:=fam.len;omega
 have h4:(Str.ofString "\n").length=1:=by decide +kernel
 rw [h4] at h1
 omega
theorem ok_readF (F:Fun K "read" "read" s_read f fd) (CN:Cal P w K mg base "number_at" 2 ["head"] R_numat) (CA:Cal P w K mg base "all_sets" 6 ["many"] R_allsets) (CL:Cal P w K mg base "line_of" 1 ["one"] R_lineof) (CS:Cal P w K mg base "shown" 6 ["many","family"] R_shown):FnOk P w K mg base CX0 7 f fd ["text"] (spF K R_read):=by
 refine fn_okF F sc_read (fun ds d ⟨_,_,_,_,h,_⟩=>by rw [h];rfl) (by decide) ?_
 rintro cdv A outer s H E _ _ Q σ hr ⟨n,fs,fam,eo,rfl,rfl⟩ q A0
 have A0:At (Fx P w K mg base ["text","lines","many","family"] "read" s_read f cdv A outer s H E) no no H [some (.str (textL n fs)),none,none,none] σ H:=A0
 have B0:At (Fx P w K mg base ["text","lines","many","family"] "read" s_read f cdv A outer s H E) (domH H) no H [some (.str (textL n fs)),none,none,none] σ H:=A0.to (sub_dom (Same.refl _)) rfl fun i d h=>by
  match i,h with
  | 0,h=>exact ⟨h,by cases h;rfl⟩
  | 1,h=>cases h
  | 2,h=>cases h
  | 3,h=>cases h
 clear A0
 have nd:=sc_read.nd
 have h6:=fam.hi
 have u:=fam.u
 have hf:=full_lt h6
 have hl:=fam.len
 refine' st_set (d:=.lst ((rowsL n fs).map D.str)) B0 1 ?e1 (fun σ1 H1 A1=>?_) nd
 case e1=>
  rw [← text_split h6 u]
  exact de_split (B0.v 0) de_str (by decide +kernel) (text_size fam)
 refine st_set A1 2 (de_cal CN hr ⟨n,fam.lo,h6,rfl,rfl⟩ (da_cons (de_ix ix_list (A1.v 1) de_int (good_ixL (n:=0) rfl rfl)) da_nil)) (fun σ2 H2 A2=>?_) nd
 refine' st_lcE (enc:=dS) (xs:=parts (full n)) A2 3 (fun c=>decide (c∈fs)) dS (di_list (de_cal CA hr ⟨n,h6,rfl,rfl⟩ (da_cons (A2.v 2) da_nil))) (inj_dS (parts_U hf)) (by have:=parts_le hf;omega) (LcEl.test ?e2) (fun σ3 H3 A3=>?_) nd
 case e2=>
  intro S' σ4 H' c hc C' fp s₀ H₀ pins A4
  have c6:=parts_U hf c hc
  exact ⟨dt_inP (enc:=D.str) (n:=0) (ys:=rowsL n fs) (z:=lineL c) enc_str (units_of hr) (by rw [decide_eq_true_eq];exact (line_in h6 u c6).symm) (de_cal CL hr ⟨c,c6,rfl,rfl⟩ (da_cons (A4.v 0) da_nil)) (A4.v 2),fun _=>A4.v 0⟩
 have ef:(parts (full n)).filter (fun c=>decide (c∈fs))=fs:=by
  refine up_eq (fun c hc=>parts_U hf c (List.mem_filter.mp hc).1) u (up_filter _ (parts_up hf)) (by rw [← eo];exact ord_up u) fun c=>?_
  rw [List.mem_filter,full_mem h6,decide_eq_true_eq]
  exact ⟨fun h=>h.2,fun h=>⟨fam.un c h,h⟩⟩
 rw [ef] at A3
 have A3:At (Fx P w K mg base ["text","lines","many","family"] "read" s_read f cdv A outer s H E) (domH H) no H [some (.str (textL n fs)),some (.lst ((rowsL n fs).map D.str)),some (.int (n:Nat)),some (dF fs)] σ3 H3:=A3
 refine st_if A3 (k:=!decide (textL n (ordC fs)=textL n fs)) (dt_neS (de_cal CS hr ⟨n,fs,fam,rfl,rfl⟩ (da_cons (A3.v 2) (da_cons (A3.v 3) da_nil))) (A3.v 0)) (fun h=>?_) (fun _ H4 A4=>dss_nil ?_)
 ·rw [eo,decide_eq_true rfl] at h
  cases h
 ·exact st_retF A4 q (de_tup (da_cons (A4.v 2) (da_cons (A4.v 3) da_nil)))
end
end R
namespace MC
theorem put_lst {c:Nat} (hc:c < 64) {t n:Nat} (ht:t < 6) (hn:n≤6) (htn:t < n) (hcn:c < 2 ^ n) (hb:∀ k,k≤t→c.testBit k=false):lst (c + 2 ^ t)=(t:Int)::lst c∧c + 2 ^ t < 2 ^ n∧∀ k,k < t→(c + 2 ^ t).testBit k=false:=by
 have:=all64 (p:=fun c=>(List.range 6).all (fun t=>(List.range 7).all fun n=>decide (t < n→c < 2 ^ n→(List.range (t + 1)).all (fun k=>!c.testBit k)=true→lst (c + 2 ^ t)=(t:Int)::lst c∧c + 2 ^ t < 2 ^ n∧(List.range t).all (fun k=>!(c + 2 ^ t).testBit k)=true))=true) (by decide +kernel) hc
 have h1:=of_decide_eq_true (List.all_eq_true.mp (List.all_eq_true.mp this t (List.mem_range.mpr ht)) n (List.mem_range.mpr (by omega))) htn hcn (List.all_eq_true.mpr fun k hk=>by rw [hb k (by have:=List.mem_range.mp hk;omega)];rfl)
 refine ⟨h1.1,h1.2.1,fun k hk=>?_⟩
 have:=List.all_eq_true.mp h1.2.2 k (List.mem_range.mpr hk)
 simpa using this
theorem isSet_from {n:Nat} (hn:n≤6):∀ (s:List Int) (b:Int),-1≤b→isSet n b s=true→∃ c,c < 2 ^ n∧s=lst c∧∀ k:Nat,(k:Int)≤b→c.testBit k=false
 | [],b,_,_=>⟨0,Nat.two_pow_pos n,rfl,fun k _=>Nat.zero_testBit k⟩
 | t::ts,b,hb,h=>by
  rw [isSet,Bool.and_eq_true,Bool.not_eq_true',Bool.or_eq_false_iff,decide_eq_false_iff_not,decide_eq_false_iff_not] at h
  obtain ⟨⟨h1,h2⟩,h3⟩:=h
  obtain ⟨c,c1,c2,c3⟩:=isSet_from hn ts t (by omega) h3
  obtain ⟨m,rfl⟩:∃ m:Nat,t=(m:Int):=⟨t.toNat,by omega⟩
  have c64:c < 64:=Nat.lt_of_lt_of_le c1 (Nat.pow_le_pow_right (n:=2) (by decide) hn)
  obtain ⟨e1,e2,e3⟩:=put_lst c64 (t:=m) (n:=n) (by omega) hn (by omega) c1 fun k hk=>c3 k (by omega)
  exact ⟨c + 2 ^ m,e2,by rw [e1,c2],fun k hk=>e3 k (by omega)⟩
theorem isSet_code {n:Nat} (hn:n≤6) {s:List Int} (h:isSet n (-1) s=true):∃ c,c < 2 ^ n∧s=lst c:=let ⟨c,h1,h2,_⟩:=isSet_from hn s (-1) (by omega) h;⟨c,h1,h2⟩
theorem sets_codes {n:Nat} (hn:n≤6):∀ {ss:List (List Int)},(∀ s∈ss,isSet n (-1) s=true)→∃ cs:List Nat,(∀ c∈cs,c < 2 ^ n)∧ss=cs.map lst
 | [],_=>⟨[],⟨(fun c h=>by cases h),rfl⟩⟩
 | s::ss,h=>by
  obtain ⟨c,h1,h2⟩:=isSet_code hn (h s (by simp))
  obtain ⟨cs,h3,h4⟩:=sets_codes hn (ss:=ss) fun x hx=>h x (List.mem_cons_of_mem _ hx)
  refine ⟨c::cs,fun x hx=>?_,by rw [List.map_cons,← h2,← h4]⟩
  rcases List.mem_cons.mp hx with rfl | hx
  ·exact h1
  ·exact h3 x hx
theorem less_of_dup {α:Type}:∀ {l:List α},¬ l.Nodup→∃ l':List α,l'.length + 1=l.length∧∀ x,x∈l→x∈l'
 | [],h=>absurd List.nodup_nil h
 | x::t,h=>by
  rcases Classical.em (x∈t) with hx | hx
  ·exact ⟨t,rfl,fun y hy=>(List.mem_cons.mp hy).elim (fun e=>by rw [e];exact hx) id⟩
  ·obtain ⟨l',h1,h2⟩:=less_of_dup (l:=t) fun z=>h (List.nodup_cons.mpr ⟨hx,z⟩)
   exact ⟨x::l',by rw [List.length_cons,List.length_cons,h1],fun y hy=>(List.mem_cons.mp hy).elim (fun e=>by rw [e];simp) fun hy=>List.mem_cons_of_mem _ (h2 y hy)⟩
end MC
namespace MC
theorem len_leI {α:Type} [DecidableEq α]:∀ {a b:List α},a.Nodup→(∀ x∈a,x∈b)→a.length≤b.length
 | [],_,_,_=>Nat.zero_le _
 | x::a,b,nd,h=>by
  rw [List.nodup_cons] at nd
  have h1:=len_leI (a:=a) (b:=b.erase x) nd.2 fun y hy=>(List.mem_erase_of_ne (fun e=>nd.1 (by rw [← e];exact hy))).mpr (h y (List.mem_cons_of_mem _ hy))
  have h2:=List.length_erase_of_mem (h x (by simp))
  have h3:=List.length_pos_of_mem (h x (by simp))
  rw [List.length_cons]
  omega
end MC
namespace MT
open PySem PySem.StrLaws MC
noncomputable def digL (w:Str):Option Int:=if w=digS 0 then some 0 else if w=digS 1 then some 1 else if w=digS 2 then some 2 else if w=digS 3 then some 3 else if w=digS 4 then some 4 else if w=digS 5 then some 5 else none
noncomputable def wordsL:List Str→Option (List Int)
 | []=>some []
 | w::r=>match digL w with
  | none=>none
  | some d=>(wordsL r).map (d :: ·)
noncomputable def memL (row:Str):Option (List Int):=if row=Str.ofString "-" then some [] else wordsL (Txt.split row (Str.ofString " "))
theorem digL_some {w:Str}{d:Int} (h:digL w=some d):w=digS d∧0≤d∧d≤5:=by
 unfold digL at h
 repeat (split at h;· (rename_i e;cases h;exact ⟨e,by decide,by decide⟩))
 cases h
theorem wordsL_some:∀ {ws:List Str}{ds:List Int},wordsL ws=some ds→ws=ds.map digS∧∀ d∈ds,0≤d∧d≤5
 | [],ds,h=>by
  have e:ds=[]:=by simpa [wordsL] using h.symm
  subst e
  exact ⟨rfl,fun d hd=>by cases hd⟩
 | w::r,ds,h=>by
  unfold wordsL at h
  split at h
  ·cases h
  ·rename_i d e
   cases hr:wordsL r with
   | none=>rw [hr] at h;cases h
   | some es=>
    rw [hr] at h
    have e2:ds=d::es:=by simpa using h.symm
    subst e2
    obtain ⟨a,b⟩:=digL_some e
    obtain ⟨c,f⟩:=wordsL_some hr
    exact ⟨by rw [List.map_cons,← a,← c],fun x hx=>by
     rcases List.mem_cons.mp hx with rfl | hx
     ·exact b
     ·exact f x hx⟩
theorem memL_some {row:Str}{m:List Int} (h:memL row=some m):(∀ d∈m,0≤d∧d≤5)∧((m=[]∧row=Str.ofString "-")∨(m≠[]∧row=Str.join (Str.ofString " ") (m.map digS))):=by
 unfold memL at h
 split at h
 ·rename_i e
  cases h
  exact ⟨fun d hd=>(by cases hd),.inl ⟨rfl,e⟩⟩
 ·obtain ⟨a,b⟩:=wordsL_some h
  refine ⟨b,.inr ⟨fun z=>?_,?_⟩⟩
  ·rw [z] at a
   exact split_ne row (Str.ofString " ") a
  ·rw [← a,join_split]
theorem digL_dig {d:Int} (h:0≤d∧d≤5):digL (digS d)=some d:=by
 obtain rfl | rfl | rfl | rfl | rfl | rfl:d=0∨d=1∨d=2∨d=3∨d=4∨d=5:=by omega
 all_goals decide +kernel
theorem wordsL_map:∀ {ds:List Int},(∀ d∈ds,0≤d∧d≤5)→wordsL (ds.map digS)=some ds
 | [],_=>rfl
 | d::r,h=>by
  rw [List.map_cons]
  unfold wordsL
  rw [digL_dig (h d (by simp)),wordsL_map fun x hx=>h x (List.mem_cons_of_mem _ hx)]
  rfl
theorem lst_dig {c:Nat} (h:c < 64):∀ d∈lst c,0≤d∧d≤5:=all64 (p:=fun c=>∀ d∈lst c,0≤d∧d≤5) (by decide +kernel) h
theorem dig_free {d:Int} (h:0≤d∧d≤5):32 ∉ (digS d).cps.toList:=by
 obtain rfl | rfl | rfl | rfl | rfl | rfl:d=0∨d=1∨d=2∨d=3∨d=4∨d=5:=by omega
 all_goals decide +kernel
theorem sp_is:Str.ofString " " = ⟨#[32]⟩:=by decide +kernel
theorem line_mem {c:Nat} (h:c < 64):memL (lineL c)=some (lst c):=by
 unfold memL
 by_cases e:lineL c=Str.ofString "-"
 ·rw [if_pos e]
  have:lineL c=lineL 0:=by rw [e];decide +kernel
  rw [line_inj h (by decide) this]
  decide +kernel
 ·rw [if_neg e]
  unfold lineL at e ⊢
  split at e
  ·exact absurd rfl e
  ·rename_i ne
   rw [if_neg ne,sp_is,split_join (fun z=>ne (by rw [List.map_eq_nil_iff.mp z];rfl)) fun p hp=>?_]
   ·exact wordsL_map (lst_dig h)
   ·obtain ⟨d,hd,rfl⟩:=List.mem_map.mp hp
    exact dig_free (lst_dig h d hd)
theorem mem_line {row:Str}{c:Nat} (h:memL row=some (lst c)):row=lineL c:=by
 obtain ⟨_,⟨e,r⟩ | ⟨e,r⟩⟩:=memL_some h
 ·unfold lineL
  rw [e,r];rfl
 ·unfold lineL
  rw [if_neg (by rw [List.isEmpty_iff];exact e),r]
theorem rows_lines:∀ {rest:List Str}{cs:List Nat},rest.map memL=(cs.map lst).map some→rest=cs.map lineL
 | [],[],_=>rfl
 | [],_::_,h=>by simp at h
 | _::_,[],h=>by simp at h
 | r::rs,c::cs,h=>by
  rw [List.map_cons,List.map_cons,List.map_cons] at h
  injection h with h1 h2
  rw [List.map_cons,mem_line h1,rows_lines h2]
theorem rows_text {t:Str}{n:Nat}{rest:List Str}{ms:List (List Int)} (hn:n≤6) (hs:Txt.split t (Str.ofString "\n")=headL n::rest) (hm:rest.map memL=ms.map some) (hset:∀ m∈ms,isSet n (-1) m=true):∃ cs:List Nat,(∀ c∈cs,c < 2 ^ n)∧ms=cs.map lst∧t=textL n cs:=by
 obtain ⟨cs,h1,rfl⟩:=sets_codes hn hset
 refine ⟨cs,h1,rfl,?_⟩
 unfold textL rowsL
 rw [← rows_lines hm,← hs,join_split]
theorem text_rows {n:Nat}{cs:List Nat} (hn:n≤6) (u:∀ c∈cs,c < 64):Txt.split (textL n cs) (Str.ofString "\n")=headL n::cs.map lineL∧(cs.map lineL).map memL=(cs.map lst).map some:=by
 refine ⟨text_split hn u,?_⟩
 rw [List.map_map,List.map_map]
 exact List.map_congr_left fun c hc=>line_mem (u c hc)
end MT
namespace L2
open PySem PySem.Spec PyProof.Rows
end L2
namespace L2
open PySem PySem.Spec PyProof.Rows
section
variable {P:Program}{w:World}{H H':Hp}{h h':Heap}{a:Addr}{o:HO}
theorem ObjOk.there (x:ObjOk P w H h a o):∃ ob,h.get? a=some ob:=by
 cases o with
 | lst xs=>obtain ⟨_,_,_,_,e⟩:=x;exact ⟨_,e⟩
 | tup xs=>obtain ⟨_,_,_,ob,e,_⟩:=x;exact ⟨ob,e⟩
 | dK kvs=>obtain ⟨_,_,_,_,ob,_,_,e,_⟩:=x;exact ⟨ob,e⟩
 | dT kvs=>obtain ⟨_,_,_,_,ob,_,_,e,_⟩:=x;exact ⟨ob,e⟩
 | set S n=>obtain ⟨ob,_,_,_,e,_⟩:=x;exact ⟨ob,e⟩
 | ins C dx fs=>obtain ⟨_,_,_,e,_⟩:=x;exact ⟨_,e⟩
 | own y=>exact x
 | xd fs=>obtain ⟨_,⟨ob,_,_,e,_⟩,_⟩:=x;exact ⟨ob,e⟩
 | rng lo hi=>obtain ⟨_,_,_,e⟩:=x;exact ⟨_,e⟩
 | frz ob u=>exact ⟨ob,x.1⟩
 | tbl ps=>exact ⟨_,(show h.get? a=some _ from x)⟩
 | met f y=>exact ⟨_,(show h.get? a=some _ from x)⟩
 | ext φ=>exact x.2.1
theorem HOk.hide (x:HOk P w H h) {as:List Addr} (n:∀ b∈as,H b=none):HOk P w H (PySem.W.hideAll h as):=fun a o e=>
 (x a o e).stay (fun b u hb q=>PySem.W.hideAll_get _ q fun hm=>by
  rcases hb with z | z
  ·rw [← z,n _ hm] at e;cases e
  ·rw [n _ hm] at z;cases z) (fun _ q=>q) fun _ _ q=>q
end
structure Fl (P:Program) (w:World) (outer:List Env) (H:Hp) (s:Shared) (E:XK) (s':Shared) (ea:Addr) (C a0:Value) (B:Heap) (H':Hp):Prop where
 fly:Heap.FlyingW B outer ea C a0 s'.heap
 os:s'.os=s.os
 bare:AllBare s'.gens
 dom:∀ b,H b≠none→H' b≠none
 un:Un (frs outer) [] H H' s.heap s'.heap
 kept:∀ b o,s.heap.get? b=some o→H b=none→b ∉ frs outer→B.get? b=some o
 hok:HOk P w H' B
 wish:E C none H'
noncomputable def CXe (P:Program) (w:World):CXT:=fun outer H s E e s'=>∃ ea C a0 B H',e = .ref ea∧Fl P w outer H s E s' ea C a0 B H'
theorem un_fly {P:Program}{w:World}{l:List Env}{H H':Hp}{h h1 h2 B base:Heap} (u:Un (frs l) [] H H' h h1) (dom:∀ b,H b≠none→H' b≠none) (kept:∀ b o,h.get? b=some o→H b=none→b ∉ frs l→B.get? b=some o) (hok:HOk P w H' B)
  (ff:h1.FunFrames base l) (st:B.StaysIn h2) (up:h1.UpToSlots h2):Un (frs l) [] H H' h h2:=by
 have fr:∀ b o,h.get? b=some o→H b=none→b∈frs l→∃ sl,h2.get? b=some { o with slots:=sl }:=fun b o e n hb=>by
  obtain ⟨sl,e1⟩:=u.slot b o e n hb (by simp)
  obtain ⟨_,o',e2,hd⟩:=ff.mem hb
  rw [e1] at e2
  cases e2
  obtain ⟨sl2,e3⟩:=up b _ e1 hd
  exact ⟨sl2,e3⟩
 refine ⟨fun b o e n nf _=>st b o (kept b o e n nf),fun b o e n hb _=>fr b o e n hb,u.free,fun b o e _=>?_,u.tups,u.frzs,u.tbls⟩
 cases hH:H b with
 | none=>
  by_cases hb:b∈frs l
  ·obtain ⟨sl,e1⟩:=fr b o e hH hb
   exact ⟨_,e1⟩
  ·exact ⟨o,st b o (kept b o e hH hb)⟩
 | some u=>
  cases hH':H' b with
  | none=>exact absurd hH' (dom b (by rw [hH];exact fun z=>nomatch z))
  | some u'=>
   obtain ⟨ob,e1⟩:=(hok b u' hH').there
   exact ⟨ob,st b ob e1⟩
section
variable {X:Cx}{k:Nat}{f:Addr}{fd:FuncData}{ps:List Str}{sp:Sp}{E:XK}{x:Str}{p pos:Pos}{e:Expr}{es:List Expr}{t:TA}{σ₀:St}
theorem pe_callE (F:FnOk X.prog X.w X.K X.mg X.base (CXe X.prog X.w) k f fd ps sp) (hr:Room k X.A) (hg:Gl X x) (hm:X.mg x=some (.ref f)) (hk:PySem.W.keepIn X.K (.ref f)=true) (hb:Binds X.K fd ps [])
  (hx:∀ pins H s e s',Inv X pins σ₀ H s→CXe X.prog X.w X.stack H s E e s'→X.xe e s')
  (ha:PA X (e::es) t) (hdb:autoParam ((x == ("__debug__":Str))=false) au1._auto_1) (he:autoParam (starEach (e::es) X.env=(false,eval e X.env)::starEach es X.env) au3._auto_1) (hpl:autoParam ((backTo pos (starEach es X.env)).any (·.1)=false) au3._auto_1) :
  PE X (.Call (.Name x p) (e::es) [] pos) (fun σ H Q=>σ=σ₀∧t σ H fun vs H1=>sp vs H1 Q E):=by
 rintro pins s σ H Q I ⟨rfl,h⟩
 refine wpAny_Call_Name_kw (ld_glob I hg hm ?_ hdb)
 refine PySem.W.callWith_K (h₀:=X.base) I.ok.mod.kin hk (thn (ha pos pins s σ H _ I h) fun us s1 ⟨vs,H1,I1,r,q⟩=>⟨I1.kIn,?_⟩) he hpl
 have hl:us.length=ps.length:=by rw [← r.length];exact F.len _ _ _ _ q
 refine wpAny_call (codeAny_mono (F.run X.A X.stack s1 H1 ⟨us,[]⟩ us vs Q E hr I1.env0 (by have:=hb s1 us I1.kIn (by rw [List.append_nil];exact hl);rwa [List.append_nil] at this) r q) fun r s' hq=>?_)
 cases r with
 | error e=>exact hx pins H1 s1 e s' I1 hq
 | ok fl=>
  cases fl with
  | ret u=>exact I1.after hq
  | next=>exact False.elim hq
  | brk=>exact False.elim hq
  | cont=>exact False.elim hq
end
section
variable {P:Program}{w:World}{K:PySem.W.Frag}{mg:Str→Option Value}{base:Heap}{N:List Str}{qual:Str}{scope:Scope}{f:Addr}{cd:Value}{A:Around}{outer:List Env}{s₀:Shared}{H₀:Hp}{E:XK}
noncomputable abbrev Ex (P:Program) (w:World) (K:PySem.W.Frag) (mg:Str→Option Value) (base:Heap) (N:List Str) (x:Str) (st:Stmt) (f:Addr) (cdv:Value) (A:Around) (outer:List Env) (s:Shared) (H:Hp) (E:XK):Cx:=cxOf (CXe P w) P w K mg base N x (defScope st) f cdv A outer s H E
theorem cxe_of {pins:List (Addr × Obj)}{σ:St}{H1 H':Hp}{s1 s2:Shared}{ea:Addr}{C a0:Value}{B:Heap} (I:Inv (cxOf (CXe P w) P w K mg base N qual scope f cd A outer s₀ H₀ E) pins σ H1 s1)
  (J:Inv (cxOf (CXe P w) P w K mg base N qual scope f cd A outer s₀ H₀ E) pins σ H' s2) (kept:∀ b o,s1.heap.get? b=some o→H1 b=none→b ∉ frs (envOfC qual scope s₀.heap.objs.size f cd::outer)→B.get? b=some o)
  (fly:Heap.FlyingW B outer ea C a0 s2.heap) (hok:HOk P w H' B) (dom:∀ b,H₀ b≠none→H' b≠none) (wish:E C none H'):CXe P w outer H₀ s₀ E (.ref ea) s2:=by
 refine ⟨ea,C,a0,B,H',rfl,fly,J.os,J.bare,dom,J.base,fun b o e n nf=>?_,hok,wish⟩
 refine kept b o (I.base.keep b o e n nf (by exact List.not_mem_nil)) (I.base.free b o e n (by exact List.not_mem_nil)) fun hb=>?_
 rcases List.mem_cons.mp (show b∈s₀.heap.objs.size::frs outer from hb) with z | z
 ·have:=Heap.lt_size e
  rw [z] at this
  exact Nat.lt_irrefl _ this
 ·exact nf z
theorem pass_on {Y:XK} (hY:∀ C H',Y C none H'→Same H₀ H'∧E C none H'):∀ pins σ H s e s',Inv (cxOf (CXe P w) P w K mg base N qual scope f cd A outer s₀ H₀ E) pins σ H s→CXe P w (envOfC qual scope s₀.heap.objs.size f cd::outer) H s Y e s'→(cxOf (CXe P w) P w K mg base N qual scope f cd A outer s₀ H₀ E).xe e s':=by
 rintro pins σ H s e s' I ⟨ea,C,a0,B,H',rfl,F⟩
 obtain ⟨sm,hE⟩:=hY C H' F.wish
 refine wpAny_leaves_onW (L:=s₀.heap.objs.size) I.ok.frames rfl F.fly fun h' fl up=>?_
 have J:Inv (cxOf (CXe P w) P w K mg base N qual scope f cd A outer s₀ H₀ E) pins σ H' { s' with heap:=h' }:=
  I.call' (ch:=[]) F.os (un_fly F.un F.dom F.kept F.hok F.fly.2.2.1 fl.1 up) (F.hok.kept fl.1) F.bare fun b z=>absurd z List.not_mem_nil
 exact cxe_of I J F.kept fl F.hok (fun b n z=>by
  cases q:H₀ b with
  | none=>exact n q
  | some u=>rw [sm b u q] at z;cases z) hE
end
end L2
namespace L2
open PySem PySem.Spec PyProof.Rows
abbrev bmV:List Value:=[.type "ValueError",.type "Exception",.type "BaseException",.type "object"]
structure Xcl (K:PySem.W.Frag) (mg:Str→Option Value) (x:Str) (C:Addr):Prop where
 bound:mg x=some (.ref C)
 exc:PySem.W.excIn K C bmV "ValueError.__new__" = true
theorem exc_obj {K:PySem.W.Frag}{h:Heap}{C:Addr}{bmB:List Value}{newId:String} (X:K.In h) (q:PySem.W.excIn K C bmB newId=true):∃ bm N' nm qn bs hd sn sub ab col dd k0 k1 k2 k3 k5 mN,
  h.get? C=some (excClassObj nm qn C N' bs bm hd sn sub ab col dd k0 k1 k2 k3 k5 newId)∧h.Ns N' mN∧mN "__init__" = none∧OwnTail h bmB bm:=by
 unfold PySem.W.excIn at q;split at q
 ·rename_i dd cd sl ho;split at q
  ·rename_i C' bm k0 k1 k2 k3 n k5 hm hs
   simp only [Bool.and_eq_true,beq_iff_eq,Bool.not_eq_true'] at q;obtain ⟨⟨⟨⟨⟨e1,e2⟩,hdel⟩,ht⟩,hok⟩,hni⟩:=q
   subst e1;subst e2;obtain ⟨nm,bs,mro,ns,qn,hd,sn,sub,ab,col,del⟩:=cd
   dsimp only at hm hdel hok hni;subst hm;subst hdel
   have es:sl = #[k0,k1,k2,k3,some (.builtin n),k5]:=by obtain ⟨l⟩:=sl;simp only at hs;rw [hs]
   subst es
   refine ⟨bm,ns,nm,qn,bs,hd,sn,sub,ab,col,dd,k0,k1,k2,k3,k5,h.nsMap ns,X _ _ ho,.of_isNs (PySem.W.isNs_of_in X hok),PySem.W.nsMap_none_of_in X hok hni,PySem.W.tail_of_in X ht⟩
  ·cases q
 ·cases q
section
variable {P:Program}{w:World}{K:PySem.W.Frag}{mg:Str→Option Value}{base:Heap}{N:List Str}{qual:Str}{scope:Scope}{f:Addr}{cd:Value}{A:Around}{outer:List Env}{s₀:Shared}{H₀:Hp}{E:XK}
theorem ps_raise {x m:Str}{C:Addr}{j:Nat}{np cpos p2 pos:Pos} (c:Xcl K mg x C) (hg:Gl (cxOf (CXe P w) P w K mg base N qual scope f cd A outer s₀ H₀ E) x) (hd:(x == ("__debug__":Str))=false)
  (hs:starEach [.Constant (.str m) j p2] (cxOf (CXe P w) P w K mg base N qual scope f cd A outer s₀ H₀ E).env=(false,eval (.Constant (.str m) j p2) (cxOf (CXe P w) P w K mg base N qual scope f cd A outer s₀ H₀ E).env)::[]) :
  PS (cxOf (CXe P w) P w K mg base N qual scope f cd A outer s₀ H₀ E) (.Raise (some (.Call (.Name x np) [.Constant (.str m) j p2] [] cpos)) none pos) (fun _ _ H=>∀ H',Same H H'→Same H₀ H'∧E (.ref C) none H'):=by
 intro pins s σ H D I hE
 obtain ⟨bm,N',nm,qn,bs,hdc,sn,sub,ab,col,dd,k0,k1,k2,k3,k5,mN,hC,hN,hni,T⟩:=exc_obj I.ok.mod.kin c.exc
 have hh:(cxOf (CXe P w) P w K mg base N qual scope f cd A outer s₀ H₀ E).A.handled=none:=I.ok.hd rfl
 refine wpAny_Raise_call_subU (C:=C) (nm:=nm) (q:=qn) (N:=N') (bs:=bs) (bm:=bm) (hdct:=hdc) (sn:=sn) (sub:=sub) (ab:=ab) (col:=col) (dd:=dd) (k0:=k0) (k1:=k1) (k2:=k2) (k3:=k3) (k5:=k5) (bmB:=bmV)
  PySem.F.excBase_ValueError (by decide) PySem.F.excBase_ValueError (mN:=mN) (T.hasType PySem.F.excBase_ValueError.hasBase) hh (by rw [hs];rfl) hni (ld_glob I hg c.bound ⟨rfl,?_⟩ hd)
 rw [hs]
 refine Calls.evalArgs_plain (wpAny_mono ((da_cons (S:=no) (σ:=σ) (H:=H) de_str da_nil hs) cpos pins s σ H (fun vs H1=>Same H H1∧vs.length=1) I ⟨rfl,Same.refl _,sub_no,fun vs H1 s1 r=>⟨s1,r.length⟩⟩) (fun us s2 q=>?_) fun _ _ y=>y)
 obtain ⟨vs,H1,I2,r,sm,hl⟩:=q
 obtain ⟨sm0,hw⟩:=hE H1 sm
 refine ⟨rfl,by rw [← r.length,hl];decide,I2.bk _ _ hC,hN.keeps I2.bk,T.keeps I2.bk,fun h' e hx=>?_⟩
 have stk:=I2.stack
 have fr:=I2.stkFree
 have hokB:=I2.hok.hide fr
 have un0:Un (frs (envOfC qual scope s₀.heap.objs.size f cd::outer)) [] H1 H1 s2.heap h':=Un.kept hx.keeps
 refine wpAny_leaves_madeW (base:=PySem.W.hideAll s2.heap (frs (envOfC qual scope s₀.heap.objs.size f cd::outer))) (h:=s2.heap) (L:=s₀.heap.objs.size) I2.ok.frames rfl (fun b o q=>PySem.W.of_hideAll _ q)
  (PySem.W.funFrames_hide stk fun env he a ha=>List.mem_filterMap.mpr ⟨env,he,ha⟩) hx fun h2 t fl _ _ up=>?_
 have kept:∀ b o,s2.heap.get? b=some o→H1 b=none→b ∉ frs (envOfC qual scope s₀.heap.objs.size f cd::outer)→(PySem.W.hideAll s2.heap (frs (envOfC qual scope s₀.heap.objs.size f cd::outer))).get? b=some o:=fun b o e _ nf=>PySem.W.hideAll_get _ e nf
 have J:Inv (cxOf (CXe P w) P w K mg base N qual scope f cd A outer s₀ H₀ E) pins σ H1 { s2 with heap:=h2 }:=
  I2.call' (ch:=[]) rfl (un_fly un0 (fun _ z=>z) kept hokB (stk.of_keeps fun b o hb _=>⟨o,hx.keeps b o hb,rfl⟩) fl.1 up) (hokB.kept fl.1) I2.bare fun b z=>absurd z List.not_mem_nil
 exact cxe_of I2 J kept fl hokB (fun b n z=>by
  cases q:H₀ b with
  | none=>exact n q
  | some u=>rw [sm0 b u q] at z;cases z) hw
noncomputable def spE (K:PySem.W.Frag) (R:List D→Addr→Prop):Sp:=fun vs H _ E=>∃ ds C,Reps K no H ds vs∧R ds C∧∀ H',Same H H'→E (.ref C) none H'
structure CalE (P:Program) (w:World) (K:PySem.W.Frag) (mg:Str→Option Value) (base:Heap) (nm:Str) (k:Nat) (ps:List Str) (R:List D→Addr→Prop):Prop where
 ex:∃ f fd,FnOk P w K mg base (CXe P w) k f fd ps (spE K R)∧Binds K fd ps []∧PySem.W.keepIn K (.ref f)=true∧mg nm=some (.ref f)
theorem fn_okE {x:Str}{st:Stmt}{f:Addr}{fd:FuncData}{N ps:List Str}{k:Nat}{R:List D→Addr→Prop} (F:Fun K x x st f fd) (sc:FnScope N ps (defScope st)) (hl:∀ ds C,R ds C→ds.length=ps.length) (hle:ps.length≤N.length)
  (h:∀ (cdv:Value) (A:Around) (outer:List Env) (s:Shared) (H:Hp) (E:XK) (ds:List D) (C:Addr) (Q:VK) (σ:St),Room k (A.deeper (envOfC x (defScope st) s.heap.objs.size f cdv))→R ds C →
   (∀ H',Same H H'→E (.ref C) none H')→At (Ex P w K mg base N x st f cdv A outer s H E) no no H (ds.map some++List.replicate (N.length - ds.length) none) σ H →
   DSs (Ex P w K mg base N x st f cdv A outer s H E) (defBody st) { nx:=fun _ H'=>Q .non H',rt:=Q } σ H):FnOk P w K mg base (CXe P w) (k + 1) f fd ps (spE K R):=by
 obtain ⟨oc,od,kV,doc,pm,an,cdv,ct,osl,rfl,lk,hcd⟩:=F.ex
 refine fn_of lk hcd sc (fun vs H Q E ⟨ds,C,r,hR,_⟩=>by rw [r.length];exact hl ds C hR) fun A outer s H vs Q E hr ⟨ds,C,r,hR,hw⟩=>⟨_,pss_of,?_⟩
 have a0:At ((cxOf (CXe P w) P w K mg base N x (defScope st) f cdv A outer s H E).nox) no no H (ds.map some++List.replicate (N.length - ds.length) none) (start N vs) H:=at_start sub_no r (by rw [hl ds C hR];exact hle)
 exact h cdv A outer s H E ds C Q _ hr hR hw ⟨a0.same,a0.sub,a0.ms,a0.len,a0.env⟩
theorem calE_of {x:Str}{st:Stmt}{f:Addr}{fd:FuncData}{ps:List Str}{k:Nat}{R:List D→Addr→Prop} (F:Fun K x x st f fd) (G:FnOk P w K mg base (CXe P w) k f fd ps (spE K R)) (m:mg x=some (.ref f))
  (b:∀ (kV doc pm:Value) (an:Option Addr) (cdv ct:Value) (us:List Value),us.length=ps.length→bindArgs (PySem.W.fnOf x x (defArgs st) (defBody st) (defScope st) .none kV doc pm an cdv ct) ⟨us,[]⟩=pure (ps.zip us)):CalE P w K mg base x k ps R:=
 ⟨f,fd,G,F.binds b,F.kp,m⟩
end
section
variable {X:Cx}{S M:Av}{H0 H:Hp}{δ:List (Option D)}{σ:St}{a b e:Expr}{es:List Expr}{pos pos' p p2 p3:Pos}{d:D}{ds:List D}{En:Ends}{rest:List Stmt}
noncomputable def tX (σ:St) (H:Hp):TE:=fun σ' H' _=>σ'=σ∧Same H H'
noncomputable def DX (X:Cx) (σ:St) (H:Hp) (e:Expr):Prop:=PE X e (tX σ H)
noncomputable def Meets' (X:Cx) (σ:St) (Y:XK):Prop:=∀ pins H s e s',Inv X pins σ H s→CXe X.prog X.w X.stack H s Y e s'→X.xe e s'
theorem dx_cal {nm:Str}{k m:Nat}{ps:List Str}{R:List D→Addr→Prop}{Y:XK}{C:Addr} (G:CalE X.prog X.w X.K X.mg X.base nm k ps R) (hr:Room m X.A) (hx:Meets' X σ Y) (h:R ds C) (hY:∀ H',Same H H'→Y (.ref C) none H') (ha:DA X S σ H (e::es) ds) (hS:Sub S H)
  (hk:autoParam (k≤m) au1._auto_1) (hg:autoParam (Gl X nm) au3._auto_1) (hdb:autoParam ((nm == ("__debug__":Str))=false) au1._auto_1) (he:autoParam (starEach (e::es) X.env=(false,eval e X.env)::starEach es X.env) au3._auto_1) (hpl:autoParam ((backTo pos (starEach es X.env)).any (·.1)=false) au3._auto_1) :
  DX X σ H (.Call (.Name nm p) (e::es) [] pos):=by
 obtain ⟨f,fd,G,B,kp,m'⟩:=G.ex
 refine (pe_callE (σ₀:=σ) (E:=Y) G (hr.mono hk) hg m' kp B hx ha hdb he hpl).mono ?_
 rintro σ' H' Q ⟨e1,sm⟩
 subst e1
 exact ⟨rfl,rfl,sm,hS.up sm,fun vs H1 s1 r1=>⟨ds,C,r1.less fun _ z=>z.elim,h,fun H2 s2=>hY H2 (sm.trans (s1.trans s2))⟩⟩
theorem st_setE {n:Nat}{x:Str} (he:DX X σ H e) (hN:X.N.Nodup) (hi:autoParam (X.N[n]? = some x) au3._auto_1) (hx:autoParam (Loc X.env.scope x) au7._auto_1)
  (hs:autoParam (swapsWith e (some (.Name x pos')) pos.line X.env=pure false) au3._auto_1) (hf:autoParam (X.fn x=true∨X.env.scope.names.lookup x=some .local) au8._auto_1):DSs X (.Assign [.Name x pos'] e pos::rest) En σ H:=
 dss_cons (DS.of (ps_set hN hi hx he hs hf) ⟨rfl,Same.refl _⟩)
end
section
variable {P:Program}{w:World}{K:PySem.W.Frag}{mg:Str→Option Value}{base:Heap}{N:List Str}{x:Str}{st:Stmt}{f:Addr}{cd:Value}{A:Around}{outer:List Env}{s₀:Shared}{H₀ H:Hp}{E:XK}{σ:St}
noncomputable def wishE (H₀:Hp) (E:XK):XK:=fun C _ H'=>Same H₀ H'∧E C none H'
theorem meets_ex:Meets' (Ex P w K mg base N x st f cd A outer s₀ H₀ E) σ (wishE H₀ E):=fun pins H s e s' I c=>pass_on (fun _ _ h=>h) pins σ H s e s' I c
theorem st_raise {S:Av}{δ:List (Option D)}{En:Ends}{rest:List Stmt}{y m:Str}{C:Addr}{j:Nat}{np cpos p2 pos:Pos} (a:At (Ex P w K mg base N x st f cd A outer s₀ H₀ E) S no H₀ δ σ H) (c:Xcl K mg y C) (hw:∀ H',Same H₀ H'→E (.ref C) none H')
  (hg:autoParam (Gl (Ex P w K mg base N x st f cd A outer s₀ H₀ E) y) au3._auto_1) (hd:autoParam ((y == ("__debug__":Str))=false) au1._auto_1)
  (hs:autoParam (starEach [.Constant (.str m) j p2] (Ex P w K mg base N x st f cd A outer s₀ H₀ E).env=(false,eval (.Constant (.str m) j p2) (Ex P w K mg base N x st f cd A outer s₀ H₀ E).env)::[]) au3._auto_1) :
  DSs (Ex P w K mg base N x st f cd A outer s₀ H₀ E) (.Raise (some (.Call (.Name y np) [.Constant (.str m) j p2] [] cpos)) none pos::rest) En σ H:=
 dss_cons (DS.of (ps_raise c hg hd hs) fun H' s=>⟨a.same.same.trans s,hw H' (a.same.same.trans s)⟩)
end
end L2
namespace L2
open PySem PySem.Spec PyProof.Rows
noncomputable abbrev exO (C ea:Addr):HO:=.ext fun h=>∃ o,h.get? ea=some o∧o.cls = .ref C
noncomputable abbrev Cx.suite (X:Cx) (ea:Addr):Cx:={ X with A:=X.A.mark (some (.ref ea)),calm:=false,xe:=fun _ _=>False }
noncomputable abbrev Cx.re (X:Cx) (pn:List (Addr × Obj)) (xe:Value→Shared→Prop):Cx:={ X with pn:=pn,xe:=xe }
section
variable {X:Cx}{pins:List (Addr × Obj)}{σ:St}{H:Hp}{s:Shared}{ea:Addr}
theorem Cx.Ok.suite (h:X.Ok):(X.suite ea).Ok:=⟨h.mod,h.kind,h.glob,h.blt,h.above,h.inj,h.has,h.cab,fun z=>(nomatch z),h.frames,h.stk,h.exf,h.bs,h.bsz,h.noex,h.exfs,h.funs,h.frf⟩
theorem Inv.suite (I:Inv X pins σ H s):Inv (X.suite ea) pins σ H s:=⟨I.ok.suite,I.os,I.bare,I.base,I.loc,I.cell,I.free,I.freeC,I.pin,I.hok,I.len⟩
theorem Inv.unsuite (I:Inv (X.suite ea) pins σ H s) (ok:X.Ok):Inv X pins σ H s:=⟨ok,I.os,I.bare,I.base,I.loc,I.cell,I.free,I.freeC,I.pin,I.hok,I.len⟩
theorem Cx.Ok.re {pn:List (Addr × Obj)}{xe:Value→Shared→Prop} (h:X.Ok):(X.re pn xe).Ok:=⟨h.mod,h.kind,h.glob,h.blt,h.above,h.inj,h.has,h.cab,h.hd,h.frames,h.stk,h.exf,h.bs,h.bsz,h.noex,h.exfs,h.funs,h.frf⟩
theorem Inv.re {xe:Value→Shared→Prop} (I:Inv X pins σ H s):Inv (X.re (X.pn++pins) xe) [] σ H s:=⟨I.ok.re,I.os,I.bare,I.base,I.loc,I.cell,I.free,I.freeC,fun p hp=>I.pin p (by simpa using hp),I.hok,I.len⟩
theorem Inv.unre {xe:Value→Shared→Prop}{pins':List (Addr × Obj)} (I:Inv (X.re (X.pn++pins) xe) pins' σ H s) (ok:X.Ok):Inv X pins σ H s:=⟨ok,I.os,I.bare,I.base,I.loc,I.cell,I.free,I.freeC,fun p hp=>I.pin p (List.mem_append_left _ hp),I.hok,I.len⟩
theorem unset_ok {M:Model}{A:Around}{E:Value→Shared→Prop}{i:Nat}{n:Str}{pos:Pos}{R:Shared→Prop} (I:Inv X pins σ H s) (hN:X.N.Nodup) (hi:X.N[i]? = some n) (hl:X.env.scope.names.lookup n=some .local) (h:∀ s',Inv X pins (σ.set i none) H s'→R s') :
  wpAny M A (do bindName X.env n .none;unbindBehindTheSuite X.env n pos) (fun _ s'=>R s') E s:=by
 obtain ⟨m,hn,hlk⟩:=id I.loc
 have cne:=I.cne
 have neL:∀ {b:Addr}{o:Obj},X.s₀.heap.get? b=some o→b≠X.env.locals:=fun e=>Nat.ne_of_lt (Nat.lt_of_lt_of_le (Heap.lt_size e) I.ok.above)
 refine wpAny_nameGoes_keeps hl hn (by rw [I.ok.kind];rfl) fun h' v hn' hs=>h _ ?_
 refine ⟨I.ok,I.os,I.bare,⟨fun b o e k hb hx=>(hs.2 b (neL e)).trans (I.base.keep b o e k hb hx),fun b o e k hb hx=>?_,I.base.free,fun b o e hx=>?_,I.base.tups,I.base.frzs,I.base.tbls⟩,⟨_,hn',fun j y v' e1 e2 e3=>?_⟩,fun y c e=>?_,I.free,I.freeC,fun p hp=>?_,fun b ob e=>?_,by rw [List.length_set];exact I.len⟩
 ·obtain ⟨sl,e1⟩:=I.base.slot b o e k hb hx;exact ⟨sl,(hs.2 b (neL e)).trans e1⟩
 ·obtain ⟨o',e1⟩:=I.base.there b o e hx;exact ⟨o',(hs.2 b (neL e)).trans e1⟩
 ·by_cases hj:j=i
  ·subst hj
   have hiσ:j < σ.length:=by rw [I.len];exact (List.getElem?_eq_some_iff.mp e1).1
   rw [List.getElem?_set_self hiσ] at e2;cases e2
  ·rw [List.getElem?_set_ne (Ne.symm hj)] at e2
   obtain ⟨u',r',q⟩:=hlk j y v' e1 e2 e3
   refine ⟨u',r',?_⟩
   rcases q with ⟨k,e⟩ | ⟨k,c,e,z⟩
   ·refine .inl ⟨k,?_⟩
    have ny:y≠n:=fun e=>hj (nodup_ix hN e1 (e ▸ hi))
    simp [ny,e]
   ·exact .inr ⟨k,c,e,z.sameBut hs (cne y c e)⟩
 ·obtain ⟨w',z⟩:=I.cell y c e;exact ⟨w',z.sameBut hs (cne y c e)⟩
 ·obtain ⟨e,k,ne,nf,d⟩:=I.pin p hp;exact ⟨(hs.2 p.1 ne).trans e,k,ne,nf,d⟩
 ·refine (I.hok b ob e).stay (fun c w' hc q=>(hs.2 c ?_).trans q) (fun _ q=>q) fun _ _ q=>q
  intro z
  rcases hc with hc | hc
  ·rw [← hc,z,I.free] at e;cases e
  ·rw [z,I.free] at hc;cases hc
theorem st_try {En:Ends}{rest body suite:List Stmt}{b₀:Stmt}{x n:Str}{i:Nat}{Cp:Addr}{np hpos pos:Pos}{Y:XK}
  (hb:∀ (pn:List (Addr × Obj)) (xe:Value→Shared→Prop),Meets' (X.re pn xe) σ Y→DSs (X.re pn xe) body { nx:=DSs X rest En,rt:=En.rt } σ H)
  (hm:∀ C H1,Y C none H1→∃ c,C = .ref c∧PySem.W.exmOne X.K (.ref c) (.ref Cp)=some true)
  (hs:∀ ea c H1,Y (.ref c) none H1→H1 ea=none→DSs (X.suite ea) (b₀::suite) { nx:=fun σ2 H2=>DSs X rest En (σ2.set i none) H2,rt:=fun _ _=>False } (σ.set i (some (.ref ea))) (upd H1 ea (exO c ea)))
  (hmg:X.mg x=some (.ref Cp)) (hN:X.N.Nodup) (hi:autoParam (X.N[i]? = some n) au3._auto_1) (hl:autoParam (X.env.scope.names.lookup n=some .local) au3._auto_1) (hst:autoParam (X.stack=X.env::X.outer) au3._auto_1) (hfr:autoParam (X.env.frame=some X.env.locals) au3._auto_1) (hg:autoParam (Gl X x) au3._auto_1) (hdb:autoParam ((x == ("__debug__":Str))=false) au1._auto_1) :
  DSs X (.Try body [.ExceptHandler (some (.Name x np)) (some n) (b₀::suite) hpos] [] [] pos::rest) En σ H:=by
 refine dss_cons fun pins s I=>wpAny_Try_except ?_
 refine wpAny_mono (hb (X.pn++pins) (fun e s₁=>wpAny (model X.prog X.w) X.A (noteFrame e X.env) (fun _ s₂=>wpAny (model X.prog X.w) X.A (setFlight e none) (fun _ s₃=>wpAny (model X.prog X.w) X.A (handleBy e X.env [.ExceptHandler (some (.Name x np)) (some n) (b₀::suite) hpos]) (SP X pins { En with nx:=DSs X rest En }) X.xe s₃) X.xe s₂) X.xe s₁) ?_ [] s I.re) (fun fl s1 q=>?_) fun _ _ z=>z
 ·rintro pins' H1 s1 e s' I1' ⟨ea,C,a0,B,H',rfl,F⟩
  have I1:Inv X pins σ H1 s1:=I1'.unre I.ok
  obtain ⟨c,rfl,hx⟩:=hm C H' F.wish
  have fly:Heap.FlyingW B (X.env::X.outer) ea (.ref c) a0 s'.heap:=by rw [← hst];exact F.fly
  have F0:Un (frs X.stack) [] H1 H' s1.heap s'.heap:=F.un
  show wpAny _ _ (noteFrame (.ref ea) X.env) _ _ _
  refine wpAny_looks_onW (L:=X.env.locals) (by rw [I.ok.frames,hst]) hfr fly fun h₄ held₄ sm₄=>?_
  refine wpAny_landsW held₄ fun h₅ fl₅ sm₅=>?_
  have J5:Inv X pins σ H' { s' with heap:=h₅ }:=I1.call' (ch:=[]) F.os (un_fly F0 F.dom F.kept F.hok F.fly.2.2.1 fl₅.1 (sm₄.trans sm₅)) (F.hok.kept fl₅.1) F.bare fun b z=>absurd z List.not_mem_nil
  refine wpAny_handleBy_cons (codeAny_handlers_test (ld_glob (J5.suite (ea:=ea)) hg hmg ?_ hdb)) (by intro q;cases q)
  obtain ⟨ob,hob,hobc⟩:=fl₅.there
  have LT:PySem.W.Looks (model X.prog X.w) h₅ (typeOf (.ref ea)) (.ref c):=hobc ▸ (PySem.W.Looks.ld hob).andThen .now
  refine (PySem.W.exm_one J5.kIn LT hx).here ?_
  show codeAny _ _ _ _ _
  refine codeAny_handlers_suite_as (lands_againW fl₅ fun h₆ fl₆ sm₆=>?_)
  have hea:H' ea=none:=by
   cases q:H' ea with
   | none=>rfl
   | some u=>
    obtain ⟨ob',e1⟩:=(F.hok ea u q).there
    rw [F.fly.2.1] at e1;cases e1
  have un6:=un_fly F0 F.dom F.kept F.hok F.fly.2.2.1 fl₆.1 ((sm₄.trans sm₅).trans sm₆)
  obtain ⟨ob6,hob6,hobc6⟩:=fl₆.there
  have fresh:s1.heap.get? ea=none:=by
   cases q:s1.heap.get? ea with
   | none=>rfl
   | some o=>
    exfalso
    cases hH:H1 ea with
    | some u=>exact F.dom ea (by rw [hH];exact fun z=>nomatch z) hea
    | none=>
     by_cases hb:ea∈frs X.stack
     ·obtain ⟨_,o',e2,hd⟩:=F.fly.2.2.1.mem hb
      obtain ⟨oe,vs,e3,_,e4,_⟩:=F.fly.first
      rw [e2] at e3;cases e3
      exact hd vs e4
     ·have:=F.kept ea o q hH hb
      rw [F.fly.2.1] at this;cases this
  have un7:Un (frs X.stack) [] H1 (upd H' ea (exO c ea)) s1.heap h₆:=by
   have ne:∀ {b:Addr}{u:HO},H' b=some u→b≠ea:=fun e z=>by rw [z,hea] at e;cases e
   refine ⟨un6.keep,un6.slot,fun b o e k hx=>?_,un6.there,fun b xs e=>?_,fun b o u e=>?_,fun b ps e=>?_⟩
   ·rw [upd_ne (fun z=>by rw [z,fresh] at e;cases e)];exact un6.free b o e k hx
   ·have:=un6.tups b xs e;rw [upd_ne (ne this)];exact this
   ·have:=un6.frzs b o u e;rw [upd_ne (ne this)];exact this
   ·obtain ⟨more,e1⟩:=un6.tbls b ps e;exact ⟨more,by rw [upd_ne (ne e1)];exact e1⟩
  have hok6:HOk X.prog X.w (upd H' ea (exO c ea)) h₆:=fun b u q=>by
   have ne:∀ {b:Addr}{u:HO},H' b=some u→upd H' ea (exO c ea) b=some u:=fun {b u} e=>by rw [upd_ne (fun z=>by rw [z,hea] at e;cases e)];exact e
   by_cases hbe:b=ea
   ·subst hbe
    rw [upd_same] at q;cases q
    exact ⟨⟨ob6,hob6,hobc6⟩,⟨ob6,hob6⟩,fun h1 h2 ⟨o,e1,e2⟩ k=>⟨o,k o e1,e2⟩⟩
   ·rw [upd_ne hbe] at q
    exact ((F.hok.kept fl₆.1) b u q).stay (fun _ _ _ q=>q) (fun _ q=>ne q) fun _ _ q=>ne q
  have J6:Inv X pins σ (upd H' ea (exO c ea)) { s' with heap:=h₆ }:=I1.call' (ch:=[]) F.os un7 hok6 F.bare fun b z=>absurd z List.not_mem_nil
  refine store_ok (X:=X.suite ea) (J6.suite (ea:=ea)) hN hi (.inl hl) (v:=.ref ea) rfl (fun s7 I7=>?_) (.inr hl)
  refine wpAny_mono (hs ea c H' F.wish hea pins s7 I7) (fun fl s8 q=>?_) fun _ _ z=>z.elim
  cases fl with
  | next=>
   obtain ⟨σ2,H2,I8,q2⟩:=q
   exact unset_ok (I8.unsuite I.ok) hN hi hl fun s9 I9=>⟨_,H2,I9,q2⟩
  | ret u=>obtain ⟨_,_,_,_,_,z⟩:=q;exact z.elim
  | brk=>obtain ⟨_,_,_,z⟩:=q;exact z.elim
  | cont=>obtain ⟨_,_,_,z⟩:=q;exact z.elim
 ·cases fl with
  | next=>
   obtain ⟨σ',H',J,q⟩:=q
   exact pss_nil pins s1 σ' H' { En with nx:=DSs X rest En } (J.unre I.ok) q
  | ret u=>
   obtain ⟨v,σ',H',J,r,q⟩:=q
   exact ⟨v,σ',H',J.unre I.ok,r,q⟩
  | brk=>obtain ⟨_,_,_,z⟩:=q;exact z.elim
  | cont=>obtain ⟨_,_,_,z⟩:=q;exact z.elim
end
end L2
namespace L2
open PySem PySem.Spec PyProof.Rows
structure RoomU (k:Nat) (A:Around):Prop where
 dp:A.depth + 3 * k + 5 < recursionLimit
 un:A.units + 16 * k + 200 < cLine
theorem Room.u {k:Nat}{A:Around} (r:Room k A) (h:Option Value):RoomU k (A.mark h):=⟨r.dp,r.un⟩
theorem RoomU.mono {j k:Nat}{A:Around} (r:RoomU k A) (h:j≤k):RoomU j A:=⟨by have:=r.dp;omega,by have:=r.un;omega⟩
structure FnOkU (P:Program) (w:World) (K:PySem.W.Frag) (mg:Str→Option Value) (base:Heap) (k:Nat) (f:Addr) (fd:FuncData) (ps:List Str) (sp:Sp):Prop where
 len:∀ vs H Q E,sp vs H Q E→vs.length=ps.length
 run:∀ (A:Around) (outer:List Env) (s:Shared) (H:Hp) (args:Args) (us:List Value) (vs:List V) (Q:VK) (E:XK),RoomU k A→Env0 P w K mg base A outer s H→BindsTo s fd args (ps.zip us)→Vals vs us→sp vs H Q E →
  codeAny (model P w) A (.call (.ref f) args) (CR CX0 outer P w H s Q E) s
noncomputable abbrev cxU (P:Program) (w:World) (K:PySem.W.Frag) (mg:Str→Option Value) (base:Heap) (N:List Str) (qual:Str) (scope:Scope) (f:Addr) (cd:Value) (A:Around) (outer:List Env) (s:Shared) (H:Hp):Cx:={ cxOf CX0 P w K mg base N qual scope f cd A outer s H E0 with calm:=false,xe:=fun _ _=>False }
theorem fn_okU {P:Program}{w:World}{K:PySem.W.Frag}{mg:Str→Option Value}{base:Heap}{x:Str}{st:Stmt}{f:Addr}{fd:FuncData}{N ps:List Str}{k:Nat}{sp:Sp} (F:Fun K x x st f fd) (S:FnScope N ps (defScope st)) (len:∀ vs H Q E,sp vs H Q E→vs.length=ps.length)
  (h:∀ (cdv:Value) (A:Around) (outer:List Env) (s:Shared) (H:Hp) (vs:List V) (Q:VK) (E:XK),RoomU k (A.deeper (envOfC x (defScope st) s.heap.objs.size f cdv))→sp vs H Q E →
   DSs (cxU P w K mg base N x (defScope st) f cdv A outer s H) (defBody st) { nx:=fun _ H'=>Q .non H',rt:=Q } (start N vs) H):FnOkU P w K mg base (k + 1) f fd ps sp:=by
 obtain ⟨oc,od,kV,doc,pm,an,cdv,ct,osl,rfl,lk,hcd⟩:=F.ex
 refine ⟨len,fun A outer s H args us vs Q E hr e0 hb r hsp=>?_⟩
 have hl:=len _ _ _ _ hsp
 have KX:K.In s.heap:=e0.mod.kin.keeps fun b o e=>(e0.bs b o e).1
 have lim:s.heap.NoLimit:=e0.mod.nolimit.keeps fun b o e=>(e0.bs b o e).1
 have hkind:∀ y∈ps.zip us,(defScope st).names.lookup y.1=some .local∨((defScope st).names.lookup y.1=some .cell∧((cellsFrom (s.heap.objs.size + 1) (defScope st).names []).lookup y.1).isSome=true):=fun ⟨n,v⟩ hy=>by
  rcases S.par n (List.of_mem_zip hy).1 with q | q
  ·exact .inl q
  ·exact .inr ⟨q,PySem.W.cellsFrom_some _ _ _ (.inl q)⟩
 refine codeAny_call_function (by have:=hr.dp;omega) (KX _ _ lk) rfl S.co S.gen rfl (PySem.W.codeRec_of KX hcd) (hb _ _ _ _ ?_)
 refine wpAny_newFunctionEnv_cells S.kind hkind fun env he s1 z=>?_
 subst he
 refine ⟨lim.keeps z.toInCall.keep,codeAny_func ?_⟩
 have e0':Env0 P w K mg base { A with handled:=none } outer s H:=⟨e0.frames,e0.mod,e0.bs,e0.bsz,e0.funs,e0.frf,e0.hok,e0.bare⟩
 have I':Inv (cxOf CX0 P w K mg base N x (defScope st) f cdv { A with handled:=none } outer s H E0) [] (start N vs) H s1:=inv_start S rfl e0' hl r z
 have I:Inv (cxU P w K mg base N x (defScope st) f cdv A outer s H) [] (start N vs) H s1:=
  ⟨⟨I'.ok.mod,I'.ok.kind,I'.ok.glob,I'.ok.blt,I'.ok.above,I'.ok.inj,I'.ok.has,I'.ok.cab,fun z=>(nomatch z),I'.ok.frames,I'.ok.stk,I'.ok.exf,I'.ok.bs,I'.ok.bsz,I'.ok.noex,I'.ok.exfs,I'.ok.funs,I'.ok.frf⟩,I'.os,I'.bare,I'.base,I'.loc,I'.cell,I'.free,I'.freeC,I'.pin,I'.hok,I'.len⟩
 have hr':RoomU k (A.deeper (envOfC x (defScope st) s.heap.objs.size f cdv)):=⟨by have:=hr.dp;show A.depth + 1 + 3 * k + 5 < _;omega,by have:=hr.un;show A.units + 3 + 16 * k + 200 < _;omega⟩
 refine wpAny_mono (h cdv A outer s H vs Q E hr' hsp [] s1 I) (fun fl s' hs=>?_) fun e s' hs=>hs.elim
 have fin:∀ {σ':St}{H':Hp}{v:V}{u:Value},Inv (cxU P w K mg base N x (defScope st) f cdv A outer s H) [] σ' H' s'→RelV v u→Q v H'→CE outer P w H s Q u s':=fun {σ' H' v u} J rv q=>⟨v,H',J.os,J.bare,J.base,J.hok,rv,q⟩
 cases fl with
 | ret u=>obtain ⟨v,σ',H',J,rv,q⟩:=hs;exact fin J rv q
 | next=>obtain ⟨σ',H',J,q⟩:=hs;exact fin (v:=V.non) (u:=Value.none) J rfl q
 | brk=>obtain ⟨_,_,_,q⟩:=hs;exact q.elim
 | cont=>obtain ⟨_,_,_,q⟩:=hs;exact q.elim
structure CalU (P:Program) (w:World) (K:PySem.W.Frag) (mg:Str→Option Value) (base:Heap) (nm:Str) (k:Nat) (ps:List Str) (sp:Sp):Prop where
 ex:∃ f fd,FnOkU P w K mg base k f fd ps sp∧Binds K fd ps []∧PySem.W.keepIn K (.ref f)=true∧mg nm=some (.ref f)
theorem calU_of {P:Program}{w:World}{K:PySem.W.Frag}{mg:Str→Option Value}{base:Heap}{x:Str}{st:Stmt}{f:Addr}{fd:FuncData}{ps:List Str}{k:Nat}{sp:Sp} (F:Fun K x x st f fd) (G:FnOkU P w K mg base k f fd ps sp) (m:mg x=some (.ref f))
  (b:∀ (kV doc pm:Value) (an:Option Addr) (cdv ct:Value) (us:List Value),us.length=ps.length→bindArgs (PySem.W.fnOf x x (defArgs st) (defBody st) (defScope st) .none kV doc pm an cdv ct) ⟨us,[]⟩=pure (ps.zip us)):CalU P w K mg base x k ps sp:=
 ⟨f,fd,G,F.binds b,F.kp,m⟩
theorem pe_callU {X:Cx}{k m:Nat}{nm:Str}{ps:List Str}{sp:Sp}{p pos:Pos}{e:Expr}{es:List Expr}{t:TA} (C:CalU X.prog X.w X.K X.mg X.base nm k ps sp) (hr:RoomU m X.A) (ha:PA X (e::es) t) (hk:autoParam (k≤m) au1._auto_1) (hg:autoParam (Gl X nm) au3._auto_1)
  (hdb:autoParam ((nm == ("__debug__":Str))=false) au1._auto_1) (he:autoParam (starEach (e::es) X.env=(false,eval e X.env)::starEach es X.env) au3._auto_1) (hpl:autoParam ((backTo pos (starEach es X.env)).any (·.1)=false) au3._auto_1) :
  PE X (.Call (.Name nm p) (e::es) [] pos) (fun σ H Q=>t σ H fun vs H1=>sp vs H1 Q E0):=by
 obtain ⟨f,fd,G,B,kp,hm⟩:=C.ex
 intro pins s σ H Q I h
 refine wpAny_Call_Name_kw (ld_glob I hg hm ?_ hdb)
 refine PySem.W.callWith_K (h₀:=X.base) I.ok.mod.kin kp (thn (ha pos pins s σ H _ I h) fun us s1 ⟨vs,H1,I1,r,q⟩=>⟨I1.kIn,?_⟩) he hpl
 have hl:us.length=ps.length:=by rw [← r.length];exact G.len _ _ _ _ q
 refine wpAny_call (codeAny_mono (G.run X.A X.stack s1 H1 ⟨us,[]⟩ us vs Q E0 (hr.mono hk) I1.env0 (by have:=B s1 us I1.kIn (by rw [List.append_nil];exact hl);rwa [List.append_nil] at this) r q) fun r s' hq=>?_)
 cases r with
 | error e=>exact False.elim hq
 | ok fl=>
  cases fl with
  | ret u=>exact I1.after hq
  | next=>exact False.elim hq
  | brk=>exact False.elim hq
  | cont=>exact False.elim hq
end L2
namespace L2
open PySem PySem.Spec PyProof.Rows
section
variable {prog:Program}{w:World}{A:Around}{R:Result→Shared→Prop}{I:Addr}{fp wr:List Addr}{n:Nat}{P:Nat→Value→Prop}{St:Nat→Heap→Prop}{kw:List (Str × Value)}{E:Value→Shared→Prop}
end
section
variable {X:Cx}{S M:Av}{H0 H:Hp}{δ:List (Option D)}{σ:St}{e e2:Expr}{p p4 kpos:Pos}
end
end L2
theorem au12 (h:True:=by exact ⟨rfl,rfl,rfl,rfl⟩):True:=h
namespace L2
open PySem PySem.Spec PyProof.Rows
structure ClsF (K:PySem.W.Frag) (C:Addr):Prop where
 get:PySem.W.findIn K (.ref C) "__getattribute__" = some (some (.builtin "BaseException.__getattribute__"))
 ng:PySem.W.findIn K (.ref C) "__getattr__" = some none
 mrB:PySem.W.mroIn K C (.type "BaseException")=some true
 hd:PySem.W.hasDictIn K C=true
 fnd:PySem.W.findIn K (.ref C) "__class__" = some (some (.builtin "object.__class__"))
 gs:PySem.W.specialIn K (.builtin "object.__class__") "__get__" = some (some (.builtin "getset_descriptor.__get__"))
 tk:PySem.W.takesIn K (.builtin "object.__class__")=some true
 mro:PySem.W.mroIn K C (.type "object")=some true
section
variable {prog:Program}{w:World}{A:Around}{E:Value→Shared→Prop}{s:Shared}{K:PySem.W.Frag}{ea C:Addr}
open PySem.W in
theorem exc_type {M:Model}{h:Heap} (p:∃ o,h.get? ea=some o∧o.cls = .ref C):Looks M h (typeOf (.ref ea)) (.ref C):=by
 obtain ⟨o,h1,h2⟩:=p
 exact h2 ▸ (Looks.ld h1).andThen .now
open PySem.W in
theorem exc_find {M:Model}{h:Heap} (X:K.In h) (c:ClsF K C):Looks M h (Builtin.ObjectAttr.find (.ref ea) (.ref C) "__class__") (.bind (.builtin "getset_descriptor.__get__") (.builtin "object.__class__")):=
 (looks_findIn X c.fnd).andThen ((looks_specialIn X c.gs).andThen ((show Looks M h (Builtin.ObjectAttr.dataDescriptor? (some (.builtin "object.__class__")) (some (.builtin "getset_descriptor.__get__"))) (some (_,_)) from (looks_takesIn X c.tk).andThen .now).andThen (Looks.tag .now)))
theorem ga_bind (self:Value):bindSpecial (.builtin "BaseException.__getattribute__") self=pure (.builtin "BaseException.__getattribute__",[self]):=by
 have hsplit:splitId "BaseException.__getattribute__" = some ("BaseException","__getattribute__"):=by decide +kernel
 have hk:builtinKind "BaseException.__getattribute__" = some .slot:=by decide +kernel
 have hop:withoutEnding? "BaseException.__getattribute__" "#opaque" = none:=by decide +kernel
 have hdat:withoutEnding? "BaseException.__getattribute__" "#data" = none:=by decide +kernel
 simp only [bindSpecial,typeOf,builtinType,hop,hdat,hk];rfl
theorem ga_plain:plainId "BaseException.__getattribute__" = true:=by decide +kernel
open Builtin Builtin.ObjectAttr Builtin.Getset_descriptor in
theorem exc_class {Q:Option Value→Shared→Prop} (X:K.In s.heap) (p:∃ o,s.heap.get? ea=some o∧o.cls = .ref C) (c:ClsF K C) (h:Q (some (.ref C)) { s with toks:=s.toks + 1 }):wpAny (model prog w) A (getAttr? (.ref ea) "__class__") Q E s:=by
 obtain ⟨hh,g,d,t,os⟩:=s
 have L0:=exc_type (M:=model prog w) p
 have L1:=PySem.W.looks_findIn (M:=model prog w) X c.get
 have L2:=PySem.W.looks_findIn (M:=model prog w) X c.ng
 have LF:=exc_find (M:=model prog w) (ea:=ea) X c
 have LM:=PySem.W.looks_mroIn (M:=model prog w) X c.mro
 have LB:=PySem.W.looks_mroIn (M:=model prog w) X c.mrB
 have hx2:(Value.builtin "BaseException.__getattribute__" == Value.builtin "object.__getattribute__")=false:=by decide +kernel
 unfold getAttr? getAttrBy? getAttrBy;refine wpAny_bind (wpAny_mkText (wpAny_bind (wpAny_attempt (wpAny_holding (wpAny_bind (L0.at (wpAny_bind (L1.at ?_))))))))
 show wpAny _ _ (if (onTheHeap (.ref C) && (Value.builtin "BaseException.__getattribute__" == Value.builtin "object.__getattribute__"))=true then _ else getAttrByItsOwn _ _ _ _ _ _) _ _ _
 rw [hx2,Bool.and_false,if_neg (by decide)]
 unfold getAttrByItsOwn hookBefore
 rw [if_pos (show onTheHeap (Value.ref C)=true from rfl)]
 refine wpAny_bind (L2.at (wpAny_bind (wpAny_attempt (wpAny_holding ?_))))
 show wpAny _ _ (boundAndCalled _ _ _) _ _ _
 unfold boundAndCalled;rw [ga_bind]
 refine wpAny_bind (wpAny_pure ?_)
 show wpAny _ _ (call _ [_,_]) _ _ _
 refine wpAny_call (codeAny_call_builtin ga_plain PySem.F.entry_bexc_ga ?_)
 have hsplit:splitId "BaseException.__getattribute__" = some ("BaseException","__getattribute__"):=by decide +kernel
 have hk:builtinKind "BaseException.__getattribute__" = some .slot:=by decide +kernel
 have ha:=PySem.F.args_bexc_ga (.ref ea) (.str "__class__" t)
 simp only [checkBuiltinCall,hk,hsplit]
 refine wpAny_bind ?_
 unfold isInstance
 repeat lk
 refine wpAny_run (c:=.call (.builtin "getset_descriptor.__get__") ⟨[.builtin "object.__class__",.ref ea,.ref C],[]⟩) (h:=none) ?_
 refine codeAny_call_builtin PySem.W.KF.slot_gs.plain PySem.W.KF.entry_gs (PySem.W.KF.slot_gs.check _ _ _ _ _ _ _ _ PySem.W.KF.type_class (PySem.W.KF.args_gs _ _ _) ?_)
 unfold Builtin.«getset_descriptor.__get__» descrGet;rw [PySem.W.dga_obj];refine wpAny_bind (wpAny_pure ?_)
 unfold descrGetter descrCheckInstance descrNameAndClass isInstance;simp only [PySem.W.KF.owner_class]
 repeat lk
 refine ⟨Code.quiet_builtin _ (by decide +kernel),codeAny_builtin PySem.W.KF.entry_class ?_⟩;unfold Builtin.«object.__class__» shownTypeOf
 repeat lk
 exact h
open PySem.W in
theorem kitx_exc (c:ClsF K C):KitX K (.ref ea) (.ref C) (fun h=>∃ o,h.get? ea=some o∧o.cls = .ref C) where
 ty:=fun _ _ _ p=>exc_type p
 it:=fun _ _ X _=>by
  obtain ⟨cdD,hcD,_⟩:=any_some c.hd;unfold clsIn at hcD;split at hcD
  ·rename_i c' d' cd' sl' ho;intro A' Q' E' s' k q;unfold isType loadHead
   exact wpAny_bind (wpAny_loadPart (k _ _ (X _ _ ho)) (wpAny_pure q))
  ·cases hcD
 ne:=fun h tp dd its n sl X htp=>by
  obtain ⟨cdD,hcD,_⟩:=any_some c.hd;refine Bool.eq_false_iff.mpr fun q=>?_
  have e:C=tp:=Value.ref.inj (beq_iff_eq.mp q)
  subst e;unfold clsIn at hcD;split at hcD
  ·rename_i c' d' cd' sl' ho;have z:=(X _ _ ho).symm.trans htp;cases z
  ·cases hcD
 ca:=fun X p k=>exc_class X p c k
end
section
variable {X:Cx}{S:Av}{H:Hp}{σ:St}{a b o e:Expr}{p pos apos cpos p2 p3 p4 kpos:Pos}
theorem call_isX:CallR X (.builtin "isinstance") (fun xs H Q=>∃ ea C y c k,xs=[.ref ea,y]∧(∀ u,RelV y u→u=c)∧H ea=some (exO C ea)∧ClsF X.K C∧PySem.W.kitOne X.K (.ref C) c=some k∧Q (.bl k) H):=by
 rintro pins s σ H xs us Q I r ⟨ea,C,y,c,k,rfl,hy,hx,cf,e,q⟩
 obtain ⟨u,u2,rfl,ru,ru2⟩:=vals2 r
 cases ru
 rw [hy u2 ru2]
 exact PySem.W.kia_one (kitx_exc cf) I.kIn (I.hok ea _ hx).1 e (fun z=>nomatch z) fun tk=>⟨.bl k,H,I.tok tk,rfl,q⟩
theorem de_isX {ea C:Addr}{d:D}{c:Value}{k:Bool} (ms:X.mg "isinstance" = none) (hx:H ea=some (exO C ea)) (cf:ClsF X.K C) (hk:PySem.W.kitOne X.K (.ref C) c=some k) (ha:DE X S σ H a (.adr ea)) (hb:DE X S σ H b d) (hd:∀ H' y u,Rep X.K S H' d y→RelV y u→u=c)
  (hg:autoParam (Gl X "isinstance") au3._auto_1) (hs:autoParam (starEach [a,b] X.env=(false,eval a X.env)::starEach [b] X.env) au3._auto_1) (hs2:autoParam (starEach [b] X.env=(false,eval b X.env)::starEach [] X.env) au3._auto_1) (hpl:autoParam ((backTo pos (starEach [b] X.env)).any (·.1)=false) au3._auto_1):DE X S σ H (.Call (.Name "isinstance" p) [a,b] [] pos) (.bl k):=by
 refine (pe_callB call_isX hg ms (by decide +kernel) (da_cons ha (da_cons hb da_nil hs2) hs) (he:=hs) (hpl:=hpl)).mono ?_
 rintro σ' H' Q ⟨e1,sm,sb,kk⟩
 refine ⟨e1,sm,sb,fun vs H1 s1 r=>?_⟩
 obtain ⟨v,w',rfl,rv,rw'⟩:=reps_2 r
 simp only [Rep] at rv
 subst rv
 exact ⟨ea,C,w',c,k,rfl,fun u ru=>hd H1 w' u rw' ru,(sm.trans s1) _ _ hx,cf,hk,kk _ H1 s1 rep_bl⟩
theorem de_isXc {ea C D':Addr}{nm:Str}{k:Bool} (ms:X.mg "isinstance" = none) (hx:H ea=some (exO C ea)) (cf:ClsF X.K C) (hk:PySem.W.kitOne X.K (.ref C) (.ref D')=some k) (hm:X.mg nm=some (.ref D')) (ha:DE X S σ H a (.adr ea)) (gn:autoParam (Gl X nm) au3._auto_1) (hd:autoParam ((nm == ("__debug__":Str))=false) au1._auto_1)
  (hg:autoParam (Gl X "isinstance") au3._auto_1) (hs:autoParam (starEach [a,.Name nm p2] X.env=(false,eval a X.env)::starEach [.Name nm p2] X.env) au3._auto_1) (hs2:autoParam (starEach [.Name nm p2] X.env=(false,eval (.Name nm p2) X.env)::starEach [] X.env) au3._auto_1) (hpl:autoParam ((backTo pos (starEach [.Name nm p2] X.env)).any (·.1)=false) au3._auto_1):DE X S σ H (.Call (.Name "isinstance" p) [a,.Name nm p2] [] pos) (.bl k):=
 de_isX ms hx cf hk ha (de_glob (v:=.ref D') (d:=.adr D') hm rfl (fun H' s=>by simp only [Rep]) gn hd) (fun H' y u r ru=>by simp only [Rep] at r;subst r;exact ru) hg hs hs2 hpl
theorem de_isXt {ea C:Addr}{nm:Str}{T:String}{k:Bool} (ms:X.mg "isinstance" = none) (hx:H ea=some (exO C ea)) (cf:ClsF X.K C) (hk:PySem.W.kitOne X.K (.ref C) (.type T)=some k) (hm:X.mg nm=none) (hv:bootBuiltins nm=some (.type T)) (ha:DE X S σ H a (.adr ea)) (gn:autoParam (Gl X nm) au3._auto_1) (hn:autoParam (nm≠"__name__") au1._auto_1) (hd:autoParam ((nm == ("__debug__":Str))=false) au1._auto_1)
  (hg:autoParam (Gl X "isinstance") au3._auto_1) (hs:autoParam (starEach [a,.Name nm p2] X.env=(false,eval a X.env)::starEach [.Name nm p2] X.env) au3._auto_1) (hs2:autoParam (starEach [.Name nm p2] X.env=(false,eval (.Name nm p2) X.env)::starEach [] X.env) au3._auto_1) (hpl:autoParam ((backTo pos (starEach [.Name nm p2] X.env)).any (·.1)=false) au3._auto_1):DE X S σ H (.Call (.Name "isinstance" p) [a,.Name nm p2] [] pos) (.bl k):=
 de_isX ms hx cf hk ha (de_ty hm hv gn hn hd) (fun H' y u r ru=>by simp only [Rep] at r;subst r;exact ru) hg hs hs2 hpl
theorem vals_bls:∀ {bs:List Bool}{us:List Value},Vals (bs.map V.bl) us→us=bs.map Value.bool
 | [],_,h=>by cases h;rfl
 | b::bs,_,h=>by
  cases h with
  | cons h t=>rw [vals_bls t];cases h;rfl
noncomputable def isBl (k:Bool):Value→Bool
 | .bool b=>b == k
 | _=>false
theorem cnt_bls {prog:Program}{w:World}{A:Around}{E:Value→Shared→Prop}{s:Shared}{l:Addr}{bs:List Bool}{k:Bool}{Q:Value→Shared→Prop} (hl:s.heap.IsList l (bs.map Value.bool).toArray) (h:Q (.int (bs.count k:Nat) s.toks) { s with toks:=s.toks + 1 }):wpAny (model prog w) A (call (.builtin "list.count") [.ref l,.bool k]) Q E s:=by
 obtain ⟨⟨cls,dd,data,sl⟩,ho,hc,n,hd⟩:=id hl
 simp only at hc hd
 subst hc hd
 refine call_meets PySem.F.slot_list_count ⟨_,ho,rfl⟩ PySem.F.entry_list_count (PySem.F.args_list_count_2 _ _) (PySem.SeqAt.list_countAt l _ n dd sl (.bool k) (isBl k)) ⟨ho,fun y hy=>?_,?_⟩
 ·have hy:y∈bs.map Value.bool:=by simpa using hy
  obtain ⟨b,_,rfl⟩:=List.mem_map.mp hy
  exact PySem.SeqAt.EqAt.bool_bool b k
 ·have e:((bs.map Value.bool).toArray.toList.countP (isBl k))=bs.count k:=by
   show ((bs.map Value.bool).countP (isBl k))=bs.count k
   rw [List.countP_map]
   rfl
  rw [e]
  exact h
theorem idx_bls {prog:Program}{w:World}{A:Around}{E:Value→Shared→Prop}{s:Shared}{l:Addr}{bs:List Bool}{k:Bool}{j:Nat}{Q:Value→Shared→Prop} (hl:s.heap.IsList l (bs.map Value.bool).toArray) (hz:bs.length≤1000) (hj:bs[j]? = some k) (hno:∀ i,i < j→bs[i]?≠some k) (h:Q (.int (j:Nat) s.toks) { s with toks:=s.toks + 1 }) :
  wpAny (model prog w) A (call (.builtin "list.index") [.ref l,.bool k]) Q E s:=by
 obtain ⟨⟨cls,dd,data,sl⟩,ho,hc,n,hd⟩:=id hl
 simp only at hc hd
 subst hc hd
 have hjl:=(List.getElem?_eq_some_iff.mp hj).1
 have at':∀ (i:Nat) (hi:i < (bs.map Value.bool).toArray.size),∃ b,bs[i]? = some b∧(bs.map Value.bool).toArray[i] = .bool b:=fun i hi=>by
  have hi':i < bs.length:=by simpa using hi
  exact ⟨bs[i],List.getElem?_eq_getElem hi',by simp⟩
 refine call_meets PySem.F.slot_list_index ⟨_,ho,rfl⟩ PySem.F.entry_list_index (PySem.F.args_list_index_2 _ _) (PySem.SeqAt.list_indexAt l _ n dd sl (.bool k) (isBl k) j (by simpa using hjl) (by omega) ?_ ?_) ⟨ho,fun y hy=>?_,h⟩
 ·obtain ⟨b,e1,e2⟩:=at' j (by simpa using hjl)
  rw [e2]
  rw [hj] at e1
  cases e1
  exact beq_self_eq_true _
 ·intro i hi hlt
  obtain ⟨b,e1,e2⟩:=at' i hi
  rw [e2]
  show (b == k)=false
  rw [beq_eq_false_iff_ne]
  exact fun z=>hno i hlt (by rw [e1,z])
 ·have hy:y∈bs.map Value.bool:=by simpa using hy
  obtain ⟨b,_,rfl⟩:=List.mem_map.mp hy
  exact PySem.SeqAt.EqAt.bool_bool b k
theorem de_cntB {bs:List Bool}{k:Bool} (ho:DE X S σ H o (.lst (bs.map D.bl))) (he:DE X S σ H e (.bl k)) (m:autoParam (M1 X o "count" apos e cpos) au12._auto_1):DE X S σ H (.Call (.Attribute o "count" apos) [e] [] cpos) (.int (bs.count k:Nat)):=by
 rintro pins s σ' H' Q I ⟨rfl,sm,sb,kk⟩
 refine wpAny_Call_method m.base m.few m.line PySem.F.plainAttrs_list PySem.F.slot_list_count PySem.F.type_list_count (thn (ho pins s σ' H' (fun v H1=>Same H' H1∧Rep X.K S H1 (.lst (bs.map D.bl)) v) I ⟨rfl,sm,sb,fun v H1 s1 r1=>⟨s1,r1⟩⟩) fun u s1 ⟨x,H1,I1,rx,s1',r1⟩=>?_)
 obtain ⟨a,xs,rfl,q1,q2⟩:=rep_seq r1
 rw [reps_bls.mp q2] at q1
 cases rx
 obtain ⟨its,rv,pl,_⟩:=I1.list q1.sq
 refine ⟨pl.isList.typeIs,fun b z=>?_,?_⟩
 ·cases z
  obtain ⟨ob,n,h1,h2,h3,h4⟩:=pl
  exact ⟨ob,h1,h3⟩
 rw [m.trees]
 refine Calls.callWith_builtin rfl (Calls.evalArgs_plain (Calls.spliced_cons (thn (he pins s1 σ' H1 (fun v H2=>Same H1 H2∧v = .bl k) I1 ⟨rfl,sm.trans s1',sb.up s1',fun v H2 s2 r2=>⟨s2,by simpa only [Rep] using r2⟩⟩) fun iv s2 ⟨y,H2,I2,ry,s2',ey⟩=>Calls.spliced_nil ?_)))
 subst ey
 cases ry
 have r2:=r1.up s2'
 obtain ⟨a2,xs2,e2,q1',q2'⟩:=rep_seq r2
 cases e2
 rw [reps_bls.mp q2'] at q1'
 obtain ⟨its2,rv2,pl2,_⟩:=I2.list q1'.sq
 have ev:=vals_bls rv2
 subst ev
 exact cnt_bls pl2.isList ⟨.int (bs.count k:Nat),H2,I2.tok _,⟨_,rfl⟩,kk _ H2 (s1'.trans s2') (by simp only [Rep])⟩
theorem de_idxB {bs:List Bool}{k:Bool}{j:Nat} (ho:DE X S σ H o (.lst (bs.map D.bl))) (he:DE X S σ H e (.bl k)) (hz:bs.length≤1000) (hj:bs[j]? = some k) (hno:∀ i,i < j→bs[i]?≠some k) (m:autoParam (M1 X o "index" apos e cpos) au12._auto_1):DE X S σ H (.Call (.Attribute o "index" apos) [e] [] cpos) (.int (j:Nat)):=by
 rintro pins s σ' H' Q I ⟨rfl,sm,sb,kk⟩
 refine wpAny_Call_method m.base m.few m.line PySem.F.plainAttrs_list PySem.F.slot_list_index PySem.F.type_list_index (thn (ho pins s σ' H' (fun v H1=>Same H' H1∧Rep X.K S H1 (.lst (bs.map D.bl)) v) I ⟨rfl,sm,sb,fun v H1 s1 r1=>⟨s1,r1⟩⟩) fun u s1 ⟨x,H1,I1,rx,s1',r1⟩=>?_)
 obtain ⟨a,xs,rfl,q1,q2⟩:=rep_seq r1
 rw [reps_bls.mp q2] at q1
 cases rx
 obtain ⟨its,rv,pl,_⟩:=I1.list q1.sq
 refine ⟨pl.isList.typeIs,fun b z=>?_,?_⟩
 ·cases z
  obtain ⟨ob,n,h1,h2,h3,h4⟩:=pl
  exact ⟨ob,h1,h3⟩
 rw [m.trees]
 refine Calls.callWith_builtin rfl (Calls.evalArgs_plain (Calls.spliced_cons (thn (he pins s1 σ' H1 (fun v H2=>Same H1 H2∧v = .bl k) I1 ⟨rfl,sm.trans s1',sb.up s1',fun v H2 s2 r2=>⟨s2,by simpa only [Rep] using r2⟩⟩) fun iv s2 ⟨y,H2,I2,ry,s2',ey⟩=>Calls.spliced_nil ?_)))
 subst ey
 cases ry
 have r2:=r1.up s2'
 obtain ⟨a2,xs2,e2,q1',q2'⟩:=rep_seq r2
 cases e2
 rw [reps_bls.mp q2'] at q1'
 obtain ⟨its2,rv2,pl2,_⟩:=I2.list q1'.sq
 have ev:=vals_bls rv2
 subst ev
 exact idx_bls pl2.isList hz hj hno ⟨.int (j:Nat),H2,I2.tok _,⟨_,rfl⟩,kk _ H2 (s1'.trans s2') (by simp only [Rep])⟩
end
end L2
namespace L2
open PySem PySem.Spec PyProof.Rows
noncomputable def xcOk (K:PySem.W.Frag) (cs:List Addr) (p:Addr):Bool:=
 cs.all (fun c=>PySem.W.excIn K c bmV "ValueError.__new__" && (PySem.W.findIn K (.ref c) "__getattribute__" == some (some (.builtin "BaseException.__getattribute__"))) && (PySem.W.findIn K (.ref c) "__getattr__" == some none) && (PySem.W.mroIn K c (.type "BaseException") == some true) && PySem.W.hasDictIn K c && (PySem.W.findIn K (.ref c) "__class__" == some (some (.builtin "object.__class__"))) && (PySem.W.mroIn K c (.type "object") == some true)
  && (PySem.W.kitOne K (.ref c) (.type "ValueError") == some true) && (PySem.W.exmOne K (.ref c) (.ref p) == some true) && cs.all fun d=>PySem.W.kitOne K (.ref c) (.ref d) == some (c == d))
 && (PySem.W.specialIn K (.builtin "object.__class__") "__get__" == some (some (.builtin "getset_descriptor.__get__"))) && (PySem.W.takesIn K (.builtin "object.__class__") == some true) && decide cs.Nodup
structure XS (K:PySem.W.Frag) (mg:Str→Option Value) (cF cM cN cS cT cP:Addr):Prop where
 f:mg "NoFamily" = some (.ref cF)
 m:mg "NoMember" = some (.ref cM)
 n:mg "NoNote" = some (.ref cN)
 s:mg "NoSet" = some (.ref cS)
 t:mg "NoThing" = some (.ref cT)
 p:mg "PickError" = some (.ref cP)
 ok:xcOk K [cF,cM,cN,cS,cT] cP=true
noncomputable def spW (l:List (Addr × Str)):Sp:=fun vs H Q _=>∃ ea C z,vs=[.ref ea]∧H ea=some (exO C ea)∧(C,z)∈l∧∀ H',Same H H'→Q (.str z) H'
section
variable {K:PySem.W.Frag}{mg:Str→Option Value}{cF cM cN cS cT cP:Addr}
theorem xc_at {cs:List Addr}{p:Addr} (h:xcOk K cs p=true) {c:Addr} (hc:c∈cs):PySem.W.excIn K c bmV "ValueError.__new__" = true∧ClsF K c∧PySem.W.kitOne K (.ref c) (.type "ValueError")=some true∧PySem.W.exmOne K (.ref c) (.ref p)=some true∧∀ d∈cs,PySem.W.kitOne K (.ref c) (.ref d)=some (c == d):=by
 unfold xcOk at h
 simp only [Bool.and_eq_true,beq_iff_eq] at h
 obtain ⟨⟨⟨ha,h2⟩,h3⟩,_⟩:=h
 have q:=List.all_eq_true.mp ha c hc
 simp only [Bool.and_eq_true,beq_iff_eq] at q
 obtain ⟨⟨⟨⟨⟨⟨⟨⟨⟨q1,q2⟩,g1⟩,g2⟩,q3⟩,q4⟩,q5⟩,q6⟩,q7⟩,q8⟩:=q
 exact ⟨q1,⟨q2,g1,g2,q3,q4,h2,h3,q5⟩,q6,q7,fun d hd=>beq_iff_eq.mp (List.all_eq_true.mp q8 d hd)⟩
theorem xc_nodup {cs:List Addr}{p:Addr} (h:xcOk K cs p=true):cs.Nodup:=by
 unfold xcOk at h
 rw [Bool.and_eq_true] at h
 exact of_decide_eq_true h.2
theorem XS.cl (x:XS K mg cF cM cN cS cT cP):Xcl K mg "NoFamily" cF∧Xcl K mg "NoMember" cM∧Xcl K mg "NoNote" cN∧Xcl K mg "NoSet" cS∧Xcl K mg "NoThing" cT:=
 ⟨⟨x.f,(xc_at x.ok (by simp)).1⟩,⟨x.m,(xc_at x.ok (by simp)).1⟩,⟨x.n,(xc_at x.ok (by simp)).1⟩,⟨x.s,(xc_at x.ok (by simp)).1⟩,⟨x.t,(xc_at x.ok (by simp)).1⟩⟩
theorem tb_fst {C:Addr}{z:Str} (h:(C,z)∈[(cF,("family":Str)),(cM,"member"),(cN,"note"),(cS,"set"),(cT,"thing")]):C∈[cF,cM,cN,cS,cT]:=by
 have:=List.mem_map_of_mem (f:=Prod.fst) h
 simpa using this
theorem XS.under (x:XS K mg cF cM cN cS cT cP) {C:Addr}{z:Str} (h:(C,z)∈[(cF,("family":Str)),(cM,"member"),(cN,"note"),(cS,"set"),(cT,"thing")]):PySem.W.exmOne K (.ref C) (.ref cP)=some true:=(xc_at x.ok (tb_fst h)).2.2.2.1
theorem XS.kits (x:XS K mg cF cM cN cS cT cP) {C:Addr}{z:Str} (h:(C,z)∈[(cF,("family":Str)),(cM,"member"),(cN,"note"),(cS,"set"),(cT,"thing")]) :
  ClsF K C∧PySem.W.kitOne K (.ref C) (.type "ValueError")=some true∧∃ b0 b1 b2 b3 b4:Bool,PySem.W.kitOne K (.ref C) (.ref cF)=some b0∧PySem.W.kitOne K (.ref C) (.ref cM)=some b1∧PySem.W.kitOne K (.ref C) (.ref cN)=some b2∧PySem.W.kitOne K (.ref C) (.ref cS)=some b3∧PySem.W.kitOne K (.ref C) (.ref cT)=some b4 ∧
   ∃ j:Nat,[b0,b1,b2,b3,b4][j]? = some true∧(∀ i,i < j→[b0,b1,b2,b3,b4][i]?≠some true)∧[b0,b1,b2,b3,b4].count true=1∧[D.str "family",D.str "member",D.str "note",D.str "set",D.str "thing"][j]? = some (D.str z):=by
 obtain ⟨_,cf,kv,_,ks⟩:=xc_at x.ok (tb_fst h)
 refine ⟨cf,kv,_,_,_,_,_,ks cF (by simp),ks cM (by simp),ks cN (by simp),ks cS (by simp),ks cT (by simp),?_⟩
 have nd:=xc_nodup x.ok
 simp only [List.nodup_cons,List.mem_cons,List.not_mem_nil,or_false,not_or,List.nodup_nil,and_true,not_false_eq_true] at nd
 obtain ⟨⟨a1,a2,a3,a4⟩,⟨a5,a6,a7⟩,⟨a8,a9⟩,a10⟩:=nd
 have e:∀ {a b:Addr},¬ a=b→(a == b)=false:=fun h=>beq_eq_false_iff_ne.mpr h
 have e':∀ {a b:Addr},¬ a=b→(b == a)=false:=fun h=>beq_eq_false_iff_ne.mpr (Ne.symm h)
 simp only [List.mem_cons,Prod.mk.injEq,List.not_mem_nil,or_false] at h
 rcases h with ⟨rfl,rfl⟩ | ⟨rfl,rfl⟩ | ⟨rfl,rfl⟩ | ⟨rfl,rfl⟩ | ⟨rfl,rfl⟩
 ·exact ⟨0,by simp,by simp,by simp [e a1,e a2,e a3,e a4],rfl⟩
 ·rw [e' a1,e a5,e a6,e a7,beq_self_eq_true]
  exact ⟨1,rfl,by decide,by decide,rfl⟩
 ·rw [e' a2,e' a5,e a8,e a9,beq_self_eq_true]
  exact ⟨2,rfl,by decide,by decide,rfl⟩
 ·rw [e' a3,e' a6,e' a8,e a10,beq_self_eq_true]
  exact ⟨3,rfl,by decide,by decide,rfl⟩
 ·rw [e' a4,e' a7,e' a9,e' a10,beq_self_eq_true]
  exact ⟨4,rfl,by decide,by decide,rfl⟩
end
end L2
namespace R
open PySem L2 MC MO MT
section
variable {P:Program}{w:World}{K:PySem.W.Frag}{mg:Str→Option Value}{base:Heap}{f:Addr}{fd:FuncData}{cN:Addr}
noncomputable def X_na (cN:Addr) (ds:List D) (C:Addr):Prop:=∃ h:Str,(∀ n,1≤n→n≤6→h≠headL n)∧ds=[.str h]∧C=cN
theorem ex_numat (F:Fun K "number_at" "number_at" s_number_at f fd) (CH:Cal P w K mg base "head_of" 1 ["many"] R_headof) (m6:Six mg) (mr:mg "range" = none) (xN:Xcl K mg "NoNote" cN):FnOk P w K mg base (CXe P w) 2 f fd ["head"] (spE K (X_na cN)):=by
 refine fn_okE F sc_numat (fun ds C ⟨_,_,h,_⟩=>by rw [h];rfl) (by decide) ?_
 rintro cdv A outer s H E _ _ Q σ hr ⟨h,hno,rfl,rfl⟩ hw A0
 have A0:At (Ex P w K mg base ["head","many"] "number_at" s_number_at f cdv A outer s H E) no no H [some (.str h),none] σ H:=A0
 have nd:=sc_numat.nd
 refine st_for (E:={ nx:=fun _ H'=>Q .non H',rt:=Q }) (ds:=(List.range 6).map fun (k:Nat)=>D.int (1 + (k:Int))) 1 A0 (di_range2 (i:=1) (j:=7) mr de_int (de_add (de_six m6) de_int) (by decide) (by decide) (by decide)) (fun i δ=>∃ o1,δ=[some (.str h),o1]) ⟨none,rfl⟩ ?_ ?_ nd (hp:=PassesOwn.leaving)
 ·rintro H4 i d δ σ4 H5 of ⟨o1,rfl⟩ hd A4
  rw [List.getElem?_map] at hd
  by_cases hi:i < 6
  ·rw [List.getElem?_range hi] at hd
   have e:d = .int (((1 + i:Nat):Int)):=by
    have:d = .int (1 + (i:Int)):=by simpa using hd.symm
    rw [this];congr 1
   subst e
   have A4:At (Ex P w K mg base ["head","many"] "number_at" s_number_at f cdv A outer s H E) no no H4 [some (.str h),some (.int ((1 + i:Nat):Int))] σ4 H5:=A4
   exact st_if A4 (dt_eqS (A4.v 0) (de_cal CH hr ⟨1 + i,by omega,rfl,rfl⟩ (da_cons (A4.v 1) da_nil))) (fun hc H6 A6=>absurd (of_decide_eq_true hc) (hno (1 + i) (by omega) (by omega))) (fun hc H6 A6=>dss_nil (dss_nil ⟨_,⟨_,rfl⟩,A6⟩))
  ·rw [List.getElem?_eq_none (by simpa using hi)] at hd
   cases hd
 ·rintro δ σ4 H4 ⟨o1,rfl⟩ A4
  exact st_raise A4 xN hw
noncomputable def Wr (t:Str) (n:Nat) (cs:List Nat):Prop:=Fam n cs∧ordC cs=cs∧t=textL n cs
noncomputable def X_rd (cN:Addr) (ds:List D) (C:Addr):Prop:=∃ t:Str,(¬ ∃ n cs,Wr t n cs)∧t.length + 2≤2000∧ds=[.str t]∧C=cN
theorem ex_read (F:Fun K "read" "read" s_read f fd) (EN:CalE P w K mg base "number_at" 2 ["head"] (X_na cN)) (CN:Cal P w K mg base "number_at" 2 ["head"] R_numat) (CA:Cal P w K mg base "all_sets" 6 ["many"] R_allsets) (CL:Cal P w K mg base "line_of" 1 ["one"] R_lineof) (CS:Cal P w K mg base "shown" 6 ["many","family"] R_shown) (xN:Xcl K mg "NoNote" cN):FnOk P w K mg base (CXe P w) 7 f fd ["text"] (spE K (X_rd cN)):=by
 refine fn_okE F sc_read (fun ds C ⟨_,_,_,h,_⟩=>by rw [h];rfl) (by decide) ?_
 rintro cdv A outer s H E _ _ Q σ hr ⟨t,hno,hz,rfl,rfl⟩ hw A0
 have A0:At (Ex P w K mg base ["text","lines","many","family"] "read" s_read f cdv A outer s H E) no no H [some (.str t),none,none,none] σ H:=A0
 have nd:=sc_read.nd
 obtain ⟨r0,rest,er⟩:∃ r0 rest,Txt.split t (Str.ofString "\n")=r0::rest:=by
  cases e:Txt.split t (Str.ofString "\n") with
  | nil=>exact absurd e (split_ne _ _)
  | cons a l=>exact ⟨a,l,rfl⟩
 refine' st_set (d:=.lst ((r0::rest).map D.str)) A0 1 ?e1 (fun σ1 H1 A1=>?_) nd
 case e1=>
  rw [← er]
  exact de_split (A0.v 0) de_str (by decide +kernel) hz
 by_cases hh:∃ n,1≤n∧n≤6∧r0=headL n
 ·obtain ⟨n,n1,n6,rfl⟩:=hh
  have hf:=full_lt n6
  refine st_set A1 2 (de_cal CN hr ⟨n,n1,n6,rfl,rfl⟩ (da_cons (de_ix ix_list (A1.v 1) de_int (good_ixL (n:=0) rfl rfl)) da_nil)) (fun σ2 H2 A2=>?_) nd
  refine' st_lcE (enc:=dS) (xs:=parts (full n)) A2 3 (fun c=>decide (lineL c∈headL n::rest)) dS (di_list (de_cal CA hr ⟨n,n6,rfl,rfl⟩ (da_cons (A2.v 2) da_nil))) (inj_dS (parts_U hf)) (by have:=parts_le hf;omega) (LcEl.test ?e2) (fun σ3 H3 A3=>?_) nd
  case e2=>
   intro S' σ4 H' c hc C' fp s₀ H₀ pins A4
   have c6:=parts_U hf c hc
   exact ⟨dt_inP (enc:=D.str) (n:=0) (ys:=headL n::rest) (z:=lineL c) enc_str (units_of hr) (by rw [decide_eq_true_eq]) (de_cal CL hr ⟨c,c6,rfl,rfl⟩ (da_cons (A4.v 0) da_nil)) (A4.v 2),fun _=>A4.v 0⟩
  generalize hfs:(parts (full n)).filter (fun c=>decide (lineL c∈headL n::rest))=fs at A3
  have up:UpC fs:=by rw [← hfs];exact up_filter _ (parts_up hf)
  have fam:Fam n fs:=⟨n1,n6,fun c hc=>by
   rw [← hfs,List.mem_filter,full_mem n6] at hc
   exact hc.1,up_nodup up⟩
  have eo:=ord_self fam.u up
  have A3:At (Ex P w K mg base ["text","lines","many","family"] "read" s_read f cdv A outer s H E) no no H [some (.str t),some (.lst ((headL n::rest).map D.str)),some (.int (n:Nat)),some (dF fs)] σ3 H3:=A3
  refine st_if A3 (k:=!decide (textL n (ordC fs)=t)) (dt_neS (de_cal CS hr ⟨n,fs,fam,rfl,rfl⟩ (da_cons (A3.v 2) (da_cons (A3.v 3) da_nil))) (A3.v 0)) (fun _ H4 A4=>st_raise A4 xN hw) (fun h=>?_)
  rw [Bool.not_eq_false',decide_eq_true_eq,eo] at h
  exact absurd ⟨n,fs,fam,eo,h.symm⟩ hno
 ·refine st_setE (n:=2) (dx_cal EN hr meets_ex ⟨r0,fun n n1 n6 e=>hh ⟨n,n1,n6,e⟩,rfl,rfl⟩ (fun H' s=>⟨A1.same.same.trans s,hw H' (A1.same.same.trans s)⟩) (da_cons (de_ix ix_list (A1.v 1) de_int (good_ixL (n:=0) rfl rfl)) da_nil) sub_no) nd
end
end R
namespace R
open PySem L2 MC MO
section
variable {P:Program}{w:World}{K:PySem.W.Frag}{mg:Str→Option Value}{base:Heap}{f:Addr}{fd:FuncData}{cF cM cN cS cT cP:Addr}
noncomputable abbrev tb (cF cM cN cS cT:Addr):List (Addr × Str):=[(cF,"family"),(cM,"member"),(cN,"note"),(cS,"set"),(cT,"thing")]
theorem sc_which:FnScope ["e","told_v"] ["e"] (defScope s__law_which):=⟨rfl,rfl,rfl,by decide +kernel,rfl,by decide +kernel,by decide +kernel⟩
theorem ok_which (F:Fun K "_law_which" "_law_which" s__law_which f fd) (xs:XS K mg cF cM cN cS cT cP) (ms:mg "isinstance" = none) (mv:mg "ValueError" = none):FnOkU P w K mg base 1 f fd ["e"] (spW (tb cF cM cN cS cT)):=by
 refine fn_okU F sc_which (fun vs H Q E ⟨_,_,_,h,_⟩=>by rw [h];rfl) ?_
 rintro cdv A outer s H vs Q E hr ⟨ea,C,z,rfl,hx,hm,hq⟩
 obtain ⟨cf,kv,b0,b1,b2,b3,b4,k0,k1,k2,k3,k4,j,hj,hno,hone,hz⟩:=xs.kits hm
 have nd:=sc_which.nd
 have A0:At (cxU P w K mg base ["e","told_v"] "_law_which" (defScope s__law_which) f cdv A outer s H) no no H [some (.adr ea),none] (start ["e","told_v"] [.ref ea]) H:=by
  refine ⟨Off.refl,sub_no,fun _ z=>z.elim,rfl,fun i d h=>?_⟩
  match i,h with
  | 0,h=>cases h;exact ⟨_,rfl,by simp only [Rep]⟩
  | 1,h=>cases h
 refine' st_set (d:=.lst ([b0,b1,b2].map D.bl)) A0 1 ?e1 (fun σ1 H1 A1=>?_) nd
 case e1=>exact de_lst (da_cons (de_isXc ms hx cf k0 xs.f (A0.v 0)) (da_cons (de_isXc ms hx cf k1 xs.m (A0.v 0)) (da_cons (de_isXc ms hx cf k2 xs.n (A0.v 0)) da_nil)))
 have hx1:=A1.same.same _ _ hx
 refine' st_set (d:=.lst ([b0,b1,b2,b3,b4].map D.bl)) A1 1 ?e2 (fun σ2 H2 A2=>?_) nd
 case e2=>exact de_cat (ds:=[b0,b1,b2].map D.bl) (es:=[b3,b4].map D.bl) (A1.v 1) (de_lst (da_cons (de_isXc ms hx1 cf k3 xs.s (A1.v 0)) (da_cons (de_isXc ms hx1 cf k4 xs.t (A1.v 0)) da_nil))) (by simp)
 have hx2:=A2.same.same _ _ hx
 have hb1:bootBuiltins "ValueError" = some (.type "ValueError"):=by decide +kernel
 refine' st_if A2 (k:=false) (DW.dt (dw_or (k:=false) (l:=false) (dt_not (k:=true) (dt_val (de_isXt ms hx2 cf kv mv hb1 (A2.v 0)))) fun _=>dw_or1 (k:=false) ?c2)) (fun h=>nomatch h) (fun _ H3 A3=>dss_nil ?_)
 case c2=>
  have e:(!decide (((([b0,b1,b2,b3,b4].count true):Nat):Int)=1))=false:=by rw [hone];decide
  rw [← e]
  exact dt_neI (de_cntB (A2.v 1) de_bl) de_int
 refine st_ret A3 (d:=.str z) ?_ (fun v H' s' r=>?_)
 ·exact de_ix ix_list (de_lst (da_cons de_str (da_cons de_str (da_cons de_str (da_cons de_str (da_cons de_str da_nil)))))) (de_idxB (A3.v 1) de_bl (by simp) hj hno) (good_ixL (n:=j) hz rfl)
 ·simp only [Rep] at r
  subst r
  exact hq H' (A3.same.same.trans s')
end
end R
namespace R
open PySem L2 MC MO MT
section
variable {P:Program}{w:World}{K:PySem.W.Frag}{mg:Str→Option Value}{base:Heap}{f:Addr}{fd:FuncData}{cF cM cN cS cT cP:Addr}
noncomputable def R_asked (ds:List D) (d:D):Prop:=∃ t:Str,t.length + 2≤2000∧ds=[.str t]∧((∃ n cs,Wr t n cs∧d = .tup [.int (n:Nat),dF cs])∨((¬ ∃ n cs,Wr t n cs)∧d = .str "note"))
theorem sc_asked:FnScope ["text","told_v","e"] ["text"] (defScope s__law_asked):=⟨rfl,rfl,rfl,by decide +kernel,rfl,by decide +kernel,by decide +kernel⟩
noncomputable abbrev XA (P:Program) (w:World) (K:PySem.W.Frag) (mg:Str→Option Value) (base:Heap) (f:Addr) (cdv:Value) (A:Around) (outer:List Env) (s:Shared) (H:Hp) (E:XK):Cx:=Fx P w K mg base ["text","told_v","e"] "_law_asked" s__law_asked f cdv A outer s H E
theorem ok_asked (F:Fun K "_law_asked" "_law_asked" s__law_asked f fd) (xs:XS K mg cF cM cN cS cT cP) (CU:CalU P w K mg base "_law_which" 1 ["e"] (spW (tb cF cM cN cS cT))) (ER:CalE P w K mg base "read" 7 ["text"] (X_rd cN)) (CR:CalF P w K mg base "read" 7 ["text"] R_read):FnOk P w K mg base CX0 8 f fd ["text"] (spR K R_asked):=by
 refine fn_ok F sc_asked (fun ds d ⟨_,_,h,_⟩=>by rw [h];rfl) (by decide) ?_
 rintro cdv A outer s H E S _ _ Q σ hr ⟨t,hz,rfl,hcase⟩ q A0
 have A0:At (XA P w K mg base f cdv A outer s H E) S no H [some (.str t),none,none] σ H:=A0
 have nd:=sc_asked.nd
 refine st_set A0 1 de_non (fun σ1 H1 A1=>?_) nd
 have A1:At (XA P w K mg base f cdv A outer s H E) S no H [some (.str t),some .non,none] σ1 H1:=A1
 refine' st_try (i:=2) (Y:=fun C _ H'=>Same H1 H'∧C = .ref cN∧¬ ∃ n cs,Wr t n cs) (fun pn xe hx=>?b) (fun C H2 ⟨_,e,_⟩=>⟨cN,e,xs.under (z:="note") (by simp [tb])⟩) (fun ea c H2 ⟨sm,e,hno⟩ hea=>?s) xs.p nd
 case s=>
  cases e
  obtain ⟨_,_,h,_⟩ | ⟨_,rfl⟩:=hcase
  ·exact absurd ⟨_,_,h⟩ hno
  have A2:At ((XA P w K mg base f cdv A outer s H E).suite ea) S no H [some (.str t),some .non,some (.adr ea)] (σ1.set 2 (some (.ref ea))) (upd H2 ea (exO cN ea)):=by
   have B:=((A1.up sm).up (same_new hea (exO cN ea))).set (i:=2) (d:=.adr ea) (v:=.ref ea) (by simp only [Rep])
   exact ⟨B.same,B.sub,B.ms,B.len,B.env⟩
  refine' st_set (d:=.str "note") A2 1 ?e1 (fun σ3 H3 A3=>dss_nil ?_) nd
  case e1=>
   refine (pe_callU CU (hr.u _) (da_cons (A2.v 2) da_nil)).mono ?_
   rintro σ' H' Q' ⟨e1,s1,sb,k⟩
   refine ⟨e1,s1,sb,fun vs H4 s4 r=>?_⟩
   obtain ⟨v,rfl,rv⟩:=reps_1 r
   simp only [Rep] at rv
   subst rv
   exact ⟨ea,cN,"note",rfl,(s1.trans s4) _ _ upd_same,by simp [tb],fun H5 s5=>k _ H5 (s4.trans s5) rep_str⟩
  have A4:At (XA P w K mg base f cdv A outer s H E) S no H [some (.str t),some (.str "note"),none] (σ3.set 2 none) H3:=by
   have B:At (XA P w K mg base f cdv A outer s H E) S no H [some (.str t),some (.str "note"),none] σ3 H3:=by
    refine ⟨A3.same,A3.sub,A3.ms,A3.len,fun i d h=>?_⟩
    match i,h with
    | 0,h=>exact A3.env 0 d h
    | 1,h=>exact A3.env 1 d h
    | 2,h=>cases h
   exact B.put rfl
  exact st_retD A4 q (A4.v 1)
 case b=>
  have A2:At ((XA P w K mg base f cdv A outer s H E).re pn xe) S no H [some (.str t),some .non,none] σ1 H1:=⟨A1.same,A1.sub,A1.ms,A1.len,A1.env⟩
  rcases hcase with ⟨n,cs,⟨fam,eo,et⟩,rfl⟩ | ⟨hno,rfl⟩
  ·refine' st_set (d:=.tup [.int (n:Nat),dF cs]) A2 1 (de_calF CR hr ⟨n,cs,fam,eo,by rw [← et],rfl⟩ (da_cons (A2.v 0) da_nil) A2.sub) (fun σ3 H3 A3=>dss_nil ?_) nd
   have A4:At (XA P w K mg base f cdv A outer s H E) S no H [some (.str t),some (.tup [.int (n:Nat),dF cs]),none] σ3 H3:=⟨A3.same,A3.sub,A3.ms,A3.len,A3.env⟩
   exact st_retD A4 q (A4.v 1)
  ·exact st_setE (n:=1) (dx_cal ER hr hx ⟨t,hno,hz,rfl,rfl⟩ (fun H3 s3=>⟨s3,rfl,hno⟩) (da_cons (A2.v 0) da_nil) A2.sub) nd
end
end R
namespace MT
open PySem PySem.StrLaws MC
theorem wordsL_snoc {w:Str}{d:Int} (hd:digL w=some d):∀ {l:List Str}{ds:List Int},wordsL l=some ds→wordsL (l++[w])=some (ds++[d])
 | [],ds,h=>by
  have e:ds=[]:=by simpa [wordsL] using h.symm
  subst e
  simp [wordsL,hd]
 | v::r,ds,h=>by
  unfold wordsL at h
  rw [List.cons_append]
  unfold wordsL
  split at h
  ·cases h
  ·rename_i x e
   cases hr:wordsL r with
   | none=>rw [hr] at h;cases h
   | some es=>
    rw [hr] at h
    have e2:ds=x::es:=by simpa using h.symm
    subst e2
    simp [e,wordsL_snoc hd hr]
theorem wordsL_stop {w:Str} (hd:digL w=none):∀ (l r:List Str),wordsL (l++w::r)=none
 | [],r=>by simp [wordsL,hd]
 | v::l,r=>by
  rw [List.cons_append]
  unfold wordsL
  split
  ·rfl
  ·rw [wordsL_stop hd l r];rfl
theorem dig_one {d:Int} (h:0≤d∧d≤5):(digS d).length=1:=by
 obtain rfl | rfl | rfl | rfl | rfl | rfl:d=0∨d=1∨d=2∨d=3∨d=4∨d=5:=by omega
 all_goals decide +kernel
theorem sum_ones:∀ {ds:List Int},(∀ d∈ds,0≤d∧d≤5)→((ds.map digS).map (·.length)).sum=ds.length
 | [],_=>rfl
 | d::r,h=>by
  rw [List.map_cons,List.map_cons,List.sum_cons,dig_one (h d (by simp)),sum_ones fun x hx=>h x (List.mem_cons_of_mem _ hx),List.length_cons]
  omega
theorem sum_take_le:∀ (l:List Nat) (i:Nat),(l.take i).sum≤l.sum
 | [],i=>by simp
 | a::r,0=>by simp
 | a::r,i + 1=>by
  rw [List.take_succ_cons,List.sum_cons,List.sum_cons]
  have:=sum_take_le r i
  omega
theorem words_few {row:Str}{i:Nat}{ds:List Int} (h:wordsL ((Txt.split row (Str.ofString " ")).take i)=some ds):ds.length=min i (Txt.split row (Str.ofString " ")).length∧2 * ds.length≤row.length + 1:=by
 obtain ⟨a,b⟩:=wordsL_some h
 have hl:=congrArg List.length a
 rw [List.length_take,List.length_map] at hl
 have hw:=PyProof.Rows.split_weight row (Str.ofString " ") (by decide +kernel)
 have hs:=sum_take_le ((Txt.split row (Str.ofString " ")).map (·.length)) i
 rw [← List.map_take,a,sum_ones b] at hs
 refine ⟨hl.symm,by omega⟩
theorem mem_few {row:Str}{m:List Int} (h:memL row=some m):2 * m.length≤row.length + 1:=by
 unfold memL at h
 split at h
 ·cases h;simp
 ·have:=words_few (row:=row) (i:=(Txt.split row (Str.ofString " ")).length) (ds:=m) (by rw [List.take_of_length_le (Nat.le_refl _)];exact h)
  exact this.2
theorem digL_none {w:Str}:digL w=none↔¬ w∈[digS 0,digS 1,digS 2,digS 3,digS 4,digS 5]:=by
 unfold digL
 simp only [List.mem_cons,List.not_mem_nil,or_false,not_or]
 constructor
 ·intro h
  repeat (split at h;· cases h)
  exact ⟨by assumption,by assumption,by assumption,by assumption,by assumption,by assumption⟩
 ·rintro ⟨h0,h1,h2,h3,h4,h5⟩
  rw [if_neg h0,if_neg h1,if_neg h2,if_neg h3,if_neg h4,if_neg h5]
end MT
namespace EqD
open PySem PySem.Spec PyProof.Rows
open PySem.SeqAt
open PySem.AutoSeq1 (wpAny_loadPart')
open PySem.MeetsSeq PySem.MeetsSeq2 PySem.MeetsSeq3
theorem pair_lt (l b:Addr) (x0 x1 y0 y1:Value) (n n2:Nat) (dd dd2:Option Addr) (sl sl2:Array (Option Value)) (e0 e1 k0 k1:Bool) :
  Meets (Builtin.«tuple.__lt__» ⟨[.ref l,.ref b],[]⟩)
   (fun A R s=>s.heap.get? l=some (TObj #[x0,x1] n dd sl)∧s.heap.get? b=some (TObj #[y0,y1] n2 dd2 sl2)∧EqAt A.in1 s x0 y0 e0∧EqAt A.in1 s x1 y1 e1 ∧
    (∀ prog w E (Q:Value→Shared→Prop),Q (.bool k0) s→wpAny (model prog w) A.in1 (richCompare .Lt x0 y0) Q E s)∧(∀ prog w E (Q:Value→Shared→Prop),Q (.bool k1) s→wpAny (model prog w) A.in1 (richCompare .Lt x1 y1) Q E s) ∧
    R (.ok (.ret (.bool (if e0=true then (if e1=true then false else k1) else k0)))) s):=
 .of_wp fun prog w A R s h=>by
  obtain ⟨hp,g,d,tk,os⟩:=s;obtain ⟨hl,hb,q0,q1,c0,c1,h⟩:=h
  have f2:=AutoSeq1.sub_tuple_tuple
  wp_walk using wpAny_loadPart' hl,wpAny_loadPart' hb,wpAny_forIn_list _ (fun rest b s'=>b.1=none∧s'=⟨hp,g,d,tk,os⟩∧((rest=[(x0,y0),(x1,y1)]∧R (.ok (.ret (.bool (if e0=true then (if e1=true then false else k1) else k0)))) ⟨hp,g,d,tk,os⟩)∨(rest=[(x1,y1)]∧R (.ok (.ret (.bool (if e1=true then false else k1)))) ⟨hp,g,d,tk,os⟩)∨(rest=[]∧R (.ok (.ret (.bool false))) ⟨hp,g,d,tk,os⟩))) _
  case turn=>
   rintro ⟨y,x⟩ rest b s' ⟨hb',rfl,hz⟩
   rcases hz with ⟨hz,hR⟩ | ⟨hz,hR⟩ | ⟨hz,hR⟩
   ·injection hz with hyx hrest
    injection hyx with hy hx
    subst hy hx
    refine wpAny_bind (q0 prog w _ _ ?_)
    cases e0 with
    | true=>
     wp_walk
     exact ⟨rfl,rfl,.inr (.inl ⟨hrest,by simpa using hR⟩)⟩
    | false=>
     have c0:=c0 prog w
     wp_walk using c0
     exact ⟨_,rfl,by simpa using hR⟩
   ·injection hz with hyx hrest
    injection hyx with hy hx
    subst hy hx
    refine wpAny_bind (q1 prog w _ _ ?_)
    cases e1 with
    | true=>
     wp_walk
     exact ⟨rfl,rfl,.inr (.inr ⟨hrest,by simpa using hR⟩)⟩
    | false=>
     have c1:=c1 prog w
     wp_walk using c1
     exact ⟨_,rfl,by simpa using hR⟩
   ·cases hz
  case fin=>
   rintro ⟨b1,b2⟩ s' ⟨hb',rfl,hz⟩
   simp only at hb'
   subst hb'
   rcases hz with ⟨hz,hR⟩ | ⟨hz,hR⟩ | ⟨hz,hR⟩
   ·cases hz
   ·cases hz
   ·wp_walk
    exact ⟨_,rfl,by simpa [Builtin.Tuple.tupleCompareSizes] using hR⟩
  case h=>
   exact ⟨rfl,rfl,.inl ⟨rfl,h⟩⟩
end EqD
namespace L2
open PySem PySem.Spec PyProof.Rows TS
section
variable {X:Cx}{S M:Av}{H0 H:Hp}{δ:List (Option D)}{σ:St}{a b e e1 e2 o:Expr}{pos pos' p p2 p3 p4 apos cpos:Pos}{d d':D}{ds:List D}{i j:Int}{x y:Str}{xs:List Str}{E:Ends}{rest:List Stmt}
theorem small_line2:2000≤sizeLine:=by decide
theorem call_intD:CallR X (.type "int") (fun xs H Q=>∃ i:Int,0≤i∧i < 10 ^ 10∧xs=[.str (Str.ofString (toString i))]∧Q (.int i) H):=by
 intro pins s σ H xs us Q I r h
 obtain ⟨i,h0,h1,rfl,q⟩:=h
 obtain ⟨u,rfl,t,rfl⟩:=vals1 r
 exact PySem.W.KIN.call_num h0 h1 ⟨.int i,H,I.tok _,⟨_,rfl⟩,q⟩
theorem de_intD (ms:X.mg "int" = none) (ha:DE X S σ H a (.str (Str.ofString (toString i)))) (h0:0≤i) (h1:i < 10 ^ 10) (hg:autoParam (Gl X "int") au3._auto_1) (hs:autoParam (starEach [a] X.env=(false,eval a X.env)::starEach [] X.env) au3._auto_1):DE X S σ H (.Call (.Name "int" p) [a] [] pos) (.int i):=
 de_cb (fun vs H' Q _ _ r k=>by
  obtain ⟨v,rfl,rv⟩:=reps_1 r
  simp only [Rep] at rv
  subst rv
  exact ⟨i,h0,h1,rfl,k _ H' (Same.refl _) rep_int⟩) (pe_callTy call_intD hg ms (by decide +kernel) (da_cons ha da_nil hs) (he:=hs))
theorem de_ixStr {n c:Nat} (ha:DE X S σ H a (.str x)) (hb:DE X S σ H b (.int i)) (hz:x.length≤2000) (hi:i=n) (hc:x.cps.toList[n]? = some c) (hs:autoParam (PlainIx b) au6._auto_1):DE X S σ H (.Subscript a b pos) (.str ⟨#[c]⟩):=
 de_ix ix_str ha hb (fun v w H' Q _ _ rv rw' k=>by
  simp only [Rep] at rv rw'
  subst rv rw'
  exact ⟨x,i,c,rfl,rfl,Nat.le_trans hz (small_line2),by rw [hi];exact atI_nat hc,k _ H' (Same.refl _) rep_str⟩) hs
theorem de_lenStr (ml:X.mg "len" = none) (ha:DE X S σ H a (.str x)) (hz:x.length≤2000) (hg:autoParam (Gl X "len") au3._auto_1) (hs:autoParam (starEach [a] X.env=(false,eval a X.env)::starEach [] X.env) au3._auto_1):DE X S σ H (.Call (.Name "len" p) [a] [] pos) (.int x.length):=
 de_cb (fun vs H' Q _ _ r k=>by
  obtain ⟨v,rfl,rv⟩:=reps_1 r
  simp only [Rep] at rv
  subst rv
  exact ⟨x,rfl,Nat.le_trans hz small_line2,k _ H' (Same.refl _) rep_int⟩) (pe_callB call_len_str hg ml PySem.boot_len (da_cons ha da_nil hs) (he:=hs))
theorem de_ixO {n m:Nat}{L:Addr} (O:Own X S σ H n L (xs.map D.str)) (h1:DE X S σ H e1 (.int i)) (hi:i=m) (hx:xs[m]? = some x) (hN:autoParam (X.N[n]? = some y) au3._auto_1) (hv:autoParam (Vis X.env.scope y) au4._auto_1)
  (hd:autoParam ((y == ("__debug__":Str))=false) au1._auto_1) (hcd:autoParam ((y == ("__classdict__":Str))=false) au1._auto_1) (hs:autoParam (PlainIx e1) au6._auto_1):DE X S σ H (.Subscript (.Name y p) e1 pos) (.str x):=by
 obtain ⟨vs,hL,rx⟩:=O.lst
 have ev:=reps_strs.mp rx
 subst ev
 refine (pe_ix ix_list (pe_var hN hv hd hcd) h1 hs).mono ?_
 rintro σ' H' Q ⟨rfl,sm,sb,q⟩
 refine ⟨.ref L,O.slot,rfl,sm,sb,fun v H1 s1 r1=>?_⟩
 simp only [Rep] at r1
 subst r1
 exact ⟨L,_,i,.str x,rfl,rfl,SqL.of (s1 _ _ (sm _ _ hL)),by rw [hi];exact atI_nat (by rw [List.getElem?_map,hx];rfl),q _ H1 s1 rep_str⟩
theorem st_putO {n m:Nat}{L:Addr}{ps:Pos} (A:At X S M H0 δ σ H) (O:Own X S σ H n L (xs.map D.str)) (hM:M L) (h1:DE X S σ H e1 (.int i)) (h2:DE X S σ H e2 (.str x)) (hi:i=m) (hm:m < xs.length)
  (k:∀ H',At X S M H0 δ σ H'→Own X S σ H' n L ((xs.set m x).map D.str)→DSs X rest E σ H') (hN:autoParam (X.N[n]? = some y) au3._auto_1) (hv:autoParam (Vis X.env.scope y) au4._auto_1)
  (hd:autoParam ((y == ("__debug__":Str))=false) au1._auto_1) (hcd:autoParam ((y == ("__classdict__":Str))=false) au1._auto_1) (hs:autoParam (swapsWithSole [.Subscript (.Name y p) e1 ps] e2 pos.line X.env=pure false) au3._auto_1) (hw:autoParam (swappedStores [.Subscript (.Name y p) e1 ps] e2 X.env=pure none) au3._auto_1)
  (ha1:autoParam ((assignEach [.Subscript (.Name y p) e1 ps] X.env).map (·.2)=[assign (.Subscript (.Name y p) e1 ps) X.env]) au3._auto_1)
  (ha:autoParam (∀ v,assign (.Subscript (.Name y p) e1 ps) X.env v=(do
   let ov ← holding [v] (eval (.Name y p) X.env)
   let iv ← holding [v,ov] (eval e1 X.env)
   standAt ps
   holding [v,ov,iv] (setItem ov iv v)
   release [v,ov,iv] [])) au2._auto_1) :
  DSs X (.Assign [.Subscript (.Name y p) e1 ps] e2 pos::rest) E σ H:=by
 refine dss_cons (DS.of (ps_asg h2 (pg_sub (pe_var hN hv hd hcd) h1 set_list ha) hs hw ha1) ?_)
 refine ⟨rfl,Same.refl _,A.sub,fun v H1 s1 r1=>⟨.ref L,O.slot,rfl,s1,A.sub.up s1,fun u H2 s2 r2=>?_⟩⟩
 simp only [Rep] at r1 r2
 subst r1 r2
 have s12:=s1.trans s2
 obtain ⟨vs,hL,rx⟩:=O.lst
 have ev:=reps_strs.mp rx
 subst ev
 refine ⟨L,_,i,m,rfl,rfl,s12 _ _ hL,?_,k _ ((A.up s12).write hM) ⟨O.slot,O.inS,_,upd_same,reps_strs.mpr ?_⟩⟩
 ·rw [hi]
  unfold ixN
  rw [if_pos (by omega),if_pos (by rw [List.length_map];omega)]
  rfl
 ·rw [List.map_set]
noncomputable def isSt (k:Str):Value→Bool
 | .str x _=>x == k
 | _=>false
theorem idx_strs {prog:Program}{w:World}{A:Around}{E:Value→Shared→Prop}{s:Shared}{l:Addr}{ls:List (Str × Tok)}{k:Str}{u:Tok}{j:Nat}{Q:Value→Shared→Prop} (hl:s.heap.IsList l (strValues ls).toArray) (hz:ls.length≤1000) (hj:(ls.map (·.1))[j]? = some k) (hno:∀ i,i < j→(ls.map (·.1))[i]?≠some k) (h:Q (.int (j:Nat) s.toks) { s with toks:=s.toks + 1 }) :
  wpAny (model prog w) A (call (.builtin "list.index") [.ref l,.str k u]) Q E s:=by
 obtain ⟨⟨cls,dd,data,sl⟩,ho,hc,n,hd⟩:=id hl
 simp only at hc hd
 subst hc hd
 have hjl:j < ls.length:=by have:=(List.getElem?_eq_some_iff.mp hj).1;rwa [List.length_map] at this
 have hsz:(strValues ls).toArray.size=ls.length:=by simp [strValues]
 have at':∀ (i:Nat) (hi:i < (strValues ls).toArray.size),∃ b t,(ls.map (·.1))[i]? = some b∧(strValues ls).toArray[i] = .str b t:=fun i hi=>by
  have hi':i < ls.length:=by rwa [hsz] at hi
  exact ⟨ls[i].1,ls[i].2,by rw [List.getElem?_map,List.getElem?_eq_getElem hi'];rfl,by simp [strValues]⟩
 refine call_meets PySem.F.slot_list_index ⟨_,ho,rfl⟩ PySem.F.entry_list_index (PySem.F.args_list_index_2 _ _) (PySem.SeqAt.list_indexAt l _ n dd sl (.str k u) (isSt k) j (by rw [hsz];exact hjl) (by omega) ?_ ?_) ⟨ho,fun y hy=>?_,h⟩
 ·obtain ⟨b,t,e1,e2⟩:=at' j (by rw [hsz];exact hjl)
  rw [e2]
  rw [hj] at e1
  cases e1
  exact beq_self_eq_true _
 ·intro i hi hlt
  obtain ⟨b,t,e1,e2⟩:=at' i hi
  rw [e2]
  show (b == k)=false
  rw [beq_eq_false_iff_ne]
  exact fun z=>hno i hlt (by rw [e1,z])
 ·have hy:y∈strValues ls:=by simpa using hy
  obtain ⟨b,_,rfl⟩:=List.mem_map.mp hy
  exact PySem.SeqAt.EqAt.str_str b.1 b.2 k u
theorem de_idxS {n:Nat} (ho:DE X S σ H o (.lst (xs.map D.str))) (he:DE X S σ H e (.str x)) (hz:xs.length≤1000) (hj:xs[n]? = some x) (hno:∀ i,i < n→xs[i]?≠some x) (m:autoParam (M1 X o "index" apos e cpos) au12._auto_1):DE X S σ H (.Call (.Attribute o "index" apos) [e] [] cpos) (.int (n:Nat)):=by
 rintro pins s σ' H' Q I ⟨rfl,sm,sb,kk⟩
 refine wpAny_Call_method m.base m.few m.line PySem.F.plainAttrs_list PySem.F.slot_list_index PySem.F.type_list_index (thn (ho pins s σ' H' (fun v H1=>Same H' H1∧Rep X.K S H1 (.lst (xs.map D.str)) v) I ⟨rfl,sm,sb,fun v H1 s1 r1=>⟨s1,r1⟩⟩) fun u s1 ⟨z,H1,I1,rx,s1',r1⟩=>?_)
 obtain ⟨a,ys,rfl,q1,q2⟩:=rep_seq r1
 rw [reps_strs.mp q2] at q1
 cases rx
 obtain ⟨its,rv,pl,_⟩:=I1.list q1.sq
 refine ⟨pl.isList.typeIs,fun b z=>?_,?_⟩
 ·cases z
  obtain ⟨ob,n,h1,h2,h3,h4⟩:=pl
  exact ⟨ob,h1,h3⟩
 rw [m.trees]
 refine Calls.callWith_builtin rfl (Calls.evalArgs_plain (Calls.spliced_cons (thn (he pins s1 σ' H1 (fun v H2=>Same H1 H2∧v = .str x) I1 ⟨rfl,sm.trans s1',sb.up s1',fun v H2 s2 r2=>⟨s2,by simpa only [Rep] using r2⟩⟩) fun iv s2 ⟨y,H2,I2,ry,s2',ey⟩=>Calls.spliced_nil ?_)))
 subst ey
 obtain ⟨t,rfl⟩:=ry
 have r2:=r1.up s2'
 obtain ⟨a2,xs2,e2,q1',q2'⟩:=rep_seq r2
 cases e2
 rw [reps_strs.mp q2'] at q1'
 obtain ⟨its2,rv2,pl2,_⟩:=I2.list q1'.sq
 obtain ⟨l,rfl,el⟩:=vals_strs rv2
 subst el
 exact idx_strs pl2.isList (by rw [List.length_map] at hz;exact hz) hj hno ⟨.int (n:Nat),H2,I2.tok _,⟨_,rfl⟩,kk _ H2 (s1'.trans s2') (by simp only [Rep])⟩
noncomputable def rLtRow (K:PySem.W.Frag):R2:=fun x y H Q=>∃ (S:Av) (r r':Int × List Int),Rep K S H (encRow r) x∧Rep K S H (encRow r') y∧Q (.bl (rowLt r r')) H
theorem op_ltRow (hu:X.A.units + 4 < cLine):OpR X (compareOp .Lt) (rLtRow X.K):=by
 intro pins s σ H x y v u Q I rx ry h
 obtain ⟨S,r,r',h1,h2,q⟩:=h
 obtain ⟨p,t,w2,u2,o,n,rfl,rfl,ho,hc,hd,q2,g2⟩:=row_obj I h1 rx
 obtain ⟨p',t',w2',u2',o',n',rfl,rfl,ho',hc',hd',q2',g2'⟩:=row_obj I h2 ry
 obtain ⟨cls,dd,data,sl⟩:=o
 obtain ⟨cls2,dd2,data2,sl2⟩:=o'
 simp only at hc hd hc' hd'
 subst hc hd hc' hd'
 obtain ⟨a,its,oa,na,rfl,rfl,hoa,hca,hda,hia⟩:=set_obj I g2 q2
 obtain ⟨b,its',ob,nb,rfl,rfl,hob,hcb,hdb,hib⟩:=set_obj I g2' q2'
 obtain ⟨cls,dda,data,sla⟩:=oa
 obtain ⟨cls2,ddb,data2,slb⟩:=ob
 simp only at hca hda hcb hdb
 subst hca hda hcb hdb
 refine richCompare_meets_room (op:=.Lt) ⟨_,ho,rfl⟩ ⟨_,ho',rfl⟩ PySem.F.slot_tuple_lt PySem.F.entry_tuple_lt (PySem.F.args_tuple_lt_2 _ _) (EqD.pair_lt p p' _ _ _ _ n n' dd dd2 sl sl2 (r.1 == r'.1) (decide (r.2=r'.2)) (decide (r.1 < r'.1)) (HT.lexLt r.2 r'.2))
  ⟨ho,ho',SeqAt.EqAt.int_int _ _ _ _,enc_set.eq X.A.in1 S S r.2 r'.2 _ _ _ _ pins σ H s (by show X.A.units + 1 + 1 < cLine;omega) I g2 g2' rfl rfl,fun prog w E Q hQ=>HT.rcLt_int _ _ _ _ _ _ prog w E Q hQ,fun prog w E Q hQ=>?_,(fun z=>nomatch z),⟨.bl _,H,I,rfl,?_⟩⟩ (by omega)
 ·exact richCompare_meets_room (op:=.Lt) ⟨_,hoa,rfl⟩ ⟨_,hob,rfl⟩ PySem.F.slot_list_lt PySem.F.entry_list_lt (PySem.F.args_list_lt_2 _ _) (EqD.list_lt a b its its' na nb dda ddb sla slb r.2 r'.2 hia hib) ⟨hoa,hob,(fun z=>nomatch z),hQ⟩ (by show X.A.units + 1 < cLine;omega)
 ·have:(if (r.1 == r'.1)=true then (if decide (r.2=r'.2)=true then false else HT.lexLt r.2 r'.2) else decide (r.1 < r'.1))=rowLt r r':=by
   unfold rowLt
   by_cases e:r.1=r'.1
   ·rw [if_pos (by simpa using e),if_pos e]
    by_cases e2:r.2=r'.2
    ·rw [if_pos (by simpa using e2),e2,lex_irrefl]
    ·rw [if_neg (by simpa using e2)]
   ·rw [if_neg (by simpa using e),if_neg e]
  rw [this]
  exact q
theorem dt_ltRow {r r':Int × List Int} (hu:X.A.units + 4 < cLine) (ha:DE X S σ H a (encRow r)) (hb:DE X S σ H b (encRow r')):DT X S σ H (.Compare a [.Lt] [b] pos) (rowLt r r'):=
 dt_cmp (op_ltRow hu) ha hb (fun x y H' Q _ _ rx ry k=>⟨S,r,r',rx,ry,k _ H' (Same.refl _) (by simp only [Rep])⟩) (nomark _)
noncomputable abbrev encNF:Int × List (List Int)→D:=fun r=>.tup [.int r.1,encSets r.2]
theorem nf_obj {pins:List (Addr × Obj)}{s:Shared} (I:Inv X pins σ H s) {r:Int × List (List Int)}{w:V}{u:Value} (h:Rep X.K S H (encNF r) w) (q:RelV w u):∃ p t w2 u2 o n,w = .ref p∧u = .ref p∧s.heap.get? p=some o∧o.cls = .type "tuple"∧o.data = .seq #[.int r.1 t,u2] n∧RelV w2 u2∧Rep X.K S H (encSets r.2) w2:=by
 obtain ⟨p,ys,rfl,h1,h2⟩:=rep_seqT h
 obtain ⟨a,w2,rfl,ra,h3⟩:=reps_2 h2
 simp only [Rep] at ra
 subst ra
 cases q
 obtain ⟨its,rv,tp,_⟩:=I.tuple h1.sq
 cases rv with
 | cons q1 q2=>
  cases q2 with
  | cons q3 q4=>
   cases q4
   obtain ⟨t,rfl⟩:=q1
   obtain ⟨o,ho,hc,n,hd⟩:=tp
   exact ⟨p,t,w2,_,o,n,rfl,rfl,ho,hc,by simpa using hd,q3,h3⟩
noncomputable def rEqNF (K:PySem.W.Frag):R2:=fun x y H Q=>∃ (S:Av) (r r':Int × List (List Int)),Rep K S H (encNF r) x∧Rep K S H (encNF r') y∧Q (.bl (decide (r=r'))) H
theorem op_eqNF (hu:X.A.units + 4 < cLine):OpR X (compareOp .Eq) (rEqNF X.K):=by
 intro pins s σ H x y v u Q I rx ry h
 obtain ⟨S,r,r',h1,h2,q⟩:=h
 obtain ⟨p,t,w2,u2,o,n,rfl,rfl,ho,hc,hd,q2,g2⟩:=nf_obj I h1 rx
 obtain ⟨p',t',w2',u2',o',n',rfl,rfl,ho',hc',hd',q2',g2'⟩:=nf_obj I h2 ry
 obtain ⟨cls,dd,data,sl⟩:=o
 obtain ⟨cls2,dd2,data2,sl2⟩:=o'
 simp only at hc hd hc' hd'
 subst hc hd hc' hd'
 refine richCompare_meets_room (op:=.Eq) ⟨_,ho,rfl⟩ ⟨_,ho',rfl⟩ PySem.F.slot_tuple_eq PySem.F.entry_tuple_eq (PySem.F.args_tuple_eq_2 _ _) (SeqAt.tuple_eqAt p p' _ _ n n' dd dd2 sl sl2 (EqD.two2 (r.1 == r'.1) (decide (r.2=r'.2))))
  ⟨ho,ho',EqD.two_at (SeqAt.EqAt.int_int _ _ _ _) (enc_sets.eq X.A.in1 S S r.2 r'.2 w2 w2' u2 u2' pins σ H s (by show X.A.units + 1 + 2 < cLine;omega) I g2 g2' q2 q2'),(fun z=>nomatch z),⟨.bl _,H,I,rfl,?_⟩⟩ (by omega)
 have:((List.range (min 2 2)).all (EqD.two2 (r.1 == r'.1) (decide (r.2=r'.2))) && 2 == 2)=decide (r=r'):=by
  rw [EqD.two_all,Bool.eq_iff_iff,Bool.and_eq_true,beq_iff_eq,decide_eq_true_iff,decide_eq_true_iff]
  exact ⟨fun ⟨a,b⟩=>Prod.ext a b,fun e=>by rw [e];exact ⟨rfl,rfl⟩⟩
 show Q (.bl ((List.range (min 2 2)).all (EqD.two2 (r.1 == r'.1) (decide (r.2=r'.2))) && 2 == 2)) H
 rw [this]
 exact q
theorem de_eqNF {r r':Int × List (List Int)} (hu:X.A.units + 4 < cLine) (ha:DE X S σ H a (encNF r)) (hb:DE X S σ H b (encNF r')):DE X S σ H (.Compare a [.Eq] [b] pos) (.bl (decide (r=r'))):=
 de_cmp (op_eqNF hu) ha hb (fun x y H' Q _ _ rx ry k=>⟨S,r,r',rx,ry,k _ H' (Same.refl _) (by simp only [Rep])⟩) (nomark _)
end
end L2
namespace R
open PySem L2 MC MO MT
section
variable {P:Program}{w:World}{K:PySem.W.Frag}{mg:Str→Option Value}{base:Heap}{f:Addr}{fd:FuncData}
noncomputable def memD:Option (List Int)→D
 | none=>.non
 | some m=>dInts m
noncomputable def R_member (ds:List D) (d:D):Prop:=∃ row:Str,row.length + 2≤1800∧ds=[.str row]∧d=memD (memL row)
theorem sc_member:FnScope ["line","found","word"] ["line"] (defScope s__law_member):=⟨rfl,rfl,rfl,by decide +kernel,rfl,by decide +kernel,by decide +kernel⟩
theorem ok_member (F:Fun K "_law_member" "_law_member" s__law_member f fd) (mi:mg "int" = none):FnOk P w K mg base CX0 1 f fd ["line"] (spR K R_member):=by
 refine fn_ok F sc_member (fun ds d ⟨_,_,h,_⟩=>by rw [h];rfl) (by decide) ?_
 rintro cdv A outer s H E S _ _ Q σ hr ⟨row,hz,rfl,rfl⟩ q A0
 have A0:At (Fx P w K mg base ["line","found","word"] "_law_member" s__law_member f cdv A outer s H E) S no H [some (.str row),none,none] σ H:=A0
 have nd:=sc_member.nd
 refine st_if A0 (dt_eqS (A0.v 0) de_str) (fun hc H1 A1=>?_) (fun hc H1 A1=>dss_nil ?_)
 ·have e:memL row=some []:=by unfold memL;rw [if_pos (of_decide_eq_true hc)]
  rw [e] at q
  exact st_retD A1 q (de_lst da_nil)
 have em:memL row=wordsL (Txt.split row (Str.ofString " ")):=by unfold memL;rw [if_neg (of_decide_eq_false hc)]
 rw [em] at q
 clear em hc
 refine st_own 1 A1 rfl (fun L h0L σ1 H2 A2 O2=>?_) nd
 have hS:¬ S L:=A1.sub.new h0L
 have h0:H L=none:=by
  cases e:H L with
  | none=>rfl
  | some o=>rw [A1.same L o (fun z=>z.elim) e] at h0L;cases h0L
 refine' st_forS (E:={ nx:=fun _ H'=>Q .non H',rt:=Q }) (ds:=(Txt.split row (Str.ofString " ")).map D.str) A2 (di_list (de_split (A2.v 0) de_str (by decide +kernel) (by omega))) (pg_name nd (i:=2) rfl (by first | exact Or.inl rfl | exact Or.inr rfl) (by first | exact .inl rfl | exact .inr rfl))
  (fun H1 i σ' H'=>∃ (o1:Option D) (ms:List Int),wordsL ((Txt.split row (Str.ofString " ")).take i)=some ms∧At (Fx P w K mg base ["line","found","word"] "_law_member" s__law_member f cdv A outer s H E) (plus S L) (plus no L) H1 [some (.str row),none,o1] σ' H'∧Own (Fx P w K mg base ["line","found","word"] "_law_member" s__law_member f cdv A outer s H E) (plus S L) σ' H' 1 L (ms.map D.int)) ?h0 ?hk ?hs ?hd
 case h0=>exact fun H1 s1 A'=>⟨none,[],by rw [List.take_zero];rfl,A'.here,O2.up s1⟩
 case hk=>
  rintro H1 i σ' H' ⟨_,_,_,A',_⟩
  exact ⟨fun b o nb h=>A'.same b o (fun z=>nb (A'.ms b z)) h,A'.sub⟩
 case hs=>
  rintro H4 i d σ4 H5 H6 v s4 ⟨o1,ms,hm,A4,O4⟩ hd s5 rv
  rw [List.getElem?_map] at hd
  cases hq:(Txt.split row (Str.ofString " "))[i]? with
  | none=>rw [hq] at hd;cases hd
  | some wd=>
   rw [hq] at hd
   have e:d = .str wd:=by simpa using hd.symm
   subst e
   have A5:=(A4.up s5).set (i:=2) rv
   have O5:=(O4.up s5).set (m:=2) (by decide) (some v)
   have A5:At (Fx P w K mg base ["line","found","word"] "_law_member" s__law_member f cdv A outer s H E) (plus S L) (plus no L) H4 [some (.str row),none,some (.str wd)] (σ4.set 2 (some v)) H6:=A5
   show DSs _ _ _ (σ4.set 2 (some v)) H6
   generalize σ4.set 2 (some v)=σ5 at A5 O5
   have hi:i < (Txt.split row (Str.ofString " ")).length:=(List.getElem?_eq_some_iff.mp hq).1
   have et:(Txt.split row (Str.ofString " ")).take (i + 1)=(Txt.split row (Str.ofString " ")).take i++[wd]:=by rw [List.take_add_one,hq];rfl
   have hw:=words_few hm
   refine st_ifS A5 (dt_notInP (r:=decide (digL wd=none)) (ys:=[digS 0,digS 1,digS 2,digS 3,digS 4,digS 5]) (z:=wd) enc_str (units_of hr) (by rw [decide_eq_true_eq];exact digL_none) (A5.v 2) (de_lst (da_cons de_str (da_cons de_str (da_cons de_str (da_cons de_str (da_cons de_str (da_cons de_str da_nil)))))))) (fun hc H7 s7 A7=>?_) (fun hc H7 s7 A7=>dss_nil ?_)
   ·have hc:=of_decide_eq_true hc
    have e:wordsL (Txt.split row (Str.ofString " "))=none:=by
     rw [← List.take_append_drop i (Txt.split row (Str.ofString " ")),List.drop_eq_getElem_cons hi,(List.getElem?_eq_some_iff.mp hq).2]
     exact wordsL_stop hc _ _
    rw [e] at q
    have A8:=(A7.base (fun b o nb h=>s4 b o (A2.same b o nb h))).free (O5.up s7) h0 (fun a z=>z.elim) hS
    exact st_retD A8 q de_non
   ·have hc:=of_decide_eq_false hc
    cases hg:digL wd with
    | none=>exact absurd hg hc
    | some t=>
     obtain ⟨rfl,t0,t5⟩:=digL_some hg
     refine st_append A7 (O5.up s7) (.inr rfl) (de_intD (i:=t) mi (A7.v 2) t0 (by omega)) (by rw [List.length_map];omega) (fun H8 A8 O8=>dss_nil ⟨_,ms++[t],?_,A8,?_⟩)
     ·rw [et];exact wordsL_snoc hg hm
     ·rw [List.map_append];exact O8
 case hd=>
  rintro H4 σ4 H5 s4 ⟨o1,ms,hm,A4,O4⟩
  rw [List.length_map,List.take_of_length_le (Nat.le_refl _)] at hm
  rw [hm] at q
  have A8:=(A4.base (fun b o nb h=>s4 b o (A2.same b o nb h))).free O4 h0 (fun a z=>z.elim) hS
  have A9:At (Fx P w K mg base ["line","found","word"] "_law_member" s__law_member f cdv A outer s H E) S no H [some (.str row),some (dInts ms),o1] σ4 H5:=A8
  exact st_retD A9 q (A9.v 1)
end
end R
namespace R
open PySem L2 MC MO
section
variable {P:Program}{w:World}{K:PySem.W.Frag}{mg:Str→Option Value}{base:Heap}{f:Addr}{fd:FuncData}
theorem uniq_len_iff {ns:List Int}:(uniq ns).length=ns.length↔ns.Nodup:=by
 constructor
 ·intro h
  rcases Classical.em ns.Nodup with z | z
  ·exact z
  ·obtain ⟨l',h1,h2⟩:=less_of_dup z
   have:=len_leI (uniq_nodup ns) (b:=l') fun x hx=>h2 x ((uniq_mem ns x).mp hx)
   omega
 ·exact uniq_nodup_len
theorem de_max2 {X:Cx}{S:Av}{σ:St}{H:Hp}{a b:Expr}{p pos:Pos}{i j:Int} (ms:X.mg "max" = none) (ha:DE X S σ H a (.int i)) (hb:DE X S σ H b (.int j)) (hc:autoParam (X.calm=true) au3._auto_1) (hg:autoParam (Gl X "max") au3._auto_1) (hs:autoParam (starEach [a,b] X.env=(false,eval a X.env)::starEach [b] X.env) au3._auto_1) (hs2:autoParam (starEach [b] X.env=(false,eval b X.env)::starEach [] X.env) au3._auto_1) (hpl:autoParam ((backTo pos (starEach [b] X.env)).any (·.1)=false) au3._auto_1) :
  DE X S σ H (.Call (.Name "max" p) [a,b] [] pos) (.int (if j > i then j else i)):=
 de_cb (fun vs H' Q _ _ r k=>by
  obtain ⟨v,w,rfl,rv,rw'⟩:=reps_2 r
  simp only [Rep] at rv rw'
  subst rv rw'
  exact ⟨i,j,rfl,k _ H' (Same.refl _) rep_int⟩) (pe_callB (call_max2 hc) hg ms (by decide +kernel) (da_cons ha (da_cons hb da_nil hs2) hs) (he:=hs) (hpl:=hpl))
end
end R
namespace TS
open PySem PySem.Spec PyProof.Rows
theorem kind_two {its:List Value}{ns:List Int} (c:2≤its.length) (hi:IntsAre its ns):keyKind' its.toArray=pure oneType':=by
 cases its with
 | nil=>exact absurd c (by decide)
 | cons v1 r=>
  cases r with
  | nil=>exact absurd c (by simp)
  | cons v2 rest=>exact keyKind_ints hi
theorem sorted_ints {prog:Program}{w:World}{A:Around}{E:Value→Shared→Prop}{s:Shared}{l:Addr}{its:List Value}{ns:List Int}{Q:Value→Shared→Prop} (hl:s.heap.IsList l its.toArray) (hi:IntsAre its ns) (h64:its.length≤900)
  (h:∀ (out:Array Value) (ns':List Int),IntsAre out.toList ns'→ns'.Perm ns→ns'.Pairwise (·≤·)→Q (.ref (s.heap.objs.size + 1)) { s with heap:=sortedAll s.heap its out }):wpAny (model prog w) A (call (.builtin "sorted") [.ref l]) Q E s:=by
 refine sorted_any (k₀:=oneType') (O:=intOrd) (ky:=fun k=>ST.kOf k.1) hl (by omega) (fun c h' kp Q' q'=>?_) (fun c h' kp=>?_) fun out p1 p2=>?_
 ·rw [kind_two c hi]
  exact wpAny_pure q'
 ·intro E' x y Q' mx my q'
  obtain ⟨ex,mx'⟩:=pairs_mem mx
  obtain ⟨ey,my'⟩:=pairs_mem my
  rw [← ex] at mx'
  rw [← ey] at my'
  obtain ⟨k1,t1,e1⟩:=ints_mem hi _ mx'
  obtain ⟨k2,t2,e2⟩:=ints_mem hi _ my'
  rw [keyLt'_oneType]
  dsimp only at q'
  rw [e1,e2] at q' ⊢
  exact oneLt_int q'
 ·have hv:∀ v∈out.toList,∃ k t,v=Value.int k t:=fun v hv=>ints_mem hi v (p1.mem_iff.mp hv)
  refine h out (out.toList.map ST.kOf) (ST.ints_all hv) ((p1.map ST.kOf).trans (by rw [ints_map hi])) ?_
  rw [List.pairwise_map]
  refine p2.imp fun {x y} q=>?_
  have q':decide (ST.kOf y < ST.kOf x)=false:=q
  have:=of_decide_eq_false q'
  omega
end TS
namespace L2
open PySem PySem.Spec PyProof.Rows TS
section
variable {X:Cx}{S M:Av}{H0 H:Hp}{δ:List (Option D)}{σ:St}{a e:Expr}{p pos:Pos}
theorem call_sortI:CallR X (.builtin "sorted") (fun xs H Q=>∃ (q:Addr) (ns:List Int),xs=[.ref q]∧SqL X.K H q (ns.map V.int)∧ns.length≤900∧∀ l,H l=none→Q (.ref l) (upd H l (.lst ((sortI ns).map V.int)))):=by
 intro pins s σ H xs us Q I r h
 obtain ⟨q,ns,rfl,sq,h64,k⟩:=h
 obtain ⟨u,rfl,ru⟩:=vals1 r
 cases ru
 obtain ⟨its,rv,pl,hz⟩:=I.list sq
 have hi:IntsAre its ns:=intsAre_of rv
 have hl:its.length=ns.length:=IntsAre.length hi
 refine sorted_ints pl.isList hi (by rw [hl];exact h64) fun out ns' ii pp up=>?_
 rw [sortI_eq pp up] at ii
 have fr:H (s.heap.objs.size + 1)=none:=I.hok.fresh (Nat.le_succ _)
 obtain ⟨e,he⟩:=sortedAll_at s.heap its out
 have hln:ns.length≤sizeLine:=by rw [List.length_map] at hz;exact hz
 exact ⟨.ref (s.heap.objs.size + 1),upd H (s.heap.objs.size + 1) (.lst ((sortI ns).map V.int)),I.laid (t':=s.toks) (fun b o hb=>sortedAll_old hb) (Nat.le_succ _) ⟨by rw [List.length_map,(sortI_perm ns).length_eq];exact hln,out.toList,e,vals_ints ii,by simpa using he⟩,rfl,k _ fr⟩
theorem de_sortI {ns:List Int} (ms:X.mg "sorted" = none) (ha:DE X S σ H a (dInts ns)) (h64:ns.length≤900) (hg:autoParam (Gl X "sorted") au3._auto_1) (hs:autoParam (starEach [a] X.env=(false,eval a X.env)::starEach [] X.env) au3._auto_1):DE X S σ H (.Call (.Name "sorted" p) [a] [] pos) (dInts (sortI ns)):=by
 refine de_cb ?_ (pe_callB call_sortI hg ms (by decide +kernel) (da_cons ha da_nil hs) (he:=hs))
 intro vs H' Q _ sb r k
 obtain ⟨v,rfl,rv⟩:=reps_1 r
 obtain ⟨q,xs,rfl,q1,q2⟩:=rep_seq rv
 rw [reps_ints.mp q2] at q1
 exact ⟨q,ns,rfl,q1.sq,h64,fun l hl=>k _ _ (same_new hl _) (rep_lst (sb.new hl) upd_same (reps_ints.mpr rfl))⟩
end
end L2
namespace R
open PySem L2 MC MO MT
theorem isSet_iff {n:Int}:∀ {m:List Int}{b:Int},isSet n b m=true↔(∀ d∈m,b < d∧d < n)∧m.Pairwise (· < ·)
 | [],b=>by simp [isSet]
 | t::ts,b=>by
  rw [isSet,Bool.and_eq_true,Bool.not_eq_true',Bool.or_eq_false_iff,decide_eq_false_iff_not,decide_eq_false_iff_not,isSet_iff (m:=ts) (b:=t),List.pairwise_cons]
  constructor
  ·rintro ⟨⟨h1,h2⟩,h3,h4⟩
   refine ⟨fun d hd=>?_,fun d hd=>(h3 d hd).1,h4⟩
   rcases List.mem_cons.mp hd with rfl | hd
   ·omega
   ·have:=h3 d hd;omega
  ·rintro ⟨h1,h2,h3⟩
   refine ⟨?_,fun d hd=>⟨h2 d hd,(h1 d (List.mem_cons_of_mem _ hd)).2⟩,h3⟩
   have:=h1 t (by simp)
   omega
theorem sortI_up (ns:List Int):(sortI ns).Pairwise (·≤·):=by
 have:=List.pairwise_mergeSort (le:=fun (a b:Int)=>decide (a≤b)) (fun a b c h g=>decide_eq_true (Int.le_trans (of_decide_eq_true h) (of_decide_eq_true g))) (fun a b=>by
  by_cases h:a≤b
  ·simp [h]
  ·simp [h];omega) ns
 exact this.imp fun h=>of_decide_eq_true h
theorem set_tests {n:Nat}{m:List Int} (h0:∀ d∈m,0≤d∧d≤5):isSet (n:Int) (-1) m=true↔(m.filter fun d=>decide ((n:Int)≤d)).length=0∧m=sortI m∧(uniq m).length=m.length:=by
 rw [isSet_iff,uniq_len_iff,List.length_eq_zero_iff,List.filter_eq_nil_iff]
 constructor
 ·rintro ⟨h1,h2⟩
  refine ⟨fun d hd=>?_,sortI_eq (.refl _) (h2.imp fun h=>Int.le_of_lt h),List.nodup_iff_pairwise_ne.mpr (h2.imp fun h=>by omega)⟩
  have:=h1 d hd
  simp;omega
 ·rintro ⟨h1,h2,h3⟩
  refine ⟨fun d hd=>?_,?_⟩
  ·have a:=h1 d hd
   have b:=h0 d hd
   simp at a
   omega
  ·have a:=sortI_up m
   rw [← h2] at a
   have b:=List.nodup_iff_pairwise_ne.mp h3
   exact (a.and b).imp fun ⟨h,g⟩=>by omega
theorem sum_mem_le:∀ {l:List Nat}{x:Nat},x∈l→x≤l.sum
 | a::r,x,h=>by
  rw [List.sum_cons]
  rcases List.mem_cons.mp h with rfl | h
  ·omega
  ·have:=sum_mem_le h;omega
theorem row_le {t row:Str} (h:row∈Txt.split t (Str.ofString "\n")):row.length≤t.length:=by
 have h1:=PyProof.Rows.split_weight t (Str.ofString "\n") (by decide +kernel)
 have h2:=sum_mem_le (List.mem_map_of_mem (f:=(·.length)) h)
 have h3:0 < (Txt.split t (Str.ofString "\n")).length:=List.length_pos_of_mem h
 omega
theorem wr_split {t:Str}{n:Nat}{cs:List Nat} (h:Wr t n cs):Txt.split t (Str.ofString "\n")=headL n::cs.map lineL:=by
 obtain ⟨fam,_,rfl⟩:=h
 exact (text_rows fam.hi fam.u).1
theorem wr_at {t:Str}{n n':Nat}{cs:List Nat}{rest:List Str} (h:Wr t n' cs) (er:Txt.split t (Str.ofString "\n")=headL n::rest) (n6:n≤6):n'=n∧rest=cs.map lineL∧∀ (i:Nat) (row:Str),rest[i]? = some row→∃ c,cs[i]? = some c∧memL row=some (lst c)∧isSet (n:Int) (-1) (lst c)=true:=by
 rw [wr_split h] at er
 injection er with e1 e2
 have en:=head_inj h.1.hi n6 e1
 refine ⟨en,e2.symm,fun i row hi=>?_⟩
 rw [← e2,List.getElem?_map] at hi
 cases hc:cs[i]? with
 | none=>rw [hc] at hi;cases hi
 | some c=>
  rw [hc] at hi
  have e:row=lineL c:=by simpa using hi.symm
  have hm:=List.mem_of_getElem? hc
  exact ⟨c,rfl,by rw [e];exact line_mem (h.1.u c hm),by rw [← en];exact isSet_lst h.1.hi (h.1.un c hm)⟩
theorem wr_unique {t:Str}{n n':Nat}{cs cs':List Nat} (h:Wr t n cs) (h':Wr t n' cs'):n=n'∧cs=cs':=by
 have e:=wr_split h
 rw [wr_split h'] at e
 injection e with e1 e2
 refine ⟨(head_inj h'.1.hi h.1.hi e1).symm,?_⟩
 have e3:=congrArg (List.map codeL) e2
 have key:∀ {cs:List Nat},U cs→(cs.map lineL).map codeL=cs:=fun {cs} u=>by
  rw [List.map_map]
  conv=>rhs;rw [← List.map_id cs]
  exact List.map_congr_left fun c hc=>line_code (u c hc)
 rw [key h'.1.u,key h.1.u] at e3
 exact e3.symm
theorem wr_next {t:Str}{n:Nat}{cs:List Nat} (h:Wr t n cs) {i c c':Nat} (hi:0 < i) (hc:cs[i]? = some c) (hc':cs[i - 1]? = some c'):Lt (lst c') (lst c):=by
 have up:UpC cs:=by rw [← h.2.1];exact ord_up h.1.u
 obtain ⟨l1,e1⟩:=List.getElem?_eq_some_iff.mp hc
 obtain ⟨l2,e2⟩:=List.getElem?_eq_some_iff.mp hc'
 rw [← e1,← e2]
 exact List.pairwise_iff_getElem.mp up (i - 1) i l2 l1 (by omega)
theorem pair_snoc {ms:List (List Int)}{m m':List Int} (h:ms.Pairwise Lt) (hl:ms[ms.length - 1]? = some m') (hlt:Lt m' m):(ms++[m]).Pairwise Lt:=by
 rw [List.pairwise_append]
 refine ⟨h,List.pairwise_singleton _ _,fun a ha b hb=>?_⟩
 rw [List.mem_singleton] at hb
 subst hb
 obtain ⟨j,hj,rfl⟩:=List.getElem_of_mem ha
 obtain ⟨l2,e2⟩:=List.getElem?_eq_some_iff.mp hl
 by_cases e:j=ms.length - 1
 ·subst e
  rw [e2];exact hlt
 ·refine lt_trans (List.pairwise_iff_getElem.mp h j (ms.length - 1) hj l2 (by omega)) ?_
  rw [e2];exact hlt
theorem wr_of {t:Str}{n:Nat}{rest:List Str}{ms:List (List Int)} (n1:1≤n) (n6:n≤6) (er:Txt.split t (Str.ofString "\n")=headL n::rest) (hm:rest.map memL=ms.map some) (hset:∀ m∈ms,isSet (n:Int) (-1) m=true) (up:ms.Pairwise Lt):∃ cs,Wr t n cs∧ms=cs.map lst:=by
 obtain ⟨cs,h1,h2,h3⟩:=rows_text n6 er hm hset
 rw [h2,List.pairwise_map] at up
 have fam:Fam n cs:=⟨n1,n6,h1,up_nodup up⟩
 exact ⟨cs,⟨fam,ord_self fam.u up,h3⟩,h2⟩
noncomputable def heads6:List Str:=(List.range 6).map fun i=>headL (i + 1)
theorem heads_is:heads6=[Str.ofString "things 1",Str.ofString "things 2",Str.ofString "things 3",Str.ofString "things 4",Str.ofString "things 5",Str.ofString "things 6"]:=by decide +kernel
theorem heads_at {n:Nat} (n1:1≤n) (n6:n≤6):heads6[n - 1]? = some (headL n)∧∀ i,i < n - 1→heads6[i]?≠some (headL n):=by
 have key:∀ i,i < 6→heads6[i]? = some (headL (i + 1)):=fun i hi=>by
  unfold heads6
  rw [List.getElem?_map,List.getElem?_range hi]
  rfl
 refine ⟨by rw [key _ (by omega),Nat.sub_add_cancel n1],fun i hi=>?_⟩
 rw [key i (by omega)]
 intro z
 have:=head_inj (by omega) n6 (Option.some.inj z)
 omega
theorem heads_mem {r:Str}:r∈heads6↔∃ n,1≤n∧n≤6∧r=headL n:=by
 unfold heads6
 rw [List.mem_map]
 constructor
 ·rintro ⟨i,hi,rfl⟩
  have:=List.mem_range.mp hi
  exact ⟨i + 1,by omega,by omega,rfl⟩
 ·rintro ⟨n,n1,n6,rfl⟩
  exact ⟨n - 1,List.mem_range.mpr (by omega),by rw [Nat.sub_add_cancel n1]⟩
theorem cut_rest (d:D) (ds:List D):cutD (d::ds) (some 1) none=ds:=by
 unfold cutD
 rw [HT.sIx_none,show (1:Int)=((1:Nat):Int) from rfl,HT.sIx_nat]
 have:min 1 (d::ds).length=1:=by rw [List.length_cons];omega
 rw [this,List.drop_one,List.tail_cons,List.length_cons,Nat.add_sub_cancel,List.take_of_length_le (Nat.le_refl _)]
section
variable {P:Program}{w:World}{K:PySem.W.Frag}{mg:Str→Option Value}{base:Heap}{f:Addr}{fd:FuncData}
theorem de_lenI {X:Cx}{S:Av}{σ:St}{H:Hp}{a:Expr}{p pos:Pos}{ns:List Int} (ml:X.mg "len" = none) (ha:DE X S σ H a (dInts ns)) (hg:autoParam (Gl X "len") au3._auto_1) (hs:autoParam (starEach [a] X.env=(false,eval a X.env)::starEach [] X.env) au3._auto_1):DE X S σ H (.Call (.Name "len" p) [a] [] pos) (.int ns.length):=by
 have:=de_len (p:=p) (pos:=pos) ml ha hg hs
 rw [List.length_map] at this
 exact this
noncomputable def R_written (ds:List D) (d:D):Prop:=∃ t:Str,t.length + 2≤1700∧(Txt.split t (Str.ofString "\n")).length≤900∧ds=[.str t]∧(∀ n cs,Wr t n cs→d = .tup [.int (n:Nat),dF cs])∧((¬ ∃ n cs,Wr t n cs)→d = .non)
noncomputable abbrev nW:List Str:=["text","rows","heads","many","family","k","member","ahead"]
theorem sc_written:FnScope nW ["text"] (defScope s__law_written):=⟨rfl,rfl,rfl,by decide +kernel,rfl,by decide +kernel,by decide +kernel⟩
noncomputable abbrev XW (P:Program) (w:World) (K:PySem.W.Frag) (mg:Str→Option Value) (base:Heap) (f:Addr) (cdv:Value) (A:Around) (outer:List Env) (s:Shared) (H:Hp) (E:XK):Cx:=Fx P w K mg base nW "_law_written" s__law_written f cdv A outer s H E
theorem ok_written (F:Fun K "_law_written" "_law_written" s__law_written f fd) (CM:Cal P w K mg base "_law_member" 1 ["line"] R_member) (me:mg "enumerate" = none) (ml:mg "len" = none) (mo:mg "sorted" = none) (mt:mg "set" = none) (mx:mg "max" = none):FnOk P w K mg base CX0 2 f fd ["text"] (spR K R_written):=by
 refine fn_ok F sc_written (fun ds d ⟨_,_,_,h,_⟩=>by rw [h];rfl) (by decide) ?_
 rintro cdv A outer s H E S _ d Q σ hr ⟨t,hz,hrows,rfl,good,bad⟩ q A0
 have A0:At (XW P w K mg base f cdv A outer s H E) S no H [some (.str t),none,none,none,none,none,none,none] σ H:=A0
 have nd:=sc_written.nd
 obtain ⟨r0,rest,er⟩:∃ r0 rest,Txt.split t (Str.ofString "\n")=r0::rest:=by
  cases e:Txt.split t (Str.ofString "\n") with
  | nil=>exact absurd e (split_ne _ _)
  | cons a l=>exact ⟨a,l,rfl⟩
 have hlr:rest.length≤900:=by rw [er,List.length_cons] at hrows;omega
 refine' st_set (d:=.lst ((r0::rest).map D.str)) A0 1 ?e1 (fun σ1 H1 A1=>?_) nd
 case e1=>
  rw [← er]
  exact de_split (A0.v 0) de_str (by decide +kernel) (by omega)
 refine' st_set (d:=.lst (heads6.map D.str)) A1 2 ?e2 (fun σ2 H2 A2=>?_) nd
 case e2=>
  rw [heads_is]
  exact de_lst (da_cons de_str (da_cons de_str (da_cons de_str (da_cons de_str (da_cons de_str (da_cons de_str da_nil))))))
 refine st_if A2 (k:=!decide (r0∈heads6)) (dt_notInP (ys:=heads6) (z:=r0) enc_str (units_of hr) (by simp) (de_ix ix_list (A2.v 1) de_int (good_ixL (n:=0) rfl rfl)) (A2.v 2)) (fun hc H3 A3=>?_) (fun hc H3 A3=>dss_nil ?_)
 ·have e:d = .non:=bad (by
   rintro ⟨n,cs,hw⟩
   rw [wr_split hw] at er
   injection er with e1 e2
   rw [Bool.not_eq_true',decide_eq_false_iff_not] at hc
   exact hc (heads_mem.mpr ⟨n,hw.1.lo,hw.1.hi,e1.symm⟩))
  rw [e] at q
  exact st_retD A3 q de_non
 rw [Bool.not_eq_false',decide_eq_true_eq,heads_mem] at hc
 obtain ⟨n,n1,n6,rfl⟩:=hc
 obtain ⟨hj,hno⟩:=heads_at n1 n6
 refine' st_set (d:=.int (n:Nat)) A3 3 ?e3 (fun σ4 H4 A4=>?_) nd
 case e3=>
  have e:D.int (n:Nat) = .int (1 + ((n - 1:Nat):Int)):=by congr 1;omega
  rw [e]
  exact de_add de_int (de_idxS (xs:=heads6) (x:=headL n) (A3.v 2) (de_ix ix_list (A3.v 1) de_int (good_ixL (n:=0) rfl rfl)) (by decide) hj hno)
 refine' st_lcM (enc:=D.str) (xs:=rest) A4 4 (fun row=>memD (memL row)) (di_list (de_cut (A4.v 1) (do_some de_int) do_none (cut_rest _ _))) (fun x _ y _ e=>D.str.inj e) (by omega) ?el (fun σ5 H5 A5=>?_) nd
 case el=>
  intro S' σ6 H' row hrow C' fp s₀ H₀ pins A6
  have hl:row.length≤t.length:=row_le (by rw [er];exact List.mem_cons_of_mem _ hrow)
  exact de_cal CM hr ⟨row,by omega,rfl,rfl⟩ (da_cons (A6.v 0) da_nil)
 have A5:At (XW P w K mg base f cdv A outer s H E) S no H [some (.str t),some (.lst ((headL n::rest).map D.str)),some (.lst (heads6.map D.str)),some (.int (n:Nat)),some (.lst (rest.map fun row=>memD (memL row))),none,none,none] σ5 H5:=A5
 refine' st_forS (E:={ nx:=fun _ H'=>Q .non H',rt:=Q }) (ds:=enumD (rest.map fun row=>memD (memL row))) A5 (di_enum me (A5.v 4)) (pg_two (n:=5) (m:=6) nd)
  (fun H1 i σ' H'=>∃ (o1 o2 o3:Option D) (ms:List (List Int)),At (XW P w K mg base f cdv A outer s H E) S no H1 [some (.str t),some (.lst ((headL n::rest).map D.str)),some (.lst (heads6.map D.str)),some (.int (n:Nat)),some (.lst (rest.map fun row=>memD (memL row))),o1,o2,o3] σ' H'∧(rest.take i).map memL=ms.map some∧(∀ m∈ms,isSet (n:Int) (-1) m=true)∧ms.Pairwise Lt) ?h0 ?hk ?hs ?hd
 case h0=>exact fun H1 s1 A'=>⟨none,none,none,[],A'.here,by simp,fun m hm=>by simp at hm,List.Pairwise.nil⟩
 case hk=>
  rintro H1 i σ' H' ⟨_,_,_,_,A',_⟩
  exact ⟨fun b o nb h=>A'.same b o (fun z=>nb (A'.ms b z)) h,A'.sub⟩
 case hs=>
  rintro H6 i d1 σ6 H7 H8 v s6 ⟨o1,o2,o3,ms,A6,hm,hset,hup⟩ hd s8 rv
  obtain ⟨d',hd',rfl⟩:=enumD_of hd
  rw [List.getElem?_map] at hd'
  cases hq:rest[i]? with
  | none=>rw [hq] at hd';cases hd'
  | some row=>
   rw [hq] at hd'
   have e:d'=memD (memL row):=by simpa using hd'.symm
   subst e
   have hi:i < rest.length:=(List.getElem?_eq_some_iff.mp hq).1
   have hl:row.length≤t.length:=row_le (by rw [er];exact List.mem_cons_of_mem _ (List.mem_of_getElem? hq))
   refine two_read rv fun u v' r1 r2=>?_
   have A7:=((A6.up s8).set (i:=5) r1).set (i:=6) r2
   generalize (σ6.set 5 (some u)).set 6 (some v')=σ7 at A7
   have A7:At (XW P w K mg base f cdv A outer s H E) S no H6 [some (.str t),some (.lst ((headL n::rest).map D.str)),some (.lst (heads6.map D.str)),some (.int (n:Nat)),some (.lst (rest.map fun row=>memD (memL row))),some (.int (i:Int)),some (memD (memL row)),o3] σ7 H8:=A7
   have of6:Off no H H6:=A5.same.trans s6.off
   have hml:ms.length=i:=by
    have:=congrArg List.length hm
    rw [List.length_map,List.length_map,List.length_take] at this
    omega
   have ret:∀ {H'}{δ:List (Option D)}{σ':St}{pos:Pos}{ex:Expr}{rst:List Stmt}{E':Ends},DE (XW P w K mg base f cdv A outer s H E) S σ' H' ex .non→E'.rt=Q→At (XW P w K mg base f cdv A outer s H E) S no H6 δ σ' H'→(¬ ∃ n cs,Wr t n cs)→DSs (XW P w K mg base f cdv A outer s H E) (.Return (some ex) pos::rst) E' σ' H':=fun {H'}{δ}{σ'}{pos}{ex}{rst}{E'} he eq A' hn=>by
    have e:=bad hn
    rw [e] at q
    exact st_retD (A'.base of6) (by rw [eq];exact q) he
   cases ho:memL row with
   | none=>
    rw [ho] at A7
    refine st_if A7 (k:=true) (DW.dt (dw_or (k:=true) (l:=false) (dt_isN (A7.v 6) de_non) (fun h=>nomatch h))) (fun _ H9 A9=>ret de_non (by rfl) A9 ?_) (fun h=>nomatch h)
    rintro ⟨n',cs,hw⟩
    obtain ⟨_,_,h3⟩:=wr_at hw er n6
    obtain ⟨c,_,h4,_⟩:=h3 i row hq
    rw [ho] at h4
    cases h4
   | some m=>
    rw [ho] at A7
    have A7:At (XW P w K mg base f cdv A outer s H E) S no H6 [some (.str t),some (.lst ((headL n::rest).map D.str)),some (.lst (heads6.map D.str)),some (.int (n:Nat)),some (.lst (rest.map fun row=>memD (memL row))),some (.int (i:Int)),some (dInts m),o3] σ7 H8:=A7
    have hf:=mem_few ho
    have h05:=(memL_some ho).1
    have noset:isSet (n:Int) (-1) m=false→¬ ∃ n cs,Wr t n cs:=by
     rintro hs ⟨n',cs,hw⟩
     obtain ⟨_,_,h3⟩:=wr_at hw er n6
     obtain ⟨c,_,h4,h5⟩:=h3 i row hq
     rw [ho] at h4
     rw [← Option.some.inj h4,hs] at h5
     cases h5
    refine st_if A7 (k:=false || decide ((0:Int) < (((m.filter fun d=>decide ((n:Int)≤d)).length:Nat):Int))) (DW.dt (dw_or (k:=false) (dt_isN (A7.v 6) de_non) (fun _=>dw_or1 (dt_gt (de_lenI ml ?c1) de_int)))) (fun hc H9 A9=>ret de_non (by rfl) A9 (noset ?_)) (fun hc H9 A9=>dss_nil ?_)
    ·refine de_lcE (enc:=D.int) (xs:=m) A7 (fun d=>decide ((n:Int)≤d)) D.int (di_list (A7.v 6)) (fun x _ y _ e=>D.int.inj e) (by omega) (LcEl.test ?_)
     intro S' σ9 H' x hx C' fp s₀ H₀ pins A9
     exact ⟨dt_ge (A9.v 0) (A9.v 4),fun _=>A9.v 0⟩
    ·cases hh:isSet (n:Int) (-1) m with
     | false=>rfl
     | true=>
      rw [((set_tests h05).mp hh).1] at hc
      cases hc
    have t1:(m.filter fun d=>decide ((n:Int)≤d)).length=0:=by
     have:=of_decide_eq_false hc
     omega
    refine st_if A9 (k:=(!decide (m=sortI m)) || (!decide ((((uniq m).length:Nat):Int)=((m.length:Nat):Int)))) (DW.dt (dw_or (dt_neE enc_int (units_of hr) (A9.v 6) (de_sortI mo (A9.v 6) (by omega))) (fun _=>dw_or1 (dt_neI (de_lenset (A9.v 6) (by omega) ml mt) (de_lenI ml (A9.v 6)))))) (fun hc2 H10 A10=>ret de_non (by rfl) A10 (noset ?_)) (fun hc2 H10 A10=>dss_nil ?_)
    ·cases hh:isSet (n:Int) (-1) m with
     | false=>rfl
     | true=>
      obtain ⟨_,h2,h3⟩:=(set_tests h05).mp hh
      rw [decide_eq_true h2,h3,decide_eq_true rfl] at hc2
      cases hc2
    have hset':isSet (n:Int) (-1) m=true:=by
     rw [Bool.or_eq_false_iff,Bool.not_eq_false',Bool.not_eq_false',decide_eq_true_eq,decide_eq_true_eq] at hc2
     exact (set_tests h05).mpr ⟨t1,hc2.1,by omega⟩
    obtain ⟨row',m',hrow',hm',hlast⟩:∃ row' m',rest[i - 1]? = some row'∧memL row'=some m'∧(0 < i→ms[i - 1]? = some m'):=by
     by_cases i0:i=0
     ·subst i0
      exact ⟨row,m,hq,ho,fun h=>absurd h (by omega)⟩
     ·have hlt:i - 1 < rest.length:=by omega
      have hlm:i - 1 < ms.length:=by omega
      have e1:((rest.take i).map memL)[i - 1]? = some (memL rest[i - 1]):=by
       rw [List.getElem?_map,List.getElem?_take,if_pos (by omega),List.getElem?_eq_getElem hlt];rfl
      rw [hm,List.getElem?_map,List.getElem?_eq_getElem hlm] at e1
      exact ⟨rest[i - 1],ms[i - 1],List.getElem?_eq_getElem hlt,(Option.some.inj e1).symm,fun _=>List.getElem?_eq_getElem hlm⟩
    refine' st_set (d:=dInts m') A10 7 ?e4 (fun σ11 H11 A11=>?_) nd
    case e4=>
     refine de_ix ix_list (A10.v 4) (de_max2 mx de_int (de_sub (A10.v 5) de_int)) (good_ixL (n:=i - 1) ?_ ?_)
     ·rw [List.getElem?_map,hrow']
      show some (memD (memL row'))=_
      rw [hm'];rfl
     ·split <;> omega
    have A11:At (XW P w K mg base f cdv A outer s H E) S no H6 [some (.str t),some (.lst ((headL n::rest).map D.str)),some (.lst (heads6.map D.str)),some (.int (n:Nat)),some (.lst (rest.map fun row=>memD (memL row))),some (.int (i:Int)),some (dInts m),some (dInts m')] σ11 H11:=A11
    refine st_if A11 (k:=decide ((0:Int) < (i:Int)) && !TS.rowLt (rowOf m') (rowOf m)) (DW.dt (dw_and (dt_gt (A11.v 5) de_int) (fun _=>dw_and1 (dt_not (dt_ltRow (r:=rowOf m') (r':=rowOf m) (units_of hr) (de_tup (da_cons (de_lenI ml (A11.v 7)) (da_cons (A11.v 7) da_nil))) (de_tup (da_cons (de_lenI ml (A11.v 6)) (da_cons (A11.v 6) da_nil)))))))) (fun hc3 H12 A12=>ret de_non (by rfl) A12 ?_) (fun hc3 H12 A12=>dss_nil (dss_nil ⟨_,_,_,ms++[m],A12,?_,?_,?_⟩))
    ·rintro ⟨n',cs,hw⟩
     rw [Bool.and_eq_true,decide_eq_true_eq,Bool.not_eq_true'] at hc3
     obtain ⟨_,_,h3⟩:=wr_at hw er n6
     obtain ⟨c,h4,h5,_⟩:=h3 i row hq
     obtain ⟨c',h6,h7,_⟩:=h3 (i - 1) row' hrow'
     have:=wr_next hw (by omega) h4 h6
     rw [ho] at h5
     rw [hm'] at h7
     rw [← Option.some.inj h5,← Option.some.inj h7] at this
     unfold Lt at this
     rw [this] at hc3
     cases hc3.2
    ·rw [List.take_add_one,hq,List.map_append,List.map_append,hm]
     show _++[memL row]=_
     rw [ho];rfl
    ·intro x hx
     rcases List.mem_append.mp hx with hx | hx
     ·exact hset x hx
     ·rw [List.mem_singleton] at hx
      rw [hx];exact hset'
    ·by_cases i0:i=0
     ·have:ms=[]:=List.length_eq_zero_iff.mp (by omega)
      rw [this]
      exact List.pairwise_singleton _ _
     ·refine pair_snoc hup (m':=m') (by rw [hml];exact hlast (by omega)) ?_
      rw [Bool.and_eq_false_iff,decide_eq_false_iff_not,Bool.not_eq_false'] at hc3
      rcases hc3 with h | h
      ·omega
      ·exact h
 case hd=>
  rintro H6 σ6 H7 s6 ⟨o1,o2,o3,ms,A6,hm,hset,hup⟩
  rw [enumD_len,List.length_map,List.take_of_length_le (Nat.le_refl _)] at hm
  obtain ⟨cs,hw,ec⟩:=wr_of n1 n6 er hm hset hup
  have e:=good n cs hw
  rw [e] at q
  have ef:D.lst (rest.map fun row=>memD (memL row))=dF cs:=by
   have:(rest.map fun row=>memD (memL row))=(rest.map memL).map memD:=by rw [List.map_map];rfl
   rw [this,hm,ec,dF_sets,List.map_map,List.map_map]
   show D.lst _=dSets _
   unfold dSets
   rw [List.map_map]
   rfl
  rw [ef] at A6
  exact st_retD (A6.base (A5.same.trans s6.off)) q (de_tup (da_cons (A6.v 3) (da_cons (A6.v 4) da_nil)))
end
end R
namespace MT
open PySem PySem.StrLaws MC
theorem to_len {x:Str}{k:Int} (h0:0≤k) (h:k≤x.length):((Txt.slice x none (some k)).length:Int)=k:=by
 have hl:x.cps.toList.length=x.length:=by simp [Str.length]
 have e:Txt.slice x none (some k)=sliceText x none (some k):=rfl
 rw [e,sliceText_to ⟨h0,by omega⟩]
 show ((((x.cps.toList.drop 0).take (k - 0).toNat).toArray.size:Nat):Int)=k
 rw [List.size_toArray,List.length_take,List.drop_zero,hl]
 omega
theorem from_len {x:Str}{k:Int} (h0:0≤k):(Txt.slice x (some k) none).length≤x.length - k.toNat:=by
 have hl:x.cps.toList.length=x.length:=by simp [Str.length]
 by_cases h:(x.length:Int)≤k
 ·rw [PyProof.Rows.slice_from_beyond h]
  exact Nat.zero_le _
 ·have e:Txt.slice x (some k) none=sliceText x (some k) none:=rfl
  rw [e,sliceText_from ⟨h0,by omega⟩]
  show ((x.cps.toList.drop k.toNat).take ((x.cps.toList.length:Int) - k).toNat).toArray.size≤_
  rw [List.size_toArray,List.length_take,List.length_drop,hl]
  omega
noncomputable def signsL:Str:=Str.ofString "0123456 -\n\t+_xt,"
theorem signs_len:signsL.cps.toList.length=16:=by decide +kernel
noncomputable abbrev nlS:Str:=Str.ofString "\n"
noncomputable abbrev rowsT (t:Str):List Str:=Txt.split t nlS
noncomputable def atT (t:Str) (c:Int):Int:=c / 8 % ((t.length:Int) + 1)
noncomputable def sgT (c:Int):Str:=⟨#[signsL.cps.toList.getD (c / 8192 % 16).toNat 0]⟩
noncomputable def plT (t:Str) (c:Int):Nat:=(c / 8 % ((rowsT t).length:Int)).toNat
noncomputable def otT (t:Str) (c:Int):Nat:=(c / 512 % ((rowsT t).length:Int)).toNat
noncomputable def dblT (l:List Str) (k:Nat):List Str:=l.take k++(l.drop k).take 1++l.drop k
noncomputable def swpT (l:List Str) (a b:Nat):List Str:=(l.set a (l.getD b Str.empty)).set b (l.getD a Str.empty)
noncomputable def chg (t:Str) (c:Int):Str:=
 if c % 8 < 2 then Txt.slice t none (some (atT t c))++Txt.slice t (some (atT t c + 1)) none
 else if c % 8 < 4 then Txt.slice t none (some (atT t c))++sgT c++Txt.slice t (some (atT t c)) none
 else if c % 8 < 6 then Txt.slice t none (some (atT t c))++sgT c++Txt.slice t (some (atT t c + 1)) none
 else if c % 8=6 then Txt.join nlS (dblT (rowsT t) (plT t c))
 else Txt.join nlS (swpT (rowsT t) (plT t c) (otT t c))
theorem at_in (t:Str) (c:Int):0≤atT t c∧atT t c≤t.length:=by
 have h1:=Int.emod_nonneg (c / 8) (show ((t.length:Int) + 1)≠0 by omega)
 have h2:=Int.emod_lt_of_pos (c / 8) (show 0 < ((t.length:Int) + 1) by omega)
 unfold atT
 omega
theorem rows_pos (t:Str):0 < (rowsT t).length:=List.length_pos_iff.mpr (split_ne _ _)
theorem pl_in (t:Str) (c:Int):plT t c < (rowsT t).length∧c / 8 % ((rowsT t).length:Int)=(plT t c:Nat):=by
 have hp:=rows_pos t
 have h1:=Int.emod_nonneg (c / 8) (show ((rowsT t).length:Int)≠0 by omega)
 have h2:=Int.emod_lt_of_pos (c / 8) (show 0 < ((rowsT t).length:Int) by omega)
 unfold plT
 omega
theorem ot_in (t:Str) (c:Int):otT t c < (rowsT t).length∧c / 512 % ((rowsT t).length:Int)=(otT t c:Nat):=by
 have hp:=rows_pos t
 have h1:=Int.emod_nonneg (c / 512) (show ((rowsT t).length:Int)≠0 by omega)
 have h2:=Int.emod_lt_of_pos (c / 512) (show 0 < ((rowsT t).length:Int) by omega)
 unfold otT
 omega
theorem weight (t:Str):((rowsT t).map (·.length)).sum + (rowsT t).length≤t.length + 1:=PyProof.Rows.split_weight t nlS (by decide +kernel)
theorem sum_set_at:∀ {l:List Nat}{i a x:Nat},l[i]? = some x→(l.set i a).sum + x=l.sum + a
 | [],i,a,x,h=>by simp at h
 | y::r,0,a,x,h=>by
  have:y=x:=by simpa using h
  subst this
  simp;omega
 | y::r,i + 1,a,x,h=>by
  have h':r[i]? = some x:=by simpa using h
  have:=sum_set_at (a:=a) h'
  simp only [List.set_cons_succ,List.sum_cons]
  omega
theorem swp_sum {l:List Str}{a b:Nat} (ha:a < l.length) (hb:b < l.length):((swpT l a b).map (·.length)).sum=(l.map (·.length)).sum∧(swpT l a b).length=l.length:=by
 unfold swpT
 refine ⟨?_,by rw [List.length_set,List.length_set]⟩
 have ea:l.getD a Str.empty=l[a]:=by rw [List.getD_eq_getElem?_getD,List.getElem?_eq_getElem ha];rfl
 have eb:l.getD b Str.empty=l[b]:=by rw [List.getD_eq_getElem?_getD,List.getElem?_eq_getElem hb];rfl
 rw [ea,eb,List.map_set,List.map_set]
 have h1:=sum_set_at (l:=l.map (·.length)) (i:=a) (a:=l[b].length) (x:=l[a].length) (by rw [List.getElem?_map,List.getElem?_eq_getElem ha];rfl)
 have h2:=sum_set_at (l:=(l.map (·.length)).set a l[b].length) (i:=b) (a:=l[a].length) (x:=l[b].length) (by
  rw [List.getElem?_set]
  by_cases e:a=b
  ·subst e
   rw [if_pos rfl,if_pos (by rw [List.length_map];exact ha)]
  ·rw [if_neg e,List.getElem?_map,List.getElem?_eq_getElem hb];rfl)
 omega
theorem take1_le:∀ (l:List Str),((l.take 1).map (·.length)).sum≤(l.map (·.length)).sum∧(l.take 1).length≤1
 | []=>by simp
 | a::r=>by simp
theorem dbl_sum (l:List Str) (k:Nat):((dblT l k).map (·.length)).sum≤2 * (l.map (·.length)).sum∧(dblT l k).length≤l.length + 1:=by
 have e:=congrArg (fun x=>(x.map (·.length)).sum) (List.take_append_drop k l)
 have e2:=congrArg List.length (List.take_append_drop k l)
 simp only [List.map_append,List.sum_append,List.length_append] at e e2
 have h:=take1_le (l.drop k)
 unfold dblT
 simp only [List.map_append,List.sum_append,List.length_append]
 omega
theorem nl_one:nlS.length=1:=by decide +kernel
theorem join_len (l:List Str):(Txt.join nlS l).length≤(l.map (·.length)).sum + l.length:=by
 rw [show Txt.join nlS l=Str.join nlS l from glued_eq_join _ _]
 have:=join_length_le nlS l
 rw [nl_one,Nat.mul_one] at this
 exact this
theorem rows_few (t:Str):(rowsT t).length≤t.length + 1:=by have:=weight t;omega
theorem chg_size (t:Str) (c:Int):(chg t c).length≤2 * t.length + 2∧(rowsT (chg t c)).length≤t.length + 2:=by
 have hw:=weight t
 have ha:=at_in t c
 have ht:=to_len ha.1 ha.2
 have hf:=from_len (x:=t) (k:=atT t c) ha.1
 have hf1:=from_len (x:=t) (k:=atT t c + 1) (by omega)
 have hsg:(sgT c).length=1:=rfl
 have key:(chg t c).length≤t.length + 1→(chg t c).length≤2 * t.length + 2∧(rowsT (chg t c)).length≤t.length + 2:=fun h=>by
  have:=rows_few (chg t c)
  omega
 unfold chg at key ⊢
 split
 ·rename_i h
  rw [if_pos h] at key
  refine key ?_
  rw [Str.length_append]
  omega
 ·rename_i h
  rw [if_neg h] at key
  split
  ·rename_i h
   rw [if_pos h] at key
   refine key ?_
   rw [Str.length_append,Str.length_append]
   omega
  ·rename_i h
   rw [if_neg h] at key
   split
   ·rename_i h
    rw [if_pos h] at key
    refine key ?_
    rw [Str.length_append,Str.length_append]
    omega
   ·rename_i h
    rw [if_neg h] at key
    split
    ·have h1:=dbl_sum (rowsT t) (plT t c)
     have h2:=join_len (dblT (rowsT t) (plT t c))
     have hp:=rows_pos t
     refine ⟨by omega,?_⟩
     have e:rowsT (Txt.join nlS (dblT (rowsT t) (plT t c)))=dblT (rowsT t) (plT t c):=by
      rw [show Txt.join nlS (dblT (rowsT t) (plT t c))=Str.join nlS (dblT (rowsT t) (plT t c)) from glued_eq_join _ _]
      unfold rowsT nlS
      rw [nl_is]
      refine split_join (fun z=>?_) fun p hp=>?_
      ·have h3:=congrArg List.length z
       unfold dblT at h3
       have h4:=rows_pos t
       unfold rowsT nlS at h4
       rw [nl_is] at h4
       simp only [List.length_append,List.length_take,List.length_drop,List.length_nil] at h3
       omega
      ·have:p∈Txt.split t ⟨#[10]⟩:=by
        unfold dblT at hp
        rcases List.mem_append.mp hp with hp | hp
        ·rcases List.mem_append.mp hp with hp | hp
         ·exact List.mem_of_mem_take hp
         ·exact List.mem_of_mem_drop (List.mem_of_mem_take hp)
        ·exact List.mem_of_mem_drop hp
       exact split_free t 10 p this
     rw [e]
     omega
    ·rename_i h
     rw [if_neg h] at key
     refine key ?_
     have h1:=swp_sum (pl_in t c).1 (ot_in t c).1
     have h2:=join_len (swpT (rowsT t) (plT t c) (otT t c))
     omega
end MT
namespace R
open PySem L2 MC MO MT
section
variable {P:Program}{w:World}{K:PySem.W.Frag}{mg:Str→Option Value}{base:Heap}{f:Addr}{fd:FuncData}
theorem raw_snoc (l:List Int) (t:Int):rawL (l++[t])=rawL l++Str.ofString " " ++ digS t:=by unfold rawL;rw [List.foldl_append];rfl
theorem raw_len:∀ (l:List Int),(∀ t∈l,0≤t∧t < 6)→∀ j,(rawL (l.take j)).length≤3 * j:=fun l h j=>by
 induction j with
 | zero=>rw [List.take_zero];show (Str.ofString "").length≤0;decide +kernel
 | succ j ih=>
  rw [List.take_add_one]
  cases q:l[j]? with
  | none=>rw [show (none:Option Int).toList=[] from rfl,List.append_nil];omega
  | some t=>
   rw [show (some t).toList=[t] from rfl,raw_snoc,Str.length_append,Str.length_append]
   have h1:=h t (List.mem_of_getElem? q)
   have h2:=dig_size h1.1 h1.2
   have h3:(Str.ofString " ").length=1:=by decide +kernel
   omega
noncomputable def R_ltext (ds:List D) (d:D):Prop:=∃ (n:Nat) (cs:List Nat),Fam n cs∧ds=[.int (n:Nat),dF cs]∧d = .str (textL n (ordC cs))
theorem sc_ltext:FnScope ["many","family","rows","member","line","thing"] ["many","family"] (defScope s__law_text):=⟨rfl,rfl,rfl,by decide +kernel,rfl,by decide +kernel,by decide +kernel⟩
theorem ok_ltext (F:Fun K "_law_text" "_law_text" s__law_text f fd) (CI:Cal P w K mg base "_law_in_order" 1 ["sets"] R_inord) (ms:mg "str" = none):FnOk P w K mg base CX0 2 f fd ["many","family"] (spR K R_ltext):=by
 refine fn_ok F sc_ltext (fun ds d ⟨_,_,_,h,_⟩=>by rw [h];rfl) (by decide) ?_
 rintro cdv A outer s H E S _ _ Q σ hr ⟨n,cs,fam,rfl,rfl⟩ q A0
 have A0:At (Fx P w K mg base ["many","family","rows","member","line","thing"] "_law_text" s__law_text f cdv A outer s H E) S no H [some (.int (n:Nat)),some (dF cs),none,none,none,none] σ H:=A0
 have nd:=sc_ltext.nd
 have h6:=fam.hi
 have uo:=ord_U fam.u
 have lo:(ordC cs).length≤64:=by rw [ord_len fam.u fam.nd];exact fam.len
 refine st_setV (n:=2) (T:=domH H) (d:=.lst [.str (headL n)]) (de_lst (da_cons (de_addS de_str (de_strI ms ((A0.v 0).flat A0.sub rfl) (log_small (by omega) (by omega))) (head_size h6)) da_nil)) (sub_dom (Same.refl _)) (fun v H1 s1 r1=>?_) nd
 obtain ⟨L,xs,ev,hL,rL⟩:=rep_seq r1
 subst ev
 have h0L:H L=none:=by
  cases e:H L with
  | none=>rfl
  | some o=>exact absurd (fun z=>by rw [e] at z;cases z) hL.1
 have hS:¬ S L:=A0.sub.new h0L
 have A1:At (Fx P w K mg base ["many","family","rows","member","line","thing"] "_law_text" s__law_text f cdv A outer s H E) (plus S L) (plus no L) H [some (.int (n:Nat)),some (dF cs),none,none,none,none] (σ.set 2 (some (.ref L))) H1:=A0.own (S2:=fun a=>a=L) s1 (fun a z=>by rw [z];exact h0L) (fun a z=>by rw [z,hL.2];exact fun h=>nomatch h) rfl
 have O1:Own (Fx P w K mg base ["many","family","rows","member","line","thing"] "_law_text" s__law_text f cdv A outer s H E) (plus S L) (σ.set 2 (some (.ref L))) H1 2 L ((rowsL n []).map D.str):=⟨A0.slot (by simp),.inr rfl,xs,hL.2,(reps_strs (xs:=[headL n])).mpr ((reps_strs (xs:=[headL n])).mp rL)⟩
 generalize σ.set 2 (some (V.ref L))=σ1 at A1 O1
 refine' st_forS (E:={ nx:=fun _ H'=>Q .non H',rt:=Q }) (ds:=(ordC cs).map dS) A1 (di_list ?d1) (pg_name nd (i:=3) rfl (by first | exact Or.inl rfl | exact Or.inr rfl) (by first | exact .inl rfl | exact .inr rfl))
  (fun H1 i σ' H'=>∃ (o1 o2 o3:Option D),At (Fx P w K mg base ["many","family","rows","member","line","thing"] "_law_text" s__law_text f cdv A outer s H E) (plus S L) (plus no L) H1 [some (.int (n:Nat)),some (dF cs),none,o1,o2,o3] σ' H'∧Own (Fx P w K mg base ["many","family","rows","member","line","thing"] "_law_text" s__law_text f cdv A outer s H E) (plus S L) σ' H' 2 L ((rowsL n ((ordC cs).take i)).map D.str)) ?h0 ?hk ?hs ?hd
 case d1=>
  have e:D.lst ((ordC cs).map dS)=dSets (inOrd (cs.map lst)):=by rw [← ord_map fam.u];exact dF_sets _
  rw [e]
  refine de_cal CI hr ⟨cs.map lst,by rw [List.length_map];exact fam.len,fun x hx=>?_,rfl,rfl⟩ (da_cons ?_ da_nil)
  ·obtain ⟨c,_,rfl⟩:=List.mem_map.mp hx
   have:=lst_le c
   omega
  ·rw [← dF_sets];exact A1.v 1
 case h0=>exact fun H1 s1 A'=>⟨none,none,none,A'.here,by rw [List.take_zero];exact O1.up s1⟩
 case hk=>
  rintro H1 i σ' H' ⟨_,_,_,A',_⟩
  exact ⟨fun b o nb h=>A'.same b o (fun z=>nb (A'.ms b z)) h,A'.sub⟩
 case hs=>
  rintro H4 i d σ4 H5 H6 v s4 ⟨o1,o2,o3,A4,O4⟩ hd s5 rv
  rw [List.getElem?_map] at hd
  cases hq:(ordC cs)[i]? with
  | none=>rw [hq] at hd;cases hd
  | some c=>
   rw [hq] at hd
   have e:d=dS c:=by simpa using hd.symm
   subst e
   have c6:=uo c (List.mem_of_getElem? hq)
   have l6:=lst_le c
   have A5:=(A4.up s5).set (i:=3) rv
   have O5:=(O4.up s5).set (m:=3) (by decide) (some v)
   show DSs _ _ _ (σ4.set 3 (some v)) H6
   generalize σ4.set 3 (some v)=σ5 at A5 O5
   refine st_setO (m:=4) A5 O5 (de_str (n:=Str.ofString "")) (fun σ6 H7 A6 O6=>?_) (by decide) nd
   have A6:At (Fx P w K mg base ["many","family","rows","member","line","thing"] "_law_text" s__law_text f cdv A outer s H E) (plus S L) (plus no L) H4 [some (.int (n:Nat)),some (dF cs),none,some (dS c),some (.str (rawL [])),o3] σ6 H7:=A6
   refine' st_forS (ds:=(lst c).map D.int) A6 (di_list (A6.v 3)) (pg_name nd (i:=5) rfl (by first | exact Or.inl rfl | exact Or.inr rfl) (by first | exact .inl rfl | exact .inr rfl))
    (fun H8 j σ' H'=>∃ (o3:Option D),At (Fx P w K mg base ["many","family","rows","member","line","thing"] "_law_text" s__law_text f cdv A outer s H E) (plus S L) (plus no L) H8 [some (.int (n:Nat)),some (dF cs),none,some (dS c),some (.str (rawL ((lst c).take j))),o3] σ' H'∧Own (Fx P w K mg base ["many","family","rows","member","line","thing"] "_law_text" s__law_text f cdv A outer s H E) (plus S L) σ' H' 2 L ((rowsL n ((ordC cs).take i)).map D.str)) ?h0i ?hki ?hsi ?hdi
   case h0i=>exact fun H8 s8 A'=>⟨o3,by rw [List.take_zero];exact A'.here,O6.up s8⟩
   case hki=>
    rintro H8 j σ' H' ⟨_,A',_⟩
    exact ⟨fun b o nb h=>A'.same b o (fun z=>nb (A'.ms b z)) h,A'.sub⟩
   case hsi=>
    rintro H8 j d σ8 H9 H10 v s8 ⟨o3,A8,O8⟩ hd s10 rv
    rw [List.getElem?_map] at hd
    cases hq':(lst c)[j]? with
    | none=>rw [hq'] at hd;cases hd
    | some t=>
     rw [hq'] at hd
     have e:d = .int t:=by simpa using hd.symm
     subst e
     have ht:=lst_lo (List.mem_of_getElem? hq')
     have hj:j < (lst c).length:=(List.getElem?_eq_some_iff.mp hq').1
     have A9:=(A8.up s10).set (i:=5) rv
     have O9:=(O8.up s10).set (m:=5) (by decide) (some v)
     show DSs _ _ _ (σ8.set 5 (some v)) H10
     generalize σ8.set 5 (some v)=σ9 at A9 O9
     have h1:=raw_len (lst c) (fun t ht=>lst_lo ht) j
     have h2:=dig_size ht.1 ht.2
     have h3:(Str.ofString " ").length=1:=by decide +kernel
     refine st_setO (m:=4) A9 O9 (de_addS (de_addS (A9.v 4) de_str (by rw [h3];omega)) (de_strI ms (A9.v 5) (log_small ht.1 (by omega))) (by rw [Str.length_append,h3];show _ + (digS t).length≤_;omega)) (fun σ10 H11 A10 O10=>dss_nil ⟨some (.int t),?_,O10⟩) (by decide) nd
     rw [List.take_add_one,hq',show (some t).toList=[t] from rfl,raw_snoc]
     exact A10
   case hdi=>
    rintro H8 σ8 H9 s8 ⟨o3,A8,O8⟩
    rw [List.length_map,List.take_of_length_le (Nat.le_refl _)] at A8
    have hz:=raw_size c6
    refine st_append (d:=.str (lineL c)) A8 O8 (.inr rfl) ?_ (by rw [List.length_map];unfold rowsL;rw [List.length_cons,List.length_map,List.length_take];omega) (fun H10 A10 O10=>dss_nil ⟨_,_,_,A10.base (fun b o nb h=>s8 b o ?_),?_⟩)
    ·rw [← raw_line c6]
     refine de_if (k:=!decide (rawL (lst c)=Str.ofString "")) (dt_neS (A8.v 4) de_str) (fun h=>?_) (fun h=>?_)
     ·rw [if_neg (by intro z;rw [decide_eq_true z] at h;cases h)]
      exact de_sliceS (A8.v 4) (by omega) (do_some de_int) do_none
     ·rw [if_pos (by rw [Bool.not_eq_false',decide_eq_true_eq] at h;exact h)]
      exact de_str
    ·exact A6.same b o nb h
    ·rw [List.take_add_one,hq,show (some c).toList=[c] from rfl]
     unfold rowsL at O10 ⊢
     rw [List.map_cons,List.map_append,List.map_append]
     rw [List.map_cons,List.cons_append] at O10
     exact O10
 case hd=>
  rintro H4 σ4 H5 s4 ⟨o1,o2,o3,A4,O4⟩
  rw [List.length_map,List.take_of_length_le (Nat.le_refl _)] at O4
  have A5:At (Fx P w K mg base ["many","family","rows","member","line","thing"] "_law_text" s__law_text f cdv A outer s H E) S no H [some (.int (n:Nat)),some (dF cs),some (.lst ((rowsL n (ordC cs)).map D.str)),o1,o2,o3] σ4 H5:=(A4.base (fun b o nb h=>s4 b o (A1.same b o nb h))).free O4 h0L (fun a z=>z.elim) hS
  refine st_retD A5 q ?_
  have e:textL n (ordC cs)=Txt.join (Str.ofString "\n") (rowsL n (ordC cs)):=(StrLaws.glued_eq_join _ _).symm
  rw [e]
  exact de_join de_str (A5.v 2) (join_fit (by decide +kernel) (rows_size h6 uo) (by unfold rowsL;rw [List.length_cons,List.length_map];omega))
end
end R
namespace R
open PySem L2 MC MO MT
theorem cut_to (xs:List Str) (k:Nat):cutD (xs.map D.str) none (some (k:Int))=(xs.take k).map D.str:=by
 unfold cutD
 rw [HT.sIx_none,HT.sIx_nat,List.drop_zero,Nat.sub_zero,← List.take_take,List.take_of_length_le (Nat.le_refl (xs.map D.str).length),List.map_take]
theorem cut_fr (xs:List Str) (k:Nat) (h:k≤xs.length):cutD (xs.map D.str) (some (k:Int)) none=(xs.drop k).map D.str:=by
 unfold cutD
 rw [HT.sIx_none,HT.sIx_nat,List.length_map,Nat.min_eq_left h,← List.map_drop,List.take_of_length_le (by rw [List.length_map,List.length_drop];exact Nat.le_refl _)]
theorem cut_one (xs:List Str) (k:Nat) (h:k < xs.length):cutD (xs.map D.str) (some (k:Int)) (some ((k:Int) + 1))=((xs.drop k).take 1).map D.str:=by
 unfold cutD
 rw [show (k:Int) + 1=((k + 1:Nat):Int) from rfl,HT.sIx_nat,HT.sIx_nat,List.length_map,Nat.min_eq_left (Nat.le_of_lt h),Nat.min_eq_left h,← List.map_drop,← List.map_take,show k.succ - k=1 by omega]
section
variable {P:Program}{w:World}{K:PySem.W.Frag}{mg:Str→Option Value}{base:Heap}{f:Addr}{fd:FuncData}
noncomputable def R_changed (ds:List D) (d:D):Prop:=∃ (t:Str) (c:Int),t.length≤800∧ds=[.str t,.int c]∧d = .str (chg t c)
noncomputable abbrev nC:List Str:=["text","cell","at","sign","rows","place","other","first"]
theorem sc_changed:FnScope nC ["text","cell"] (defScope s__law_changed):=⟨rfl,rfl,rfl,by decide +kernel,rfl,by decide +kernel,by decide +kernel⟩
noncomputable abbrev XC (P:Program) (w:World) (K:PySem.W.Frag) (mg:Str→Option Value) (base:Heap) (f:Addr) (cdv:Value) (A:Around) (outer:List Env) (s:Shared) (H:Hp) (E:XK):Cx:=Fx P w K mg base nC "_law_changed" s__law_changed f cdv A outer s H E
theorem join_fit2 {texts:List Str}{B:Nat} (h2:∀ y∈texts,y.length≤1000) (h3:texts.length≤1000):JoinOk nlS texts=true:=by
 unfold JoinOk
 have a1:texts.length * 1000≤1000 * 1000:=Nat.mul_le_mul_right _ h3
 rw [StrLaws.joinFits (B:=1000) h2 (by rw [nl_one];omega)]
 rfl
theorem ok_changed (F:Fun K "_law_changed" "_law_changed" s__law_changed f fd) (ml:mg "len" = none):FnOk P w K mg base CX0 1 f fd ["text","cell"] (spR K R_changed):=by
 refine fn_ok F sc_changed (fun ds d ⟨_,_,_,h,_⟩=>by rw [h];rfl) (by decide) ?_
 rintro cdv A outer s H E S _ _ Q σ hr ⟨t,c,hz,rfl,rfl⟩ q A0
 have A0:At (XC P w K mg base f cdv A outer s H E) S no H [some (.str t),some (.int c),none,none,none,none,none,none] σ H:=A0
 have nd:=sc_changed.nd
 have ha:=at_in t c
 have ht:=to_len ha.1 ha.2
 have hf:=from_len (x:=t) (k:=atT t c) ha.1
 have hf1:=from_len (x:=t) (k:=atT t c + 1) (by omega)
 have hsg:(sgT c).length=1:=rfl
 have hpl:=pl_in t c
 have hot:=ot_in t c
 have hw:=weight t
 have hrl:∀ row∈rowsT t,row.length≤t.length:=fun row h=>row_le h
 refine st_set (d:=.int (atT t c)) A0 2 (de_mod (de_fdiv (A0.v 1) de_int ⟨by decide,by decide⟩) (de_add (de_lenStr ml (A0.v 0) (by omega)) de_int) (by omega)) (fun σ1 H1 A1=>?_) nd
 have h16:0≤c / 8192 % 16∧c / 8192 % 16 < 16:=⟨Int.emod_nonneg _ (by decide),Int.emod_lt_of_pos _ (by decide)⟩
 refine' st_set (d:=.str (sgT c)) A1 3 ?e1 (fun σ2 H2 A2=>?_) nd
 case e1=>
  refine de_ixStr (x:=signsL) (n:=(c / 8192 % 16).toNat) (i:=c / 8192 % 16) de_str (de_mod (de_fdiv (A1.v 1) de_int ⟨by decide,by decide⟩) de_int (by decide)) (by decide +kernel) (by omega) ?_
  rw [List.getD_eq_getElem?_getD,List.getElem?_eq_getElem (by rw [signs_len];omega)]
  rfl
 have A2:At (XC P w K mg base f cdv A outer s H E) S no H [some (.str t),some (.int c),some (.int (atT t c)),some (.str (sgT c)),none,none,none,none] σ2 H2:=A2
 refine st_setV (n:=4) (T:=domH H2) (d:=.lst ((rowsT t).map D.str)) (de_split ((A2.v 0).flat A2.sub rfl) de_str (by decide +kernel) (by omega)) (sub_dom (Same.refl _)) (fun v H3 s3 r3=>?_) nd
 obtain ⟨L,xs,ev,hL,rL⟩:=rep_seq r3
 subst ev
 have h0L:H2 L=none:=by
  cases e:H2 L with
  | none=>rfl
  | some o=>exact absurd (fun z=>by rw [e] at z;cases z) hL.1
 have hS:¬ S L:=A2.sub.new h0L
 have h0:H L=none:=by
  cases e:H L with
  | none=>rfl
  | some o=>rw [A2.same L o (fun z=>z.elim) e] at h0L;cases h0L
 have A3:At (XC P w K mg base f cdv A outer s H E) (plus S L) (plus no L) H [some (.str t),some (.int c),some (.int (atT t c)),some (.str (sgT c)),none,none,none,none] (σ2.set 4 (some (.ref L))) H3:=A2.own (S2:=fun a=>a=L) s3 (fun a z=>by rw [z];exact h0L) (fun a z=>by rw [z,hL.2];exact fun h=>nomatch h) rfl
 have O3:Own (XC P w K mg base f cdv A outer s H E) (plus S L) (σ2.set 4 (some (.ref L))) H3 4 L ((rowsT t).map D.str):=⟨A2.slot (by simp),.inr rfl,xs,hL.2,reps_strs.mpr (reps_strs.mp rL)⟩
 generalize σ2.set 4 (some (V.ref L))=σ3 at A3 O3
 refine' st_setO (d:=.int (plT t c:Nat)) (m:=5) A3 O3 ?e2 (fun σ4 H4 A4 O4=>?_) (by decide) nd
 case e2=>
  rw [← hpl.2]
  have e:((rowsT t).length:Int)=((((rowsT t).map D.str).length:Nat):Int):=by rw [List.length_map]
  rw [e]
  exact de_mod (de_fdiv (A3.v 1) de_int ⟨by decide,by decide⟩) (de_lenO O3 ml) (by rw [List.length_map];have:=rows_pos t;omega)
 have A4:At (XC P w K mg base f cdv A outer s H E) (plus S L) (plus no L) H [some (.str t),some (.int c),some (.int (atT t c)),some (.str (sgT c)),none,some (.int (plT t c:Nat)),none,none] σ4 H4:=A4
 refine st_ifS A4 (dt_lt (de_mod (A4.v 1) de_int (by decide)) de_int) (fun hc H5 s5 A5=>?_) (fun hc H5 s5 A5=>dss_nil ?_)
 ·have e:chg t c=Txt.slice t none (some (atT t c))++Txt.slice t (some (atT t c + 1)) none:=by unfold chg;rw [if_pos (of_decide_eq_true hc)]
  rw [e] at q
  have B:=A5.free (O4.up s5) h0 (fun a z=>z.elim) hS
  exact st_retD B q (de_addS (de_sliceS (B.v 0) (by omega) do_none (do_some (B.v 2))) (de_sliceS (B.v 0) (by omega) (do_some (de_add (B.v 2) de_int)) do_none) (by omega))
 have hc1:=of_decide_eq_false hc
 refine st_ifS A5 (dt_lt (de_mod (A5.v 1) de_int (by decide)) de_int) (fun hc H6 s6 A6=>?_) (fun hc H6 s6 A6=>dss_nil ?_)
 ·have e:chg t c=Txt.slice t none (some (atT t c))++sgT c++Txt.slice t (some (atT t c)) none:=by unfold chg;rw [if_neg hc1,if_pos (of_decide_eq_true hc)]
  rw [e] at q
  have B:=A6.free ((O4.up s5).up s6) h0 (fun a z=>z.elim) hS
  exact st_retD B q (de_addS (de_addS (de_sliceS (B.v 0) (by omega) do_none (do_some (B.v 2))) (B.v 3) (by omega)) (de_sliceS (B.v 0) (by omega) (do_some (B.v 2)) do_none) (by rw [Str.length_append];omega))
 have hc2:=of_decide_eq_false hc
 refine st_ifS A6 (dt_lt (de_mod (A6.v 1) de_int (by decide)) de_int) (fun hc H7 s7 A7=>?_) (fun hc H7 s7 A7=>dss_nil ?_)
 ·have e:chg t c=Txt.slice t none (some (atT t c))++sgT c++Txt.slice t (some (atT t c + 1)) none:=by unfold chg;rw [if_neg hc1,if_neg hc2,if_pos (of_decide_eq_true hc)]
  rw [e] at q
  have B:=A7.free (((O4.up s5).up s6).up s7) h0 (fun a z=>z.elim) hS
  exact st_retD B q (de_addS (de_addS (de_sliceS (B.v 0) (by omega) do_none (do_some (B.v 2))) (B.v 3) (by omega)) (de_sliceS (B.v 0) (by omega) (do_some (de_add (B.v 2) de_int)) do_none) (by rw [Str.length_append];omega))
 have hc3:=of_decide_eq_false hc
 refine st_ifS A7 (dt_eqI (de_mod (A7.v 1) de_int (by decide)) de_int) (fun hc H8 s8 A8=>?_) (fun hc H8 s8 A8=>dss_nil ?_)
 ·have e:chg t c=Txt.join nlS (dblT (rowsT t) (plT t c)):=by unfold chg;rw [if_neg hc1,if_neg hc2,if_neg hc3,if_pos (of_decide_eq_true hc)]
  rw [e] at q
  have B:=A8.free ((((O4.up s5).up s6).up s7).up s8) h0 (fun a z=>z.elim) hS
  have B:At (XC P w K mg base f cdv A outer s H E) S no H [some (.str t),some (.int c),some (.int (atT t c)),some (.str (sgT c)),some (.lst ((rowsT t).map D.str)),some (.int (plT t c:Nat)),none,none] σ4 H8:=B
  have hd:=dbl_sum (rowsT t) (plT t c)
  refine st_retD B q (de_join de_str ?_ (join_fit2 (B:=0) (fun y hy=>?_) (by omega)))
  ·unfold dblT
   rw [List.map_append,List.map_append]
   refine de_cat (de_cat (de_cut (B.v 4) do_none (do_some (B.v 5)) (cut_to _ _)) (de_cut (B.v 4) (do_some (B.v 5)) (do_some (de_add (B.v 5) de_int)) (cut_one _ _ hpl.1)) ?_) (de_cut (B.v 4) (do_some (B.v 5)) do_none (cut_fr _ _ (Nat.le_of_lt hpl.1))) ?_
   ·simp only [List.length_map,List.length_take,List.length_drop];omega
   ·simp only [List.length_map,List.length_append,List.length_take,List.length_drop];omega
  ·have:y∈rowsT t:=by
    unfold dblT at hy
    rcases List.mem_append.mp hy with hy | hy
    ·rcases List.mem_append.mp hy with hy | hy
     ·exact List.mem_of_mem_take hy
     ·exact List.mem_of_mem_drop (List.mem_of_mem_take hy)
    ·exact List.mem_of_mem_drop hy
   have:=hrl y this
   omega
 have hc4:=of_decide_eq_false hc
 have O8:=(((O4.up s5).up s6).up s7).up s8
 have e:chg t c=Txt.join nlS (swpT (rowsT t) (plT t c) (otT t c)):=by unfold chg;rw [if_neg hc1,if_neg hc2,if_neg hc3,if_neg hc4]
 rw [e] at q
 have ea:(rowsT t)[plT t c]? = some ((rowsT t).getD (plT t c) Str.empty):=by rw [List.getD_eq_getElem?_getD,List.getElem?_eq_getElem hpl.1];rfl
 have eb:(rowsT t)[otT t c]? = some ((rowsT t).getD (otT t c) Str.empty):=by rw [List.getD_eq_getElem?_getD,List.getElem?_eq_getElem hot.1];rfl
 refine' st_setO (d:=.int (otT t c:Nat)) (m:=6) A8 O8 ?e3 (fun σ9 H9 A9 O9=>?_) (by decide) nd
 case e3=>
  rw [← hot.2]
  have e:((rowsT t).length:Int)=((((rowsT t).map D.str).length:Nat):Int):=by rw [List.length_map]
  rw [e]
  exact de_mod (de_fdiv (A8.v 1) de_int ⟨by decide,by decide⟩) (de_lenO O8 ml) (by rw [List.length_map];have:=rows_pos t;omega)
 have A9:At (XC P w K mg base f cdv A outer s H E) (plus S L) (plus no L) H [some (.str t),some (.int c),some (.int (atT t c)),some (.str (sgT c)),none,some (.int (plT t c:Nat)),some (.int (otT t c:Nat)),none] σ9 H9:=A9
 refine st_setO (d:=.str ((rowsT t).getD (plT t c) Str.empty)) (m:=7) A9 O9 (de_ixO O9 (A9.v 5) rfl ea) (fun σ10 H10 A10 O10=>?_) (by decide) nd
 have A10:At (XC P w K mg base f cdv A outer s H E) (plus S L) (plus no L) H [some (.str t),some (.int c),some (.int (atT t c)),some (.str (sgT c)),none,some (.int (plT t c:Nat)),some (.int (otT t c:Nat)),some (.str ((rowsT t).getD (plT t c) Str.empty))] σ10 H10:=A10
 refine st_putO A10 O10 (.inr rfl) (A10.v 5) (de_ixO O10 (A10.v 6) rfl eb) rfl hpl.1 (fun H11 A11 O11=>?_)
 refine st_putO A11 O11 (.inr rfl) (A11.v 6) (A11.v 7) rfl (by rw [List.length_set];exact hot.1) (fun H12 A12 O12=>?_)
 have B:At (XC P w K mg base f cdv A outer s H E) S no H [some (.str t),some (.int c),some (.int (atT t c)),some (.str (sgT c)),some (.lst ((swpT (rowsT t) (plT t c) (otT t c)).map D.str)),some (.int (plT t c:Nat)),some (.int (otT t c:Nat)),some (.str ((rowsT t).getD (plT t c) Str.empty))] σ10 H12:=A12.free O12 h0 (fun a z=>z.elim) hS
 have hd:=swp_sum hpl.1 hot.1
 refine st_retD B q (de_join de_str (B.v 4) (join_fit2 (B:=0) (fun y hy=>?_) (by omega)))
 have:=sum_mem_le (List.mem_map_of_mem (f:=(·.length)) hy)
 omega
end
end R
namespace L2
open PySem PySem.Spec PyProof.Rows
section
variable {X:Cx}{S:Av}{H:Hp}{σ:St}{o e:Expr}{apos cpos:Pos}
end
end L2
namespace L2
open PySem PySem.Spec PyProof.Rows
section
variable {prog:Program}{w:World}{A:Around}{E:Value→Shared→Prop}{s:Shared}
end
section
variable {X:Cx}{S:Av}{H:Hp}{σ:St}{a:Expr}{p pos:Pos}
end
end L2
namespace L2
open PySem PySem.Spec PyProof.Rows
section
variable {prog:Program}{w:World}{A:Around}{E:Value→Shared→Prop}{s:Shared}{dd it:Addr}{es:Array DictEntry}{i ep:Nat}
end
end L2
namespace L2
open PySem PySem.Spec PyProof.Rows
section
variable {prog:Program}{w:World}{dd:Addr}{es:Array DictEntry}{ep:Nat}
end
section
variable {X:Cx}{S:Av}{H:Hp}{σ:St}{a:Expr}{p pos:Pos}
end
noncomputable def spN (K:PySem.W.Frag) (R:List D→D→Prop):Sp:=fun vs H Q _=>∃ ds d,Reps K no H ds vs∧R ds d∧∀ v H',Same H H'→Rep K no H' d v→Q v H'
theorem fn_okN {P:Program}{w:World}{K:PySem.W.Frag}{mg:Str→Option Value}{base:Heap}{x:Str}{st:Stmt}{f:Addr}{fd:FuncData}{N ps:List Str}{k:Nat}{R:List D→D→Prop} (F:Fun K x x st f fd) (sc:FnScope N ps (defScope st)) (hl:∀ ds d,R ds d→ds.length=ps.length) (hle:ps.length≤N.length)
  (h:∀ (cdv:Value) (A:Around) (outer:List Env) (s:Shared) (H:Hp) (E:XK) (ds:List D) (d:D) (Q:VK) (σ:St),Room k (A.deeper (envOfC x (defScope st) s.heap.objs.size f cdv))→R ds d →
   (∀ v H',Same H H'→Rep K no H' d v→Q v H')→At (Fx P w K mg base N x st f cdv A outer s H E) no no H (ds.map some++List.replicate (N.length - ds.length) none) σ H →
   DSs (Fx P w K mg base N x st f cdv A outer s H E) (defBody st) { nx:=fun _ H'=>Q .non H',rt:=Q } σ H):FnOk P w K mg base CX0 (k + 1) f fd ps (spN K R):=by
 refine F.ok sc (fun vs H Q E ⟨ds,d,r,p,_⟩=>by rw [r.length];exact hl ds d p) (fun cdv A outer s H vs Q E hr h'=>?_)
 obtain ⟨ds,d,r,hR,q⟩:=h'
 exact ⟨_,pss_of,h cdv A outer s H E ds d Q _ hr hR q (at_start (fun _ z=>z.elim) r (by rw [hl ds d hR];exact hle))⟩
end L2
namespace R
open PySem L2 MC MO MT
theorem sum_below (f:Nat→Nat):∀ (k:Nat) {l:List Nat},l.Nodup→(∀ c∈l,c < k)→(l.map f).sum≤((List.range k).map f).sum
 | 0,l,_,h=>by
  cases l with
  | nil=>simp
  | cons a r=>exact absurd (h a (by simp)) (by omega)
 | k + 1,l,nd,h=>by
  rw [List.range_succ,List.map_append,List.sum_append]
  by_cases hk:k∈l
  ·have p:=List.perm_cons_erase hk
   have e:(l.map f).sum=f k + ((l.erase k).map f).sum:=by
    rw [(p.map f).sum_nat,List.map_cons,List.sum_cons]
   have ih:=sum_below f k (l:=l.erase k) (nd.erase k) fun c hc=>by
    have h1:=h c (List.mem_of_mem_erase hc)
    have h2:c≠k:=fun z=>by
     subst z
     exact (List.Nodup.not_mem_erase nd) hc
    omega
   rw [e]
   simp
   omega
  ·have ih:=sum_below f k nd fun c hc=>by
    have h1:=h c hc
    have h2:c≠k:=fun z=>by subst z;exact hk hc
    omega
   omega
theorem all_lines:((List.range 64).map fun c=>(lineL c).length).sum≤322:=by decide +kernel
theorem text_394 {n:Nat}{cs:List Nat} (fam:Fam n cs):(textL n cs).length≤395:=by
 have h1:=StrLaws.join_length_le nlS (rowsL n cs)
 have h2:=sum_below (fun c=>(lineL c).length) 64 fam.nd fam.u
 have h3:=all_lines
 have h4:=fam.len
 have h5:(headL n).length=8:=by rw [head_is fam.hi];rfl
 rw [nl_one,Nat.mul_one] at h1
 unfold rowsL at h1
 rw [List.map_cons,List.sum_cons,List.length_cons,List.map_map,List.length_map,h5] at h1
 unfold textL rowsL
 show (Str.join nlS (headL n::cs.map lineL)).length≤395
 have h6:(List.map ((fun x:Str=>x.length) ∘ lineL) cs).sum=(cs.map fun c=>(lineL c).length).sum:=rfl
 rw [h6] at h1
 omega
noncomputable def Siz (i:Nat) (t:Str):Prop:=(i=0∧t.length≤395)∨(i=1∧t.length≤792∧(rowsT t).length≤800)∨(i=2∧t.length≤1586∧(rowsT t).length≤800)
theorem siz_next {i:Nat}{t:Str} (c:Int) (h:Siz i t) (hi:i < 2):Siz (i + 1) (chg t c):=by
 have hc:=chg_size t c
 rcases h with ⟨rfl,h⟩ | ⟨rfl,h,_⟩ | ⟨rfl,h,_⟩
 ·exact .inr (.inl ⟨rfl,by omega,by omega⟩)
 ·exact .inr (.inr ⟨rfl,by omega,by omega⟩)
 ·omega
noncomputable def menuA:List Str:=[Str.ofString "",Str.ofString "things",Str.ofString "things ",Str.ofString "things 0",Str.ofString "things 7",Str.ofString "things 01",Str.ofString "things 1\n",Str.ofString "things 2\n0 1\n-"]
noncomputable def menuB:List Str:=[Str.ofString "things 2\n1 0",Str.ofString "Things 1",Str.ofString " things 1",Str.ofString "things 1\n- ",Str.ofString "things 3\n0\n2\n1"]
noncomputable def menuC:List Str:=[Str.ofString "things x",Str.ofString "-"]
theorem menu_size:∀ x∈menuA++menuB++menuC,x.length≤100:=by decide +kernel
section
variable {P:Program}{w:World}{K:PySem.W.Frag}{mg:Str→Option Value}{base:Heap}{f:Addr}{fd:FuncData}
section
variable {X:Cx}{S M:Av}{H0 H:Hp}{δ:List (Option D)}{σ:St}{a b e e1:Expr}{es:List Expr}{pos pos' p p2 p3 p4:Pos}{d1:D}{ds:List D}{E:Ends}{rest:List Stmt}
theorem st_setGX {nm gm y:Str}{k kg m:Nat}{ps psg:List Str}{pre:List D→Prop}{Rf Rg:List D→D→Prop} (A:At X S M H0 δ σ H) (i:Nat) (C:CalX X.prog X.w X.K X.mg X.base nm k ps pre Rf) (CG:Cal X.prog X.w X.K X.mg X.base gm kg psg Rg) (hr:Room m X.A) (h1:DE X S σ H e1 d1) (hp:pre ds) (ha:DA X S σ H (e::es) ds)
  (kk:∀ d,Rf ds d→∃ d2,Rg [d1,d] d2∧∀ σ' H',At X S M H0 (δ.set i (some d2)) σ' H'→DSs X rest E σ' H') (hN:X.N.Nodup) (hk:autoParam (k≤m) au1._auto_1) (hkg:autoParam (kg≤m) au1._auto_1) (hg:autoParam (Gl X nm) au3._auto_1) (hgg:autoParam (Gl X gm) au3._auto_1) (hi:autoParam (X.N[i]? = some y) au3._auto_1) (hx:autoParam (Loc X.env.scope y) au7._auto_1)
  (hs:autoParam (swapsWith (.Call (.Name gm p3) [e1,.Call (.Name nm p) (e::es) [] p2] [] p4) (some (.Name y pos')) pos.line X.env=pure false) au3._auto_1) (hf:autoParam (X.fn y=true∨X.env.scope.names.lookup y=some .local) au8._auto_1)
  (hdb:autoParam ((nm == ("__debug__":Str))=false) au1._auto_1) (hdg:autoParam ((gm == ("__debug__":Str))=false) au1._auto_1) (he:autoParam (starEach (e::es) X.env=(false,eval e X.env)::starEach es X.env) au3._auto_1) (hpl:autoParam ((backTo p2 (starEach es X.env)).any (·.1)=false) au3._auto_1)
  (hs1:autoParam (starEach [e1,.Call (.Name nm p) (e::es) [] p2] X.env=(false,eval e1 X.env)::starEach [.Call (.Name nm p) (e::es) [] p2] X.env) au3._auto_1) (hs2:autoParam (starEach [.Call (.Name nm p) (e::es) [] p2] X.env=(false,eval (.Call (.Name nm p) (e::es) [] p2) X.env)::starEach [] X.env) au3._auto_1)
  (hpl2:autoParam ((backTo p4 (starEach [.Call (.Name nm p) (e::es) [] p2] X.env)).any (·.1)=false) au3._auto_1) :
  DSs X (.Assign [.Name y pos'] (.Call (.Name gm p3) [e1,.Call (.Name nm p) (e::es) [] p2] [] p4) pos::rest) E σ H:=by
 obtain ⟨f,fd,G,B,kp,m'⟩:=C.ex
 obtain ⟨f2,fd2,G2,B2,kp2,m2⟩:=CG.ex
 refine dss_cons (DS.of (ps_set hN hi hx (pe_call (sp:=spR X.K Rg) G2 (hr.mono hkg) hgg m2 kp2 B2 .nil pass0 (pa_cons h1 (pa_cons (pe_call (sp:=spX X.K pre Rf) G (hr.mono hk) hg m' kp B .nil pass0 ha hdb he hpl) pa_nil hs2) hs1) hdg hs1 hpl2) hs hf) ?_)
 refine ⟨rfl,Same.refl _,A.sub,fun v1 H1 s1 r1=>⟨rfl,s1,A.sub.up s1,fun vs H2 s2 r2=>⟨S,ds,(A.sub.up s1).up s2,by rw [List.append_nil];exact r2,hp,fun d v H3 hR s3 rv=>?_⟩⟩⟩
 obtain ⟨d2,hd2,k2⟩:=kk d hR
 have s13:=(s1.trans s2).trans s3
 refine ⟨S,[d1,d],d2,A.sub.up s13,?_,hd2,fun v' H4 s4 rv'=>k2 _ H4 ((A.up (s13.trans s4)).set rv')⟩
 simp only [List.append_nil,Reps]
 exact ⟨v1,[v],rfl,r1.up (s2.trans s3),v,[],rfl,rv,rfl⟩
theorem de_eqNF1 {r:Int × List (List Int)} (hu:X.A.units + 4 < cLine) (ha:DE X S σ H a (encNF r)) (hb:DE X S σ H b (encNF r)):DE X S σ H (.Compare a [.Eq] [b] pos) (.bl true):=by
 have:=de_eqNF (pos:=pos) hu ha hb
 rwa [decide_eq_true rfl] at this
theorem de_eqS1 {x:Str} (ha:DE X S σ H a (.str x)) (hb:DE X S σ H b (.str x)):DE X S σ H (.Compare a [.Eq] [b] pos) (.bl true):=by
 have:DE X S σ H (.Compare a [.Eq] [b] pos) (.bl (decide (x=x))):=de_cmp op_eq ha hb good_eqS (nomark _)
 rwa [decide_eq_true rfl] at this
end
noncomputable def R_law (ds:List D) (d:D):Prop:=∃ ns:List Int,ns.length≤63∧ds=[.scr ns]∧d = .bl true
noncomputable abbrev nL:List Str:=["script","many","text","cell","turn","some","due","found"]
theorem sc_law:FnScope nL ["script"] (defScope s_law):=⟨rfl,rfl,rfl,by decide +kernel,rfl,by decide +kernel,by decide +kernel⟩
noncomputable abbrev XL (P:Program) (w:World) (K:PySem.W.Frag) (mg:Str→Option Value) (base:Heap) (f:Addr) (cdv:Value) (A:Around) (outer:List Env) (s:Shared) (H:Hp) (E:XK):Cx:=Fx P w K mg base nL "law" s_law f cdv A outer s H E
theorem ok_law (F:Fun K "law" "law" s_law f fd) (CL:Cal P w K mg base "_law_cell_at" 1 ["script","k"] R_cell) (CM:Cal P w K mg base "_law_many" 2 ["script","at"] R_many) (CF:CalX P w K mg base "_law_family" 3 ["script","at","many"] P_family R_family) (CT:Cal P w K mg base "_law_text" 2 ["many","family"] R_ltext) (CC:Cal P w K mg base "_law_changed" 1 ["text","cell"] R_changed)
  (CW:Cal P w K mg base "_law_written" 2 ["text"] R_written) (CA:Cal P w K mg base "_law_asked" 8 ["text"] R_asked) (mr:mg "range" = none):FnOk P w K mg base CX0 9 f fd ["script"] (spN K R_law):=by
 refine fn_okN F sc_law (fun ds d ⟨_,_,h,_⟩=>by rw [h];rfl) (by decide) ?_
 rintro cdv A outer s H E _ _ Q σ hr ⟨ns,h63,rfl,rfl⟩ q A0
 have A0:At (XL P w K mg base f cdv A outer s H E) no no H [some (.scr ns),none,none,none,none,none,none,none] σ H:=A0
 have nd:=sc_law.nd
 refine st_set A0 1 (de_cal CM hr ⟨ns,0,h63,rfl,rfl⟩ (da_cons (A0.v 0) (da_cons de_int da_nil))) (fun σ1 H1 A1=>?_) nd
 obtain ⟨n1,n6⟩:=many_lo (ns.getD 0 0)
 generalize manyN (ns.getD 0 0)=n at A1 n1 n6
 refine st_setGX A1 2 CF CT hr (A1.v 1) ⟨ns,1,n,h63,n1,n6,rfl⟩ (da_cons (A1.v 0) (da_cons de_int (da_cons (A1.v 1) da_nil))) (fun d ⟨ns',k',n',cs,e,fam,ed⟩=>?_) nd
 have en:n'=n:=by
  injection e with e1 e2
  injection e2 with e2 e3
  injection e3 with e3
  injection e3 with e3
  omega
 subst en ed
 refine ⟨.str (textL n' (ordC cs)),⟨n',cs,fam,rfl,rfl⟩,fun σ2 H2 A2=>?_⟩
 have fo:Fam n' (ordC cs):=⟨fam.lo,fam.hi,fun c h=>fam.un c ((ord_mem fam.u).mp h),ord_nodup fam.u⟩
 have hz0:=text_394 fo
 generalize textL n' (ordC cs)=t0 at A2 hz0
 refine st_set A2 3 (de_cal CL hr ⟨ns,4,h63,rfl,rfl⟩ (da_cons (A2.v 0) (da_cons de_int da_nil))) (fun σ3 H3 A3=>?_) nd
 generalize ns.getD 4 0=cell at A3
 have A3:At (XL P w K mg base f cdv A outer s H E) no no H [some (.scr ns),some (.int (n':Nat)),some (.str t0),some (.int cell),none,none,none,none] σ3 H3:=A3
 obtain ⟨m,hm,m1,m2⟩:∃ m:Nat,1 + cell % 2=(m:Int)∧1≤m∧m≤2:=by
  have h1:=Int.emod_nonneg cell (show (2:Int)≠0 by decide)
  have h2:=Int.emod_lt_of_pos cell (show (0:Int) < 2 by decide)
  exact ⟨(1 + cell % 2).toNat,by omega,by omega,by omega⟩
 refine st_for (E:={ nx:=fun _ H'=>Q .non H',rt:=Q }) (ds:=(List.range m).map fun (k:Nat)=>D.int (k:Int)) 4 A3 (di_rangeN mr (de_add de_int (de_mod (A3.v 3) de_int (by decide))) hm (by omega)) (fun i δ=>∃ (t:Str) (o:Option D),δ=[some (.scr ns),some (.int (n':Nat)),some (.str t),some (.int cell),o,none,none,none]∧Siz i t) ⟨t0,none,rfl,.inl ⟨rfl,hz0⟩⟩ ?_ ?_ nd
 ·rintro H4 i d δ σ4 H5 of ⟨t,o,rfl,hs⟩ hd A4
  rw [List.getElem?_map] at hd
  by_cases hi:i < m
  ·rw [List.getElem?_range hi] at hd
   have e:d = .int (i:Int):=by simpa using hd.symm
   subst e
   have A4:At (XL P w K mg base f cdv A outer s H E) no no H4 [some (.scr ns),some (.int (n':Nat)),some (.str t),some (.int cell),some (.int (i:Int)),none,none,none] σ4 H5:=A4
   refine st_set A4 2 (de_cal CC hr ⟨t,ns.getD (5 + i) 0 % 10 ^ 9,by rcases hs with h | h | h <;> omega,rfl,rfl⟩ (da_cons (A4.v 2) (da_cons (de_mod (de_cal CL hr ⟨ns,5 + i,h63,rfl,rfl⟩ (da_cons (A4.v 0) (da_cons (de_add de_int (A4.v 4)) da_nil))) (de_op op_pow de_int de_int (good_int (C:=CPow) ⟨by decide,by decide,by decide⟩ fun _=>rep_int)) (by decide)) da_nil))) (fun σ6 H6 A6=>dss_nil ⟨_,⟨_,_,rfl,siz_next _ hs (by omega)⟩,A6⟩) nd
  ·rw [List.getElem?_eq_none (by simpa using hi)] at hd
   cases hd
 rintro δ σ4 H4 ⟨t,o,rfl,hs⟩ A4
 rw [List.length_map,List.length_range] at hs
 have hsz:t.length≤1600∧(rowsT t).length≤800:=by rcases hs with h | h | h <;> omega
 clear hs
 have A4:At (XL P w K mg base f cdv A outer s H E) no no H [some (.scr ns),some (.int (n':Nat)),some (.str t),some (.int cell),o,none,none,none] σ4 H4:=A4
 refine st_ifJ (fun σ' H'=>∃ (t:Str) (o1:Option D),(t.length≤1600∧(rowsT t).length≤800)∧At (XL P w K mg base f cdv A outer s H E) no no H [some (.scr ns),some (.int (n':Nat)),some (.str t),some (.int cell),o,o1,none,none] σ' H') A4 (dt_eqI (de_mod (de_fdiv (A4.v 3) de_int ⟨by decide,by decide⟩) de_int (by decide)) de_int) (fun _ H5 _ A5=>?_) (fun _ H5 _ A5=>dss_nil ⟨t,none,hsz,A5⟩) ?_
 ·refine st_set (d:=.lst (menuA.map D.str)) A5 5 (de_lst (da_cons de_str (da_cons de_str (da_cons de_str (da_cons de_str (da_cons de_str (da_cons de_str (da_cons de_str (da_cons de_str da_nil))))))))) (fun σ6 H6 A6=>?_) nd
  refine' st_set (d:=.lst ((menuA++menuB).map D.str)) A6 5 ?e1 (fun σ7 H7 A7=>?_) nd
  case e1=>
   rw [List.map_append]
   exact de_cat (A6.v 5) (de_lst (ds:=menuB.map D.str) (da_cons de_str (da_cons de_str (da_cons de_str (da_cons de_str (da_cons de_str da_nil)))))) (by decide)
  refine' st_set (d:=.lst ((menuA++menuB++menuC).map D.str)) A7 5 ?e2 (fun σ8 H8 A8=>?_) nd
  case e2=>
   rw [List.map_append]
   exact de_cat (A7.v 5) (de_lst (ds:=menuC.map D.str) (da_cons de_str (da_cons de_str da_nil))) (by decide)
  have h15:0≤cell / 8 % 15∧cell / 8 % 15 < 15:=⟨Int.emod_nonneg _ (by decide),Int.emod_lt_of_pos _ (by decide)⟩
  have hlen:(menuA++menuB++menuC).length=15:=rfl
  have hlt:(cell / 8 % 15).toNat < (menuA++menuB++menuC).length:=by omega
  have hx:=menu_size _ (List.getElem_mem hlt)
  refine st_set (d:=.str (menuA++menuB++menuC)[(cell / 8 % 15).toNat]) A8 2 (de_ix ix_list (A8.v 5) (de_mod (de_fdiv (A8.v 3) de_int ⟨by decide,by decide⟩) de_int (by decide)) (good_ixL (n:=(cell / 8 % 15).toNat) (by rw [List.getElem?_map,List.getElem?_eq_getElem hlt];rfl) (by omega))) (fun σ9 H9 A9=>dss_nil ⟨_,_,⟨by omega,?_⟩,A9⟩) nd
  have:=rows_few (menuA++menuB++menuC)[(cell / 8 % 15).toNat]
  omega
 clear A4 hsz
 rintro σ5 H5 ⟨t,o1,⟨hz,hrw⟩,A5⟩
 by_cases hw:∃ n cs,Wr t n cs
 ·obtain ⟨n,cs,hw⟩:=hw
  have asked:R_asked [.str t] (.tup [.int (n:Nat),dF cs]):=⟨t,by omega,rfl,.inl ⟨n,cs,hw,rfl⟩⟩
  refine st_set A5 6 (de_cal CW hr ⟨t,by omega,by show (rowsT t).length≤900;omega,rfl,fun n2 cs2 h2=>by obtain ⟨rfl,rfl⟩:=wr_unique hw h2;rfl,fun h=>absurd ⟨n,cs,hw⟩ h⟩ (da_cons (A5.v 2) da_nil)) (fun σ6 H6 A6=>?_) nd
  refine st_set A6 7 (de_cal CA hr asked (da_cons (A6.v 2) da_nil)) (fun σ7 H7 A7=>?_) nd
  have A7:At (XL P w K mg base f cdv A outer s H E) no no H [some (.scr ns),some (.int (n':Nat)),some (.str t),some (.int cell),o,o1,some (.tup [.int (n:Nat),dF cs]),some (.tup [.int (n:Nat),dF cs])] σ7 H7:=A7
  refine st_if A7 (k:=false) (dt_isN (A7.v 6) de_non) (fun h=>nomatch h) (fun _ H8 A8=>dss_nil ?_)
  rw [dF_sets] at A8 asked
  exact st_retD A8 q (de_andV (k:=true) (de_eqNF1 (r:=((n:Nat),cs.map lst)) (units_of hr) (A8.v 7) (A8.v 6)) (fun _=>de_one (de_eqNF1 (r:=((n:Nat),cs.map lst)) (units_of hr) (de_cal CA hr asked (da_cons (A8.v 2) da_nil)) (A8.v 6))) (fun h=>nomatch h))
 ·have asked:R_asked [.str t] (.str "note"):=⟨t,by omega,rfl,.inr ⟨hw,rfl⟩⟩
  refine st_set (d:=.non) A5 6 (de_cal CW hr ⟨t,by omega,by show (rowsT t).length≤900;omega,rfl,fun n2 cs2 h2=>absurd ⟨n2,cs2,h2⟩ hw,fun _=>rfl⟩ (da_cons (A5.v 2) da_nil)) (fun σ6 H6 A6=>?_) nd
  refine st_set A6 7 (de_cal CA hr asked (da_cons (A6.v 2) da_nil)) (fun σ7 H7 A7=>?_) nd
  have A7:At (XL P w K mg base f cdv A outer s H E) no no H [some (.scr ns),some (.int (n':Nat)),some (.str t),some (.int cell),o,o1,some .non,some (.str "note")] σ7 H7:=A7
  refine st_if A7 (k:=true) (dt_isN (A7.v 6) de_non) (fun _ H8 A8=>?_) (fun h=>nomatch h)
  exact st_retD A8 q (de_andV (k:=true) (de_eqS1 (A8.v 7) de_str) (fun _=>de_one (de_eqS1 (de_cal CA hr asked (da_cons (A8.v 2) da_nil)) de_str)) (fun h=>nomatch h))
end
end R
end
namespace R
open PySem L2 MC MO
theorem len0 {us:List Value}{p:List Value→Prop} (h:us.length=0) (k:p []):p us:=by
 cases us with
 | nil=>exact k
 | cons a t=>cases h
theorem len1 {us:List Value}{p:List Value→Prop} (h:us.length=1) (k:∀ a,p [a]):p us:=by
 cases us with
 | nil=>cases h
 | cons z t=>exact len0 (p:=fun t=>p (z::t)) (Nat.succ.inj h) (k z)
theorem len2 {us:List Value}{p:List Value→Prop} (h:us.length=2) (k:∀ a b,p [a,b]):p us:=by
 cases us with
 | nil=>cases h
 | cons z t=>exact len1 (p:=fun t=>p (z::t)) (Nat.succ.inj h) (fun a=>k z a)
theorem len3 {us:List Value}{p:List Value→Prop} (h:us.length=3) (k:∀ a b c,p [a,b,c]):p us:=by
 cases us with
 | nil=>cases h
 | cons z t=>exact len2 (p:=fun t=>p (z::t)) (Nat.succ.inj h) (fun a b=>k z a b)
theorem len4 {us:List Value}{p:List Value→Prop} (h:us.length=4) (k:∀ a b c d,p [a,b,c,d]):p us:=by
 cases us with
 | nil=>cases h
 | cons z t=>exact len3 (p:=fun t=>p (z::t)) (Nat.succ.inj h) (fun a b c=>k z a b c)
theorem bl1 {F:FuncData}{ps:List Str} (k:∀ a,bindArgs F ⟨[a],[]⟩=pure (ps.zip [a])) {us:List Value} (h:us.length=1):bindArgs F ⟨us,[]⟩=pure (ps.zip us):=len1 (p:=fun us=>bindArgs F ⟨us,[]⟩=pure (ps.zip us)) h k
theorem bl2 {F:FuncData}{ps:List Str} (k:∀ a b,bindArgs F ⟨[a,b],[]⟩=pure (ps.zip [a,b])) {us:List Value} (h:us.length=2):bindArgs F ⟨us,[]⟩=pure (ps.zip us):=len2 (p:=fun us=>bindArgs F ⟨us,[]⟩=pure (ps.zip us)) h k
theorem bl3 {F:FuncData}{ps:List Str} (k:∀ a b c,bindArgs F ⟨[a,b,c],[]⟩=pure (ps.zip [a,b,c])) {us:List Value} (h:us.length=3):bindArgs F ⟨us,[]⟩=pure (ps.zip us):=len3 (p:=fun us=>bindArgs F ⟨us,[]⟩=pure (ps.zip us)) h k
theorem bl4 {F:FuncData}{ps:List Str} (k:∀ a b c d,bindArgs F ⟨[a,b,c,d],[]⟩=pure (ps.zip [a,b,c,d])) {us:List Value} (h:us.length=4):bindArgs F ⟨us,[]⟩=pure (ps.zip us):=len4 (p:=fun us=>bindArgs F ⟨us,[]⟩=pure (ps.zip us)) h k
theorem pow_mk {K:PySem.W.Frag}{mg:Str→Option Value}{q:Addr}{dq:Option Addr}{nq:Nat}{sq:Array (Option Value)}{t1 t2 t3 t4 t5 t6 t7:Tok} (gl:K.lookup q=some ⟨.type "tuple",dq,.seq #[.int 1 t1,.int 2 t2,.int 4 t3,.int 8 t4,.int 16 t5,.int 32 t6,.int 64 t7] nq,sq⟩) (hm:mg "POWERS" = some (.ref q)):PowOk K mg:=
 ⟨q,hm,_,_,_,gl,rfl,rfl,(by show 7≤16777216;decide),.cons ⟨_,rfl⟩ (.cons ⟨_,rfl⟩ (.cons ⟨_,rfl⟩ (.cons ⟨_,rfl⟩ (.cons ⟨_,rfl⟩ (.cons ⟨_,rfl⟩ (.cons ⟨_,rfl⟩ .nil))))))⟩
theorem xs_ok {K:PySem.W.Frag}{cF cM cN cS cT cP:Addr} (kecF:PySem.W.excIn K cF bmV "ValueError.__new__" = true) (kgcF:PySem.W.findIn K (.ref cF) "__getattribute__" = some (some (.builtin "BaseException.__getattribute__"))) (kncF:PySem.W.findIn K (.ref cF) "__getattr__" = some none) (kbcF:PySem.W.mroIn K cF (.type "BaseException")=some true) (khcF:PySem.W.hasDictIn K cF=true) (kfcF:PySem.W.findIn K (.ref cF) "__class__" = some (some (.builtin "object.__class__"))) (kmcF:PySem.W.mroIn K cF (.type "object")=some true) (kvcF:PySem.W.kitOne K (.ref cF) (.type "ValueError")=some true) (kxcF:PySem.W.exmOne K (.ref cF) (.ref cP)=some true) (kkcFcF:PySem.W.kitOne K (.ref cF) (.ref cF)=some (cF == cF)) (kkcFcM:PySem.W.kitOne K (.ref cF) (.ref cM)=some (cF == cM)) (kkcFcN:PySem.W.kitOne K (.ref cF) (.ref cN)=some (cF == cN)) (kkcFcS:PySem.W.kitOne K (.ref cF) (.ref cS)=some (cF == cS)) (kkcFcT:PySem.W.kitOne K (.ref cF) (.ref cT)=some (cF == cT)) (kecM:PySem.W.excIn K cM bmV "ValueError.__new__" = true) (kgcM:PySem.W.findIn K (.ref cM) "__getattribute__" = some (some (.builtin "BaseException.__getattribute__"))) (kncM:PySem.W.findIn K (.ref cM) "__getattr__" = some none) (kbcM:PySem.W.mroIn K cM (.type "BaseException")=some true) (khcM:PySem.W.hasDictIn K cM=true) (kfcM:PySem.W.findIn K (.ref cM) "__class__" = some (some (.builtin "object.__class__"))) (kmcM:PySem.W.mroIn K cM (.type "object")=some true) (kvcM:PySem.W.kitOne K (.ref cM) (.type "ValueError")=some true) (kxcM:PySem.W.exmOne K (.ref cM) (.ref cP)=some true) (kkcMcF:PySem.W.kitOne K (.ref cM) (.ref cF)=some (cM == cF)) (kkcMcM:PySem.W.kitOne K (.ref cM) (.ref cM)=some (cM == cM)) (kkcMcN:PySem.W.kitOne K (.ref cM) (.ref cN)=some (cM == cN)) (kkcMcS:PySem.W.kitOne K (.ref cM) (.ref cS)=some (cM == cS)) (kkcMcT:PySem.W.kitOne K (.ref cM) (.ref cT)=some (cM == cT)) (kecN:PySem.W.excIn K cN bmV "ValueError.__new__" = true) (kgcN:PySem.W.findIn K (.ref cN) "__getattribute__" = some (some (.builtin "BaseException.__getattribute__"))) (kncN:PySem.W.findIn K (.ref cN) "__getattr__" = some none) (kbcN:PySem.W.mroIn K cN (.type "BaseException")=some true) (khcN:PySem.W.hasDictIn K cN=true) (kfcN:PySem.W.findIn K (.ref cN) "__class__" = some (some (.builtin "object.__class__"))) (kmcN:PySem.W.mroIn K cN (.type "object")=some true) (kvcN:PySem.W.kitOne K (.ref cN) (.type "ValueError")=some true) (kxcN:PySem.W.exmOne K (.ref cN) (.ref cP)=some true) (kkcNcF:PySem.W.kitOne K (.ref cN) (.ref cF)=some (cN == cF)) (kkcNcM:PySem.W.kitOne K (.ref cN) (.ref cM)=some (cN == cM)) (kkcNcN:PySem.W.kitOne K (.ref cN) (.ref cN)=some (cN == cN)) (kkcNcS:PySem.W.kitOne K (.ref cN) (.ref cS)=some (cN == cS)) (kkcNcT:PySem.W.kitOne K (.ref cN) (.ref cT)=some (cN == cT)) (kecS:PySem.W.excIn K cS bmV "ValueError.__new__" = true) (kgcS:PySem.W.findIn K (.ref cS) "__getattribute__" = some (some (.builtin "BaseException.__getattribute__"))) (kncS:PySem.W.findIn K (.ref cS) "__getattr__" = some none) (kbcS:PySem.W.mroIn K cS (.type "BaseException")=some true) (khcS:PySem.W.hasDictIn K cS=true) (kfcS:PySem.W.findIn K (.ref cS) "__class__" = some (some (.builtin "object.__class__"))) (kmcS:PySem.W.mroIn K cS (.type "object")=some true) (kvcS:PySem.W.kitOne K (.ref cS) (.type "ValueError")=some true) (kxcS:PySem.W.exmOne K (.ref cS) (.ref cP)=some true) (kkcScF:PySem.W.kitOne K (.ref cS) (.ref cF)=some (cS == cF)) (kkcScM:PySem.W.kitOne K (.ref cS) (.ref cM)=some (cS == cM)) (kkcScN:PySem.W.kitOne K (.ref cS) (.ref cN)=some (cS == cN)) (kkcScS:PySem.W.kitOne K (.ref cS) (.ref cS)=some (cS == cS)) (kkcScT:PySem.W.kitOne K (.ref cS) (.ref cT)=some (cS == cT)) (kecT:PySem.W.excIn K cT bmV "ValueError.__new__" = true) (kgcT:PySem.W.findIn K (.ref cT) "__getattribute__" = some (some (.builtin "BaseException.__getattribute__"))) (kncT:PySem.W.findIn K (.ref cT) "__getattr__" = some none) (kbcT:PySem.W.mroIn K cT (.type "BaseException")=some true) (khcT:PySem.W.hasDictIn K cT=true) (kfcT:PySem.W.findIn K (.ref cT) "__class__" = some (some (.builtin "object.__class__"))) (kmcT:PySem.W.mroIn K cT (.type "object")=some true) (kvcT:PySem.W.kitOne K (.ref cT) (.type "ValueError")=some true) (kxcT:PySem.W.exmOne K (.ref cT) (.ref cP)=some true) (kkcTcF:PySem.W.kitOne K (.ref cT) (.ref cF)=some (cT == cF)) (kkcTcM:PySem.W.kitOne K (.ref cT) (.ref cM)=some (cT == cM)) (kkcTcN:PySem.W.kitOne K (.ref cT) (.ref cN)=some (cT == cN)) (kkcTcS:PySem.W.kitOne K (.ref cT) (.ref cS)=some (cT == cS)) (kkcTcT:PySem.W.kitOne K (.ref cT) (.ref cT)=some (cT == cT)) (ksp:PySem.W.specialIn K (.builtin "object.__class__") "__get__" = some (some (.builtin "getset_descriptor.__get__"))) (ktk:PySem.W.takesIn K (.builtin "object.__class__")=some true) (knd:[cF,cM,cN,cS,cT].Nodup):xcOk K [cF,cM,cN,cS,cT] cP=true:=by
 unfold xcOk
 simp only [List.all_cons,List.all_nil,kecF,kgcF,kncF,kbcF,khcF,kfcF,kmcF,kvcF,kxcF,kkcFcF,kkcFcM,kkcFcN,kkcFcS,kkcFcT,kecM,kgcM,kncM,kbcM,khcM,kfcM,kmcM,kvcM,kxcM,kkcMcF,kkcMcM,kkcMcN,kkcMcS,kkcMcT,kecN,kgcN,kncN,kbcN,khcN,kfcN,kmcN,kvcN,kxcN,kkcNcF,kkcNcM,kkcNcN,kkcNcS,kkcNcT,kecS,kgcS,kncS,kbcS,khcS,kfcS,kmcS,kvcS,kxcS,kkcScF,kkcScM,kkcScN,kkcScS,kkcScT,kecT,kgcT,kncT,kbcT,khcT,kfcT,kmcT,kvcT,kxcT,kkcTcF,kkcTcM,kkcTcN,kkcTcS,kkcTcT,ksp,ktk,beq_self_eq_true,Bool.and_true,Bool.true_and,Bool.and_self,decide_eq_true knd]
theorem all_mk {l:PySem.W.OpenLaw}{w:World}{K:PySem.W.Frag}{h:Heap}{mg:Str→Option Value}{fa f1 f2 f3 f4 f5 f6 f7 f8 f9 f10 f11 f12 f13 f14 f15 f16 f17 f18 f19 f20 f21 f22 f23 f24 f25 f26 f27 f28 f29 f30:Addr} (X:K.In h) (G:h.Ns mainGlobals mg) (hfa:mg "law" = some (.ref fa))
  {od1 an1 od2 an2 od3 an3 od4 an4 od5 an5 od6 an6 od7 an7 od8 an8 od9 an9 od10 an10 od11 an11 od12 an12 od13 an13 od14 an14 od15 an15 od16 an16 od17 an17 od18 an18 od19 an19 od20 an20 od21 an21 od22 an22 od23 an23 od24 an24 od25 an25 od26 an26 od27 an27 od28 an28 od29 an29 od30 an30:Option Addr}{sl1 sl2 sl3 sl4 sl5 sl6 sl7 sl8 sl9 sl10 sl11 sl12 sl13 sl14 sl15 sl16 sl17 sl18 sl19 sl20 sl21 sl22 sl23 sl24 sl25 sl26 sl27 sl28 sl29 sl30:Array (Option Value)}{oc1 kV1 dc1 pm1 cd1 ct1 oc2 kV2 dc2 pm2 cd2 ct2 oc3 kV3 dc3 pm3 cd3 ct3 oc4 kV4 dc4 pm4 cd4 ct4 oc5 kV5 dc5 pm5 cd5 ct5 oc6 kV6 dc6 pm6 cd6 ct6 oc7 kV7 dc7 pm7 cd7 ct7 oc8 kV8 dc8 pm8 cd8 ct8 oc9 kV9 dc9 pm9 cd9 ct9 oc10 kV10 dc10 pm10 cd10 ct10 oc11 kV11 dc11 pm11 cd11 ct11 oc12 kV12 dc12 pm12 cd12 ct12 oc13 kV13 dc13 pm13 cd13 ct13 oc14 kV14 dc14 pm14 cd14 ct14 oc15 kV15 dc15 pm15 cd15 ct15 oc16 kV16 dc16 pm16 cd16 ct16 oc17 kV17 dc17 pm17 cd17 ct17 oc18 kV18 dc18 pm18 cd18 ct18 oc19 kV19 dc19 pm19 cd19 ct19 oc20 kV20 dc20 pm20 cd20 ct20 oc21 kV21 dc21 pm21 cd21 ct21 oc22 kV22 dc22 pm22 cd22 ct22 oc23 kV23 dc23 pm23 cd23 ct23 oc24 kV24 dc24 pm24 cd24 ct24 oc25 kV25 dc25 pm25 cd25 ct25 oc26 kV26 dc26 pm26 cd26 ct26 oc27 kV27 dc27 pm27 cd27 ct27 oc28 kV28 dc28 pm28 cd28 ct28 oc29 kV29 dc29 pm29 cd29 ct29 oc30 kV30 dc30 pm30 cd30 ct30:Value}{fq:Addr}{dq:Option Addr}{nq:Nat}{sq:Array (Option Value)}{t1 t2 t3 t4 t5 t6 t7:Tok}{t8:Tok}{cF cM cN cS cT cP:Addr}
  (a1:PySem.W.nsIn K mainGlobals "_law_cell_at" = some (some (.ref f1))) (l1:K.lookup f1=some ⟨oc1,od1,.func (PySem.W.fnOf "_law_cell_at" "_law_cell_at" (defArgs s__law_cell_at) (defBody s__law_cell_at) (defScope s__law_cell_at) .none kV1 dc1 pm1 an1 cd1 ct1),sl1⟩) (c1:PySem.W.codeIn K cd1 "_law_cell_at" = true) (k1:PySem.W.keepIn K (.ref f1)=true)
  (a2:PySem.W.nsIn K mainGlobals "_law_many" = some (some (.ref f2))) (l2:K.lookup f2=some ⟨oc2,od2,.func (PySem.W.fnOf "_law_many" "_law_many" (defArgs s__law_many) (defBody s__law_many) (defScope s__law_many) .none kV2 dc2 pm2 an2 cd2 ct2),sl2⟩) (c2:PySem.W.codeIn K cd2 "_law_many" = true) (k2:PySem.W.keepIn K (.ref f2)=true)
  (a3:PySem.W.nsIn K mainGlobals "_law_stir" = some (some (.ref f3))) (l3:K.lookup f3=some ⟨oc3,od3,.func (PySem.W.fnOf "_law_stir" "_law_stir" (defArgs s__law_stir) (defBody s__law_stir) (defScope s__law_stir) .none kV3 dc3 pm3 an3 cd3 ct3),sl3⟩) (c3:PySem.W.codeIn K cd3 "_law_stir" = true) (k3:PySem.W.keepIn K (.ref f3)=true)
  (a4:PySem.W.nsIn K mainGlobals "_law_in_order" = some (some (.ref f4))) (l4:K.lookup f4=some ⟨oc4,od4,.func (PySem.W.fnOf "_law_in_order" "_law_in_order" (defArgs s__law_in_order) (defBody s__law_in_order) (defScope s__law_in_order) .none kV4 dc4 pm4 an4 cd4 ct4),sl4⟩) (c4:PySem.W.codeIn K cd4 "_law_in_order" = true) (k4:PySem.W.keepIn K (.ref f4)=true)
  (a5:PySem.W.nsIn K mainGlobals "_law_parts" = some (some (.ref f5))) (l5:K.lookup f5=some ⟨oc5,od5,.func (PySem.W.fnOf "_law_parts" "_law_parts" (defArgs s__law_parts) (defBody s__law_parts) (defScope s__law_parts) .none kV5 dc5 pm5 an5 cd5 ct5),sl5⟩) (c5:PySem.W.codeIn K cd5 "_law_parts" = true) (k5:PySem.W.keepIn K (.ref f5)=true)
  (a6:PySem.W.nsIn K mainGlobals "_law_taken" = some (some (.ref f6))) (l6:K.lookup f6=some ⟨oc6,od6,.func (PySem.W.fnOf "_law_taken" "_law_taken" (defArgs s__law_taken) (defBody s__law_taken) (defScope s__law_taken) .none kV6 dc6 pm6 an6 cd6 ct6),sl6⟩) (c6:PySem.W.codeIn K cd6 "_law_taken" = true) (k6:PySem.W.keepIn K (.ref f6)=true)
  (a7:PySem.W.nsIn K mainGlobals "_law_family" = some (some (.ref f7))) (l7:K.lookup f7=some ⟨oc7,od7,.func (PySem.W.fnOf "_law_family" "_law_family" (defArgs s__law_family) (defBody s__law_family) (defScope s__law_family) .none kV7 dc7 pm7 an7 cd7 ct7),sl7⟩) (c7:PySem.W.codeIn K cd7 "_law_family" = true) (k7:PySem.W.keepIn K (.ref f7)=true)
  (a8:PySem.W.nsIn K mainGlobals "_law_text" = some (some (.ref f8))) (l8:K.lookup f8=some ⟨oc8,od8,.func (PySem.W.fnOf "_law_text" "_law_text" (defArgs s__law_text) (defBody s__law_text) (defScope s__law_text) .none kV8 dc8 pm8 an8 cd8 ct8),sl8⟩) (c8:PySem.W.codeIn K cd8 "_law_text" = true) (k8:PySem.W.keepIn K (.ref f8)=true)
  (a9:PySem.W.nsIn K mainGlobals "_law_changed" = some (some (.ref f9))) (l9:K.lookup f9=some ⟨oc9,od9,.func (PySem.W.fnOf "_law_changed" "_law_changed" (defArgs s__law_changed) (defBody s__law_changed) (defScope s__law_changed) .none kV9 dc9 pm9 an9 cd9 ct9),sl9⟩) (c9:PySem.W.codeIn K cd9 "_law_changed" = true) (k9:PySem.W.keepIn K (.ref f9)=true)
  (a10:PySem.W.nsIn K mainGlobals "_law_member" = some (some (.ref f10))) (l10:K.lookup f10=some ⟨oc10,od10,.func (PySem.W.fnOf "_law_member" "_law_member" (defArgs s__law_member) (defBody s__law_member) (defScope s__law_member) .none kV10 dc10 pm10 an10 cd10 ct10),sl10⟩) (c10:PySem.W.codeIn K cd10 "_law_member" = true) (k10:PySem.W.keepIn K (.ref f10)=true)
  (a11:PySem.W.nsIn K mainGlobals "_law_written" = some (some (.ref f11))) (l11:K.lookup f11=some ⟨oc11,od11,.func (PySem.W.fnOf "_law_written" "_law_written" (defArgs s__law_written) (defBody s__law_written) (defScope s__law_written) .none kV11 dc11 pm11 an11 cd11 ct11),sl11⟩) (c11:PySem.W.codeIn K cd11 "_law_written" = true) (k11:PySem.W.keepIn K (.ref f11)=true)
  (a12:PySem.W.nsIn K mainGlobals "_law_which" = some (some (.ref f12))) (l12:K.lookup f12=some ⟨oc12,od12,.func (PySem.W.fnOf "_law_which" "_law_which" (defArgs s__law_which) (defBody s__law_which) (defScope s__law_which) .none kV12 dc12 pm12 an12 cd12 ct12),sl12⟩) (c12:PySem.W.codeIn K cd12 "_law_which" = true) (k12:PySem.W.keepIn K (.ref f12)=true)
  (a13:PySem.W.nsIn K mainGlobals "head_of" = some (some (.ref f13))) (l13:K.lookup f13=some ⟨oc13,od13,.func (PySem.W.fnOf "head_of" "head_of" (defArgs s_head_of) (defBody s_head_of) (defScope s_head_of) .none kV13 dc13 pm13 an13 cd13 ct13),sl13⟩) (c13:PySem.W.codeIn K cd13 "head_of" = true) (k13:PySem.W.keepIn K (.ref f13)=true)
  (a14:PySem.W.nsIn K mainGlobals "number_at" = some (some (.ref f14))) (l14:K.lookup f14=some ⟨oc14,od14,.func (PySem.W.fnOf "number_at" "number_at" (defArgs s_number_at) (defBody s_number_at) (defScope s_number_at) .none kV14 dc14 pm14 an14 cd14 ct14),sl14⟩) (c14:PySem.W.codeIn K cd14 "number_at" = true) (k14:PySem.W.keepIn K (.ref f14)=true)
  (a15:PySem.W.nsIn K mainGlobals "code_of" = some (some (.ref f15))) (l15:K.lookup f15=some ⟨oc15,od15,.func (PySem.W.fnOf "code_of" "code_of" (defArgs s_code_of) (defBody s_code_of) (defScope s_code_of) .none kV15 dc15 pm15 an15 cd15 ct15),sl15⟩) (c15:PySem.W.codeIn K cd15 "code_of" = true) (k15:PySem.W.keepIn K (.ref f15)=true)
  (a16:PySem.W.nsIn K mainGlobals "set_of" = some (some (.ref f16))) (l16:K.lookup f16=some ⟨oc16,od16,.func (PySem.W.fnOf "set_of" "set_of" (defArgs s_set_of) (defBody s_set_of) (defScope s_set_of) .none kV16 dc16 pm16 an16 cd16 ct16),sl16⟩) (c16:PySem.W.codeIn K cd16 "set_of" = true) (k16:PySem.W.keepIn K (.ref f16)=true)
  (a17:PySem.W.nsIn K mainGlobals "place_in_order" = some (some (.ref f17))) (l17:K.lookup f17=some ⟨oc17,od17,.func (PySem.W.fnOf "place_in_order" "place_in_order" (defArgs s_place_in_order) (defBody s_place_in_order) (defScope s_place_in_order) .none kV17 dc17 pm17 an17 cd17 ct17),sl17⟩) (c17:PySem.W.codeIn K cd17 "place_in_order" = true) (k17:PySem.W.keepIn K (.ref f17)=true)
  (a18:PySem.W.nsIn K mainGlobals "told" = some (some (.ref f18))) (l18:K.lookup f18=some ⟨oc18,od18,.func (PySem.W.fnOf "told" "told" (defArgs s_told) (defBody s_told) (defScope s_told) .none kV18 dc18 pm18 an18 cd18 ct18),sl18⟩) (c18:PySem.W.codeIn K cd18 "told" = true) (k18:PySem.W.keepIn K (.ref f18)=true)
  (a19:PySem.W.nsIn K mainGlobals "sets_of" = some (some (.ref f19))) (l19:K.lookup f19=some ⟨oc19,od19,.func (PySem.W.fnOf "sets_of" "sets_of" (defArgs s_sets_of) (defBody s_sets_of) (defScope s_sets_of) .none kV19 dc19 pm19 an19 cd19 ct19),sl19⟩) (c19:PySem.W.codeIn K cd19 "sets_of" = true) (k19:PySem.W.keepIn K (.ref f19)=true)
  (a20:PySem.W.nsIn K mainGlobals "all_sets" = some (some (.ref f20))) (l20:K.lookup f20=some ⟨oc20,od20,.func (PySem.W.fnOf "all_sets" "all_sets" (defArgs s_all_sets) (defBody s_all_sets) (defScope s_all_sets) .none kV20 dc20 pm20 an20 cd20 ct20),sl20⟩) (c20:PySem.W.codeIn K cd20 "all_sets" = true) (k20:PySem.W.keepIn K (.ref f20)=true)
  (a21:PySem.W.nsIn K mainGlobals "line_of" = some (some (.ref f21))) (l21:K.lookup f21=some ⟨oc21,od21,.func (PySem.W.fnOf "line_of" "line_of" (defArgs s_line_of) (defBody s_line_of) (defScope s_line_of) .none kV21 dc21 pm21 an21 cd21 ct21),sl21⟩) (c21:PySem.W.codeIn K cd21 "line_of" = true) (k21:PySem.W.keepIn K (.ref f21)=true)
  (a22:PySem.W.nsIn K mainGlobals "is_set" = some (some (.ref f22))) (l22:K.lookup f22=some ⟨oc22,od22,.func (PySem.W.fnOf "is_set" "is_set" (defArgs s_is_set) (defBody s_is_set) (defScope s_is_set) .none kV22 dc22 pm22 an22 cd22 ct22),sl22⟩) (c22:PySem.W.codeIn K cd22 "is_set" = true) (k22:PySem.W.keepIn K (.ref f22)=true)
  (a23:PySem.W.nsIn K mainGlobals "codes_of" = some (some (.ref f23))) (l23:K.lookup f23=some ⟨oc23,od23,.func (PySem.W.fnOf "codes_of" "codes_of" (defArgs s_codes_of) (defBody s_codes_of) (defScope s_codes_of) .none kV23 dc23 pm23 an23 cd23 ct23),sl23⟩) (c23:PySem.W.codeIn K cd23 "codes_of" = true) (k23:PySem.W.keepIn K (.ref f23)=true)
  (a24:PySem.W.nsIn K mainGlobals "is_family" = some (some (.ref f24))) (l24:K.lookup f24=some ⟨oc24,od24,.func (PySem.W.fnOf "is_family" "is_family" (defArgs s_is_family) (defBody s_is_family) (defScope s_is_family) .none kV24 dc24 pm24 an24 cd24 ct24),sl24⟩) (c24:PySem.W.codeIn K cd24 "is_family" = true) (k24:PySem.W.keepIn K (.ref f24)=true)
  (a25:PySem.W.nsIn K mainGlobals "check_family" = some (some (.ref f25))) (l25:K.lookup f25=some ⟨oc25,od25,.func (PySem.W.fnOf "check_family" "check_family" (defArgs s_check_family) (defBody s_check_family) (defScope s_check_family) .none kV25 dc25 pm25 an25 cd25 ct25),sl25⟩) (c25:PySem.W.codeIn K cd25 "check_family" = true) (k25:PySem.W.keepIn K (.ref f25)=true)
  (a26:PySem.W.nsIn K mainGlobals "ordered" = some (some (.ref f26))) (l26:K.lookup f26=some ⟨oc26,od26,.func (PySem.W.fnOf "ordered" "ordered" (defArgs s_ordered) (defBody s_ordered) (defScope s_ordered) .none kV26 dc26 pm26 an26 cd26 ct26),sl26⟩) (c26:PySem.W.codeIn K cd26 "ordered" = true) (k26:PySem.W.keepIn K (.ref f26)=true)
  (a27:PySem.W.nsIn K mainGlobals "shown" = some (some (.ref f27))) (l27:K.lookup f27=some ⟨oc27,od27,.func (PySem.W.fnOf "shown" "shown" (defArgs s_shown) (defBody s_shown) (defScope s_shown) .none kV27 dc27 pm27 an27 cd27 ct27),sl27⟩) (c27:PySem.W.codeIn K cd27 "shown" = true) (k27:PySem.W.keepIn K (.ref f27)=true)
  (a28:PySem.W.nsIn K mainGlobals "read" = some (some (.ref f28))) (l28:K.lookup f28=some ⟨oc28,od28,.func (PySem.W.fnOf "read" "read" (defArgs s_read) (defBody s_read) (defScope s_read) .none kV28 dc28 pm28 an28 cd28 ct28),sl28⟩) (c28:PySem.W.codeIn K cd28 "read" = true) (k28:PySem.W.keepIn K (.ref f28)=true)
  (a29:PySem.W.nsIn K mainGlobals "_law_asked" = some (some (.ref f29))) (l29:K.lookup f29=some ⟨oc29,od29,.func (PySem.W.fnOf "_law_asked" "_law_asked" (defArgs s__law_asked) (defBody s__law_asked) (defScope s__law_asked) .none kV29 dc29 pm29 an29 cd29 ct29),sl29⟩) (c29:PySem.W.codeIn K cd29 "_law_asked" = true) (k29:PySem.W.keepIn K (.ref f29)=true)
  (a30:PySem.W.nsIn K mainGlobals "law" = some (some (.ref f30))) (l30:K.lookup f30=some ⟨oc30,od30,.func (PySem.W.fnOf "law" "law" (defArgs s_law) (defBody s_law) (defScope s_law) .none kV30 dc30 pm30 an30 cd30 ct30),sl30⟩) (c30:PySem.W.codeIn K cd30 "law" = true) (k30:PySem.W.keepIn K (.ref f30)=true)
  (z0:PySem.W.nsIn K mainGlobals "len" = some none) (z1:PySem.W.nsIn K mainGlobals "sorted" = some none) (z2:PySem.W.nsIn K mainGlobals "list" = some none) (z3:PySem.W.nsIn K mainGlobals "range" = some none) (z4:PySem.W.nsIn K mainGlobals "enumerate" = some none) (z5:PySem.W.nsIn K mainGlobals "str" = some none) (z6:PySem.W.nsIn K mainGlobals "int" = some none) (z7:PySem.W.nsIn K mainGlobals "set" = some none) (z8:PySem.W.nsIn K mainGlobals "max" = some none) (z9:PySem.W.nsIn K mainGlobals "isinstance" = some none) (z10:PySem.W.nsIn K mainGlobals "ValueError" = some none) (z11:PySem.W.nsIn K mainGlobals "sum" = some none) (gq:PySem.W.nsIn K mainGlobals "POWERS" = some (some (.ref fq))) (gl:K.lookup fq=some ⟨.type "tuple",dq,.seq #[.int 1 t1,.int 2 t2,.int 4 t3,.int 8 t4,.int 16 t5,.int 32 t6,.int 64 t7] nq,sq⟩) (g6:PySem.W.nsIn K mainGlobals "MOST_THINGS" = some (some (.int 6 t8))) (ncF:PySem.W.nsIn K mainGlobals "NoFamily" = some (some (.ref cF))) (ncM:PySem.W.nsIn K mainGlobals "NoMember" = some (some (.ref cM))) (ncN:PySem.W.nsIn K mainGlobals "NoNote" = some (some (.ref cN))) (ncS:PySem.W.nsIn K mainGlobals "NoSet" = some (some (.ref cS))) (ncT:PySem.W.nsIn K mainGlobals "NoThing" = some (some (.ref cT))) (ncP:PySem.W.nsIn K mainGlobals "PickError" = some (some (.ref cP))) (xo:xcOk K [cF,cM,cN,cS,cT] cP=true) :
  ∃ fd:FuncData,(∀ (s:Shared) (v:Value),BindsTo s fd ⟨[v],[]⟩ [("script",v)])∧∀ base:Heap,K.In base→base.Ns mainGlobals mg→FnOk l.prog w K mg base CX0 9 fa fd ["script"] (spN K R_law):=by
 have e:=hfa.symm.trans (PySem.W.mg_of X G a30)
 cases e
 have F1:=fun_mk (st:=s__law_cell_at) l1 c1 k1
 have F2:=fun_mk (st:=s__law_many) l2 c2 k2
 have F3:=fun_mk (st:=s__law_stir) l3 c3 k3
 have F4:=fun_mk (st:=s__law_in_order) l4 c4 k4
 have F5:=fun_mk (st:=s__law_parts) l5 c5 k5
 have F6:=fun_mk (st:=s__law_taken) l6 c6 k6
 have F7:=fun_mk (st:=s__law_family) l7 c7 k7
 have F8:=fun_mk (st:=s__law_text) l8 c8 k8
 have F9:=fun_mk (st:=s__law_changed) l9 c9 k9
 have F10:=fun_mk (st:=s__law_member) l10 c10 k10
 have F11:=fun_mk (st:=s__law_written) l11 c11 k11
 have F12:=fun_mk (st:=s__law_which) l12 c12 k12
 have F13:=fun_mk (st:=s_head_of) l13 c13 k13
 have F14:=fun_mk (st:=s_number_at) l14 c14 k14
 have F15:=fun_mk (st:=s_code_of) l15 c15 k15
 have F16:=fun_mk (st:=s_set_of) l16 c16 k16
 have F17:=fun_mk (st:=s_place_in_order) l17 c17 k17
 have F18:=fun_mk (st:=s_told) l18 c18 k18
 have F19:=fun_mk (st:=s_sets_of) l19 c19 k19
 have F20:=fun_mk (st:=s_all_sets) l20 c20 k20
 have F21:=fun_mk (st:=s_line_of) l21 c21 k21
 have F22:=fun_mk (st:=s_is_set) l22 c22 k22
 have F23:=fun_mk (st:=s_codes_of) l23 c23 k23
 have F24:=fun_mk (st:=s_is_family) l24 c24 k24
 have F25:=fun_mk (st:=s_check_family) l25 c25 k25
 have F26:=fun_mk (st:=s_ordered) l26 c26 k26
 have F27:=fun_mk (st:=s_shown) l27 c27 k27
 have F28:=fun_mk (st:=s_read) l28 c28 k28
 have F29:=fun_mk (st:=s__law_asked) l29 c29 k29
 have F30:=fun_mk (st:=s_law) l30 c30 k30
 have mP:PowOk K mg:=pow_mk gl (PySem.W.mg_of X G gq)
 have m6:Six mg:=⟨t8,PySem.W.mg_of X G g6⟩
 have xs:XS K mg cF cM cN cS cT cP:=⟨PySem.W.mg_of X G ncF,PySem.W.mg_of X G ncM,PySem.W.mg_of X G ncN,PySem.W.mg_of X G ncS,PySem.W.mg_of X G ncT,PySem.W.mg_of X G ncP,xo⟩
 refine ⟨PySem.W.fnOf "law" "law" (defArgs s_law) (defBody s_law) (defScope s_law) .none kV30 dc30 pm30 an30 cd30 ct30,fun s v=>.of_eq rfl,fun base _ _=>?_⟩
 have C1:=cal_of F1 (ok_cell (P:=l.prog) (w:=w) (mg:=mg) (base:=base) F1 (PySem.W.mg_none_of X G z0)) (PySem.W.mg_of X G a1) fun _ _ _ _ _ _ us hl=>bl2 (fun _ _=>rfl) hl
 have C2:=cal_of F2 (ok_many (P:=l.prog) (w:=w) (mg:=mg) (base:=base) F2 C1) (PySem.W.mg_of X G a2) fun _ _ _ _ _ _ us hl=>bl2 (fun _ _=>rfl) hl
 have C3:=cal_of F3 (ok_stir (P:=l.prog) (w:=w) (mg:=mg) (base:=base) F3 ) (PySem.W.mg_of X G a3) fun _ _ _ _ _ _ us hl=>bl1 (fun _=>rfl) hl
 have C4:=cal_of F4 (ok_inord (P:=l.prog) (w:=w) (mg:=mg) (base:=base) F4 (PySem.W.mg_none_of X G z1) (PySem.W.mg_none_of X G z0) (PySem.W.mg_none_of X G z2) (PySem.W.mg_none_of X G z3)) (PySem.W.mg_of X G a4) fun _ _ _ _ _ _ us hl=>bl1 (fun _=>rfl) hl
 have C5:=cal_of F5 (ok_parts (P:=l.prog) (w:=w) (mg:=mg) (base:=base) F5 C4) (PySem.W.mg_of X G a5) fun _ _ _ _ _ _ us hl=>bl1 (fun _=>rfl) hl
 have C6:=cal_of F6 (ok_taken (P:=l.prog) (w:=w) (mg:=mg) (base:=base) F6 (PySem.W.mg_none_of X G z0)) (PySem.W.mg_of X G a6) fun _ _ _ _ _ _ us hl=>bl4 (fun _ _ _ _=>rfl) hl
 have C7:=calX_of F7 (ok_family (P:=l.prog) (w:=w) (mg:=mg) (base:=base) F7 C1 C3 C5 C6 (PySem.W.mg_none_of X G z0) (PySem.W.mg_none_of X G z2) (PySem.W.mg_none_of X G z3) (PySem.W.mg_none_of X G z4)) (PySem.W.mg_of X G a7) fun _ _ _ _ _ _ us hl=>bl3 (fun _ _ _=>rfl) hl
 have C8:=cal_of F8 (ok_ltext (P:=l.prog) (w:=w) (mg:=mg) (base:=base) F8 C4 (PySem.W.mg_none_of X G z5)) (PySem.W.mg_of X G a8) fun _ _ _ _ _ _ us hl=>bl2 (fun _ _=>rfl) hl
 have C9:=cal_of F9 (ok_changed (P:=l.prog) (w:=w) (mg:=mg) (base:=base) F9 (PySem.W.mg_none_of X G z0)) (PySem.W.mg_of X G a9) fun _ _ _ _ _ _ us hl=>bl2 (fun _ _=>rfl) hl
 have C10:=cal_of F10 (ok_member (P:=l.prog) (w:=w) (mg:=mg) (base:=base) F10 (PySem.W.mg_none_of X G z6)) (PySem.W.mg_of X G a10) fun _ _ _ _ _ _ us hl=>bl1 (fun _=>rfl) hl
 have C11:=cal_of F11 (ok_written (P:=l.prog) (w:=w) (mg:=mg) (base:=base) F11 C10 (PySem.W.mg_none_of X G z4) (PySem.W.mg_none_of X G z0) (PySem.W.mg_none_of X G z1) (PySem.W.mg_none_of X G z7) (PySem.W.mg_none_of X G z8)) (PySem.W.mg_of X G a11) fun _ _ _ _ _ _ us hl=>bl1 (fun _=>rfl) hl
 have C12:=calU_of F12 (ok_which (P:=l.prog) (w:=w) (mg:=mg) (base:=base) F12 xs (PySem.W.mg_none_of X G z9) (PySem.W.mg_none_of X G z10)) (PySem.W.mg_of X G a12) fun _ _ _ _ _ _ us hl=>bl1 (fun _=>rfl) hl
 have C13:=cal_of F13 (ok_headof (P:=l.prog) (w:=w) (mg:=mg) (base:=base) F13 ) (PySem.W.mg_of X G a13) fun _ _ _ _ _ _ us hl=>bl1 (fun _=>rfl) hl
 have C14:=calE_of F14 (ex_numat (P:=l.prog) (w:=w) (mg:=mg) (base:=base) F14 C13 m6 (PySem.W.mg_none_of X G z3) xs.cl.2.2.1) (PySem.W.mg_of X G a14) fun _ _ _ _ _ _ us hl=>bl1 (fun _=>rfl) hl
 have C15:=cal_of F14 (ok_numat (P:=l.prog) (w:=w) (mg:=mg) (base:=base) F14 C13 m6 (PySem.W.mg_none_of X G z3)) (PySem.W.mg_of X G a14) fun _ _ _ _ _ _ us hl=>bl1 (fun _=>rfl) hl
 have C16:=cal_of F15 (ok_code_of (P:=l.prog) (w:=w) (mg:=mg) (base:=base) F15 (PySem.W.mg_none_of X G z11) mP) (PySem.W.mg_of X G a15) fun _ _ _ _ _ _ us hl=>bl1 (fun _=>rfl) hl
 have C17:=cal_of F16 (ok_set_of (P:=l.prog) (w:=w) (mg:=mg) (base:=base) F16 mP (PySem.W.mg_none_of X G z4)) (PySem.W.mg_of X G a16) fun _ _ _ _ _ _ us hl=>bl1 (fun _=>rfl) hl
 have C18:=cal_of F17 (ok_place (P:=l.prog) (w:=w) (mg:=mg) (base:=base) F17 (PySem.W.mg_none_of X G z0)) (PySem.W.mg_of X G a17) fun _ _ _ _ _ _ us hl=>bl1 (fun _=>rfl) hl
 have C19:=cal_of F18 (ok_told (P:=l.prog) (w:=w) (mg:=mg) (base:=base) F18 C17 C18 (PySem.W.mg_none_of X G z1) (PySem.W.mg_none_of X G z7)) (PySem.W.mg_of X G a18) fun _ _ _ _ _ _ us hl=>bl1 (fun _=>rfl) hl
 have C20:=cal_of F19 (ok_sets_of (P:=l.prog) (w:=w) (mg:=mg) (base:=base) F19 C16 C19 (PySem.W.mg_none_of X G z3)) (PySem.W.mg_of X G a19) fun _ _ _ _ _ _ us hl=>bl1 (fun _=>rfl) hl
 have C21:=cal_of F20 (ok_all_sets (P:=l.prog) (w:=w) (mg:=mg) (base:=base) F20 C20 (PySem.W.mg_none_of X G z2) (PySem.W.mg_none_of X G z3)) (PySem.W.mg_of X G a20) fun _ _ _ _ _ _ us hl=>bl1 (fun _=>rfl) hl
 have C22:=cal_of F21 (ok_lineof (P:=l.prog) (w:=w) (mg:=mg) (base:=base) F21 (PySem.W.mg_none_of X G z5)) (PySem.W.mg_of X G a21) fun _ _ _ _ _ _ us hl=>bl1 (fun _=>rfl) hl
 have C23:=cal_of F22 (ok_is_set (P:=l.prog) (w:=w) (mg:=mg) (base:=base) F22 ) (PySem.W.mg_of X G a22) fun _ _ _ _ _ _ us hl=>bl2 (fun _ _=>rfl) hl
 have C24:=cal_of F23 (ok_codes_of (P:=l.prog) (w:=w) (mg:=mg) (base:=base) F23 C16) (PySem.W.mg_of X G a23) fun _ _ _ _ _ _ us hl=>bl1 (fun _=>rfl) hl
 have C25:=cal_of F24 (ok_is_family (P:=l.prog) (w:=w) (mg:=mg) (base:=base) F24 C23 C24 m6 (PySem.W.mg_none_of X G z0) (PySem.W.mg_none_of X G z7)) (PySem.W.mg_of X G a24) fun _ _ _ _ _ _ us hl=>bl2 (fun _ _=>rfl) hl
 have C26:=cal_of F25 (ok_check_family (P:=l.prog) (w:=w) (mg:=mg) (base:=base) F25 C25) (PySem.W.mg_of X G a25) fun _ _ _ _ _ _ us hl=>bl2 (fun _ _=>rfl) hl
 have C27:=cal_of F26 (ok_ordered (P:=l.prog) (w:=w) (mg:=mg) (base:=base) F26 C26 C24 C19) (PySem.W.mg_of X G a26) fun _ _ _ _ _ _ us hl=>bl2 (fun _ _=>rfl) hl
 have C28:=cal_of F27 (ok_shown (P:=l.prog) (w:=w) (mg:=mg) (base:=base) F27 C27 C13 C22) (PySem.W.mg_of X G a27) fun _ _ _ _ _ _ us hl=>bl2 (fun _ _=>rfl) hl
 have C29:=calE_of F28 (ex_read (P:=l.prog) (w:=w) (mg:=mg) (base:=base) F28 C14 C15 C21 C22 C28 xs.cl.2.2.1) (PySem.W.mg_of X G a28) fun _ _ _ _ _ _ us hl=>bl1 (fun _=>rfl) hl
 have C30:=calF_of F28 (ok_readF (P:=l.prog) (w:=w) (mg:=mg) (base:=base) F28 C15 C21 C22 C28) (PySem.W.mg_of X G a28) fun _ _ _ _ _ _ us hl=>bl1 (fun _=>rfl) hl
 have C31:=cal_of F29 (ok_asked (P:=l.prog) (w:=w) (mg:=mg) (base:=base) F29 xs C12 C29 C30) (PySem.W.mg_of X G a29) fun _ _ _ _ _ _ us hl=>bl1 (fun _=>rfl) hl
 exact ok_law F30 C1 C2 C7 C8 C9 C11 C31 (PySem.W.mg_none_of X G z3)
theorem law_sp (K:PySem.W.Frag) (H:Hp) (a:Addr) (ns:List Int) (hl:ns.length≤63) (hS:SqL K H a (ns.map V.int)):spN K R_law [.ref a] H (fun v _=>v = .bl true) fun _ _ _=>False:=by
 refine ⟨[.scr ns],.bl true,Reps.one ?_,⟨ns,hl,rfl,rfl⟩,fun v H' _ rv=>?_⟩
 ·simp only [Rep]
  exact ⟨a,rfl,hS.elim (fun q=>.inl ⟨fun z=>z,q⟩) .inr⟩
 ·simpa only [Rep] using rv
theorem walk {l:PySem.W.OpenLaw}{q:Program}{loose:List Str}{XP:(Str→Option Value)→Heap→Prop}{YP:World→Heap→Prop}{d:DefRec}{K:Params→PySem.W.Frag} (hn:l.most=some 63) (hdf:d.params.defaults=[])
  (hY:∀ (w:World) (h:Heap),YP w h→(K w.params).In h)
  (F:∀ (w:World) (mg:Str→Option Value) (fa:Addr) (h:Heap),(K w.params).In h→h.Ns mainGlobals mg→mg d.name=some (.ref fa) →
   ∃ fd:FuncData,(∀ (s:Shared) (u:Value),BindsTo s fd ⟨[u],[]⟩ [("script",u)])∧∀ base:Heap,(K w.params).In base→base.Ns mainGlobals mg→FnOk l.prog w (K w.params) mg base CX0 9 fa fd ["script"] (spN (K w.params) R_law)) :
  PySem.W.WalkO q loose XP YP l.row.toRowW d [] (fun f vs=>PySem.call f vs):=
 L2.walk_of (n:=63) (k:=9) (x:="script") (CX:=fun _=>CX0) (sp:=fun w=>spN (K w.params) R_law) hn (by decide) hdf ⟨rfl,by decide,by decide⟩ hY F (fun w H a ns hl _ hS=>law_sp (K w.params) H a ns hl hS) fun _ _ _ _ _ z=>z
end R
namespace R
open PySem PySem.W PyProof.Rows
theorem walkX_of {q:Program}{loose:List Str}{XP:(Str→Option Value)→Heap→Prop}{K:Params→Frag}{as:List Addr}{n t:Nat}{r:RowW}{d:DefRec}{kwd:List (Str × Expr)}{run:Value→List Value→Sem Value}
  (e:∀ P,as=(K P).map (·.1)) (W:WalkO q loose XP (fun w h=>(K w.params).In h) r d kwd run):WalkX q loose XP (X.obsZ as) (X.valZ K n t) r d kwd run:=by
 intro w s₀ s₁ mg mb G y a o pm cd doc dV kV h1 h2 h3 h4 h5 h6 args vals as' L p1 p2 p3 p4 p5
 have f:=X.z_facts e y
 exact W w s₀ s₁ mg mb G (InK.keeps w s₀.heap s₁.heap f.2.1 (Laid.keeps L)) a o pm cd doc dV kV h1 h2 h3 h4 h5 h6 args vals as' p1 p2 p3 p4 p5
end R
open PySem PySem.W PyProof.Rows
set_option maxRecDepth 100000 in
set_option maxHeartbeats 0 in
theorem PySem.Challenge.cw_pickhouse_k19_texts_refused_holds : PySem.Challenge.rw_pickhouse_k19_texts_refused.Holds := by
 w_on;o_law;z_head;(case hw=>w_witness2)
 refine R.walkX_of (fun _=>by kernel_rfl) ?_
 refine R.walk (l:=PySem.Challenge.rw_pickhouse_k19_texts_refused) rfl rfl (fun w h Y=>Y) ?F
 case F=>
  intro w mg fa h KX G hmg
  refine' R.all_mk KX G hmg ?a1 ?l1 ?c1 ?k1 ?a2 ?l2 ?c2 ?k2 ?a3 ?l3 ?c3 ?k3 ?a4 ?l4 ?c4 ?k4 ?a5 ?l5 ?c5 ?k5 ?a6 ?l6 ?c6 ?k6 ?a7 ?l7 ?c7 ?k7 ?a8 ?l8 ?c8 ?k8 ?a9 ?l9 ?c9 ?k9 ?a10 ?l10 ?c10 ?k10 ?a11 ?l11 ?c11 ?k11 ?a12 ?l12 ?c12 ?k12 ?a13 ?l13 ?c13 ?k13 ?a14 ?l14 ?c14 ?k14 ?a15 ?l15 ?c15 ?k15 ?a16 ?l16 ?c16 ?k16 ?a17 ?l17 ?c17 ?k17 ?a18 ?l18 ?c18 ?k18 ?a19 ?l19 ?c19 ?k19 ?a20 ?l20 ?c20 ?k20 ?a21 ?l21 ?c21 ?k21 ?a22 ?l22 ?c22 ?k22 ?a23 ?l23 ?c23 ?k23 ?a24 ?l24 ?c24 ?k24 ?a25 ?l25 ?c25 ?k25 ?a26 ?l26 ?c26 ?k26 ?a27 ?l27 ?c27 ?k27 ?a28 ?l28 ?c28 ?k28 ?a29 ?l29 ?c29 ?k29 ?a30 ?l30 ?c30 ?k30 ?z0 ?z1 ?z2 ?z3 ?z4 ?z5 ?z6 ?z7 ?z8 ?z9 ?z10 ?z11 ?gq ?gl ?g6 ?ncF ?ncM ?ncN ?ncS ?ncT ?ncP ?xo
  (case a1=>k_is)
  (case l1=>k_is)
  (case c1=>k_is)
  (case k1=>k_is)
  (case a2=>k_is)
  (case l2=>k_is)
  (case c2=>k_is)
  (case k2=>k_is)
  (case a3=>k_is)
  (case l3=>k_is)
  (case c3=>k_is)
  (case k3=>k_is)
  (case a4=>k_is)
  (case l4=>k_is)
  (case c4=>k_is)
  (case k4=>k_is)
  (case a5=>k_is)
  (case l5=>k_is)
  (case c5=>k_is)
  (case k5=>k_is)
  (case a6=>k_is)
  (case l6=>k_is)
  (case c6=>k_is)
  (case k6=>k_is)
  (case a7=>k_is)
  (case l7=>k_is)
  (case c7=>k_is)
  (case k7=>k_is)
  (case a8=>k_is)
  (case l8=>k_is)
  (case c8=>k_is)
  (case k8=>k_is)
  (case a9=>k_is)
  (case l9=>k_is)
  (case c9=>k_is)
  (case k9=>k_is)
  (case a10=>k_is)
  (case l10=>k_is)
  (case c10=>k_is)
  (case k10=>k_is)
  (case a11=>k_is)
  (case l11=>k_is)
  (case c11=>k_is)
  (case k11=>k_is)
  (case a12=>k_is)
  (case l12=>k_is)
  (case c12=>k_is)
  (case k12=>k_is)
  (case a13=>k_is)
  (case l13=>k_is)
  (case c13=>k_is)
  (case k13=>k_is)
  (case a14=>k_is)
  (case l14=>k_is)
  (case c14=>k_is)
  (case k14=>k_is)
  (case a15=>k_is)
  (case l15=>k_is)
  (case c15=>k_is)
  (case k15=>k_is)
  (case a16=>k_is)
  (case l16=>k_is)
  (case c16=>k_is)
  (case k16=>k_is)
  (case a17=>k_is)
  (case l17=>k_is)
  (case c17=>k_is)
  (case k17=>k_is)
  (case a18=>k_is)
  (case l18=>k_is)
  (case c18=>k_is)
  (case k18=>k_is)
  (case a19=>k_is)
  (case l19=>k_is)
  (case c19=>k_is)
  (case k19=>k_is)
  (case a20=>k_is)
  (case l20=>k_is)
  (case c20=>k_is)
  (case k20=>k_is)
  (case a21=>k_is)
  (case l21=>k_is)
  (case c21=>k_is)
  (case k21=>k_is)
  (case a22=>k_is)
  (case l22=>k_is)
  (case c22=>k_is)
  (case k22=>k_is)
  (case a23=>k_is)
  (case l23=>k_is)
  (case c23=>k_is)
  (case k23=>k_is)
  (case a24=>k_is)
  (case l24=>k_is)
  (case c24=>k_is)
  (case k24=>k_is)
  (case a25=>k_is)
  (case l25=>k_is)
  (case c25=>k_is)
  (case k25=>k_is)
  (case a26=>k_is)
  (case l26=>k_is)
  (case c26=>k_is)
  (case k26=>k_is)
  (case a27=>k_is)
  (case l27=>k_is)
  (case c27=>k_is)
  (case k27=>k_is)
  (case a28=>k_is)
  (case l28=>k_is)
  (case c28=>k_is)
  (case k28=>k_is)
  (case a29=>k_is)
  (case l29=>k_is)
  (case c29=>k_is)
  (case k29=>k_is)
  (case a30=>k_is)
  (case l30=>k_is)
  (case c30=>k_is)
  (case k30=>k_is)
  (case z0=>k_is)
  (case z1=>k_is)
  (case z2=>k_is)
  (case z3=>k_is)
  (case z4=>k_is)
  (case z5=>k_is)
  (case z6=>k_is)
  (case z7=>k_is)
  (case z8=>k_is)
  (case z9=>k_is)
  (case z10=>k_is)
  (case z11=>k_is)
  (case gq=>k_is)
  (case gl=>k_is)
  (case g6=>k_is)
  (case ncF=>k_is)
  (case ncM=>k_is)
  (case ncN=>k_is)
  (case ncS=>k_is)
  (case ncT=>k_is)
  (case ncP=>k_is)
  case xo=>
   refine' R.xs_ok ?kecF ?kgcF ?kncF ?kbcF ?khcF ?kfcF ?kmcF ?kvcF ?kxcF ?kkcFcF ?kkcFcM ?kkcFcN ?kkcFcS ?kkcFcT ?kecM ?kgcM ?kncM ?kbcM ?khcM ?kfcM ?kmcM ?kvcM ?kxcM ?kkcMcF ?kkcMcM ?kkcMcN ?kkcMcS ?kkcMcT ?kecN ?kgcN ?kncN ?kbcN ?khcN ?kfcN ?kmcN ?kvcN ?kxcN ?kkcNcF ?kkcNcM ?kkcNcN ?kkcNcS ?kkcNcT ?kecS ?kgcS ?kncS ?kbcS ?khcS ?kfcS ?kmcS ?kvcS ?kxcS ?kkcScF ?kkcScM ?kkcScN ?kkcScS ?kkcScT ?kecT ?kgcT ?kncT ?kbcT ?khcT ?kfcT ?kmcT ?kvcT ?kxcT ?kkcTcF ?kkcTcM ?kkcTcN ?kkcTcS ?kkcTcT ?ksp ?ktk ?knd
   (case kecF=>k_exc)
   (case kgcF=>k_is)
   (case kncF=>k_is)
   (case kbcF=>k_is)
   (case khcF=>k_is)
   (case kfcF=>k_is)
   (case kmcF=>k_is)
   (case kvcF=>kit_is)
   (case kxcF=>kts_exm)
   (case kkcFcF=>kit_is)
   (case kkcFcM=>kit_is)
   (case kkcFcN=>kit_is)
   (case kkcFcS=>kit_is)
   (case kkcFcT=>kit_is)
   (case kecM=>k_exc)
   (case kgcM=>k_is)
   (case kncM=>k_is)
   (case kbcM=>k_is)
   (case khcM=>k_is)
   (case kfcM=>k_is)
   (case kmcM=>k_is)
   (case kvcM=>kit_is)
   (case kxcM=>kts_exm)
   (case kkcMcF=>kit_is)
   (case kkcMcM=>kit_is)
   (case kkcMcN=>kit_is)
   (case kkcMcS=>kit_is)
   (case kkcMcT=>kit_is)
   (case kecN=>k_exc)
   (case kgcN=>k_is)
   (case kncN=>k_is)
   (case kbcN=>k_is)
   (case khcN=>k_is)
   (case kfcN=>k_is)
   (case kmcN=>k_is)
   (case kvcN=>kit_is)
   (case kxcN=>kts_exm)
   (case kkcNcF=>kit_is)
   (case kkcNcM=>kit_is)
   (case kkcNcN=>kit_is)
   (case kkcNcS=>kit_is)
   (case kkcNcT=>kit_is)
   (case kecS=>k_exc)
   (case kgcS=>k_is)
   (case kncS=>k_is)
   (case kbcS=>k_is)
   (case khcS=>k_is)
   (case kfcS=>k_is)
   (case kmcS=>k_is)
   (case kvcS=>kit_is)
   (case kxcS=>kts_exm)
   (case kkcScF=>kit_is)
   (case kkcScM=>kit_is)
   (case kkcScN=>kit_is)
   (case kkcScS=>kit_is)
   (case kkcScT=>kit_is)
   (case kecT=>k_exc)
   (case kgcT=>k_is)
   (case kncT=>k_is)
   (case kbcT=>k_is)
   (case khcT=>k_is)
   (case kfcT=>k_is)
   (case kmcT=>k_is)
   (case kvcT=>kit_is)
   (case kxcT=>kts_exm)
   (case kkcTcF=>kit_is)
   (case kkcTcM=>kit_is)
   (case kkcTcN=>kit_is)
   (case kkcTcS=>kit_is)
   (case kkcTcT=>kit_is)
   (case ksp=>k_is)
   (case ktk=>k_is)
   (case knd=>decide)
