import PyProof.Rows.All
import Wide.All
import OpenK.AllK
import Wide.FinOn
import Lean
import PyProof.EqAt
import PyProof.EqKinds
import PyProof.TupleCall
import PyProof.NeKinds
import KE.BitLaws
import PyProof.SumWalkG
import PyProof.ConsumeWalk
import PyProof.WalksMore
import KE.KSortedM
import PyProof.Rows.SetFrom
import PyProof.CompUse
import PyProof.ZipIter
import PyProof.EnumMake
import KE.KSortTup
import PyProof.Draws
import PyProof.ListRange
import PyProof.SliceList
import PyProof.DictIter
import PyProof.Rows.DictUnroll
import KE.KDictSum
import PyProof.DictRoadsH
import PyProof.DictKinds
import PySem.Challenge.RW_sharesample_k26_guesses_of_spreads
set_option Elab.async false
set_option linter.all false
set_option maxRecDepth 100000
namespace L2
open PySem PySem.Spec PyProof.Rows
noncomputable abbrev Key:=Sum Int Str
noncomputable def HF:Key -> Value -> Bool
 | .inl k,v=>Value.isInt k v
 | .inr x,v=>Value.isStrOf x v
noncomputable def Wb (w:World):Key -> Int
 | .inl k=>hashInt k
 | .inr x=>hashStr w x
theorem bS:∀ {k:Key} {v:Value},HF k v = true -> (∃ i t,k = Sum.inl i /\ v = Value.int i t) \/ (∃ x t,k = Sum.inr x /\ v = Value.str x t)
 | .inl i,v,h=>by
  obtain ⟨t,e⟩:=Value.isInt_shape (k:=i) (v:=v) h
  exact .inl ⟨i,t,rfl,e⟩
 | .inr x,v,h=>by
  obtain ⟨t,e⟩:=Value.isStrOf_shape (x:=x) (v:=v) h
  exact .inr ⟨x,t,rfl,e⟩
theorem J_ (a b:Int):decide ((Sum.inl a:Key) = Sum.inl b) = (a == b):=by
 by_cases e:a = b
 ·subst e;simp
 ·have h:¬ (Sum.inl a:Key) = Sum.inl b:=fun q=>e (Sum.inl.inj q)
  rw [decide_eq_false h]
  exact (beq_eq_false_iff_ne.mpr e).symm
theorem J7 (a b:Str):decide ((Sum.inr a:Key) = Sum.inr b) = decide (a = b):=by
 by_cases e:a = b
 ·subst e;simp
 ·have h:¬ (Sum.inr a:Key) = Sum.inr b:=fun q=>e (Sum.inr.inj q)
  rw [decide_eq_false h,decide_eq_false e]
theorem J9 (a:Int) (b:Str):decide ((Sum.inl a:Key) = Sum.inr b) = false:=decide_eq_false (fun q=>nomatch q)
theorem J8 (a:Str) (b:Int):decide ((Sum.inr a:Key) = Sum.inl b) = false:=decide_eq_false (fun q=>nomatch q)
noncomputable def yD (prog:Program) (w:World):PySem.KeyKind prog w Key where
 is:=HF
 hash:=Wb w
 inj:=fun v a b ha hb=>by
  rcases bS ha with ⟨i,t,rfl,rfl⟩ | ⟨x,t,rfl,rfl⟩
  ·rcases bS hb with ⟨j,u,rfl,e⟩ | ⟨y,u,rfl,e⟩
   ·injection e with e1 _;rw [e1]
   ·exact nomatch e
  ·rcases bS hb with ⟨j,u,rfl,e⟩ | ⟨y,u,rfl,e⟩
   ·exact nomatch e
   ·injection e with e1 _;rw [e1]
 byValue:=fun k v h=>by
  rcases bS h with ⟨i,t,rfl,rfl⟩ | ⟨x,t,rfl,rfl⟩ <;> rfl
 pyHash:=fun hv h=>by
  rcases bS hv with ⟨i,t,rfl,rfl⟩ | ⟨x,t,rfl,rfl⟩
  ·exact wpAny_pyHash_int h
  ·exact wpAny_pyHash_str h
 eqBool:=fun hu hv h=>by
  rcases bS hu with ⟨i,t,rfl,rfl⟩ | ⟨x,t,rfl,rfl⟩
  ·rcases bS hv with ⟨j,u,rfl,rfl⟩ | ⟨y,u,rfl,rfl⟩
   ·rw [J_] at h;exact wpAny_eqBool_int h
   ·rw [J9] at h;exact SeqAt.EqAt.int_str i t y u _ _ _ _ h
  ·rcases bS hv with ⟨j,u,rfl,rfl⟩ | ⟨y,u,rfl,rfl⟩
   ·rw [J8] at h;exact SeqAt.EqAt.str_int x t j u _ _ _ _ h
   ·rw [J7] at h;exact wpAny_eqBool_str h
 «strs»:=fun k x t v h=>by
  rcases bS h with ⟨i,u,rfl,e⟩ | ⟨y,u,rfl,e⟩
  ·exact nomatch e
  ·injection e with e1 _
   subst e1
   cases v <;> rfl
end L2
namespace L2
open PySem PySem.Spec PyProof.Rows
inductive V where
 | bE | bl (b:Bool) | int (i:Int) | str (x:Str) | byt (b:Array UInt8) | Pg (b:UInt64) | ref (a:Addr) | ty (n:String)
 deriving DecidableEq
noncomputable def RelV:V -> Value -> Prop
 | .bE,u=>u = Value.none
 | .bl b,u=>u = Value.bool b
 | .int i,u=>∃ t,u = Value.int i t
 | .str x,u=>∃ t,u = Value.str x t
 | .byt b,u=>∃ t,u = Value.bytes b t
 | .Pg b,u=>∃ t,u = Value.float b t
 | .ref a,u=>u = Value.ref a
 | .ty n,u=>u = Value.type n
noncomputable abbrev Vals:List V -> List Value -> Prop:=Paired RelV
theorem Vals.length {xs:List V} {us:List Value} (r:Vals xs us):xs.length = us.length:=Paired.length r
theorem Vals.get:∀ {xs:List V} {us:List Value} {i:Nat} {x:V},Vals xs us -> xs[i]? = some x -> ∃ u,us[i]? = some u /\ RelV x u
 | _,_,_,_,.nil,e=>by simp at e
 | _,_,0,_,.cons r _,e=>by simp at e;subst e;exact ⟨_,rfl,r⟩
 | _,_,i + 1,x,.cons _ t,e=>by
  obtain ⟨u,h1,h2⟩:=Vals.get (i:=i) (x:=x) t (by simpa using e)
  exact ⟨u,by simpa using h1,h2⟩
theorem Vals.set {x:V} {u:Value} (r:RelV x u):∀ {xs:List V} {us:List Value} (i:Nat),Vals xs us -> Vals (xs.set i x) (us.set i u)
 | _,_,_,.nil=>.nil
 | _,_,0,.cons _ t=>.cons r t
 | _,_,i + 1,.cons q t=>.cons q (Vals.set r i t)
theorem Vals.append:∀ {xs ys:List V} {us ws:List Value},Vals xs us -> Vals ys ws -> Vals (xs ++ ys) (us ++ ws)
 | _,_,_,_,.nil,s=>s
 | _,_,_,_,.cons r t,s=>.cons r (Vals.append t s)
theorem Vals.take:∀ {xs:List V} {us:List Value} (n:Nat),Vals xs us -> Vals (xs.take n) (us.take n)
 | _,_,0,_=>.nil
 | _,_,_ + 1,.nil=>.nil
 | _,_,n + 1,.cons r t=>.cons r (Vals.take n t)
theorem Vals.drop:∀ {xs:List V} {us:List Value} (n:Nat),Vals xs us -> Vals (xs.drop n) (us.drop n)
 | _,_,0,r=>r
 | _,_,_ + 1,.nil=>.nil
 | _,_,n + 1,.cons _ t=>Vals.drop n t
noncomputable def QI:Option V -> Option Value -> Prop
 | some v,some u=>RelV v u
 | none,none=>True
 | _,_=>False
noncomputable def KV {κ:Type}:List (κ × V) -> List (κ × Value) -> Prop:=Paired fun (p:κ × V) (q:κ × Value)=>p.1 = q.1 /\ RelV p.2 q.2
noncomputable def kV:Key -> V
 | .inl i=>.int i
 | .inr x=>.str x
inductive HO where
 | lst (xs:List V)
 | tup (xs:List V)
 | dK (qo:List (Key × V)) | dT (qo:List (List Key × V))
 | set (S:Int -> Bool) (n:Nat)
 | ins (C dx:Addr) (fs:List (Str × V))
 | own (x:Addr)
 | xd (fs:List (Str × V))
 | met (f x:Addr)
 | mP (lo hi:Int)
 | je (o:Obj) (u:HO)
 | IA (ps:Array Value)
 | ext (φ:Heap -> Prop)
noncomputable abbrev Hp:=Addr -> Option HO
noncomputable def upd (H:Hp) (a:Addr) (o:HO):Hp:=fun b=>if b = a then some o else H b
theorem aM {H:Hp} {a:Addr} {o:HO}:upd H a o a = some o:=by unfold upd;rw [if_pos rfl]
theorem aK {H:Hp} {a b:Addr} {o:HO} (h:b ≠ a):upd H a o b = H b:=by unfold upd;rw [if_neg h]
theorem cC {H:Hp} {a b:Addr} {o:HO} (h:H a = some o) (h':H b = none):a ≠ b:=by
 intro e;subst e;rw [h] at h';cases h'
section
variable (P:Program) (w:World)
noncomputable def dY (H:Hp) (h:Heap) (a:Addr):HO -> Prop
 | .lst xs=>xs.length <= sizeLine /\ ∃ (aj:List Value) (n:Nat),Vals xs aj /\ h.get? a = some { cls:=.type "list",data:=.seq aj.toArray n }
 | .tup xs=>xs.length <= sizeLine /\ ∃ aj:List Value,Vals xs aj /\ IsTup h a aj.toArray
 | .dK qo=>qo.length <= sizeLine /\ (a == sysModules) = false /\ ∃ vs,KV qo vs /\ h.DictOf (yD P w) a vs
 | .dT qo=>qo.length <= sizeLine /\ (a == sysModules) = false /\ ∃ xs:List (List Key × Addr × Value),
   Paired (fun (p:List Key × V) (q:List Key × Addr × Value)=>p.1 = q.1 /\ H q.2.1 = some (.tup (p.1.map kV)) /\ RelV p.2 q.2.2) qo xs /\
   ∃ o es ep,h.get? a = some o /\ o.ExactDict /\ o.data = .dict es ep /\ es.toList = xs.map (entryOfKey (tupleKind (yD P w))) /\ (xs.map (·.1)).Nodup
 | .set S n=>h.SetOf (intKind P w) a S n
 | .ins C dx fs=>H dx = some (.own a) /\ fs.length <= 1000 /\ dx ≠ a /\ h.get? a = some (PySem.W.instObj C dx) /\
   ∃ mA,h.Ns1 dx mA /\ (∀ f,QI (fs.lookup f) (mA f)) /\ PySem.Within mA (fs.map (·.1))
 | .own _=>∃ o,h.get? a = some o
 | .xd fs=>∃ mA,h.Ns1 a mA /\ ∀ f,QI (fs.lookup f) (mA f)
 | .mP lo hi=>∃ t u v,h.get? a = some { cls:=.type "range",data:=.fields #[.int lo t,.int hi u,.int 1 v] }
 | .je o u=>h.get? a = some o /\ dY H h a u
 | .IA ps=>h.get? a = some { cls:=.none,data:=.fields ps }
 | .met f x=>h.get? a = some (PySem.W.methodObj (.ref f) (.ref x))
 | .ext φ=>φ h /\ (∃ o,h.get? a = some o) /\ ∀ h1 h2:Heap,φ h1 -> (∀ o,h1.get? a = some o -> h2.get? a = some o) -> φ h2
noncomputable def mJ (H:Hp) (h:Heap):Prop:=∀ a o,H a = some o -> dY P w H h a o
end
section
variable {P:Program} {w:World} {H H':Hp} {h h':Heap} {a:Addr} {o:HO}
theorem dY.lt (x:dY P w H h a o):a < h.objs.size:=by
 cases o with
 | lst xs=>obtain ⟨_,_,_,_,e⟩:=x;exact Heap.lt_size e
 | tup xs=>obtain ⟨_,_,_,p⟩:=x;exact p.lt
 | dK qo=>obtain ⟨_,_,_,_,o,_,_,e,_⟩:=x;exact Heap.lt_size e
 | dT qo=>obtain ⟨_,_,_,_,o,_,_,e,_⟩:=x;exact Heap.lt_size e
 | set S n=>obtain ⟨o,_,_,_,e,_⟩:=x;exact Heap.lt_size e
 | ins C dx fs=>obtain ⟨_,_,_,e,_⟩:=x;exact Heap.lt_size e
 | own y=>obtain ⟨_,e⟩:=x;exact Heap.lt_size e
 | xd fs=>obtain ⟨_,⟨_,_,_,e,_⟩,_⟩:=x;exact Heap.lt_size e
 | mP lo hi=>obtain ⟨_,_,_,e⟩:=x;exact Heap.lt_size e
 | je ob u=>obtain ⟨e,_⟩:=x;exact Heap.lt_size e
 | IA ps=>exact Heap.lt_size (show h.get? a = some _ from x)
 | met f y=>exact Heap.lt_size (show h.get? a = some _ from x)
 | ext φ=>obtain ⟨_,⟨_,e⟩,_⟩:=x;exact Heap.lt_size e
theorem Paired.N8 {α β:Type} {F G:α -> β -> Prop}:∀ {l₁:List α} {l₂:List β},Paired F l₁ l₂ -> (∀ a b,F a b -> G a b) -> Paired G l₁ l₂
 | _,_,.nil,_=>.nil
 | _,_,.cons r t,f=>.cons (f _ _ r) (Paired.N8 t f)
theorem dY.p8 (x:dY P w H h a o) (k:∀ b u,(b = a \/ H b = some (.own a)) -> h.get? b = some u -> h'.get? b = some u)
  (ho:∀ b,H b = some (.own a) -> H' b = some (.own a)) (ht:∀ b xs,H b = some (.tup xs) -> H' b = some (.tup xs)):dY P w H' h' a o:=by
 induction o with
 | lst xs=>obtain ⟨z,aj,n,r,e⟩:=x;exact ⟨z,aj,n,r,k _ _ (.inl rfl) e⟩
 | tup xs=>obtain ⟨z,aj,r,ob,e,c⟩:=x;exact ⟨z,aj,r,ob,k _ _ (.inl rfl) e,c⟩
 | dK qo=>obtain ⟨z,y,vs,r,ob,es,ep,e,c⟩:=x;exact ⟨z,y,vs,r,ob,es,ep,k _ _ (.inl rfl) e,c⟩
 | dT qo =>
  obtain ⟨z,y,xs,r,ob,es,ep,e,c⟩:=x
  exact ⟨z,y,xs,Paired.N8 r fun p q z=>⟨z.1,ht _ _ z.2.1,z.2.2⟩,ob,es,ep,k _ _ (.inl rfl) e,c⟩
 | set S n=>obtain ⟨ob,es,ep,t,e,c⟩:=x;exact ⟨ob,es,ep,t,k _ _ (.inl rfl) e,c⟩
 | ins C dx fs =>
  obtain ⟨d,z,ne,e,mA,⟨od,es,ep,e2,c⟩,r⟩:=x
  exact ⟨ho _ d,z,ne,k _ _ (.inl rfl) e,mA,⟨od,es,ep,k _ _ (.inr d) e2,c⟩,r⟩
 | own y=>obtain ⟨ob,e⟩:=x;exact ⟨ob,k _ _ (.inl rfl) e⟩
 | xd fs=>obtain ⟨mA,⟨od,es,ep,e,c⟩,r⟩:=x;exact ⟨mA,⟨od,es,ep,k _ _ (.inl rfl) e,c⟩,r⟩
 | mP lo hi=>obtain ⟨t,u,v,e⟩:=x;exact ⟨t,u,v,k _ _ (.inl rfl) e⟩
 | je ob u ih=>obtain ⟨e,q⟩:=x;exact ⟨k _ _ (.inl rfl) e,ih q⟩
 | IA ps =>
  have e:h.get? a = some { cls:=.none,data:=.fields ps }:=x
  show h'.get? a = some { cls:=.none,data:=.fields ps }
  exact k a _ (.inl rfl) e
 | met f y =>
  have e:h.get? a = some (PySem.W.methodObj (.ref f) (.ref y)):=x
  show h'.get? a = some (PySem.W.methodObj (.ref f) (.ref y))
  exact k a _ (.inl rfl) e
 | ext φ=>obtain ⟨p,⟨o,e⟩,st⟩:=x;exact ⟨st _ _ p fun o q=>k _ _ (.inl rfl) q,⟨o,k _ _ (.inl rfl) e⟩,st⟩
theorem mJ.lt (x:mJ P w H h) (e:H a = some o):a < h.objs.size:=(x a o e).lt
theorem mJ.fresh (x:mJ P w H h) (e:h.objs.size <= a):H a = none:=by
 cases q:H a with
 | none=>rfl
 | some u=>exact absurd (Nat.lt_of_lt_of_le (x.lt q) e) (Nat.lt_irrefl _)
theorem mJ.kept (x:mJ P w H h) (k:∀ b u,h.get? b = some u -> h'.get? b = some u):mJ P w H h':=fun a o e =>
 (x a o e).p8 (fun b u _ q=>k b u q) (fun _ q=>q) fun _ _ q=>q
theorem mJ.laid (x:mJ P w H h) (k:∀ b u,h.get? b = some u -> h'.get? b = some u) (hp:h.objs.size <= a) (new:dY P w (upd H a o) h' a o):mJ P w (upd H a o) h':=fun b u e=>by
 have hn:=x.fresh hp
 by_cases hb:b = a
 ·subst hb;rw [aM] at e;cases e;exact new
 ·rw [aK hb] at e
  exact (x b u e).p8 (fun c v _ q=>k c v q) (fun c q=>by rw [aK (cC q hn)];exact q) fun c xs q=>by rw [aK (cC q hn)];exact q
end
noncomputable def Rd (H:Hp) (a:Addr) (u:HO):Prop:=H a = some u \/ ∃ o,H a = some (.je o u)
theorem Rd.ok {P:Program} {w:World} {H:Hp} {h:Heap} {a:Addr} {u:HO} (r:Rd H a u) (x:mJ P w H h):dY P w H h a u:=by
 rcases r with r | ⟨o,r⟩
 ·exact x a u r
 ·obtain ⟨_,q⟩:=x a _ r
  exact q
noncomputable def R5:Option HO -> Prop
 | some (.lst _)=>True
 | some (.dK _)=>True
 | some (.dT _)=>True
 | some (.set _ _)=>True
 | some (.ins _ _ _)=>True
 | some (.ext _)=>True
 | _=>False
section
variable {P:Program} {w:World} {H:Hp} {h h':Heap} {x e:Addr} {o':HO}
theorem mJ.write (ok:mJ P w H h) (mu:R5 (H x)) (he:e = x \/ H e = some (.own x)) (k:∀ b u,b ≠ e -> h.get? b = some u -> h'.get? b = some u) (Mr:∃ u,h'.get? e = some u)
  (new:dY P w (upd H x o') h' x o'):mJ P w (upd H x o') h':=fun b u q=>by
 have N1:∀ c y,H c = some (.own y) -> c ≠ x:=fun c y r z=>by subst z;rw [r] at mu;exact mu
 have V4:∀ c xs,H c = some (.tup xs) -> c ≠ x:=fun c xs r z=>by subst z;rw [r] at mu;exact mu
 by_cases hb:b = x
 ·subst hb;rw [aM] at q;cases q;exact new
 ·rw [aK hb] at q
  by_cases KH:b = e
  ·have q':H b = some (.own x):=by
    rcases he with z | z
    ·exact absurd (KH.trans z) hb
    ·rw [KH];exact z
   rw [q] at q';cases q'
   obtain ⟨v,hv⟩:=Mr
   exact ⟨v,by rw [KH];exact hv⟩
  ·refine (ok b u q).p8 (fun c v hc r=>k c v ?_ r) (fun c r=>by rw [aK (N1 c b r)];exact r) fun c xs r=>by rw [aK (V4 c xs r)];exact r
   rcases hc with rfl | hc
   ·exact KH
   ·rintro rfl
    rcases he with z | z
    ·exact N1 c b hc z
    ·rw [hc] at z;cases z;exact hb rfl
end
structure Un (fs ex:List Addr) (H H':Hp) (h h':Heap):Prop where
 keep:∀ b o,h.get? b = some o -> H b = none -> b ∉ fs -> b ∉ ex -> h'.get? b = some o
 slot:∀ b o,h.get? b = some o -> H b = none -> b ∈ fs -> b ∉ ex -> ∃ sl,h'.get? b = some { o with slots:=sl }
 free:∀ b o,h.get? b = some o -> H b = none -> b ∉ ex -> H' b = none
 there:∀ b o,h.get? b = some o -> b ∉ ex -> ∃ o',h'.get? b = some o'
 sf:∀ b xs,H b = some (.tup xs) -> H' b = some (.tup xs)
 qz:∀ b o u,H b = some (.je o u) -> H' b = some (.je o u)
 sk:∀ b ps,H b = some (.IA ps) -> ∃ more,H' b = some (.IA (ps ++ more))
section
variable {fs fs' ex Pk:List Addr} {H H1 H2:Hp} {h h1 h2 h':Heap} {a x e:Addr} {o:HO}
theorem Un.any (u:Un fs ex H H1 h h1) {b:Addr} {ob:Obj} (q:h.get? b = some ob) (n:H b = none) (hx:b ∉ ex):∃ sl,h1.get? b = some { ob with slots:=sl }:=by
 by_cases hb:b ∈ fs
 ·exact u.slot b ob q n hb hx
 ·exact ⟨ob.slots,u.keep b ob q n hb hx⟩
theorem Un.kept (k:∀ b u,h.get? b = some u -> h'.get? b = some u):Un fs ex H H h h' :=
 ⟨fun b ob q _ _ _=>k b ob q,fun b ob q _ _ _=>⟨ob.slots,k b ob q⟩,fun _ _ _ n _=>n,fun b ob q _=>⟨ob,k b ob q⟩,fun _ _ q=>q,fun _ _ _ q=>q,fun _ ps q=>⟨#[],by rw [q];simp⟩⟩
theorem Un.refl:Un fs ex H H h h:=Un.kept fun _ _ q=>q
theorem Un.laid (k:∀ b u,h.get? b = some u -> h'.get? b = some u) (hp:h.objs.size <= a) (hn:H a = none):Un fs ex H (upd H a o) h h' where
 keep:=fun b u q _ _ _=>k b u q
 slot:=fun b u q _ _ _=>⟨u.slots,k b u q⟩
 free:=fun b u q n _=>by rw [aK (Nat.ne_of_lt (Nat.lt_of_lt_of_le (Heap.lt_size q) hp))];exact n
 there:=fun b u q _=>⟨u,k b u q⟩
 sf:=fun b xs q=>by rw [aK (cC q hn)];exact q
 qz:=fun b u xs q=>by rw [aK (cC q hn)];exact q
 sk:=fun b ps q=>⟨#[],by rw [aK (cC q hn),q];simp⟩
theorem Un.write (mu:R5 (H x)) (he:e = x \/ H e = some (.own x)) (k:∀ b u,b ≠ e -> h.get? b = some u -> h'.get? b = some u) (Mr:∃ u,h'.get? e = some u):Un fs ex H (upd H x o) h h':=by
 have hx:∀ b,H b = none -> b ≠ x:=fun b n z=>by subst z;rw [n] at mu;exact mu
 have hb:∀ b,H b = none -> b ≠ e:=fun b n z=>by
  subst z
  rcases he with r | r
  ·exact hx b n r
  ·rw [n] at r;cases r
 have hm:∀ b u,H b = some u -> ¬ R5 (some u) -> b ≠ x:=fun b u q nm z=>by subst z;rw [q] at mu;exact nm mu
 refine ⟨fun b u q n _ _=>k b u (hb b n) q,fun b u q n _ _=>⟨u.slots,k b u (hb b n) q⟩,fun b u q n _=>by rw [aK (hx b n)];exact n,fun b u q _=>?_,
  fun b xs q=>by rw [aK (hm b _ q fun z=>z)];exact q,fun b u xs q=>by rw [aK (hm b _ q fun z=>z)];exact q,fun b ps q=>⟨#[],by rw [aK (hm b _ q fun z=>z),q];simp⟩⟩
 by_cases KH:b = e
 ·subst KH;exact Mr
 ·exact ⟨u,k b u KH q⟩
end
noncomputable def QQ (h:Heap) (H:Hp):List Addr:=(List.range h.objs.size).filter fun a=>(H a).isSome
noncomputable def tm (h:Heap) (H:Hp):Heap:=PySem.W.hideAll h (QQ h H)
theorem Ay (h:Heap) (H:Hp):(tm h H).objs.size = h.objs.size:=PySem.W.hideAll_size _ _
theorem C7 {h:Heap} {H:Hp} {b:Addr} {o:Obj} (e:h.get? b = some o) (n:H b = none):(tm h H).get? b = some o :=
 PySem.W.hideAll_get _ e fun hm=>by
  have q:(H b).isSome = true:=(List.mem_filter.mp hm).2
  rw [n] at q;simp at q
theorem FE {h:Heap} {H:Hp} {b:Addr} {o:Obj} (e:(tm h H).get? b = some o):h.get? b = some o /\ H b = none:=by
 have e':h.get? b = some o:=PySem.W.of_hideAll (QQ h H) e
 refine ⟨e',?_⟩
 cases q:H b with
 | none=>rfl
 | some x =>
  have hm:b ∈ QQ h H:=List.mem_filter.mpr ⟨List.mem_range.mpr (Heap.lt_size e'),by simp [q]⟩
  have z:(tm h H).get? b = none:=PySem.W.hideAll_none (QQ h H) hm
  rw [z] at e;cases e
noncomputable def G4 (g h:Heap) (L:Addr):List (Addr × Obj):=(List.range h.objs.size).filterMap fun a=>if a = L \/ (g.get? a).isSome = true then none else (h.get? a).map fun o=>(a,o)
noncomputable def rest (g h:Heap) (L d:Addr):List (Addr × Obj):=(G4 g h L).filter fun p=>decide (p.1 ≠ d)
end L2
namespace L2
open PySem PySem.Spec PyProof.Rows
structure Mod (K:PySem.W.Frag) (mg:Str -> Option Value) (base:Heap):Prop where
 Wa:K.In base
 glob:base.Ns mainGlobals mg
 blt:∃ mb,base.Ns builtinsNs mb /\ ∀ x:Str,x ≠ "__name__" -> mb x = bootBuiltins x
 nolimit:base.NoLimit
structure Cx where
 prog:Program
 w:World
 K:PySem.W.Frag
 mg:Str -> Option Value
 base:Heap
 A:Around
 N:List Str
 s₀:Shared
 H₀:Hp
 env:Env
 outer:List Env
 stack:List Env
 ex:List Addr
 fn:Str -> Bool
 calm:Bool
 pn:List (Addr × Obj)
 xe:Value -> Shared -> Prop
noncomputable def Bk (l:List Env):List Addr:=l.filterMap (·.frame)
noncomputable abbrev Cx.fs (X:Cx):List Addr:=Bk X.outer
noncomputable def LV (sc:Scope) (x:Str):Prop:=sc.names.lookup x = some .local \/ sc.names.lookup x = some .cell \/ sc.names.lookup x = some .free
noncomputable def Loc (sc:Scope) (x:Str):Prop:=sc.names.lookup x = some .local \/ sc.names.lookup x = some .cell
noncomputable def Look (env:Env) (h:Heap) (m:Str -> Option Value) (x:Str) (u:Value):Prop :=
 (env.kindOf x = some .local /\ m x = some u) \/ ((env.kindOf x = some .cell \/ env.kindOf x = some .free) /\ ∃ c,env.cells.lookup x = some c /\ h.IsCell c (some u))
structure Cx.Ok (X:Cx):Prop where
 mod:Mod X.K X.mg X.base
 kind:X.env.scope.kind = .function
 glob:X.env.globals = mainGlobals
 blt:X.env.builtins = builtinsNs
 above:X.s₀.heap.objs.size <= X.env.locals
 inj:∀ x y c,X.env.cells.lookup x = some c -> X.env.cells.lookup y = some c -> x = y
 has:∀ x,(X.env.kindOf x = some .cell \/ X.env.kindOf x = some .free) -> ∃ c,X.env.cells.lookup x = some c
 Qu:∀ x c,X.fn x = true -> X.env.cells.lookup x = some c -> X.s₀.heap.objs.size <= c
 hd:X.calm = true -> X.A.handled = none
 frames:X.A.frames = some X.stack
 QU:X.stack = X.outer \/ (X.stack = X.env :: X.outer /\ X.env.frame = some X.env.locals)
 exf:∀ b ∈ X.ex,b ≠ X.env.locals /\ ∀ x c,X.env.cells.lookup x = some c -> c ≠ b
 bs:∀ b o,X.base.get? b = some o -> X.s₀.heap.get? b = some o /\ X.H₀ b = none
 Ic:X.base.objs.size <= X.s₀.heap.objs.size
 Cz:∀ b o,X.base.get? b = some o -> b ∉ X.ex
 Gy:∀ b ∈ X.ex,b ∉ X.fs
 m_:X.s₀.heap.FunFrames X.base X.outer
 My:∀ b ∈ X.fs,X.H₀ b = none
structure Inv (X:Cx) (pins:List (Addr × Obj)) (σ:List (Option V)) (H:Hp) (s:Shared):Prop where
 ok:X.Ok
 os:s.os = X.s₀.os
 bare:AllBare s.gens
 base:Un X.fs X.ex X.H₀ H X.s₀.heap s.heap
 loc:∃ m,s.heap.Ns X.env.locals m /\ ∀ (i:Nat) (x:Str) (v:V),X.N[i]? = some x -> σ[i]? = some (some v) -> LV X.env.scope x -> ∃ u,RelV v u /\ Look X.env s.heap m x u
 cell:∀ x c,X.env.cells.lookup x = some c -> ∃ v,s.heap.IsCell c v
 free:H X.env.locals = none
 j7:∀ x c,X.env.cells.lookup x = some c -> H c = none
 pin:∀ p ∈ X.pn ++ pins,s.heap.get? p.1 = some p.2 /\ H p.1 = none /\ p.1 ≠ X.env.locals /\ p.1 ∉ X.fs /\ ∀ v,p.2.data ≠ .cell v
 dD:mJ X.prog X.w H s.heap
 len:σ.length = X.N.length
section
variable {X:Cx} {pins:List (Addr × Obj)} {σ:List (Option V)} {H H':Hp} {s:Shared} {h':Heap}
theorem Cx.Ok.V5 (ok:X.Ok) {b:Addr} {o:Obj} (e:X.base.get? b = some o):b ∉ X.fs:=fun hb=>by
 have:=(ok.m_.mem hb).1
 rw [e] at this;cases this
theorem Inv.bs (I:Inv X pins σ H s):∀ b o,X.base.get? b = some o -> s.heap.get? b = some o /\ H b = none:=fun b o e =>
 ⟨I.base.keep b o (I.ok.bs b o e).1 (I.ok.bs b o e).2 (I.ok.V5 e) (I.ok.Cz b o e),I.base.free b o (I.ok.bs b o e).1 (I.ok.bs b o e).2 (I.ok.Cz b o e)⟩
theorem Inv.bk (I:Inv X pins σ H s):∀ b o,X.base.get? b = some o -> s.heap.get? b = some o:=fun b o e=>(I.bs b o e).1
theorem Inv.mod (I:Inv X pins σ H s):Mod X.K X.mg X.base:=I.ok.mod
theorem Inv.An (I:Inv X pins σ H s):X.K.In s.heap:=I.ok.mod.Wa.keeps I.bk
theorem Inv.lt (I:Inv X pins σ H s):X.env.locals < s.heap.objs.size:=let ⟨_,hn,_⟩:=I.loc;hn.lt
theorem Inv.sz (I:Inv X pins σ H s):X.s₀.heap.objs.size <= s.heap.objs.size:=Nat.le_trans I.ok.above (Nat.le_of_lt I.lt)
theorem Inv.JP (I:Inv X pins σ H s) {a:Addr} (h:s.heap.objs.size <= a):a ∉ X.fs:=fun hb=>by
 obtain ⟨_,o,ho,_⟩:=I.ok.m_.mem hb
 exact absurd (Nat.lt_of_lt_of_le (Heap.lt_size ho) (Nat.le_trans I.sz h)) (Nat.lt_irrefl _)
theorem Inv.LJ (I:Inv X pins σ H s):∀ x c,X.env.cells.lookup x = some c -> c ≠ X.env.locals:=fun x c e z=>by
 obtain ⟨v,o,ho,hd⟩:=I.cell x c e
 obtain ⟨m,⟨o',es,ep,e9,OV,_⟩,_⟩:=I.loc
 rw [z,e9] at ho;cases ho;rw [OV] at hd;cases hd
theorem Inv.m_ (I:Inv X pins σ H s):s.heap.FunFrames X.base X.outer:=by
 have all:∀ (l:List Env),(∀ b ∈ Bk l,b ∈ X.fs) -> X.s₀.heap.FunFrames X.base l -> s.heap.FunFrames X.base l:=by
  intro l
  induction l with
  | nil=>intro _ _;trivial
  | cons env r ih =>
   intro hs hl
   obtain ⟨hk,⟨L,o,hf,hn,ho,hd⟩,hr⟩:=hl
   have hL:L ∈ X.fs:=hs L (by unfold Bk;rw [List.filterMap_cons,hf];exact List.mem_cons_self)
   obtain ⟨sl,e⟩:=I.base.slot L o ho (I.ok.My L hL) hL fun z=>I.ok.Gy L z hL
   exact ⟨hk,⟨L,_,hf,hn,e,hd⟩,ih (fun b hb=>hs b (by unfold Bk;rw [List.filterMap_cons,hf];exact List.mem_cons_of_mem _ hb)) hr⟩
 exact all X.outer (fun _ hb=>hb) I.ok.m_
theorem Inv.stack (I:Inv X pins σ H s):s.heap.FunFrames X.base X.stack:=by
 rcases I.ok.QU with e | ⟨e,hf⟩
 ·rw [e];exact I.m_
 ·rw [e]
  obtain ⟨m,hn,_⟩:=I.loc
  refine .cons (by rw [I.ok.kind];decide) hf hn ?_ I.m_
  exact Heap.get?_none_of_le (Nat.le_trans I.ok.Ic I.ok.above)
theorem Inv.lX (I:Inv X pins σ H s):∀ b ∈ Bk X.stack,b ∈ X.env.locals :: X.fs:=fun b hb=>by
 rcases I.ok.QU with e | ⟨e,hf⟩
 ·rw [e] at hb;exact List.mem_cons_of_mem _ hb
 ·rw [e] at hb
  unfold Bk at hb
  rw [List.filterMap_cons,hf] at hb
  exact hb
theorem Inv.yf (I:Inv X pins σ H s):∀ b ∈ Bk X.stack,H b = none:=fun b hb=>by
 rcases List.mem_cons.mp (I.lX b hb) with e | hb
 ·rw [e];exact I.free
 ·obtain ⟨_,o,ho,_⟩:=I.ok.m_.mem hb
  exact I.base.free b o ho (I.ok.My b hb) fun z=>I.ok.Gy b z hb
theorem Inv.step {g':Array GenState} {t':Nat} {d':Drawn} {ch:List Addr} (I:Inv X pins σ H s)
  (D8:∀ b ∈ ch,(b ∈ X.ex \/ X.s₀.heap.objs.size <= b) /\ b ≠ X.env.locals /\ (∀ x c,X.env.cells.lookup x = some c -> c ≠ b) /\ ∀ p ∈ X.pn ++ pins,p.1 ≠ b)
  (keep:∀ b o,b ≠ X.env.locals -> b ∉ X.fs -> b ∉ ch -> s.heap.get? b = some o -> H b = none -> h'.get? b = some o)
  (slot:∀ b o,b ≠ X.env.locals -> b ∈ X.fs -> b ∉ ch -> s.heap.get? b = some o -> H b = none -> ∃ sl,h'.get? b = some { o with slots:=sl }) (free:∀ b o,b ∉ ch -> s.heap.get? b = some o -> H b = none -> H' b = none)
  (there:∀ b o,b ∉ ch -> s.heap.get? b = some o -> ∃ o',h'.get? b = some o')
  (sf:∀ b xs,H b = some (.tup xs) -> H' b = some (.tup xs)) (qz:∀ b o u,H b = some (.je o u) -> H' b = some (.je o u)) (sk:∀ b ps,H b = some (.IA ps) -> ∃ more,H' b = some (.IA (ps ++ more)))
  (ns:∀ m,s.heap.Ns X.env.locals m -> h'.Ns X.env.locals m) (dD:mJ X.prog X.w H' h') (hg:AllBare g') :
  Inv X pins σ H' { s with heap:=h',gens:=g',drawn:=d',toks:=t' }:=by
 have neL:∀ b o,X.s₀.heap.get? b = some o -> b ≠ X.env.locals:=fun b o e=>Nat.ne_of_lt (Nat.lt_of_lt_of_le (Heap.lt_size e) I.ok.above)
 have HE:∀ b o,X.s₀.heap.get? b = some o -> b ∉ X.ex -> b ∉ ch:=fun b o e hx hb=>by
  rcases (D8 b hb).1 with z | z
  ·exact hx z
  ·exact absurd (Nat.lt_of_lt_of_le (Heap.lt_size e) z) (Nat.lt_irrefl _)
 have cellK:∀ x c,X.env.cells.lookup x = some c -> ∀ v,s.heap.IsCell c v -> h'.IsCell c v:=fun x c e v ⟨o,ho,hd⟩=>by
  have N5:c ∉ ch:=fun z=>(D8 c z).2.2.1 x c e rfl
  by_cases hc:c ∈ X.fs
  ·obtain ⟨sl,q⟩:=slot c o (I.LJ x c e) hc N5 ho (I.j7 x c e)
   exact ⟨_,q,hd⟩
  ·exact ⟨o,keep c o (I.LJ x c e) hc N5 ho (I.j7 x c e),hd⟩
 refine ⟨I.ok,I.os,hg,⟨fun b o e n hb hx=>?_,fun b o e n hb hx=>?_,fun b o e n hx=>?_,fun b o e hx=>?_,fun b xs e=>sf b xs (I.base.sf b xs e),fun b o xs e=>qz b o xs (I.base.qz b o xs e),fun b ps e=>?_⟩,?_,fun x c e=>?_,?_,fun x c e=>?_,fun p hp=>?_,dD,I.len⟩
 ·exact keep b o (neL b o e) hb (HE b o e hx) (I.base.keep b o e n hb hx) (I.base.free b o e n hx)
 ·obtain ⟨sl,e1⟩:=I.base.slot b o e n hb hx
  obtain ⟨sl',e2⟩:=slot b _ (neL b o e) hb (HE b o e hx) e1 (I.base.free b o e n hx)
  exact ⟨sl',e2⟩
 ·obtain ⟨o',e1⟩:=I.base.there b o e hx
  exact free b o' (HE b o e hx) e1 (I.base.free b o e n hx)
 ·obtain ⟨o',e1⟩:=I.base.there b o e hx
  exact there b o' (HE b o e hx) e1
 ·obtain ⟨m1,e1⟩:=I.base.sk b ps e
  obtain ⟨m2,e2⟩:=sk b _ e1
  exact ⟨m1 ++ m2,by rw [e2,Array.append_assoc]⟩
 ·obtain ⟨m,hn,hl⟩:=I.loc
  refine ⟨m,ns m hn,fun i x v e1 e2 e3=>?_⟩
  obtain ⟨u,r,l⟩:=hl i x v e1 e2 e3
  refine ⟨u,r,?_⟩
  rcases l with l | ⟨k,c,e,z⟩
  ·exact .inl l
  ·exact .inr ⟨k,c,e,cellK x c e _ z⟩
 ·obtain ⟨v,z⟩:=I.cell x c e
  exact ⟨v,cellK x c e v z⟩
 ·obtain ⟨m,⟨o,_,_,ho,_⟩,_⟩:=I.loc
  exact free _ o (fun z=>(D8 _ z).2.1 rfl) ho I.free
 ·obtain ⟨v,o,ho,hd⟩:=I.cell x c e
  exact free c o (fun z=>(D8 c z).2.2.1 x c e rfl) ho (I.j7 x c e)
 ·obtain ⟨e,n,ne,nf,d⟩:=I.pin p hp
  have N5:p.1 ∉ ch:=fun z=>(D8 p.1 z).2.2.2 p hp rfl
  exact ⟨keep p.1 p.2 ne nf N5 e n,free p.1 p.2 N5 e n,ne,nf,d⟩
theorem Inv.un {t':Nat} (I:Inv X pins σ H s) (u:Un X.fs [] H H' s.heap h') (dD:mJ X.prog X.w H' h'):Inv X pins σ H' { s with heap:=h',toks:=t' }:=by
 obtain ⟨m,⟨o,es,ep,ho,r⟩,_⟩:=id I.loc
 obtain ⟨sl,hL⟩:=u.any ho I.free (by simp)
 exact I.step (g':=s.gens) (d':=s.drawn) (ch:=[]) (fun _ z=>nomatch z) (fun b o _ hb _ e n=>u.keep b o e n hb (by simp)) (fun b o _ hb _ e n=>u.slot b o e n hb (by simp)) (fun b o _ e n=>u.free b o e n (by simp)) (fun b o _ e=>u.there b o e (by simp)) u.sf u.qz u.sk (fun m' hm=>by
  obtain ⟨o',RL,YW,e9,r'⟩:=hm
  rw [ho] at e9;cases e9
  exact ⟨_,RL,YW,hL,r'⟩) dD I.bare
theorem Inv.call {g':Array GenState} {t':Nat} {d':Drawn} {ch:List Addr} (I:Inv X pins σ H s) (u:Un (Bk X.stack) ch H H' s.heap h') (dD:mJ X.prog X.w H' h') (hg:AllBare g')
  (D8:∀ b ∈ ch,(b ∈ X.ex \/ X.s₀.heap.objs.size <= b) /\ b ≠ X.env.locals /\ (∀ x c,X.env.cells.lookup x = some c -> c ≠ b) /\ ∀ p ∈ X.pn ++ pins,p.1 ≠ b) :
  Inv X pins σ H' { s with heap:=h',gens:=g',drawn:=d',toks:=t' }:=by
 obtain ⟨m,⟨o,es,ep,ho,r⟩,_⟩:=id I.loc
 obtain ⟨sl,hL⟩:=u.any ho I.free fun z=>(D8 _ z).2.1 rfl
 exact I.step (ch:=ch) D8 (fun b o hL hb hc e n=>u.keep b o e n (fun z=>(List.mem_cons.mp (I.lX b z)).elim hL hb) hc) (fun b o _ _ hc e n=>u.any e n hc) (fun b o hc e n=>u.free b o e n hc) (fun b o hc e=>u.there b o e hc) u.sf u.qz u.sk (fun m' hm=>by
  obtain ⟨o',RL,YW,e9,r'⟩:=hm
  rw [ho] at e9;cases e9
  exact ⟨_,RL,YW,hL,r'⟩) dD hg
theorem Inv.turned {t':Nat} {it:Addr} (I:Inv X pins σ H s) (k:∀ b o,b ≠ it -> s.heap.get? b = some o -> h'.get? b = some o) (hn:H it = none) (hL:it ≠ X.env.locals)
  (h1:it ∈ X.ex \/ X.s₀.heap.objs.size <= it) (h2:∀ x c,X.env.cells.lookup x = some c -> c ≠ it) (h3:∀ p ∈ X.pn ++ pins,p.1 ≠ it):Inv X pins σ H { s with heap:=h',toks:=t' }:=by
 have HD:∀ b u,H b = some u -> b ≠ it:=fun b u e z=>by rw [z,hn] at e;cases e
 refine I.step (g':=s.gens) (d':=s.drawn) (ch:=[it]) (fun b hb=>?_) (fun b o _ _ hc e _=>k b o (fun z=>hc (by simp [z])) e) (fun b o _ _ hc e _=>⟨o.slots,k b o (fun z=>hc (by simp [z])) e⟩) (fun _ _ _ _ n=>n)
  (fun b o hc e=>⟨o,k b o (fun z=>hc (by simp [z])) e⟩) (fun _ _ e=>e) (fun _ _ _ e=>e) (fun b ps e=>⟨#[],by rw [e];simp⟩) (fun m hm=>?_) (fun b u e=>?_) I.bare
 ·have e:b = it:=by simpa using hb
  subst e
  exact ⟨h1,hL,h2,h3⟩
 ·obtain ⟨o,es,ep,ho,r⟩:=hm
  exact ⟨o,es,ep,k _ o (Ne.symm hL) ho,r⟩
 ·refine (I.dD b u e).p8 (fun c v hc q=>k c v ?_ q) (fun _ q=>q) fun _ _ q=>q
  rcases hc with z | z
  ·rw [z];exact HD b u e
  ·exact HD c _ z
theorem Inv.tok (I:Inv X pins σ H s) (t:Nat):Inv X pins σ H { s with toks:=t }:=I.un (h':=s.heap) (t':=t) Un.refl I.dD
theorem Inv.kept {t':Nat} (I:Inv X pins σ H s) (k:∀ b u,s.heap.get? b = some u -> h'.get? b = some u):Inv X pins σ H { s with heap:=h',toks:=t' }:=I.un (Un.kept k) (I.dD.kept k)
theorem Inv.laid {a:Addr} {o:HO} {t':Nat} (I:Inv X pins σ H s) (k:∀ b u,s.heap.get? b = some u -> h'.get? b = some u) (hp:s.heap.objs.size <= a) (new:dY X.prog X.w (upd H a o) h' a o) :
  Inv X pins σ (upd H a o) { s with heap:=h',toks:=t' }:=I.un (Un.laid k hp (I.dD.fresh hp)) (I.dD.laid k hp new)
theorem Inv.write {x e:Addr} {o:HO} {t':Nat} (I:Inv X pins σ H s) (mu:R5 (H x)) (he:e = x \/ H e = some (.own x)) (k:∀ b u,b ≠ e -> s.heap.get? b = some u -> h'.get? b = some u) (Mr:∃ u,h'.get? e = some u)
  (new:dY X.prog X.w (upd H x o) h' x o):Inv X pins σ (upd H x o) { s with heap:=h',toks:=t' }:=I.un (Un.write mu he k Mr) (I.dD.write mu he k Mr new)
theorem Inv.jE {Hy:List (Addr × Obj)} (I:Inv X pins σ H s) (h:∀ p ∈ Hy,s.heap.get? p.1 = some p.2 /\ H p.1 = none /\ p.1 ≠ X.env.locals /\ p.1 ∉ X.fs /\ ∀ v,p.2.data ≠ .cell v):Inv X Hy σ H s :=
 ⟨I.ok,I.os,I.bare,I.base,I.loc,I.cell,I.free,I.j7,fun p hp=>(List.mem_append.mp hp).elim (fun z=>I.pin p (List.mem_append_left _ z)) (h p),I.dD,I.len⟩
theorem vw {N:List Str} (hN:N.Nodup) {i j:Nat} {x:Str} (a:N[i]? = some x) (b:N[j]? = some x):i = j:=by
 obtain ⟨h1,e1⟩:=List.getElem?_eq_some_iff.mp a
 obtain ⟨h2,e2⟩:=List.getElem?_eq_some_iff.mp b
 exact (List.getElem_inj hN).mp (e1.trans e2.symm)
theorem zT {M:Model} {A:Around} {E:Value -> Shared -> Prop} {i:Nat} {x:Str} {v:V} {u:Value} {Q:Unit -> Shared -> Prop} (I:Inv X pins σ H s) (hN:X.N.Nodup) (hi:X.N[i]? = some x) (hx:Loc X.env.scope x) (r:RelV v u)
  (h:∀ s',Inv X pins (σ.set i (some v)) H s' -> (∃ a,Heap.SameBut a s.heap s'.heap /\ (a = X.env.locals \/ X.env.cells.lookup x = some a)) -> Q () s') (hf:X.fn x = true \/ X.env.scope.names.lookup x = some .local:=by first | exact .inl rfl | exact .inr rfl | assumption):wpAny M A (storeName X.env x u) Q E s:=by
 obtain ⟨m,hn,hl⟩:=id I.loc
 have Gj:(X.env.scope.kind == .class || (X.env.scope.kind == .module && X.env.locals != X.env.globals)) = false:=by rw [I.ok.kind];rfl
 have OP:i < σ.length:=by rw [I.len];exact (List.getElem?_eq_some_iff.mp hi).1
 have LJ:=I.LJ
 have tracked:∀ {a:Addr} {h':Heap},(∃ o,s.heap.get? a = some o /\ H a = none) -> Heap.SameBut a s.heap h' -> mJ X.prog X.w H h':=fun {a h'} ha hs b ob e=>by
  obtain ⟨_,_,HP⟩:=ha
  refine (I.dD b ob e).p8 (fun c w' hc q=>(hs.2 c ?_).trans q) (fun _ q=>q) fun _ _ q=>q
  rintro rfl
  rcases hc with rfl | hc
  ·rw [HP] at e;cases e
  ·rw [HP] at hc;cases hc
 rcases hx with hk | hk
 ·refine wpAny_storeName_local hk hn (fun h' Bh hs=>?_) Gj
  obtain ⟨oL,_,_,hoL,_⟩:=id hn
  refine h _ ⟨I.ok,I.os,I.bare,⟨fun b o e n hb hx=>?_,fun b o e n hb hx=>?_,I.base.free,fun b o e hx=>?_,I.base.sf,I.base.qz,I.base.sk⟩,⟨_,Bh,fun j y v' e1 e2 e3=>?_⟩,fun y c e=>?_,I.free,I.j7,fun p hp=>?_,tracked ⟨oL,hoL,I.free⟩ hs,by simpa using I.len⟩ ⟨_,hs,.inl rfl⟩
  ·exact (hs.2 b (Nat.ne_of_lt (Nat.lt_of_lt_of_le (Heap.lt_size e) I.ok.above))).trans (I.base.keep b o e n hb hx)
  ·obtain ⟨sl,e1⟩:=I.base.slot b o e n hb hx
   exact ⟨sl,(hs.2 b (Nat.ne_of_lt (Nat.lt_of_lt_of_le (Heap.lt_size e) I.ok.above))).trans e1⟩
  ·obtain ⟨o',e1⟩:=I.base.there b o e hx
   exact ⟨o',(hs.2 b (Nat.ne_of_lt (Nat.lt_of_lt_of_le (Heap.lt_size e) I.ok.above))).trans e1⟩
  ·by_cases hj:j = i
   ·subst hj
    rw [hi] at e1;cases e1
    rw [List.getElem?_set_self OP] at e2
    cases e2
    exact ⟨u,r,.inl ⟨hk,by simp⟩⟩
   ·rw [List.getElem?_set_ne (Ne.symm hj)] at e2
    obtain ⟨u',r',q⟩:=hl j y v' e1 e2 e3
    refine ⟨u',r',?_⟩
    rcases q with ⟨k,e⟩ | ⟨k,c,e,z⟩
    ·refine .inl ⟨k,?_⟩
     have:y ≠ x:=fun e=>hj (vw hN e1 (e ▸ hi))
     simp [this,e]
    ·exact .inr ⟨k,c,e,z.sameBut hs (LJ y c e)⟩
  ·obtain ⟨w',z⟩:=I.cell y c e
   exact ⟨w',z.sameBut hs (LJ y c e)⟩
  ·obtain ⟨e,n,ne,nf,d⟩:=I.pin p hp
   exact ⟨(hs.2 p.1 ne).trans e,n,ne,nf,d⟩
 ·have D7:X.fn x = true:=by
   rcases hf with z | z
   ·exact z
   ·rw [z] at hk;cases hk
  obtain ⟨c,hc⟩:=I.ok.has x (.inl hk)
  obtain ⟨w',z⟩:=I.cell x c hc
  refine wpAny_storeName_cell I.ok.kind hk hc z (fun h' xy hs=>?_)
  obtain ⟨oc,hoc,Xq⟩:=id z
  refine h { s with heap:=h' } ⟨I.ok,I.os,I.bare,⟨fun b o e n hb hx=>?_,fun b o e n hb hx=>?_,I.base.free,fun b o e hx=>?_,I.base.sf,I.base.qz,I.base.sk⟩,⟨m,hn.sameBut hs (Ne.symm (LJ x c hc)),fun j y v' e1 e2 e3=>?_⟩,fun y c' e=>?_,I.free,I.j7,fun p hp=>?_,tracked ⟨oc,hoc,I.j7 x c hc⟩ hs,by simpa using I.len⟩ ⟨c,hs,.inr hc⟩
  ·exact (hs.2 b (Nat.ne_of_lt (Nat.lt_of_lt_of_le (Heap.lt_size e) (I.ok.Qu x c D7 hc)))).trans (I.base.keep b o e n hb hx)
  ·obtain ⟨sl,e1⟩:=I.base.slot b o e n hb hx
   exact ⟨sl,(hs.2 b (Nat.ne_of_lt (Nat.lt_of_lt_of_le (Heap.lt_size e) (I.ok.Qu x c D7 hc)))).trans e1⟩
  ·obtain ⟨o',e1⟩:=I.base.there b o e hx
   exact ⟨o',(hs.2 b (Nat.ne_of_lt (Nat.lt_of_lt_of_le (Heap.lt_size e) (I.ok.Qu x c D7 hc)))).trans e1⟩
  ·by_cases hj:j = i
   ·subst hj
    rw [hi] at e1;cases e1
    rw [List.getElem?_set_self OP] at e2
    cases e2
    exact ⟨u,r,.inr ⟨.inl hk,c,hc,xy⟩⟩
   ·rw [List.getElem?_set_ne (Ne.symm hj)] at e2
    obtain ⟨u',r',q⟩:=hl j y v' e1 e2 e3
    refine ⟨u',r',?_⟩
    rcases q with q | ⟨k,c',e,z'⟩
    ·exact .inl q
    ·refine .inr ⟨k,c',e,z'.sameBut hs ?_⟩
     rintro rfl
     exact hj (vw hN e1 (I.ok.inj _ _ _ e hc ▸ hi))
  ·by_cases hcc:c' = c
   ·subst hcc;exact ⟨_,xy⟩
   ·obtain ⟨w2,z2⟩:=I.cell y c' e
    exact ⟨w2,z2.sameBut hs hcc⟩
  ·obtain ⟨e,n,ne,nf,d⟩:=I.pin p hp
   refine ⟨(hs.2 p.1 ?_).trans e,n,ne,nf,d⟩
   intro q
   rw [q,hoc] at e
   have q':oc = p.2:=Option.some.inj e
   exact d w' (by rw [<- q'];exact Xq)
theorem kW {M:Model} {A:Around} {E:Value -> Shared -> Prop} {i:Nat} {x:Str} {v:V} {u:Value} {Q:Unit -> Shared -> Prop} (I:Inv X pins σ H s) (hN:X.N.Nodup) (hi:X.N[i]? = some x) (hx:Loc X.env.scope x) (r:RelV v u)
  (h:∀ s',Inv X pins (σ.set i (some v)) H s' -> Q () s') (hf:X.fn x = true \/ X.env.scope.names.lookup x = some .local:=by first | exact .inl rfl | exact .inr rfl | assumption):wpAny M A (storeName X.env x u) Q E s :=
 zT I hN hi hx r (fun s' I' _=>h s' I') hf
theorem Inv.Qt {s':Shared} {ch:List Addr} (I:Inv X pins σ H s) (ho:s'.os = s.os) (u:Un (Bk X.stack) ch H H' s.heap s'.heap) (dD:mJ X.prog X.w H' s'.heap) (hg:AllBare s'.gens)
  (D8:∀ b ∈ ch,(b ∈ X.ex \/ X.s₀.heap.objs.size <= b) /\ b ≠ X.env.locals /\ (∀ x c,X.env.cells.lookup x = some c -> c ≠ b) /\ ∀ p ∈ X.pn ++ pins,p.1 ≠ b):Inv X pins σ H' s':=by
 obtain ⟨h',g',d',t',o'⟩:=s'
 have e:o' = s.os:=ho
 subst e
 exact I.call (g':=g') (t':=t') (d':=d') u dD hg D8
end
noncomputable abbrev XK:=Value -> Option Addr -> Hp -> Prop
noncomputable abbrev St:=List (Option V)
noncomputable abbrev VK:=V -> Hp -> Prop
noncomputable abbrev TE:=St -> Hp -> VK -> Prop
noncomputable abbrev TT:=St -> Hp -> (Bool -> Hp -> Prop) -> Prop
noncomputable abbrev TA:=St -> Hp -> (List V -> Hp -> Prop) -> Prop
structure Ends where
 nx:St -> Hp -> Prop
 rt:VK
 bk:St -> Hp -> Prop:=fun _ _=>False
 ct:St -> Hp -> Prop:=fun _ _=>False
noncomputable abbrev TS:=Ends -> St -> Hp -> Prop
noncomputable def EP (X:Cx) (pins:List (Addr × Obj)) (σ:St) (Q:VK) (u:Value) (s':Shared):Prop:=∃ v H',Inv X pins σ H' s' /\ RelV v u /\ Q v H'
noncomputable def TP (X:Cx) (pins:List (Addr × Obj)) (σ:St) (Q:Bool -> Hp -> Prop) (b:Bool) (s':Shared):Prop:=∃ H',Inv X pins σ H' s' /\ Q b H'
noncomputable def AP (X:Cx) (pins:List (Addr × Obj)) (σ:St) (Q:List V -> Hp -> Prop) (us:List Value) (s':Shared):Prop:=∃ vs H',Inv X pins σ H' s' /\ Vals vs us /\ Q vs H'
noncomputable def SP (X:Cx) (pins:List (Addr × Obj)) (D:Ends) (f:Flow) (s':Shared):Prop :=
 match f with
 | .next=>∃ σ' H',Inv X pins σ' H' s' /\ D.nx σ' H'
 | .brk=>∃ σ' H',Inv X pins σ' H' s' /\ D.bk σ' H'
 | .cont=>∃ σ' H',Inv X pins σ' H' s' /\ D.ct σ' H'
 | .ret u=>∃ v σ' H',Inv X pins σ' H' s' /\ RelV v u /\ D.rt v H'
noncomputable def PE (X:Cx) (e:Expr) (t:TE):Prop :=
 ∀ (pins:List (Addr × Obj)) (s:Shared) (σ:St) (H:Hp) (Q:VK),Inv X pins σ H s -> t σ H Q -> wpAny (model X.prog X.w) X.A (eval e X.env) (EP X pins σ Q) X.xe s
noncomputable def PT (X:Cx) (e:Expr) (t:TT):Prop :=
 ∀ (pins:List (Addr × Obj)) (s:Shared) (σ:St) (H:Hp) (Q:Bool -> Hp -> Prop),Inv X pins σ H s -> t σ H Q -> wpAny (model X.prog X.w) X.A (isTrue e X.env (eval e X.env)) (TP X pins σ Q) X.xe s
noncomputable def PW (X:Cx) (e:Expr) (t:TT):Prop :=
 ∀ (whole:Sem Value) (pins:List (Addr × Obj)) (s:Shared) (σ:St) (H:Hp) (Q:Bool -> Hp -> Prop),Inv X pins σ H s -> t σ H Q -> wpAny (model X.prog X.w) X.A (isTrue e X.env whole) (TP X pins σ Q) X.xe s
theorem PW.pt {X:Cx} {e:Expr} {t:TT} (h:PW X e t):PT X e t:=h _
noncomputable def PA (X:Cx) (es:List Expr) (t:TA):Prop :=
 ∀ (pos:Pos) (pins:List (Addr × Obj)) (s:Shared) (σ:St) (H:Hp) (Q:List V -> Hp -> Prop),Inv X pins σ H s -> t σ H Q -> wpAny (model X.prog X.w) X.A (spliced (backTo pos (starEach es X.env))) (AP X pins σ Q) X.xe s
noncomputable def PS (X:Cx) (st:Stmt) (t:TS):Prop :=
 ∀ (pins:List (Addr × Obj)) (s:Shared) (σ:St) (H:Hp) (D:Ends),Inv X pins σ H s -> t D σ H -> wpAny (model X.prog X.w) X.A (exec st X.env) (SP X pins D) X.xe s
noncomputable def nZ (X:Cx) (st:List Stmt) (t:TS):Prop :=
 ∀ (pins:List (Addr × Obj)) (s:Shared) (σ:St) (H:Hp) (D:Ends),Inv X pins σ H s -> t D σ H -> wpAny (model X.prog X.w) X.A (execs st X.env) (SP X pins D) X.xe s
theorem dS {α:Type} {t:Sem α} {Q Q':α -> Shared -> Prop} {M:Model} {A:Around} {E:Value -> Shared -> Prop} {s:Shared} (h:wpAny M A t Q E s) (hQ:∀ a s,Q a s -> Q' a s):wpAny M A t Q' E s:=wpAny_mono h hQ fun _ _ x=>x
end L2
namespace L2
open PySem PySem.Spec PyProof.Rows
section
variable {X:Cx}
theorem bin {a b:Expr} {ta tb:TE} (ha:PE X a ta) (hb:PE X b tb) {pins:List (Addr × Obj)} {s:Shared} {σ:St} {H:Hp} {R:V -> V -> Hp -> Prop} (I:Inv X pins σ H s) (h:ta σ H fun x H1=>tb σ H1 fun y H2=>R x y H2)
  {α:Type} {Q:α -> Shared -> Prop} {f:Value -> Value -> Sem α}
  (hf:∀ v u s2 x y H2,Inv X pins σ H2 s2 -> RelV x v -> RelV y u -> R x y H2 -> wpAny (model X.prog X.w) X.A (f v u) Q X.xe s2) :
  wpAny (model X.prog X.w) X.A (eval a X.env) (fun v s₁=>wpAny (model X.prog X.w) X.A (eval b X.env) (fun u s₂=>wpAny (model X.prog X.w) X.A (f v u) Q X.xe s₂) X.xe s₁) X.xe s:=by
 refine dS (ha pins s σ H _ I h) fun v s1 ⟨x,H1,I1,r1,q1⟩=>?_
 refine dS (hb pins s1 σ H1 _ I1 q1) fun u s2 ⟨y,H2,I2,r2,q2⟩=>?_
 exact hf v u s2 x y H2 I2 r1 r2 q2
noncomputable def ED (i:Nat):TE:=fun σ H Q=>∃ v,σ[i]? = some (some v) /\ Q v H
noncomputable def tC (v:V):TE:=fun _ H Q=>Q v H
theorem xg {i:Nat} {x:Str} {pos:Pos} (hN:X.N[i]? = some x) (hv:LV X.env.scope x) (hd:(x == ("__debug__" : Str)) = false:=by decide) (Gk:(x == ("__classdict__" : Str)) = false:=by decide):PE X (.Name x pos) (ED i):=by
 intro pins s σ H Q I h
 obtain ⟨v,e,h⟩:=h
 obtain ⟨m,hn,hl⟩:=I.loc
 obtain ⟨u,r,l⟩:=hl i x v hN e hv
 have fin:EP X pins σ Q u s:=⟨v,H,I,r,h⟩
 rcases l with ⟨hk,hm⟩ | ⟨hk,c,hc,hcell⟩
 ·exact wpAny_Name (wpAny_loadName_local I.ok.kind hk hn hm fin) hd
 ·rcases hk with hk | hk
  ·exact wpAny_Name (wpAny_loadName_cell I.ok.kind hk hc hcell fin) hd
  ·exact wpAny_Name (wpAny_loadName_free I.ok.kind hk hc hcell fin Gk) hd
theorem Jx {i j pos}:PE X (.Constant (.int i) j pos) (tC (.int i)):=fun _ _ _ H _ I h=>wpAny_Constant_int ⟨.int i,H,I.tok _,⟨_,rfl⟩,h⟩
theorem NQ {b j pos}:PE X (.Constant (.bool b) j pos) (tC (.bl b)):=fun _ _ _ H _ I h=>Constant_bool ⟨.bl b,H,I,rfl,h⟩
theorem Jv {j pos}:PE X (.Constant .none j pos) (tC .bE):=fun _ _ _ H _ I h=>Constant_none ⟨.bE,H,I,rfl,h⟩
theorem UH {x j pos}:PE X (.Constant (.str x) j pos) (tC (.str x)):=fun _ _ _ H _ I h=>Calls.Constant_str ⟨.str x,H,I.tok _,⟨_,rfl⟩,h⟩
noncomputable def Gl (X:Cx) (x:Str):Prop:=X.env.kindOf x = some .globalImplicit
theorem yI {E:Value -> Shared -> Prop} {pins:List (Addr × Obj)} {s:Shared} {σ:St} {H:Hp} {x:Str} {u:Value} {pos:Pos} {Q:Value -> Shared -> Prop} (I:Inv X pins σ H s) (hg:Gl X x) (hm:X.mg x = some u) (h:Q u s)
  (hd:(x == ("__debug__" : Str)) = false:=by decide):wpAny (model X.prog X.w) X.A (eval (.Name x pos) X.env) Q E s :=
 Calls.Name_function_global I.ok.kind hg (Calls.loadGlobal_global (by rw [I.ok.glob];exact I.mod.glob.keeps I.bk) hm h) hd
theorem eK {E:Value -> Shared -> Prop} {pins:List (Addr × Obj)} {s:Shared} {σ:St} {H:Hp} {x:Str} {u:Value} {pos:Pos} {Q:Value -> Shared -> Prop} (I:Inv X pins σ H s) (hg:Gl X x) (hm:X.mg x = none) (hv:bootBuiltins x = some u) (h:Q u s)
  (hn:x ≠ "__name__":=by decide) (hd:(x == ("__debug__" : Str)) = false:=by decide):wpAny (model X.prog X.w) X.A (eval (.Name x pos) X.env) Q E s:=by
 obtain ⟨mb,h1,h2⟩:=I.mod.blt
 exact Calls.Name_function_global I.ok.kind hg (Calls.loadGlobal_builtin (by rw [I.ok.glob];exact I.mod.glob.keeps I.bk) hm (by rw [I.ok.blt];exact h1.keeps I.bk) ((h2 x hn).trans hv) h) hd
theorem yw {x:Str} {v:V} {u:Value} {pos:Pos} (hg:Gl X x) (hm:X.mg x = some u) (r:RelV v u) (hd:(x == ("__debug__" : Str)) = false:=by decide):PE X (.Name x pos) (tC v) :=
 fun _ _ _ H _ I h=>yI I hg hm ⟨v,H,I,r,h⟩ hd
theorem Ft {x:Str} {v:V} {u:Value} {pos:Pos} (hg:Gl X x) (hm:X.mg x = none) (hv:bootBuiltins x = some u) (r:RelV v u) (hn:x ≠ "__name__":=by decide) (hd:(x == ("__debug__" : Str)) = false:=by decide):PE X (.Name x pos) (tC v) :=
 fun _ _ _ H _ I h=>eK I hg hm hv ⟨v,H,I,r,h⟩ hn hd
variable {a b:Expr} {ta tb:TE} {pos:Pos}
noncomputable def tB (t:TE):TT:=fun σ H Q=>t σ H fun x H1=>∃ c,x = .bl c /\ Q c H1
theorem Jm {e:Expr} {t:TE} (h:PE X e t) (he:∀ whole,isTrue e X.env whole = (do let v <- whole;standAt e.pos;holding [v] (truthy v)):=by intro _;rfl):PT X e (tB t):=by
 intro pins s σ H Q I hw
 refine isTrue_plain (dS (h pins s σ H _ I hw) fun v s1 ⟨x,H1,I1,r1,q1⟩=>?_) (he _)
 obtain ⟨d,rfl,q⟩:=q1
 cases r1
 exact wpAny_truthy_bool ⟨H1,I1,q⟩
variable {tA QS:TT} {rest:List Expr}
noncomputable def M_ (t u:TT):TT:=fun σ H Q=>t σ H fun c H1=>if c = true then u σ H1 Q else Q false H1
noncomputable def tOr (t u:TT):TT:=fun σ H Q=>t σ H fun c H1=>if c = true then Q true H1 else u σ H1 Q
noncomputable def So (t:TT):TT:=fun σ H Q=>t σ H fun c H1=>Q (!c) H1
theorem Fm (ha:PT X a tA):PW X (.BoolOp .And [a] pos) tA:=by
 intro wh pins s σ H Q I h
 refine isTrue_and (dS (ha pins s σ H Q I h) fun c s1 e=>?_)
 cases c with
 | true=>exact isTrue_and_nil e
 | false=>exact e
theorem Jk (ha:PT X a tA):PW X (.BoolOp .Or [a] pos) tA:=by
 intro wh pins s σ H Q I h
 refine isTrue_or (dS (ha pins s σ H Q I h) fun c s1 e=>?_)
 cases c with
 | false=>exact isTrue_or_nil e
 | true=>exact e
theorem Jl (ha:PT X a tA) (hb:PW X (.BoolOp .And (b :: rest) pos) QS):PW X (.BoolOp .And (a :: b :: rest) pos) (M_ tA QS):=by
 intro wh pins s σ H Q I h
 refine isTrue_and (dS (ha pins s σ H _ I h) fun c s1 ⟨H1,I1,q1⟩=>?_)
 cases c with
 | true=>exact hb wh pins s1 σ H1 Q I1 q1
 | false=>exact ⟨H1,I1,q1⟩
theorem NI (ha:PT X a tA) (hb:PW X (.BoolOp .Or (b :: rest) pos) QS):PW X (.BoolOp .Or (a :: b :: rest) pos) (tOr tA QS):=by
 intro wh pins s σ H Q I h
 refine isTrue_or (dS (ha pins s σ H _ I h) fun c s1 ⟨H1,I1,q1⟩=>?_)
 cases c with
 | true=>exact ⟨H1,I1,q1⟩
 | false=>exact hb wh pins s1 σ H1 Q I1 q1
theorem Jn (ha:PT X a tA):PT X (.UnaryOp .Not a pos) (So tA):=by
 intro pins s σ H Q I h
 exact isTrue_not (ha pins s σ H (fun c H1=>Q (!c) H1) I h)
noncomputable def Hj (ta tb:TE):TE:=fun σ H Q=>ta σ H fun x H1=>∃ c,x = .bl c /\ if c = true then tb σ H1 Q else Q (.bl false) H1
noncomputable def M4 (ta tb:TE):TE:=fun σ H Q=>ta σ H fun x H1=>∃ c,x = .bl c /\ if c = true then Q (.bl true) H1 else tb σ H1 Q
noncomputable def M5 (ta:TE):TE:=fun σ H Q=>ta σ H fun x H1=>∃ c,x = .bl c /\ Q (.bl (!c)) H1
theorem Cg {op} {t:TE} (h:PE X a t):PE X (.BoolOp op [a] pos) t:=fun pins s σ H Q I hw=>BoolOp_one (h pins s σ H Q I hw)
theorem Jy (ha:PE X a ta) (hb:PE X (.BoolOp .And (b :: rest) pos) tb):PE X (.BoolOp .And (a :: b :: rest) pos) (Hj ta tb):=by
 intro pins s σ H Q I h
 refine BoolOp_and (dS (ha pins s σ H _ I h) fun v s1 ⟨x,H1,I1,r1,q1⟩=>?_)
 obtain ⟨c,rfl,q1⟩:=q1
 cases r1
 refine wpAny_truthy_bool ?_
 cases c with
 | true=>exact hb pins s1 σ H1 Q I1 q1
 | false=>exact ⟨.bl false,H1,I1,rfl,q1⟩
theorem NO (ha:PE X a ta) (hb:PE X (.BoolOp .Or (b :: rest) pos) tb):PE X (.BoolOp .Or (a :: b :: rest) pos) (M4 ta tb):=by
 intro pins s σ H Q I h
 refine BoolOp_or (dS (ha pins s σ H _ I h) fun v s1 ⟨x,H1,I1,r1,q1⟩=>?_)
 obtain ⟨c,rfl,q1⟩:=q1
 cases r1
 refine wpAny_truthy_bool ?_
 cases c with
 | false=>exact hb pins s1 σ H1 Q I1 q1
 | true=>exact ⟨.bl true,H1,I1,rfl,q1⟩
theorem Ju (ha:PE X a ta):PE X (.UnaryOp .Not a pos) (M5 ta):=by
 intro pins s σ H Q I h
 refine UnaryOp_ (dS (ha pins s σ H _ I h) fun v s1 ⟨x,H1,I1,r1,q1⟩=>?_)
 obtain ⟨c,rfl,q1⟩:=q1
 cases r1
 exact not_of (wpAny_truthy_bool ⟨.bl (!c),H1,I1,rfl,q1⟩)
noncomputable def tIf (t:TT) (ta tb:TE):TE:=fun σ H Q=>t σ H fun c H1=>if c = true then ta σ H1 Q else tb σ H1 Q
theorem Cj {c:Expr} (hc:PT X c tA) (ha:PE X a ta) (hb:PE X b tb):PE X (.IfExp c a b pos) (tIf tA ta tb):=by
 intro pins s σ H Q I h
 refine wpAny_IfExp (dS (hc pins s σ H _ I h) fun d s1 ⟨H1,I1,q1⟩=>?_)
 cases d with
 | true=>exact ha pins s1 σ H1 Q I1 q1
 | false=>exact hb pins s1 σ H1 Q I1 q1
end
end L2
namespace L2
open PySem PySem.Spec PyProof.Rows
noncomputable def du (K:PySem.W.Frag) (H:Hp) (a:Addr) (xs:List V):Prop :=
 Rd H a (.lst xs) \/
  ∃ (o:Obj) (aj:Array Value) (n:Nat),K.lookup a = some o /\ o.cls = .type "list" /\ o.dict = none /\ o.data = .seq aj n /\ aj.size <= sizeLine /\ Vals xs aj.toList
noncomputable def aG (K:PySem.W.Frag) (H:Hp) (a:Addr) (xs:List V):Prop :=
 Rd H a (.tup xs) \/
  ∃ (o:Obj) (aj:Array Value) (n:Nat),K.lookup a = some o /\ o.cls = .type "tuple" /\ o.data = .seq aj n /\ aj.size <= sizeLine /\ Vals xs aj.toList
noncomputable def aa2:Value -> Option V
 | .none=>some .bE
 | .bool b=>some (.bl b)
 | .int i _=>some (.int i)
 | .str x _=>some (.str x)
 | .bytes b _=>some (.byt b)
 | .float b _=>some (.Pg b)
 | .ref a=>some (.ref a)
 | .type n=>some (.ty n)
 | _=>none
theorem RelV.abs {x:V} {u:Value} (r:RelV x u):aa2 u = some x:=by
 cases x with
 | bE=>cases r;rfl
 | bl _=>cases r;rfl
 | int _=>obtain ⟨t,rfl⟩:=r;rfl
 | str _=>obtain ⟨t,rfl⟩:=r;rfl
 | byt _=>obtain ⟨t,rfl⟩:=r;rfl
 | Pg _=>obtain ⟨t,rfl⟩:=r;rfl
 | ref _=>cases r;rfl
 | ty _=>cases r;rfl
theorem RelV.inj {x y:V} {u:Value} (r:RelV x u) (q:RelV y u):x = y:=Option.some.inj (r.abs.symm.trans q.abs)
theorem Vals.inj:∀ {xs ys:List V} {us:List Value},Vals xs us -> Vals ys us -> xs = ys
 | _,_,_,.nil,.nil=>rfl
 | _,_,_,.cons r t,.cons r' t'=>by rw [r.inj r',Vals.inj t t']
section
variable {X:Cx} {pins:List (Addr × Obj)} {σ:St} {H:Hp} {s:Shared} {a:Addr} {xs ys:List V}
theorem du.of {K:PySem.W.Frag} (h:H a = some (.lst xs)):du K H a xs:=.inl (.inl h)
theorem aG.of {K:PySem.W.Frag} (h:H a = some (.tup xs)):aG K H a xs:=.inl (.inl h)
theorem Inv.list (I:Inv X pins σ H s) (h:du X.K H a xs):∃ aj:List Value,Vals xs aj /\ PlainL s.heap a aj.toArray /\ xs.length <= sizeLine:=by
 rcases h with h | ⟨o,aj,n,hk,hc,hd,hs,hz,r⟩
 ·obtain ⟨z,aj,n,r,e⟩:=h.ok I.dD
  exact ⟨aj,r,⟨_,n,e,rfl,rfl,rfl⟩,z⟩
 ·refine ⟨aj.toList,r,⟨o,n,I.An a o hk,hc,hd,by simpa using hs⟩,?_⟩
  have e:=r.length
  simp only [Array.length_toList] at e
  omega
theorem Inv.tuple (I:Inv X pins σ H s) (h:aG X.K H a xs):∃ aj:List Value,Vals xs aj /\ IsTup s.heap a aj.toArray /\ xs.length <= sizeLine:=by
 rcases h with h | ⟨o,aj,n,hk,hc,hs,hz,r⟩
 ·obtain ⟨z,aj,r,p⟩:=h.ok I.dD
  exact ⟨aj,r,p,z⟩
 ·refine ⟨aj.toList,r,⟨o,I.An a o hk,hc,n,by simpa using hs⟩,?_⟩
  have e:=r.length
  simp only [Array.length_toList] at e
  omega
theorem Inv.lg (I:Inv X pins σ H s) (h:du X.K H a xs) (h':du X.K H a ys):xs = ys:=by
 obtain ⟨aj,r,⟨o,n,e,_,_,d⟩,_⟩:=I.list h
 obtain ⟨its',r',⟨o',n',e',_,_,d'⟩,_⟩:=I.list h'
 rw [e] at e';cases e'
 rw [d] at d'
 injection d' with d1 _
 have:aj = its':=by simpa using congrArg Array.toList d1
 subst this
 exact r.inj r'
theorem Inv.jB (I:Inv X pins σ H s) (h:aG X.K H a xs) (h':aG X.K H a ys):xs = ys:=by
 obtain ⟨aj,r,⟨o,e,_,n,d⟩,_⟩:=I.tuple h
 obtain ⟨its',r',⟨o',e',_,n',d'⟩,_⟩:=I.tuple h'
 rw [e] at e';cases e'
 rw [d] at d'
 injection d' with d1 _
 have:aj = its':=by simpa using congrArg Array.toList d1
 subst this
 exact r.inj r'
end
noncomputable abbrev Cx.p4 (X:Cx) (E:Value -> Shared -> Prop):Cx:={ X with xe:=E }
noncomputable abbrev Cx.N0 (X:Cx):Cx:=X.p4 fun _ _=>False
theorem Cx.Ok.p4 {X:Cx} (ok:X.Ok) (E:Value -> Shared -> Prop):(X.p4 E).Ok :=
 ⟨ok.mod,ok.kind,ok.glob,ok.blt,ok.above,ok.inj,ok.has,ok.Qu,ok.hd,ok.frames,ok.QU,ok.exf,ok.bs,ok.Ic,ok.Cz,ok.Gy,ok.m_,ok.My⟩
theorem Cx.Ok.iY {X:Cx} {E:Value -> Shared -> Prop} (ok:(X.p4 E).Ok):X.Ok :=
 ⟨ok.mod,ok.kind,ok.glob,ok.blt,ok.above,ok.inj,ok.has,ok.Qu,ok.hd,ok.frames,ok.QU,ok.exf,ok.bs,ok.Ic,ok.Cz,ok.Gy,ok.m_,ok.My⟩
section
variable {X:Cx} {pins:List (Addr × Obj)} {σ:St} {H:Hp} {s:Shared} {E:Value -> Shared -> Prop}
theorem Inv.p4 (I:Inv X pins σ H s) (E:Value -> Shared -> Prop):Inv (X.p4 E) pins σ H s:=⟨I.ok.p4 E,I.os,I.bare,I.base,I.loc,I.cell,I.free,I.j7,I.pin,I.dD,I.len⟩
theorem Inv.iY (I:Inv (X.p4 E) pins σ H s):Inv X pins σ H s:=⟨I.ok.iY,I.os,I.bare,I.base,I.loc,I.cell,I.free,I.j7,I.pin,I.dD,I.len⟩
theorem SP.iY {D:Ends} {f:Flow} {s':Shared} (h:SP (X.p4 E) pins D f s'):SP X pins D f s':=by
 cases f with
 | next=>obtain ⟨σ',H',I,q⟩:=h;exact ⟨σ',H',I.iY,q⟩
 | brk=>obtain ⟨σ',H',I,q⟩:=h;exact ⟨σ',H',I.iY,q⟩
 | cont=>obtain ⟨σ',H',I,q⟩:=h;exact ⟨σ',H',I.iY,q⟩
 | ret u=>obtain ⟨v,σ',H',I,r,q⟩:=h;exact ⟨v,σ',H',I.iY,r,q⟩
theorem nZ.N0 {st:List Stmt} {t:TS} (h:nZ X.N0 st t):nZ X st t:=fun pins s σ H D I hw =>
 wpAny_mono (h pins s σ H D (I.p4 _) hw) (fun _ _ q=>q.iY) fun _ _ z=>False.elim z
end
section
variable {X:Cx} {st:Stmt} {rest:List Stmt} {t u:TS} {e:Expr} {te:TE} {pos:Pos}
noncomputable def Hh:TS:=fun D σ H=>D.nx σ H
noncomputable def Sk (t u:TS):TS:=fun D σ H=>t { D with nx:=u D } σ H
theorem Fn:nZ X [] Hh:=fun _ _ σ H _ I h=>wpAny_execs_nil ⟨σ,H,I,h⟩
theorem B7 (h1:PS X st t) (h2:nZ X rest u):nZ X (st :: rest) (Sk t u):=by
 intro pins s σ H D I h
 refine wpAny_execs_cons (dS (h1 pins s σ H { D with nx:=u D } I h) fun f s1 q=>?_)
 cases f with
 | next =>
  obtain ⟨σ',H',I',q⟩:=q
  exact h2 pins s1 σ' H' D I' q
 | ret v=>exact q
 | brk=>exact q
 | cont=>exact q
noncomputable def IC:TS:=fun D σ H=>D.bk σ H
noncomputable def M8:TS:=fun D σ H=>D.ct σ H
theorem Q9:PS X (.Pass pos) Hh:=fun _ _ σ H _ I h=>wpAny_Pass ⟨σ,H,I,h⟩
theorem NK:PS X (.Break pos) IC:=fun _ _ σ H _ I h=>wpAny_Break ⟨σ,H,I,h⟩
theorem Hw:PS X (.Continue pos) M8:=fun _ _ σ H _ I h=>wpAny_Continue ⟨σ,H,I,h⟩
theorem Inv.quiet {pins:List (Addr × Obj)} {σ:St} {H:Hp} {s:Shared} (I:Inv X pins σ H s):interactive X.env = false:=by simp [interactive,I.ok.kind]
noncomputable def M7 (te:TE):TS:=fun D σ H=>te σ H fun _ H1=>D.nx σ H1
theorem sO (he:PE X e te) (hs:swapsWith e none pos.line X.env = pure false:=by rfl):PS X (.Expr e pos) (M7 te):=by
 intro pins s σ H D I h
 exact wpAny_Expr_any (dS (he pins s σ H _ I h) fun v s1 ⟨x,H1,I1,r1,q1⟩=>⟨σ,H1,I1,q1⟩) I.quiet hs
noncomputable def Sl (te:TE):TS:=fun D σ H=>te σ H D.rt
theorem Jo (he:PE X e te):PS X (.Return (some e) pos) (Sl te):=by
 intro pins s σ H D I h
 exact wpAny_Return_some (dS (he pins s σ H _ I h) fun v s1 ⟨x,H1,I1,r1,q1⟩=>⟨x,σ,H1,I1,r1,q1⟩)
noncomputable def M1:TS:=fun D _ H=>D.rt .bE H
theorem Q8:PS X (.Return none pos) M1:=fun _ _ σ H _ I h=>wpAny_Return_none ⟨.bE,σ,H,I,rfl,h⟩
noncomputable def Sr (c:TT) (t u:TS):TS:=fun D σ H=>c σ H fun b H1=>if b = true then t D σ H1 else u D σ H1
theorem NJ {c:Expr} {a b:List Stmt} {tc:TT} (hc:PT X c tc) (ha:nZ X a t) (hb:nZ X b u):PS X (.If c a b pos) (Sr tc t u):=by
 intro pins s σ H D I h
 refine wpAny_If (dS (hc pins s σ H _ I h) fun d s1 ⟨H1,I1,q1⟩=>?_)
 cases d with
 | true=>exact ha pins s1 σ H1 D I1 q1
 | false=>exact hb pins s1 σ H1 D I1 q1
end
noncomputable abbrev TG:=V -> St -> Hp -> (St -> Hp -> Prop) -> Prop
noncomputable abbrev G7:=List V -> St -> Hp -> (St -> Hp -> Prop) -> Prop
noncomputable def PG (X:Cx) (target:Expr) (t:TG):Prop :=
 ∀ (pins:List (Addr × Obj)) (s:Shared) (σ:St) (H:Hp) (v:V) (u:Value) (Q:St -> Hp -> Prop),Inv X pins σ H s -> RelV v u -> t v σ H Q ->
  wpAny (model X.prog X.w) X.A (assign target X.env u) (fun _ s'=>∃ σ' H',Inv X pins σ' H' s' /\ Q σ' H') X.xe s
noncomputable def MG (X:Cx) (ts:List Expr) (t:G7):Prop :=
 ∀ (pins:List (Addr × Obj)) (s:Shared) (σ:St) (H:Hp) (vs:List V) (us:List Value) (Q:St -> Hp -> Prop),Inv X pins σ H s -> Vals vs us -> t vs σ H Q ->
  wpAny (model X.prog X.w) X.A (assignInOrder ((assignEach ts X.env).map (·.2)) us) (fun _ s'=>∃ σ' H',Inv X pins σ' H' s' /\ Q σ' H') X.xe s
noncomputable abbrev LW:=V -> V -> V -> Hp -> (Hp -> Prop) -> Prop
noncomputable def QK (X:Cx) (t:LW):Prop :=
 ∀ (pins:List (Addr × Obj)) (s:Shared) (σ:St) (H:Hp) (o i v:V) (ov iv u:Value) (Q:Hp -> Prop),Inv X pins σ H s -> RelV o ov -> RelV i iv -> RelV v u -> t o i v H Q ->
  wpAny (model X.prog X.w) X.A (setItem ov iv u) (fun _ s'=>∃ H',Inv X pins σ H' s' /\ Q H') X.xe s
noncomputable abbrev RY:=V -> V -> Hp -> VK -> Prop
noncomputable def PIp (X:Cx) (op:Operator) (t:RY):Prop :=
 ∀ (pins:List (Addr × Obj)) (s:Shared) (σ:St) (H:Hp) (x y:V) (v u:Value) (Q:VK),Inv X pins σ H s -> RelV x v -> RelV y u -> t x y H Q ->
  wpAny (model X.prog X.w) X.A (inplaceOp op v u) (EP X pins σ Q) X.xe s
section
variable {X:Cx} {pos:Pos}
noncomputable def rG (i:Nat):TG:=fun v σ H Q=>Q (σ.set i (some v)) H
theorem sR {i:Nat} {x:Str} (hN:X.N.Nodup) (hi:X.N[i]? = some x) (hx:Loc X.env.scope x) (hf:X.fn x = true \/ X.env.scope.names.lookup x = some .local:=by first | exact .inl rfl | exact .inr rfl | assumption):PG X (.Name x pos) (rG i):=by
 intro pins s σ H v u Q I r h
 exact wpAny_assign_Name (kW I hN hi hx r (fun s' I'=>⟨_,H,I',h⟩) hf)
noncomputable def K1:G7:=fun vs σ H Q=>vs = [] /\ Q σ H
noncomputable def Dp (t:TG) (u:G7):G7:=fun vs σ H Q=>∃ v r,vs = v :: r /\ t v σ H fun σ' H'=>u r σ' H' Q
theorem yu:MG X [] K1:=by
 intro pins s σ H vs us Q I r h
 obtain ⟨e,h⟩:=h
 subst e
 cases r
 exact assignInOrder_nil ⟨σ,H,I,h⟩
theorem vm {e:Expr} {es:List Expr} {t:TG} {u:G7} (h1:PG X e t) (h2:MG X es u)
  (hs:(assignEach (e :: es) X.env).map (·.2) = assign e X.env :: (assignEach es X.env).map (·.2):=by rfl):MG X (e :: es) (Dp t u):=by
 intro pins s σ H vs us Q I r h
 obtain ⟨v,vr,e1,h⟩:=h
 subst e1
 cases r with
 | cons r rr =>
  rw [hs]
  refine assignInOrder_cons (dS (h1 pins s σ H _ _ _ I r h) fun _ s1 ⟨σ1,H1,I1,q1⟩=>?_)
  exact h2 pins s1 σ1 H1 _ _ Q I1 rr q1
noncomputable def X6 (K:PySem.W.Frag) (n:Nat) (t:G7):TG:=fun v σ H Q=>∃ a xs,v = .ref a /\ aG K H a xs /\ xs.length = n /\ t xs σ H Q
theorem Cc {es:List Expr} {k:Nat} {t:G7} {n:Nat} (hc:X.calm = true) (h:MG X es t)
  (hn:(assignEach es X.env).length = n:=by rfl) (pZ:(assignEach es X.env).findIdx? (·.1) = none:=by rfl):PG X (.Tuple es k pos) (X6 X.K n t):=by
 intro pins s σ H v u Q I r hw
 obtain ⟨a,xs,e1,hq,hl,hw⟩:=hw
 subst e1
 cases r
 obtain ⟨aj,rv,ht,hz⟩:=I.tuple hq
 refine assign_Tuple_tuple (I.ok.hd hc) ht (by simp [hn,<- hl,rv.length]) pZ fun h' hx=>?_
 have I1:Inv X pins σ H { s with heap:=h' }:=I.kept (t':=s.toks) fun b o e=>hx b o (Nat.ne_of_lt (Heap.lt_size e)) e
 exact h pins _ σ H xs _ Q I1 (by simpa using rv) hw
noncomputable def X7 (to ti:TE) (t:LW):TG:=fun v σ H Q=>to σ H fun o H1=>ti σ H1 fun i H2=>t o i v H2 fun H3=>Q σ H3
theorem Js {o i:Expr} {to ti:TE} {t:LW} (ho:PE X o to) (hi:PE X i ti) (hs:QK X t)
  (ha:∀ v,assign (.Subscript o i pos) X.env v = (do
   let ov <- holding [v] (eval o X.env)
   let iv <- holding [v,ov] (eval i X.env)
   standAt pos
   holding [v,ov,iv] (setItem ov iv v)
   release [v,ov,iv] []):=by intro _;rfl):PG X (.Subscript o i pos) (X7 to ti t):=by
 intro pins s σ H v u Q I r h
 rw [ha]
 refine wpAny_bind (wpAny_holding (dS (ho pins s σ H _ I h) fun ov s1 ⟨x,H1,I1,r1,q1⟩=>?_))
 refine wpAny_bind (wpAny_holding (dS (hi pins s1 σ H1 _ I1 q1) fun iv s2 ⟨y,H2,I2,r2,q2⟩=>?_))
 refine wpAny_bind (wpAny_standAt (wpAny_bind (wpAny_holding (dS (hs pins s2 σ H2 x y v ov iv u _ I2 r1 r2 r q2) fun _ s3 ⟨H3,I3,q3⟩=>?_))))
 exact wpAny_release ⟨σ,H3,I3,q3⟩
noncomputable def Sv (te:TE) (g:TG):TS:=fun D σ H=>te σ H fun x H1=>g x σ H1 D.nx
theorem B9 {tg e:Expr} {te:TE} {g:TG} (he:PE X e te) (hg:PG X tg g) (hs:swapsWithSole [tg] e pos.line X.env = pure false:=by rfl) (hw:swappedStores [tg] e X.env = pure none:=by rfl)
  (h1:(assignEach [tg] X.env).map (·.2) = [assign tg X.env]:=by rfl):PS X (.Assign [tg] e pos) (Sv te g):=by
 intro pins s σ H D I h
 refine wpAny_Assign_stores (dS (he pins s σ H _ I h) fun v s1 ⟨x,H1,I1,r1,q1⟩=>?_) hs hw
 rw [h1]
 exact dS (hg pins s1 σ H1 x v _ I1 r1 q1) fun _ s2 q=>q
noncomputable def Sn (i j:Nat) (ta:TA):TS:=fun D σ H=>ta σ H fun vs H1=>∃ v w,vs = [v,w] /\ D.nx ((σ.set i (some v)).set j (some w)) H1
theorem Jp {i j:Nat} {x y:Str} {a b:Expr} {ta:TA} {px py pt:Pos} {kt k2 L8} (hc:X.calm = true) (hN:X.N.Nodup) (hi:X.N[i]? = some x) (hj:X.N[j]? = some y) (j6:i ≠ j)
  (hx:X.env.scope.names.lookup x = some .local) (hy:X.env.scope.names.lookup y = some .local) (ha:PA X [a,b] ta)
  (hw:swappedStores [.Tuple [.Name x px,.Name y py] kt pt] (.Tuple [a,b] k2 L8) X.env = pure (some [x,y]))
  (hs:swapsWithSole [.Tuple [.Name x px,.Name y py] kt pt] (.Tuple [a,b] k2 L8) pos.line X.env = pure false:=by rfl) :
  PS X (.Assign [.Tuple [.Name x px,.Name y py] kt pt] (.Tuple [a,b] k2 L8) pos) (Sn i j ta):=by
 intro pins s σ H D I h
 rw [exec_Assign_arm]
 refine wpAny_bind (wpAny_standAt ?_)
 rw [hs]
 refine wpAny_bind (wpAny_pure ?_)
 rw [if_neg (by decide)]
 refine wpAny_bind (Tuple_ (dS (ha _ pins s σ H _ I h) fun us s1 ⟨vs,H1,I1,r1,q1⟩=>?_))
 obtain ⟨v,w,e1,q1⟩:=q1
 subst e1
 obtain ⟨u1,u2,rfl,rv,qX⟩:∃ u1 u2,us = [u1,u2] /\ RelV v u1 /\ RelV w u2:=by
  cases r1 with
  | cons p q =>
   cases q with
   | cons p' q' =>
    cases q'
    exact ⟨_,_,rfl,p,p'⟩
 refine wpAny_newObj_type ?_ (by show 2 <= sizeLine;decide)
 have I2:Inv X pins σ H1 { s1 with heap:=s1.heap.push { cls:=.type "tuple",data:=.seq [u1,u2].toArray } }:=I1.kept (t':=s1.toks) fun b o e=>Heap.get?_push_of_some _ e
 rw [hw]
 refine wpAny_bind (wpAny_pure ?_)
 show wpAny (model X.prog X.w) X.A (do rule "assign.swapped-stores";let items <- unpackItems (.ref s1.heap.objs.size) 2 none;assignInOrder [fun v=>bindName X.env y v,fun v=>bindName X.env x v] items.reverse;pure Flow.next) _ _ _
 refine wpAny_bind (wpAny_rule (wpAny_bind (unpackItems_tuple (items:=#[u1,u2]) (I.ok.hd hc) (IsTup.new s1.heap _) fun h' yN=>?_)))
 have I3:=I2.kept (h':=h') (t':=s1.toks) fun b o e=>yN b o (Nat.ne_of_lt (Heap.lt_size e)) e
 show wpAny _ _ (assignInOrder [fun v=>bindName X.env y v,fun v=>bindName X.env x v] [u2,u1] >>= fun _=>pure Flow.next) _ _ _
 refine wpAny_bind (assignInOrder_cons (wpAny_bindName (kW I3 hN hj (.inl hy) qX (fun s2 I4=>?_) (.inr hy))))
 refine assignInOrder_cons (wpAny_bindName (kW I4 hN hi (.inl hx) rv (fun s3 I5=>assignInOrder_nil (wpAny_pure ?_)) (.inr hx)))
 rw [List.set_comm _ _ (Ne.symm j6)] at I5
 exact ⟨_,H1,I5,q1⟩
noncomputable def Su (i:Nat) (te:TE) (ti:RY):TS:=fun D σ H=>∃ x,σ[i]? = some (some x) /\ te σ H fun y H1=>ti x y H1 fun z H2=>D.nx (σ.set i (some z)) H2
theorem T2 {i:Nat} {x:Str} {e:Expr} {te:TE} {op:Operator} {ti:RY} {pos':Pos} (hN:X.N.Nodup) (hi:X.N[i]? = some x) (hx:Loc X.env.scope x) (he:PE X e te) (ho:PIp X op ti) (hf:X.fn x = true \/ X.env.scope.names.lookup x = some .local:=by first | exact .inl rfl | exact .inr rfl | assumption) :
  PS X (.AugAssign (.Name x pos') op e pos) (Su i te ti):=by
 intro pins s σ H D I h
 obtain ⟨v,e1,h⟩:=h
 obtain ⟨m,hn,hl⟩:=I.loc
 have QO:LV X.env.scope x:=by rcases hx with k | k;exact .inl k;exact .inr (.inl k)
 obtain ⟨u,r,l⟩:=hl i x v hi e1 QO
 refine wpAny_AugAssign_Name ?_
 have go:wpAny (model X.prog X.w) X.A (eval e X.env) (fun w s₂=>wpAny (model X.prog X.w) X.A (inplaceOp op u w) (fun r s₃=>wpAny (model X.prog X.w) X.A (storeName X.env x r) (fun _=>SP X pins D .next) X.xe s₃) X.xe s₂) X.xe s:=by
  refine dS (he pins s σ H _ I h) fun w s1 ⟨y,H1,I1,r1,q1⟩=>?_
  refine dS (ho pins s1 σ H1 v y u w _ I1 r r1 q1) fun z s2 ⟨zv,H2,I2,r2,q2⟩=>?_
  exact kW I2 hN hi hx r2 (fun s3 I3=>⟨_,H2,I3,q2⟩) hf
 rcases l with ⟨hk,hm⟩ | ⟨hk,c,hc,hcell⟩
 ·exact wpAny_loadName_local I.ok.kind hk hn hm go
 ·rcases hk with hk | hk
  ·exact wpAny_loadName_cell I.ok.kind hk hc hcell go
  ·rcases hx with k | k
   ·have:X.env.scope.names.lookup x = some .free:=hk
    rw [k] at this;cases this
   ·have:X.env.scope.names.lookup x = some .free:=hk
    rw [k] at this;cases this
noncomputable def ipI (f:Int -> Int -> Int):RY:=fun x y H Q=>∃ i j,x = .int i /\ y = .int j /\ Q (.int (f i j)) H
theorem W5:PIp X .Add (ipI fun i j=>i + j):=by
 intro pins s σ H x y v u Q I r1 r2 h
 obtain ⟨i,j,e1,e2,q⟩:=h
 subst e1;subst e2
 obtain ⟨t,rfl⟩:=r1
 obtain ⟨t',rfl⟩:=r2
 exact iadd_int ⟨.int _,H,I.tok _,⟨_,rfl⟩,q⟩
theorem W4:PIp X .Sub (ipI fun i j=>i - j):=by
 intro pins s σ H x y v u Q I r1 r2 h
 obtain ⟨i,j,e1,e2,q⟩:=h
 subst e1;subst e2
 obtain ⟨t,rfl⟩:=r1
 obtain ⟨t',rfl⟩:=r2
 exact isub_int ⟨.int _,H,I.tok _,⟨_,rfl⟩,q⟩
end
section
variable {X:Cx} {pos:Pos}
noncomputable def IB (c:TT) (tb:TS):TS:=fun D σ H=>∃ W:Nat -> St -> Hp -> Prop,(∃ m,W m σ H) /\ ∀ m σ H,W m σ H ->
 c σ H fun b H1=>if b = true then ∃ N:St -> Hp -> Prop,(∀ σ' H',N σ' H' -> ∃ m',m' < m /\ W m' σ' H') /\ tb { D with nx:=N,ct:=N,bk:=D.nx } σ H1 else D.nx σ H1
theorem B8 {c:Expr} {body:List Stmt} {tc:TT} {tb:TS} (hp:PassesOwn (model X.prog X.w) X.A X.env X.xe) (hc:PT X c tc) (hb:nZ X body tb):PS X (.While c body [] pos) (IB tc tb):=by
 intro pins s σ H D I h
 obtain ⟨W,⟨m0,w0⟩,turn⟩:=h
 refine wpAny_While (codeAny_whileLoop (fun n s'=>∃ σ' H',Inv X pins σ' H' s' /\ W n σ' H') ?_ m0 ⟨σ,H,I,w0⟩)
 rintro n s1 ⟨σ1,H1,I1,w1⟩
 refine wpAny_passesOwn hp (dS (hc pins s1 σ1 H1 _ I1 (turn n σ1 H1 w1)) fun b s2 ⟨H2,I2,q2⟩=>?_)
 cases b with
 | true =>
  obtain ⟨N,hN,q2⟩:=q2
  rw [if_pos rfl]
  refine wpAny_passesOwn hp (dS (hb pins s2 σ1 H2 _ I2 q2) fun f s3 q3=>?_)
  cases f with
  | next =>
   obtain ⟨σ3,H3,I3,n3⟩:=q3
   obtain ⟨m',hm,w3⟩:=hN σ3 H3 n3
   exact ⟨m',hm,σ3,H3,I3,w3⟩
  | cont =>
   obtain ⟨σ3,H3,I3,n3⟩:=q3
   obtain ⟨m',hm,w3⟩:=hN σ3 H3 n3
   exact ⟨m',hm,σ3,H3,I3,w3⟩
  | brk=>exact q3
  | ret v=>exact q3
 | false =>
  rw [if_neg Bool.false_ne_true]
  exact wpAny_execs_nil ⟨σ1,H2,I2,q2⟩
end
structure It where
 go:Nat -> Hp -> Prop
 wJ:Nat -> Hp -> V -> Hp -> Prop
 stop:Nat -> Hp -> Prop
noncomputable def pR (X:Cx) (pins:List (Addr × Obj)) (H:Hp) (b:Addr):Prop :=
 H b = none /\ b ≠ X.env.locals /\ b ∉ X.fs /\ (b ∈ X.ex \/ X.s₀.heap.objs.size <= b) /\ (∀ x c,X.env.cells.lookup x = some c -> c ≠ b) /\ ∀ p ∈ X.pn ++ pins,p.1 ≠ b
theorem Inv.Ds {X:Cx} {pins:List (Addr × Obj)} {σ:St} {H H':Hp} {s:Shared} {b:Addr} (I:Inv X pins σ H s) (hb:s.heap.objs.size <= b) (hn:H' b = none):pR X pins H' b:=by
 refine ⟨hn,Nat.ne_of_gt (Nat.lt_of_lt_of_le I.lt hb),I.JP hb,.inr (Nat.le_trans I.sz hb),fun x c e z=>?_,fun p hp z=>?_⟩
 ·obtain ⟨v,q⟩:=I.cell x c e
  exact absurd (Nat.lt_of_lt_of_le q.lt (by rw [z];exact hb)) (Nat.lt_irrefl _)
 ·exact absurd (Nat.lt_of_lt_of_le (Heap.lt_size (I.pin p hp).1) (by rw [z];exact hb)) (Nat.lt_irrefl _)
structure Turn (P:Program) (w:World) (K:PySem.W.Frag) (tg:Expr) (J:It) (fp:List Addr) (it:Addr) (tn:Nat -> Heap -> Prop):Prop where
 mem:it ∈ fp
 obj:∀ i h,tn i h -> ∀ b ∈ fp,∃ o,h.get? b = some o /\ ∀ v,o.data ≠ .cell v
 keep:∀ i h h',tn i h -> (∀ b ∈ fp,∀ o,h.get? b = some o -> h'.get? b = some o) -> tn i h'
 item:∀ (X:Cx),X.prog = P -> X.w = w -> X.K = K -> X.calm = true -> ∀ (i:Nat) (pins:List (Addr × Obj)) (s:Shared) (σ:St) (H:Hp) (E:Value -> Shared -> Prop),Inv X pins σ H s -> (∀ b ∈ fp,pR X pins H b) -> tn i s.heap -> J.go i H ->
  wpAny (model P w) X.A (pyNext (.ref it)) (fun r s1=>∃ u,r = some u /\
   wpAny (model P w) X.A (letOwnedTupleGo tg (.ref it) u) (fun _ s2=>∃ x H',Inv X pins σ H' s2 /\ RelV x u /\ J.wJ i H x H' /\ tn (i + 1) s2.heap /\ ∀ b ∈ fp,H' b = none) E s1) E s
 done:∀ (X:Cx),X.prog = P -> X.w = w -> X.K = K -> X.calm = true -> ∀ (i:Nat) (pins:List (Addr × Obj)) (s:Shared) (σ:St) (H:Hp) (E:Value -> Shared -> Prop),Inv X pins σ H s -> (∀ b ∈ fp,pR X pins H b) -> tn i s.heap -> J.stop i H ->
  wpAny (model P w) X.A (pyNext (.ref it)) (fun r s1=>r = none /\ Inv X pins σ H s1) E s
 self:∀ (A:Around) (i:Nat) (s:Shared) (Q:Value -> Shared -> Prop) (E:Value -> Shared -> Prop),tn i s.heap -> Q (.ref it) s -> wpAny (model P w) A (pyIter (.ref it)) Q E s
noncomputable abbrev TI:=St -> Hp -> (It -> Hp -> Prop) -> Prop
noncomputable def DX (X:Cx) (pins:List (Addr × Obj)) (σ:St) (tg:Expr) (R:It -> Hp -> Prop) (WX:Value) (s2:Shared):Prop :=
 ∃ (it:Addr) (fp:List Addr) (tn:Nat -> Heap -> Prop) (J:It) (H':Hp),WX = .ref it /\ Inv X pins σ H' s2 /\ Turn X.prog X.w X.K tg J fp it tn /\ tn 0 s2.heap /\ (∀ b ∈ fp,pR X pins H' b) /\ R J H'
noncomputable def PI (X:Cx) (tg iter:Expr) (wi:TI):Prop :=
 ∀ (pins:List (Addr × Obj)) (s:Shared) (σ:St) (H:Hp) (R:It -> Hp -> Prop),Inv X pins σ H s -> wi σ H R ->
  wpAny (model X.prog X.w) X.A (eval iter X.env) (fun v s1=>wpAny (model X.prog X.w) X.A (pyIter v) (DX X pins σ tg R) X.xe s1) X.xe s
theorem Di {M:Model} {A:Around} {E:Value -> Shared -> Prop} {s:Shared} {tg:Expr} {it:Addr} {u:Value} {o:Obj} {n:String} {vs:Array Value} {Q:Unit -> Shared -> Prop} (ho:s.heap.get? it = some o) (hc:o.cls = .type n) (hd:o.data = .fields vs)
    (hn:["enumerate","zip","dict_itemiterator","dict_reverseitemiterator","odict_iterator","itertools.zip_longest","itertools.pairwise"].contains n = false) (hQ:Q () s):wpAny M A (letOwnedTupleGo tg (.ref it) u) Q E s:=by
  unfold letOwnedTupleGo
  cases tg <;> first
    | exact wpAny_pure hQ
    | (cases u <;> first
        | exact wpAny_pure hQ
        | (refine wpAny_bind (wpAny_load ho ?_)
           rw [hc,hd]
           show wpAny M A (if (["enumerate","zip","dict_itemiterator","dict_reverseitemiterator","odict_iterator","itertools.zip_longest","itertools.pairwise"].contains n && vs[0]? == some (rawInt _)) = true then _ else _) Q E s
           rw [if_neg (by intro h;rw [hn,Bool.false_and] at h;cases h)]
           exact wpAny_pure hQ))
noncomputable def MI (K:PySem.W.Frag) (a:Addr):It :=
 ⟨fun i H=>∃ xs x,du K H a xs /\ xs[i]? = some x,fun i H x H'=>H' = H /\ ∀ xs,du K H a xs -> xs[i]? = some x,fun i H=>∃ xs,du K H a xs /\ xs.length <= i⟩
noncomputable def MH (K:PySem.W.Frag) (a:Addr):It :=
 ⟨fun i H=>∃ xs x,aG K H a xs /\ xs[i]? = some x,fun i H x H'=>H' = H /\ ∀ xs,aG K H a xs -> xs[i]? = some x,fun i H=>∃ xs,aG K H a xs /\ xs.length <= i⟩
noncomputable def A9 (lo:Int) (n:Nat):It:=⟨fun i _=>i < n,fun i H x H'=>H' = H /\ x = .int (lo + i),fun i _=>n <= i⟩
theorem zQ {P:Program} {w:World} {K:PySem.W.Frag} {tg:Expr} (a it:Addr):Turn P w K tg (MI K a) [it] it (fun i h=>h.IsListIter it a i) where
 mem:=by simp
 obj:=fun i h st b hb=>by
  have e:b = it:=by simpa using hb
  subst e
  obtain ⟨o,e,c,d⟩:=st
  exact ⟨o,e,fun v z=>by rw [d] at z;cases z⟩
 keep:=fun i h h' st k=>st.at fun o e=>k it (by simp) o e
 item:=by
  intro X hP hw hK hc i pins s σ H E I hf st hg
  subst hP hw hK
  obtain ⟨xs,x,hq,hx⟩:=hg
  obtain ⟨aj,rv,p,hz⟩:=I.list hq
  obtain ⟨u,hu,ru⟩:=rv.get hx
  obtain ⟨f0,f1,f2,f3,f4,f5⟩:=hf it (by simp)
  refine wpAny_pyNext_list_item st p.isList (x:=u) (by simpa using hu) fun h' p9 sb=>?_
  have I1:Inv X pins σ H { s with heap:=h' }:=I.turned (t':=s.toks) (fun b o hb e=>(sb.2 b hb).trans e) f0 f1 f3 f4 f5
  obtain ⟨o,e,c,d⟩:=id p9
  exact ⟨u,rfl,Di (s:={ s with heap:=h' }) e c d (by decide) ⟨x,H,I1,ru,⟨rfl,fun ys hy=>by rw [I.lg hy hq];exact hx⟩,p9,fun b hb=>(hf b hb).1⟩⟩
 done:=by
  intro X hP hw hK hc i pins s σ H E I hf st hg
  subst hP hw hK
  obtain ⟨xs,hq,hx⟩:=hg
  obtain ⟨aj,rv,p,hz⟩:=I.list hq
  obtain ⟨f0,f1,f2,f3,f4,f5⟩:=hf it (by simp)
  have hl:=rv.length
  exact wpAny_pyNext_list_end (I.ok.hd hc) st p.isList (by simp;omega) fun h' eb=>⟨rfl,I.turned (t':=s.toks) (fun b o hb e=>eb b o hb e) f0 f1 f3 f4 f5⟩
 self:=fun _ _ _ _ _ st h=>wpAny_pyIter_listiter st h
theorem wU {P:Program} {w:World} {K:PySem.W.Frag} {tg:Expr} (a it:Addr):Turn P w K tg (MH K a) [it] it (fun i h=>h.IsTupleIter it a i) where
 mem:=by simp
 obj:=fun i h st b hb=>by
  have e:b = it:=by simpa using hb
  subst e
  obtain ⟨o,e,c,d⟩:=st
  exact ⟨o,e,fun v z=>by rw [d] at z;cases z⟩
 keep:=fun i h h' st k=>st.at fun o e=>k it (by simp) o e
 item:=by
  intro X hP hw hK hc i pins s σ H E I hf st hg
  subst hP hw hK
  obtain ⟨xs,x,hq,hx⟩:=hg
  obtain ⟨aj,rv,p,hz⟩:=I.tuple hq
  obtain ⟨u,hu,ru⟩:=rv.get hx
  obtain ⟨f0,f1,f2,f3,f4,f5⟩:=hf it (by simp)
  refine wpAny_pyNext_tuple_item st (show s.heap.IsTuple a aj.toArray from p) (x:=u) (by simpa using hu) fun h' p9 sb=>?_
  have I1:Inv X pins σ H { s with heap:=h' }:=I.turned (t':=s.toks) (fun b o hb e=>(sb.2 b hb).trans e) f0 f1 f3 f4 f5
  obtain ⟨o,e,c,d⟩:=id p9
  exact ⟨u,rfl,Di (s:={ s with heap:=h' }) e c d (by decide) ⟨x,H,I1,ru,⟨rfl,fun ys hy=>by rw [I.jB hy hq];exact hx⟩,p9,fun b hb=>(hf b hb).1⟩⟩
 done:=by
  intro X hP hw hK hc i pins s σ H E I hf st hg
  subst hP hw hK
  obtain ⟨xs,hq,hx⟩:=hg
  obtain ⟨aj,rv,p,hz⟩:=I.tuple hq
  obtain ⟨f0,f1,f2,f3,f4,f5⟩:=hf it (by simp)
  have hl:=rv.length
  exact wpAny_pyNext_tuple_end (I.ok.hd hc) st (show s.heap.IsTuple a aj.toArray from p) (by simp;omega) fun h' eb=>⟨rfl,I.turned (t':=s.toks) (fun b o hb e=>eb b o hb e) f0 f1 f3 f4 f5⟩
 self:=fun _ _ _ _ _ st h=>wpAny_pyIter_tupleiter st h
theorem wV {P:Program} {w:World} {K:PySem.W.Frag} {tg:Expr} (it:Addr) (lo:Int) (n:Nat):Turn P w K tg (A9 lo n) [it] it (fun i h=>IsRangeIter h it (lo + (i:Nat) * 1) ((n:Int) - (i:Nat)) 1) where
 mem:=by simp
 obj:=fun i h st b hb=>by
  have e:b = it:=by simpa using hb
  subst e
  exact ⟨_,st,fun v z=>by
   have z':Data.fields _ = Data.cell v:=z
   cases z'⟩
 keep:=fun i h h' st k=>k it (by simp) _ st
 item:=by
  intro X hP hw hK hc i pins s σ H E I hf st hg
  subst hP hw hK
  obtain ⟨f0,f1,f2,f3,f4,f5⟩:=hf it (by simp)
  have W:=Walks.range (prog:=X.prog) (w:=X.w) (I.ok.hd hc) it lo 1 n
  refine W.item i s _ _ hg st fun v h' tk hv p9 kk=>?_
  obtain ⟨t,rfl⟩:=hv
  have I1:Inv X pins σ H { s with heap:=h',toks:=tk }:=I.turned (fun b o hb e=>kk b o (by simpa using hb) e) f0 f1 f3 f4 f5
  refine ⟨_,rfl,Di (s:={ s with heap:=h',toks:=tk }) (n:="range_iterator") p9 rfl rfl (by decide) ⟨.int (lo + i),H,I1,⟨t,?_⟩,⟨rfl,rfl⟩,p9,fun b hb=>(hf b hb).1⟩⟩
  rw [Int.mul_one]
 done:=by
  intro X hP hw hK hc i pins s σ H E I hf st hg
  subst hP hw hK
  obtain ⟨f0,f1,f2,f3,f4,f5⟩:=hf it (by simp)
  exact wpAny_pyNext_range_end (I.ok.hd hc) st (by have:n <= i:=hg;omega) fun h' eb=>⟨rfl,I.turned (t':=s.toks) (fun b o hb e=>eb b o hb e) f0 f1 f3 f4 f5⟩
 self:=fun _ _ _ _ _ st h=>wpAny_pyIter_rangeiter st h
end L2
namespace L2
open PySem PySem.Spec PyProof.Rows
section
variable {X:Cx} {tg:Expr}
noncomputable def Ox (K:PySem.W.Frag) (tl:TE):TI:=fun σ H R=>tl σ H fun x H1=>∃ a,x = .ref a /\ (∃ xs,du K H1 a xs) /\ R (MI K a) H1
noncomputable def W7 (K:PySem.W.Frag) (tl:TE):TI:=fun σ H R=>tl σ H fun x H1=>∃ a,x = .ref a /\ (∃ xs,aG K H1 a xs) /\ R (MH K a) H1
theorem yt {l:Expr} {tl:TE} (hl:PE X l tl):PI X tg l (Ox X.K tl):=by
 intro pins s σ H R I h
 refine dS (hl pins s σ H _ I h) fun v s1 ⟨x,H1,I1,r1,q1⟩=>?_
 obtain ⟨a,e,⟨xs,hq⟩,q⟩:=q1
 subst e
 cases r1
 obtain ⟨aj,rv,p,hz⟩:=I1.list hq
 refine wpAny_pyIter_list p.isList ?_
 refine ⟨s1.heap.objs.size,[s1.heap.objs.size],_,_,H1,rfl,I1.kept (t':=s1.toks) fun b o e=>Heap.get?_push_of_some _ e,zQ a _,⟨_,Heap.get?_push_size _ rfl,rfl,rfl⟩,fun b hb=>?_,q⟩
 have e:b = s1.heap.objs.size:=by simpa using hb
 subst e
 exact I1.Ds (Nat.le_refl _) (I1.dD.fresh (Nat.le_refl _))
theorem Ca {l:Expr} {tl:TE} (hl:PE X l tl):PI X tg l (W7 X.K tl):=by
 intro pins s σ H R I h
 refine dS (hl pins s σ H _ I h) fun v s1 ⟨x,H1,I1,r1,q1⟩=>?_
 obtain ⟨a,e,⟨xs,hq⟩,q⟩:=q1
 subst e
 cases r1
 obtain ⟨aj,rv,p,hz⟩:=I1.tuple hq
 refine wpAny_pyIter_tuple (show s1.heap.IsTuple a aj.toArray from p) ?_
 refine ⟨s1.heap.objs.size,[s1.heap.objs.size],_,_,H1,rfl,I1.kept (t':=s1.toks) fun b o e=>Heap.get?_push_of_some _ e,wU a _,⟨_,Heap.get?_push_size _ rfl,rfl,rfl⟩,fun b hb=>?_,q⟩
 have e:b = s1.heap.objs.size:=by simpa using hb
 subst e
 exact I1.Ds (Nat.le_refl _) (I1.dD.fresh (Nat.le_refl _))
theorem vk {pins:List (Addr × Obj)} {σ:St} {H:Hp} {s:Shared} {R:It -> Hp -> Prop} {E:Value -> Shared -> Prop} {lo hi:Int} {t u v:Tok} {tk:Nat} (I:Inv X pins σ H s) (h1:-(2 ^ 62) <= lo) (h2:lo < 2 ^ 62) (h3:-(2 ^ 62) <= hi) (h4:hi < 2 ^ 62)
  (q:R (A9 lo (hi - lo).toNat) H):wpAny (model X.prog X.w) X.A (pyIter (.ref s.heap.objs.size)) (DX X pins σ tg R) E { s with heap:=s.heap.push { cls:=.type "range",data:=.fields #[.int lo t,.int hi u,.int 1 v] },toks:=tk }:=by
 refine wpAny_pyIter_range (IsRange.new ..) (small_one h1 h2 h3 h4) ?_
 have I1:Inv X pins σ H { s with heap:=s.heap.push { cls:=.type "range",data:=.fields #[.int lo t,.int hi u,.int 1 v] },toks:=tk }:=I.kept fun b o e=>Heap.get?_push_of_some _ e
 refine ⟨(s.heap.push { cls:=.type "range",data:=.fields #[.int lo t,.int hi u,.int 1 v] }).objs.size,[(s.heap.push { cls:=.type "range",data:=.fields #[.int lo t,.int hi u,.int 1 v] }).objs.size],_,_,H,rfl,
  I1.kept (t':=tk) fun b o e=>Heap.get?_push_of_some _ e,wV _ lo (hi - lo).toNat,?_,fun b hb=>?_,q⟩
 ·have e1:lo + ((0:Nat):Int) * 1 = lo:=by simp
  have e2:(((hi - lo).toNat:Nat):Int) - ((0:Nat):Int) = Builtin.Range.rangeSize lo hi 1:=by rw [rangeSize_one];split <;> omega
  show IsRangeIter _ _ (lo + ((0:Nat):Int) * 1) ((((hi - lo).toNat:Nat):Int) - ((0:Nat):Int)) 1
  rw [e1,e2]
  exact Heap.get?_push_size _ rfl
 ·have e:b = (s.heap.push { cls:=.type "range",data:=.fields #[.int lo t,.int hi u,.int 1 v] }).objs.size:=by simpa using hb
  subst e
  exact I1.Ds (Nat.le_refl _) (I1.dD.fresh (Nat.le_refl _))
noncomputable def Ow (ta:TA):TI:=fun σ H R=>ta σ H fun vs H1=>∃ j:Int,vs = [.int j] /\ -(2 ^ 62) <= j /\ j < 2 ^ 62 /\ R (A9 0 j.toNat) H1
noncomputable def Ov (ta:TA):TI:=fun σ H R=>ta σ H fun vs H1=>∃ i j:Int,vs = [.int i,.int j] /\ (-(2 ^ 62) <= i /\ i < 2 ^ 62 /\ -(2 ^ 62) <= j /\ j < 2 ^ 62) /\ R (A9 i (j - i).toNat) H1
theorem rg {a:Expr} {ta:TA} {p pos:Pos} (hg:Gl X "range") (hm:X.mg "range" = none) (ha:PA X [a] ta) (hs:starEach [a] X.env = [(false,eval a X.env)]:=by rfl):PI X tg (.Call (.Name "range" p) [a] [] pos) (Ow ta):=by
 intro pins s σ H R I h
 refine Call_ (eK I hg hm boot_range (PyProof.Rows.callWith_type1 (dS (ha pos pins s σ H _ I h) fun us s1 ⟨vs,H1,I1,r1,q1⟩=>?_) hs rfl))
 obtain ⟨j,e,q1,q2,q⟩:=q1
 subst e
 cases r1 with
 | cons r rr =>
  cases rr
  obtain ⟨t,rfl⟩:=r
  exact call_range_1 (vk I1 (by omega) (by omega) q1 q2 (by simpa using q))
theorem L9 {a b:Expr} {ta:TA} {p pos:Pos} (hg:Gl X "range") (hm:X.mg "range" = none) (ha:PA X [a,b] ta) (hs:starEach [a,b] X.env = [(false,eval a X.env),(false,eval b X.env)]:=by rfl) (Mo:starEach [b] X.env = [(false,eval b X.env)]:=by rfl) :
  PI X tg (.Call (.Name "range" p) [a,b] [] pos) (Ov ta):=by
 intro pins s σ H R I h
 refine Call_ (eK I hg hm boot_range (PyProof.Rows.callWith_type1 (dS (ha pos pins s σ H _ I h) fun us s1 ⟨vs,H1,I1,r1,q1⟩=>?_) (by rw [hs,Mo]) (by rw [Mo];rfl)))
 obtain ⟨i,j,e,⟨q1,q2,q3,q4⟩,q⟩:=q1
 subst e
 cases r1 with
 | cons r rr =>
  cases rr with
  | cons r' rr =>
   cases rr
   obtain ⟨t,rfl⟩:=r
   obtain ⟨t',rfl⟩:=r'
   exact call_range_2 (vk I1 q1 q2 q3 q4 q)
noncomputable def Ss (wi:TI) (g:TG) (tb:TS):TS:=fun D σ H=>wi σ H fun J H1=>∃ W:Nat -> Nat -> St -> Hp -> Prop,(∃ m,W 0 m σ H1) /\ ∀ i m σ H,W i m σ H ->
 (J.stop i H /\ D.nx σ H) \/ (J.go i H /\ ∃ N:St -> Hp -> Prop,(∀ σ' H',N σ' H' -> ∃ m',m' < m /\ W (i + 1) m' σ' H') /\ ∀ x H',J.wJ i H x H' -> g x σ H' fun σ2 H2=>tb { D with nx:=N,ct:=N,bk:=D.nx } σ2 H2)
noncomputable def i6 (fp:List Addr) (h:Heap):List (Addr × Obj):=fp.filterMap fun b=>(h.get? b).map fun o=>(b,o)
theorem il {fp:List Addr} {h:Heap} {b:Addr} {o:Obj} (hb:b ∈ fp) (e:h.get? b = some o):(b,o) ∈ i6 fp h:=List.mem_filterMap.mpr ⟨b,hb,by rw [e];rfl⟩
theorem rn {fp:List Addr} {h:Heap} {p:Addr × Obj} (hp:p ∈ i6 fp h):p.1 ∈ fp /\ h.get? p.1 = some p.2:=by
 obtain ⟨b,hb,e⟩:=List.mem_filterMap.mp hp
 cases q:h.get? b with
 | none=>rw [q] at e;cases e
 | some o =>
  rw [q] at e
  have e':(b,o) = p:=Option.some.inj e
  subst e'
  exact ⟨hb,q⟩
theorem Inv.pinned {pins:List (Addr × Obj)} {σ:St} {H:Hp} {s:Shared} {fp:List Addr} (I:Inv X pins σ H s) (hf:∀ b ∈ fp,pR X pins H b) (ho:∀ b ∈ fp,∃ o,s.heap.get? b = some o /\ ∀ v,o.data ≠ .cell v):Inv X (pins ++ i6 fp s.heap) σ H s :=
 I.jE fun p hp=>(List.mem_append.mp hp).elim (fun z=>I.pin p (List.mem_append_right _ z)) fun z=>by
  obtain ⟨hb,e⟩:=rn z
  obtain ⟨f0,f1,f2,_⟩:=hf p.1 hb
  obtain ⟨o,e',d⟩:=ho p.1 hb
  rw [e] at e';cases e'
  exact ⟨e,f0,f1,f2,d⟩
theorem Inv.kS {pins pl:List (Addr × Obj)} {σ:St} {H:Hp} {s:Shared} (I:Inv X (pins ++ pl) σ H s):Inv X pins σ H s:=I.jE fun p hp=>I.pin p (List.mem_append_right _ (List.mem_append_left _ hp))
theorem sN {iter:Expr} {body:List Stmt} {wi:TI} {g:TG} {tb:TS} {pos:Pos} (hp:PassesOwn (model X.prog X.w) X.A X.env X.xe) (hc:X.calm = true) (hi:PI X tg iter wi) (hg:PG X tg g) (hb:nZ X body tb)
  (hs:∀ x,foldedSetIterable iter X.env x = pure x:=by intro _;rfl):PS X (.For tg iter body [] pos) (Ss wi g tb):=by
 intro pins s σ H D I h
 refine wpAny_For (dS (hi pins s σ H _ I h) fun v s1 h1=>dS h1 fun WX s2 h2=>?_) hs
 obtain ⟨it,fp,tn,J,H2,e,I2,T,Ni,f2,W,⟨m0,w0⟩,turn⟩:=h2
 subst e
 have ID:∀ {H':Hp},(∀ b ∈ fp,H' b = none) -> ∀ b ∈ fp,pR X pins H' b:=fun hn b hb=>⟨hn b hb,(f2 b hb).2⟩
 refine codeAny_forLoop_any (fun n s'=>∃ i σ' H',Inv X pins σ' H' s' /\ tn i s'.heap /\ (∀ b ∈ fp,H' b = none) /\ W i n σ' H') ?_ m0 ⟨0,σ,H2,I2,Ni,fun b hb=>(f2 b hb).1,w0⟩
 rintro n s3 ⟨i,σ3,H3,I3,st3,fr3,w3⟩
 rcases turn i n σ3 H3 w3 with ⟨stop,qn⟩ | ⟨go,N,hN,step⟩
 ·refine wpAny_passesOwn hp (dS (T.done X rfl rfl rfl hc i pins s3 σ3 H3 X.xe I3 (ID fr3) st3 stop) fun r s4 ⟨hr,I4⟩=>?_)
  subst hr
  exact wpAny_execs_nil ⟨σ3,H3,I4,qn⟩
 ·refine wpAny_passesOwn hp (dS (T.item X rfl rfl rfl hc i pins s3 σ3 H3 X.xe I3 (ID fr3) st3 go) fun r s4 ⟨u,hr,h4⟩=>?_)
  subst hr
  refine wpAny_passesOwn hp (dS h4 fun _ s5 ⟨x,H5,I5,r5,y5,IG,Ya⟩=>?_)
  have I5':=I5.pinned (ID Ya) (T.obj _ _ IG)
  refine wpAny_passesOwn hp (dS (hg _ s5 σ3 H5 x u _ I5' r5 (step x H5 y5)) fun _ s6 ⟨σ6,H6,I6,q6⟩=>?_)
  refine wpAny_passesOwn hp (dS (hb _ s6 σ6 H6 _ I6 q6) fun f s7 q7=>?_)
  have again:∀ {σ7:St} {H7:Hp},Inv X (pins ++ i6 fp s5.heap) σ7 H7 s7 -> N σ7 H7 -> ∃ m,m < n /\ ∃ i σ' H',Inv X pins σ' H' s7 /\ tn i s7.heap /\ (∀ b ∈ fp,H' b = none) /\ W i m σ' H':=fun {σ7 H7} I7 n7=>by
   obtain ⟨m',hm,w7⟩:=hN σ7 H7 n7
   refine ⟨m',hm,i + 1,σ7,H7,I7.kS,T.keep _ _ _ IG fun b hb o e=>(I7.pin (b,o) (List.mem_append_right _ (List.mem_append_right _ (il hb e)))).1,fun b hb=>?_,w7⟩
   obtain ⟨o,e,d⟩:=T.obj _ _ IG b hb
   exact (I7.pin (b,o) (List.mem_append_right _ (List.mem_append_right _ (il hb e)))).2.1
  cases f with
  | next=>obtain ⟨σ7,H7,I7,n7⟩:=q7;exact again I7 n7
  | cont=>obtain ⟨σ7,H7,I7,n7⟩:=q7;exact again I7 n7
  | brk=>obtain ⟨σ7,H7,I7,q7⟩:=q7;exact ⟨σ7,H7,I7.kS,q7⟩
  | ret v=>obtain ⟨x7,σ7,H7,I7,r7,q7⟩:=q7;exact ⟨x7,σ7,H7,I7.kS,r7,q7⟩
end
theorem Dt {K:PySem.W.Frag} {a:Addr} {xs:List V} {g:TG} {tb:TS} {D:Ends} {σ:St} {H:Hp} (Pv:Nat -> St -> Hp -> Prop) (h0:Pv 0 σ H) (hl:∀ i σ H,i <= xs.length -> Pv i σ H -> du K H a xs)
  (hs:∀ i x σ H,xs[i]? = some x -> Pv i σ H -> g x σ H fun σ2 H2=>tb { D with nx:=Pv (i + 1),ct:=Pv (i + 1),bk:=D.nx } σ2 H2) (hd:∀ σ H,Pv xs.length σ H -> D.nx σ H) :
  ∃ W:Nat -> Nat -> St -> Hp -> Prop,(∃ m,W 0 m σ H) /\ ∀ i m σ H,W i m σ H ->
   ((MI K a).stop i H /\ D.nx σ H) \/ ((MI K a).go i H /\ ∃ N:St -> Hp -> Prop,(∀ σ' H',N σ' H' -> ∃ m',m' < m /\ W (i + 1) m' σ' H') /\ ∀ x H',(MI K a).wJ i H x H' -> g x σ H' fun σ2 H2=>tb { D with nx:=N,ct:=N,bk:=D.nx } σ2 H2):=by
 refine ⟨fun i m σ H=>m = xs.length - i /\ i <= xs.length /\ Pv i σ H,⟨xs.length,by simp,Nat.zero_le _,h0⟩,?_⟩
 rintro i m σ H ⟨rfl,hi,p⟩
 have q:=hl i σ H hi p
 by_cases iX:i < xs.length
 ·refine .inr ⟨⟨xs,xs[i],q,by simp [iX]⟩,Pv (i + 1),fun σ' H' p'=>⟨xs.length - (i + 1),by omega,rfl,iX,p'⟩,fun x H' y=>?_⟩
  obtain ⟨e,y⟩:=y
  subst e
  exact hs i x σ _ (y xs q) p
 ·have e:i = xs.length:=by omega
  subst e
  exact .inl ⟨⟨xs,q,Nat.le_refl _⟩,hd σ H p⟩
theorem Gv {K:PySem.W.Frag} {a:Addr} {xs:List V} {g:TG} {tb:TS} {D:Ends} {σ:St} {H:Hp} (Pv:Nat -> St -> Hp -> Prop) (h0:Pv 0 σ H) (hl:∀ i σ H,i <= xs.length -> Pv i σ H -> aG K H a xs)
  (hs:∀ i x σ H,xs[i]? = some x -> Pv i σ H -> g x σ H fun σ2 H2=>tb { D with nx:=Pv (i + 1),ct:=Pv (i + 1),bk:=D.nx } σ2 H2) (hd:∀ σ H,Pv xs.length σ H -> D.nx σ H) :
  ∃ W:Nat -> Nat -> St -> Hp -> Prop,(∃ m,W 0 m σ H) /\ ∀ i m σ H,W i m σ H ->
   ((MH K a).stop i H /\ D.nx σ H) \/ ((MH K a).go i H /\ ∃ N:St -> Hp -> Prop,(∀ σ' H',N σ' H' -> ∃ m',m' < m /\ W (i + 1) m' σ' H') /\ ∀ x H',(MH K a).wJ i H x H' -> g x σ H' fun σ2 H2=>tb { D with nx:=N,ct:=N,bk:=D.nx } σ2 H2):=by
 refine ⟨fun i m σ H=>m = xs.length - i /\ i <= xs.length /\ Pv i σ H,⟨xs.length,by simp,Nat.zero_le _,h0⟩,?_⟩
 rintro i m σ H ⟨rfl,hi,p⟩
 have q:=hl i σ H hi p
 by_cases iX:i < xs.length
 ·refine .inr ⟨⟨xs,xs[i],q,by simp [iX]⟩,Pv (i + 1),fun σ' H' p'=>⟨xs.length - (i + 1),by omega,rfl,iX,p'⟩,fun x H' y=>?_⟩
  obtain ⟨e,y⟩:=y
  subst e
  exact hs i x σ _ (y xs q) p
 ·have e:i = xs.length:=by omega
  subst e
  exact .inl ⟨⟨xs,q,Nat.le_refl _⟩,hd σ H p⟩
theorem AL {lo:Int} {n:Nat} {g:TG} {tb:TS} {D:Ends} {σ:St} {H:Hp} (Pv:Nat -> St -> Hp -> Prop) (h0:Pv 0 σ H)
  (hs:∀ i σ H,i < n -> Pv i σ H -> g (.int (lo + i)) σ H fun σ2 H2=>tb { D with nx:=Pv (i + 1),ct:=Pv (i + 1),bk:=D.nx } σ2 H2) (hd:∀ σ H,Pv n σ H -> D.nx σ H) :
  ∃ W:Nat -> Nat -> St -> Hp -> Prop,(∃ m,W 0 m σ H) /\ ∀ i m σ H,W i m σ H ->
   ((A9 lo n).stop i H /\ D.nx σ H) \/ ((A9 lo n).go i H /\ ∃ N:St -> Hp -> Prop,(∀ σ' H',N σ' H' -> ∃ m',m' < m /\ W (i + 1) m' σ' H') /\ ∀ x H',(A9 lo n).wJ i H x H' -> g x σ H' fun σ2 H2=>tb { D with nx:=N,ct:=N,bk:=D.nx } σ2 H2):=by
 refine ⟨fun i m σ H=>m = n - i /\ i <= n /\ Pv i σ H,⟨n,by simp,Nat.zero_le _,h0⟩,?_⟩
 rintro i m σ H ⟨rfl,hi,p⟩
 by_cases iX:i < n
 ·refine .inr ⟨iX,Pv (i + 1),fun σ' H' p'=>⟨n - (i + 1),by omega,rfl,iX,p'⟩,fun x H' y=>?_⟩
  obtain ⟨e,y⟩:=y
  subst e y
  exact hs i σ _ iX p
 ·have e:i = n:=by omega
  subst e
  exact .inl ⟨Nat.le_refl _,hd σ H p⟩
end L2
namespace L2
open PySem PySem.Spec PyProof.Rows
noncomputable abbrev R2:=V -> V -> Hp -> VK -> Prop
noncomputable def j_ (X:Cx) (f:Value -> Value -> Sem Value) (r:R2):Prop :=
 ∀ (pins:List (Addr × Obj)) (s:Shared) (σ:St) (H:Hp) (x y:V) (v u:Value) (Q:VK),Inv X pins σ H s -> RelV x v -> RelV y u -> r x y H Q ->
  wpAny (model X.prog X.w) X.A (f v u) (EP X pins σ Q) X.xe s
noncomputable def UnR (X:Cx) (f:Value -> Sem Value) (r:V -> Hp -> VK -> Prop):Prop :=
 ∀ (pins:List (Addr × Obj)) (s:Shared) (σ:St) (H:Hp) (x:V) (v:Value) (Q:VK),Inv X pins σ H s -> RelV x v -> r x H Q ->
  wpAny (model X.prog X.w) X.A (f v) (EP X pins σ Q) X.xe s
noncomputable def gI (X:Cx) (f:Value) (r:List V -> Hp -> VK -> Prop):Prop :=
 ∀ (pins:List (Addr × Obj)) (s:Shared) (σ:St) (H:Hp) (xs:List V) (us:List Value) (Q:VK),Inv X pins σ H s -> Vals xs us -> r xs H Q ->
  wpAny (model X.prog X.w) X.A (call f us) (EP X pins σ Q) X.xe s
noncomputable def EE (r:R2) (ta tb:TE):TE:=fun σ H Q=>ta σ H fun x H1=>tb σ H1 fun y H2=>r x y H2 Q
noncomputable def tUn (r:V -> Hp -> VK -> Prop) (ta:TE):TE:=fun σ H Q=>ta σ H fun x H1=>r x H1 Q
noncomputable def rI (C:Int -> Int -> Prop) (g:Int -> Int -> V):R2:=fun x y H Q=>∃ i j,x = .int i /\ y = .int j /\ C i j /\ Q (g i j) H
noncomputable def B6 (g:Int -> Int -> V):R2:=fun x y H Q=>∃ i j,x = .int i /\ y = .int j /\ Q (g i j) H
noncomputable def rU (g:Int -> V):V -> Hp -> VK -> Prop:=fun x H Q=>∃ i,x = .int i /\ Q (g i) H
section
variable {X:Cx} {a b c:Expr} {ta tb tc:TE} {pos:Pos}
theorem LP (ha:PE X a ta) (hb:PE X b tb) {pins:List (Addr × Obj)} {s:Shared} {σ:St} {H:Hp} {R:V -> V -> Hp -> Prop} (I:Inv X pins σ H s)
  (h:ta σ H fun x H1=>tb σ H1 fun y H2=>R x y H2) {Q:Value -> Shared -> Prop} {f:Value -> Value -> Sem Value}
  (hf:∀ v u s2 x y H2,Inv X pins σ H2 s2 -> RelV x v -> RelV y u -> R x y H2 -> wpAny (model X.prog X.w) X.A (f v u) Q X.xe s2) :
  wpAny (model X.prog X.w) X.A (eval a X.env) (fun v s₁=>wpAny (model X.prog X.w) X.A (eval b X.env) (fun u s₂=>wpAny (model X.prog X.w) X.A (f v u) Q X.xe s₂) X.xe s₁) X.xe s:=by
 refine dS (ha pins s σ H _ I h) fun v s1 ⟨x,H1,I1,r1,q1⟩=>?_
 refine dS (hb pins s1 σ H1 _ I1 q1) fun u s2 ⟨y,H2,I2,r2,q2⟩=>?_
 exact hf v u s2 x y H2 I2 r1 r2 q2
theorem Cf {op:Operator} {r:R2} (ho:j_ X (binaryOp op) r) (ha:PE X a ta) (hb:PE X b tb):PE X (.BinOp a op b pos) (EE r ta tb):=by
 intro pins s σ H Q I h
 exact wpAny_BinOp (LP ha hb I h fun v u s2 x y H2 I2 rx ry q=>ho pins s2 σ H2 x y v u Q I2 rx ry q)
theorem NN {op:UnaryOp} {r:V -> Hp -> VK -> Prop} (ho:UnR X (unaryOp op) r) (ha:PE X a ta):PE X (.UnaryOp op a pos) (tUn r ta):=by
 intro pins s σ H Q I h
 exact UnaryOp_ (dS (ha pins s σ H _ I h) fun v s1 ⟨x,H1,I1,r1,q1⟩=>ho pins s1 σ H1 x v Q I1 r1 q1)
theorem HB {f:Value -> Value -> Sem Value} {C:Int -> Int -> Prop} {g:Int -> Int -> Int}
  (rule:∀ (i j:Int) (t u:Tok) (s:Shared) (Q:Value -> Shared -> Prop) (E:Value -> Shared -> Prop),C i j -> Q (.int (g i j) s.toks) { s with toks:=s.toks + 1 } -> wpAny (model X.prog X.w) X.A (f (.int i t) (.int j u)) Q E s) :
  j_ X f (rI C fun i j=>.int (g i j)):=by
 intro pins s σ H x y v u Q I rx ry h
 obtain ⟨i,j,rfl,rfl,hc,q⟩:=h
 obtain ⟨t,rfl⟩:=rx
 obtain ⟨t',rfl⟩:=ry
 exact rule i j t t' s _ _ hc ⟨.int (g i j),H,I.tok _,⟨_,rfl⟩,q⟩
theorem UK {f:Value -> Value -> Sem Value} {g:Int -> Int -> Int}
  (rule:∀ (i j:Int) (t u:Tok) (s:Shared) (Q:Value -> Shared -> Prop) (E:Value -> Shared -> Prop),Q (.int (g i j) s.toks) { s with toks:=s.toks + 1 } -> wpAny (model X.prog X.w) X.A (f (.int i t) (.int j u)) Q E s) :
  j_ X f (B6 fun i j=>.int (g i j)):=by
 intro pins s σ H x y v u Q I rx ry h
 obtain ⟨i,j,rfl,rfl,q⟩:=h
 obtain ⟨t,rfl⟩:=rx
 obtain ⟨t',rfl⟩:=ry
 exact rule i j t t' s _ _ ⟨.int (g i j),H,I.tok _,⟨_,rfl⟩,q⟩
theorem FD {f:Value -> Value -> Sem Value} {g:Int -> Int -> Bool}
  (rule:∀ (i j:Int) (t u:Tok) (s:Shared) (Q:Value -> Shared -> Prop) (E:Value -> Shared -> Prop),Q (.bool (g i j)) s -> wpAny (model X.prog X.w) X.A (f (.int i t) (.int j u)) Q E s) :
  j_ X f (B6 fun i j=>.bl (g i j)):=by
 intro pins s σ H x y v u Q I rx ry h
 obtain ⟨i,j,rfl,rfl,q⟩:=h
 obtain ⟨t,rfl⟩:=rx
 obtain ⟨t',rfl⟩:=ry
 exact rule i j t t' s _ _ ⟨.bl (g i j),H,I,rfl,q⟩
theorem wR (k:Nat):(0:Int) <= 2 ^ k:=by
 rw [two_pow_cast]
 exact Int.natCast_nonneg _
theorem JL:j_ X (binaryOp .Add) (B6 fun i j=>.int (i + j)):=UK fun _ _ _ _ _ _ _ q=>add_int q
theorem Fz:j_ X (binaryOp .Mod) (rI (fun _ j=>j ≠ 0) fun i j=>.int (i.fmod j)):=HB fun _ _ _ _ _ _ _ hc q=>mod_int' hc q
theorem JF:j_ X (binaryOp .RShift) (rI (fun _ j=>0 <= j) fun i j=>.int (i / 2 ^ j.toNat)):=HB fun i j _ _ _ _ _ hc q =>
 rshift_int hc (by rw [Int.fdiv_eq_ediv_of_nonneg i (wR _)];exact q)
theorem unI {f:Value -> Sem Value} {g:Int -> Int}
  (rule:∀ (i:Int) (t:Tok) (s:Shared) (Q:Value -> Shared -> Prop) (E:Value -> Shared -> Prop),Q (.int (g i) s.toks) { s with toks:=s.toks + 1 } -> wpAny (model X.prog X.w) X.A (f (.int i t)) Q E s) :
  UnR X f (rU fun i=>.int (g i)):=by
 intro pins s σ H x v Q I rx h
 obtain ⟨i,rfl,q⟩:=h
 obtain ⟨t,rfl⟩:=rx
 exact rule i t s _ _ ⟨.int (g i),H,I.tok _,⟨_,rfl⟩,q⟩
theorem Iw:UnR X (unaryOp .USub) (rU fun i=>.int (-i)):=unI fun _ _ _ _ _ q=>neg_int q
end
section
variable {X:Cx} {a b c:Expr} {ta tb tc:TE} {pos:Pos}
theorem Du {pins:List (Addr × Obj)} {σ:St} {H:Hp} {s:Shared} {Q:VK} {k k':Bool} (I:Inv X pins σ H s) (q:Q (.bl k) H) (e:k = k'):EP X pins σ Q (.bool k') s:=by
 subst e
 exact ⟨.bl k,H,I,rfl,q⟩
theorem NT:j_ X (compareOp .Lt) (B6 fun i j=>.bl (decide (i < j))):=FD fun _ _ _ _ _ _ _ q=>lt_int q
theorem NU:j_ X (compareOp .LtE) (B6 fun i j=>.bl (decide (i <= j))):=FD fun _ _ _ _ _ _ _ q=>le_int q
theorem NV:j_ X (compareOp .Gt) (B6 fun i j=>.bl (decide (j < i))):=FD fun _ _ _ _ _ _ _ q=>gt_int q
theorem NW:j_ X (compareOp .GtE) (B6 fun i j=>.bl (decide (j <= i))):=FD fun _ _ _ _ _ _ _ q=>ge_int q
theorem JI:j_ X (compareOp .Is) (fun x y H Q=>y = .bE /\ Q (.bl (decide (x = .bE))) H):=by
 intro pins s σ H x y v u Q I rx ry h
 obtain ⟨rfl,q⟩:=h
 cases ry
 refine is_none_gen (Du I q ?_)
 cases x <;> first
  | (cases rx;rfl)
  | (obtain ⟨t,rfl⟩:=rx;rfl)
theorem Fx:j_ X (compareOp .IsNot) (fun x y H Q=>y = .bE /\ Q (.bl (!decide (x = .bE))) H):=by
 intro pins s σ H x y v u Q I rx ry h
 obtain ⟨rfl,q⟩:=h
 cases ry
 refine isnot_none_gen (Du I q ?_)
 cases x <;> first
  | (cases rx;rfl)
  | (obtain ⟨t,rfl⟩:=rx;rfl)
theorem j_.or {f:Value -> Value -> Sem Value} {r r':R2} (h:j_ X f r) (h':j_ X f r'):j_ X f (fun x y H Q=>r x y H Q \/ r' x y H Q):=by
 intro pins s σ H x y v u Q I rx ry q
 rcases q with q | q
 ·exact h pins s σ H x y v u Q I rx ry q
 ·exact h' pins s σ H x y v u Q I rx ry q
theorem Cy (b:Expr) {op:CmpOp} (h:op ≠ .In:=by decide) (h2:op ≠ .NotIn:=by decide):behindInMarks op b = false:=by
 have e1:(op == CmpOp.In) = false:=by cases op <;> first | rfl | exact absurd rfl h
 have e2:(op == CmpOp.NotIn) = false:=by cases op <;> first | rfl | exact absurd rfl h2
 cases b <;> simp [behindInMarks,e1,e2]
theorem sS {op:CmpOp} {r:R2} (ho:j_ X (compareOp op) r) (ha:PE X a ta) (hb:PE X b tb) (hm:behindInMarks op b = false):PE X (.Compare a [op] [b] pos) (EE r ta tb):=by
 intro pins s σ H Q I h
 exact wpAny_Compare1 (LP ha hb I h fun v u s2 x y H2 I2 rx ry q=>ho pins s2 σ H2 x y v u Q I2 rx ry q) hm
noncomputable def Hg (t:TE):TT:=fun σ H Q=>t σ H fun x H'=>∃ k,x = .bl k /\ Q k H'
theorem sM {op:CmpOp} {r:R2} (ho:j_ X (compareOp op) r) (ha:PE X a ta) (hb:PE X b tb) (hm:behindInMarks op b = false):PT X (.Compare a [op] [b] pos) (Hg (EE r ta tb)):=by
 intro pins s σ H Q I h
 refine wpAny_isTrue_Compare1 (dS (ha pins s σ H _ I h) fun v s1 ⟨x,H1,I1,r1,q1⟩=>dS (hb pins s1 σ H1 _ I1 q1) fun u s2 ⟨y,H2,I2,r2,q2⟩ =>
  dS (ho pins s2 σ H2 x y v u _ I2 r1 r2 q2) fun c s3 ⟨z,H3,I3,r3,k,e,q3⟩=>?_) hm
 subst e
 cases r3
 exact wpAny_truthy_bool ⟨H3,I3,q3⟩
theorem sZ:(sizeLine:Nat) < 2 ^ 63:=by rw [sizeLine_eq];decide
theorem vals1 {x:V} {us:List Value} (r:Vals [x] us):∃ u,us = [u] /\ RelV x u:=by
 cases r with
 | cons r1 r2=>cases r2;exact ⟨_,rfl,r1⟩
theorem vals2 {x y:V} {us:List Value} (r:Vals [x,y] us):∃ u w',us = [u,w'] /\ RelV x u /\ RelV y w':=by
 cases r with
 | cons r1 r2 =>
  cases r2 with
  | cons r3 r4=>cases r4;exact ⟨_,_,rfl,r1,r3⟩
theorem DJ:gI X (.builtin "abs") (fun xs H Q=>∃ i,xs = [.int i] /\ Q (.int (if i < 0 then -i else i)) H):=by
 intro pins s σ H xs us Q I r h
 obtain ⟨i,rfl,q⟩:=h
 obtain ⟨u,rfl,t,rfl⟩:=vals1 r
 exact call_abs_int fun u tk=>⟨.int (if i < 0 then -i else i),H,I.tok _,⟨_,rfl⟩,q⟩
theorem MD (hc:X.calm = true):gI X (.builtin "max") (fun xs H Q=>∃ i j,xs = [.int i,.int j] /\ Q (.int (if j > i then j else i)) H):=by
 intro pins s σ H xs us Q I r h
 obtain ⟨i,j,rfl,q⟩:=h
 obtain ⟨u,w',rfl,⟨t,rfl⟩,⟨t',rfl⟩⟩:=vals2 r
 refine max_two_ints (I.ok.hd hc) fun h' tk k=>⟨_,H,I.kept k,?_,q⟩
 by_cases hj:j > i
 ·rw [if_pos hj,if_pos hj];exact ⟨_,rfl⟩
 ·rw [if_neg hj,if_neg hj];exact ⟨_,rfl⟩
theorem MC (hc:X.calm = true):gI X (.builtin "min") (fun xs H Q=>∃ i j,xs = [.int i,.int j] /\ Q (.int (if j < i then j else i)) H):=by
 intro pins s σ H xs us Q I r h
 obtain ⟨i,j,rfl,q⟩:=h
 obtain ⟨u,w',rfl,⟨t,rfl⟩,⟨t',rfl⟩⟩:=vals2 r
 refine min_two_ints (I.ok.hd hc) fun h' tk k=>⟨_,H,I.kept k,?_,q⟩
 by_cases hj:j < i
 ·rw [if_pos hj,if_pos hj];exact ⟨_,rfl⟩
 ·rw [if_neg hj,if_neg hj];exact ⟨_,rfl⟩
theorem A0:gI X (.type "int") (fun xs H Q=>(∃ i,xs = [.int i] /\ Q (.int i) H) \/ ∃ k,xs = [.bl k] /\ Q (.int (if k then 1 else 0)) H):=by
 intro pins s σ H xs us Q I r h
 rcases h with ⟨i,rfl,q⟩ | ⟨k,rfl,q⟩
 ·obtain ⟨u,rfl,t,rfl⟩:=vals1 r
  exact call_int_int ⟨.int i,H,I,⟨_,rfl⟩,q⟩
 ·obtain ⟨u,rfl,r1⟩:=vals1 r
  cases r1
  exact call_int_bool ⟨.int (if k then 1 else 0),H,I.tok _,⟨_,rfl⟩,q⟩
end
end L2
namespace L2
open PySem PySem.Spec PyProof.Rows
structure ah7 (h:Heap) (x dx C:Addr) (mA:Str -> Option Value):Prop where
 obj:h.get? x = some (PySem.W.instObj C dx)
 ns:h.Ns1 dx mA
 ne:dx ≠ x
section
variable {prog:Program} {w:World} {A:Around} {E:Value -> Shared -> Prop} {s:Shared} {K:PySem.W.Frag} {x dx C f:Addr} {mA:Str -> Option Value} {name:Str} {v:Value}
end
section
variable {P:Program} {w:World} {H H':Hp} {h h':Heap} {a C dx:Addr} {fs fs':List (Str × V)}
end
structure Cls (K:PySem.W.Frag) (C:Addr):Prop where
 pg:PySem.W.plainGet K C Str.empty = true
 hd:PySem.W.hasDictIn K C = true
 po:PySem.W.plainOver K C = true
 sa:PySem.W.findIn K (.ref C) "__setattr__" = some (some (.builtin "object.__setattr__"))
structure Con (K:PySem.W.Frag) (C:Addr) (f:Str) (v:V) (u:Value):Prop where
 at_:PySem.W.findIn K (.ref C) f = some (some u)
 rel:RelV v u
 get:PySem.W.specialIn K u "__get__" = some none
 cp:PySem.W.copiedNames.contains f = false
structure Meth (K:PySem.W.Frag) (C:Addr) (m:Str) (f:Addr):Prop where
 at_:PySem.W.findIn K (.ref C) m = some (some (.ref f))
 fn:PySem.W.isFn K (.ref f) = true
 kp:PySem.W.keepIn K (.ref f) = true
section
variable {X:Cx} {pins:List (Addr × Obj)} {σ:St} {H:Hp} {s:Shared} {a C dx:Addr} {fs:List (Str × V)} {f:Str} {v:V} {A:Around} {E:Value -> Shared -> Prop}
end
section
variable {X:Cx} {o e value:Expr} {f:Str} {pos pos' aeb:Pos} {ta tv:TE}
end
section
variable {X:Cx} {pins:List (Addr × Obj)} {σ:St} {H:Hp} {s:Shared} {A:Around} {E:Value -> Shared -> Prop} {Q:Value -> Shared -> Prop} {c:Value} {b:Bool}
inductive pM (K:PySem.W.Frag) (H:Hp):V -> Value -> Prop where
 | bE:pM K H .bE (.type "NoneType")
 | bl (x:Bool):pM K H (.bl x) (.type "bool")
 | int (i:Int):pM K H (.int i) (.type "int")
 | str (x:Str):pM K H (.str x) (.type "str")
 | Pg (x:UInt64):pM K H (.Pg x) (.type "float")
 | lst {a:Addr} {xs:List V} (e:H a = some (.lst xs)):pM K H (.ref a) (.type "list")
 | je {a:Addr} {o:Obj} {xs:List V} (e:H a = some (.je o (.lst xs))):pM K H (.ref a) (.type "list")
 | tup {a:Addr} {xs:List V} (e:H a = some (.tup xs)):pM K H (.ref a) (.type "tuple")
 | dK {a:Addr} {qo:List (Key × V)} (e:H a = some (.dK qo)):pM K H (.ref a) (.type "dict")
 | dT {a:Addr} {qo:List (List Key × V)} (e:H a = some (.dT qo)):pM K H (.ref a) (.type "dict")
 | ins {a C dx:Addr} {fs:List (Str × V)} (e:H a = some (.ins C dx fs)) (cl:Cls K C) (ha:PySem.W.findIn K (.ref C) "__class__" = some (some (.builtin "object.__class__")))
   (hn:PySem.W.specialIn K (.builtin "object.__class__") "__get__" = some (some (.builtin "getset_descriptor.__get__"))) (htk:PySem.W.takesIn K (.builtin "object.__class__") = some true)
   (hm:PySem.W.mroIn K C (.type "object") = some true):pM K H (.ref a) (.ref C)
end
end L2
namespace L2
open PySem PySem.Spec PyProof.Rows
structure iC (k:Nat) (A:Around):Prop where
 hd:A.handled = none
 dp:A.depth + 3 * k + 5 < recursionLimit
 un:A.units + 16 * k + 200 < cLine
theorem iC.mono {j k:Nat} {A:Around} (r:iC k A) (h:j <= k):iC j A:=⟨r.hd,by have:=r.dp;omega,by have:=r.un;omega⟩
theorem iC.deeper {k:Nat} {A:Around} (r:iC (k + 1) A) (env:Env):iC k (A.deeper env) :=
 ⟨r.hd,by have:=r.dp;show A.depth + 1 + 3 * k + 5 < _;omega,by have:=r.un;show A.units + 3 + 16 * k + 200 < _;omega⟩
theorem iC.depth {k:Nat} {A:Around} (r:iC k A):A.depth < recursionLimit:=by have:=r.dp;omega
theorem iC.units {k:Nat} {A:Around} (r:iC k A):A.units + 64 < cLine:=by have:=r.un;omega
noncomputable def M6:TA:=fun _ H Q=>Q [] H
noncomputable def Hi (ta:TE) (tr:TA):TA:=fun σ H Q=>ta σ H fun x H1=>tr σ H1 fun xs H2=>Q (x :: xs) H2
section
variable {X:Cx} {e:Expr} {es:List Expr} {te:TE} {t:TA} {pos:Pos}
theorem gK:PA X [] M6:=fun _ _ _ _ H Q I h=>Calls.spliced_nil ⟨[],H,I,.nil,h⟩
theorem dB (ha:PE X e te) (hr:PA X es t) (hs:starEach (e :: es) X.env = (false,eval e X.env) :: starEach es X.env:=by rfl):PA X (e :: es) (Hi te t):=by
 intro pos pins s σ H Q I h
 rw [hs]
 show wpAny _ _ (spliced ((false,eval e X.env) :: backTo pos (starEach es X.env))) _ _ s
 refine Calls.spliced_cons (dS (ha pins s σ H _ I h) fun u s1 ⟨x,H1,I1,r1,q1⟩=>?_)
 exact dS (hr pos pins s1 σ H1 _ I1 q1) fun us s2 ⟨xs,H2,I2,r2,q2⟩=>⟨x :: xs,H2,I2,.cons r1 r2,q2⟩
noncomputable def Sj (t:TA):TE:=fun σ H Q=>t σ H fun xs H1=>xs.length <= sizeLine /\ ∀ p,H1 p = none -> Q (.ref p) (upd H1 p (.tup xs))
noncomputable def Sq (t:TA):TE:=fun σ H Q=>t σ H fun xs H1=>xs.length <= sizeLine /\ ∀ p,H1 p = none -> Q (.ref p) (upd H1 p (.lst xs))
theorem Jt {x1} (h:PA X es t):PE X (.Tuple es x1 pos) (Sj t):=by
 intro pins s σ H Q I hq
 refine wpAny_Tuple_spliced (dS (h pos pins s σ H _ I hq) fun us s1 ⟨xs,H1,I1,r,z,q⟩=>⟨by rw [<- r.length];exact z,?_⟩)
 have hf:H1 s1.heap.objs.size = none:=I1.dD.fresh (Nat.le_refl _)
 refine ⟨.ref s1.heap.objs.size,upd H1 s1.heap.objs.size (.tup xs),I1.laid (t':=s1.toks) (fun b u e=>Heap.get?_push_of_some _ e) (Nat.le_refl _) ?_,rfl,q _ hf⟩
 exact ⟨z,us,r,⟨_,Heap.get?_push_size _ rfl,rfl,_,rfl⟩⟩
theorem Jw (h:PA X es t):PE X (.List es pos) (Sq t):=by
 intro pins s σ H Q I hq
 refine wpAny_List_spliced (dS (h pos pins s σ H _ I hq) fun us s1 ⟨xs,H1,I1,r,z,q⟩=>⟨by rw [<- r.length];exact z,?_⟩)
 have hf:H1 s1.heap.objs.size = none:=I1.dD.fresh (Nat.le_refl _)
 refine ⟨.ref s1.heap.objs.size,upd H1 s1.heap.objs.size (.lst xs),I1.laid (t':=s1.toks) (fun b u e=>Heap.get?_push_of_some _ e) (Nat.le_refl _) ?_,rfl,q _ hf⟩
 exact ⟨z,us,0,r,Heap.get?_push_size _ rfl⟩
end
noncomputable abbrev Sp:=List V -> Hp -> VK -> XK -> Prop
noncomputable abbrev Bm:=List Env -> Hp -> Shared -> XK -> Value -> Shared -> Prop
structure G_ (P:Program) (w:World) (K:PySem.W.Frag) (mg:Str -> Option Value) (base:Heap) (A:Around) (outer:List Env) (s:Shared) (H:Hp):Prop where
 frames:A.frames = some outer
 mod:Mod K mg base
 bs:∀ b o,base.get? b = some o -> s.heap.get? b = some o /\ H b = none
 Ic:base.objs.size <= s.heap.objs.size
 m_:s.heap.FunFrames base outer
 My:∀ b ∈ Bk outer,H b = none
 dD:mJ P w H s.heap
 bare:AllBare s.gens
noncomputable def CE (outer:List Env) (P:Program) (w:World) (H:Hp) (s:Shared) (Q:VK) (u:Value) (s':Shared):Prop :=
 ∃ v H',s'.os = s.os /\ AllBare s'.gens /\ Un (Bk outer) [] H H' s.heap s'.heap /\ mJ P w H' s'.heap /\ RelV v u /\ Q v H'
noncomputable def CR (CX:Bm) (outer:List Env) (P:Program) (w:World) (H:Hp) (s:Shared) (Q:VK) (E:XK) (r:Result) (s':Shared):Prop :=
 match r with
 | .ok (.ret u)=>CE outer P w H s Q u s'
 | .ok _=>False
 | .error e=>CX outer H s E e s'
structure kC (P:Program) (w:World) (K:PySem.W.Frag) (mg:Str -> Option Value) (base:Heap) (CX:Bm) (k:Nat) (f:Addr) (fd:FuncData) (ps:List Str) (sp:Sp):Prop where
 len:∀ vs H Q E,sp vs H Q E -> vs.length = ps.length
 run:∀ (A:Around) (outer:List Env) (s:Shared) (H:Hp) (args:Args) (us:List Value) (vs:List V) (Q:VK) (E:XK),iC k A -> G_ P w K mg base A outer s H -> BindsTo s fd args (ps.zip us) -> Vals vs us -> sp vs H Q E ->
  codeAny (model P w) A (.call (.ref f) args) (CR CX outer P w H s Q E) s
theorem kC.mono {P:Program} {w:World} {K:PySem.W.Frag} {mg:Str -> Option Value} {base:Heap} {CX:Bm} {j k:Nat} {f:Addr} {fd:FuncData} {ps:List Str} {sp:Sp} (F:kC P w K mg base CX j f fd ps sp) (h:j <= k) :
  kC P w K mg base CX k f fd ps sp:=⟨F.len,fun A outer s H args us vs Q E hr=>F.run A outer s H args us vs Q E (hr.mono h)⟩
section
variable {X:Cx} {pins:List (Addr × Obj)} {σ:St} {H:Hp} {s s':Shared}
theorem Inv.YX (I:Inv X pins σ H s):G_ X.prog X.w X.K X.mg X.base X.A X.stack s H :=
 ⟨I.ok.frames,I.ok.mod,I.bs,Nat.le_trans I.ok.Ic I.sz,I.stack,I.yf,I.dD,I.bare⟩
theorem Inv.after {Q:VK} {u:Value} (I:Inv X pins σ H s) (h:CE X.stack X.prog X.w H s Q u s'):EP X pins σ Q u s':=by
 obtain ⟨v,H',os,bare,un,dD,r,q⟩:=h
 obtain ⟨hh,g,d,t,UJ⟩:=s'
 obtain rfl:UJ = s.os:=os
 exact ⟨v,H',I.call (h':=hh) (g':=g) (d':=d) (t':=t) (ch:=[]) un dD bare (fun b z=>absurd z (by simp)),r,q⟩
end
noncomputable def M9 (sp:Sp) (gf:List V) (E:XK) (t:TA):TE:=fun σ H Q=>t σ H fun vs H1=>sp (vs ++ gf) H1 Q E
noncomputable def Binds (K:PySem.W.Frag) (fd:FuncData) (ps:List Str) (ds:List Value):Prop :=
 ∀ (s:Shared) (us:List Value),K.In s.heap -> (us ++ ds).length = ps.length -> BindsTo s fd ⟨us,[]⟩ (ps.zip (us ++ ds))
theorem Binds.all {K:PySem.W.Frag} {fd:FuncData} {ps:List Str} (h:∀ us:List Value,us.length = ps.length -> bindArgs fd ⟨us,[]⟩ = pure (ps.zip us)):Binds K fd ps []:=fun s us _ hl=>by
 rw [List.append_nil] at hl ⊢
 exact .of_eq (h us hl)
noncomputable def Passes (CX:Bm) (X:Cx) (E:XK):Prop:=∀ (pins:List (Addr × Obj)) (σ:St) (H:Hp) (s:Shared) (e:Value) (s':Shared),Inv X pins σ H s -> CX X.stack H s E e s' -> X.xe e s'
section
variable {X:Cx} {CX:Bm} {k:Nat} {f C:Addr} {fd:FuncData} {ps:List Str} {sp:Sp} {gf:List V} {ds:List Value} {E:XK} {x m:Str} {p pos apos:Pos} {e o:Expr} {es:List Expr} {ta:TE} {t:TA}
theorem Jf {pins:List (Addr × Obj)} {σ:St} {H:Hp} {s:Shared} {Q:VK} {us:List Value} {vs:List V} (F:kC X.prog X.w X.K X.mg X.base CX k f fd ps sp) (hr:iC k X.A) (hb:Binds X.K fd ps ds) (hd:Vals gf ds) (hx:Passes CX X E)
  (I:Inv X pins σ H s) (r:Vals vs us) (h:sp (vs ++ gf) H Q E):wpAny (model X.prog X.w) X.A (call (.ref f) us) (EP X pins σ Q) X.xe s:=by
 have r2:Vals (vs ++ gf) (us ++ ds):=r.append hd
 have hl:(us ++ ds).length = ps.length:=by rw [<- r2.length];exact F.len _ _ _ _ h
 refine wpAny_call (codeAny_mono (F.run X.A X.stack s H ⟨us,[]⟩ (us ++ ds) (vs ++ gf) Q E hr I.YX (hb s us I.An hl) r2 h) fun r s' hq=>?_)
 cases r with
 | error e=>exact hx pins σ H s e s' I hq
 | ok fl =>
  cases fl with
  | ret u=>exact I.after hq
  | next=>exact False.elim hq
  | brk=>exact False.elim hq
  | cont=>exact False.elim hq
theorem Fs (F:kC X.prog X.w X.K X.mg X.base CX k f fd ps sp) (hr:iC k X.A) (hg:Gl X x) (hm:X.mg x = some (.ref f)) (hk:PySem.W.keepIn X.K (.ref f) = true) (hb:Binds X.K fd ps ds) (hd:Vals gf ds) (hx:Passes CX X E)
  (ha:PA X (e :: es) t) (OU:(x == ("__debug__" : Str)) = false:=by decide) (he:starEach (e :: es) X.env = (false,eval e X.env) :: starEach es X.env:=by rfl) (hpl:(backTo pos (starEach es X.env)).any (·.1) = false:=by rfl) :
  PE X (.Call (.Name x p) (e :: es) [] pos) (M9 sp gf E t):=by
 intro pins s σ H Q I h
 refine wpAny_Call_Name_kw (yI I hg hm ?_ OU)
 refine PySem.W.callWith_K (h₀:=X.base) I.ok.mod.Wa hk (dS (ha pos pins s σ H _ I h) fun us s1 ⟨vs,H1,I1,r,q⟩=>⟨I1.An,?_⟩) he hpl
 exact Jf F hr hb hd hx I1 r q
structure Mk (K:PySem.W.Frag) (C f:Addr):Prop where
 makes:PySem.W.makesIn K C = true
 init:PySem.W.findIn K (.ref C) "__init__" = some (some (.ref f))
 fn:PySem.W.isFn K (.ref f) = true
 kp:PySem.W.keepIn K (.ref C) = true
end
section
variable {X:Cx} {CX:Bm} {k:Nat} {f C:Addr} {fd:FuncData} {ps ks:List Str} {sp:Sp} {E:XK} {x m:Str} {p pos apos afr:Pos} {e o:Expr} {es:List Expr} {kws:List Keyword} {te ta:TE} {t tk:TA} {nm:Option Str}
structure aa6 (K:PySem.W.Frag) (fd:FuncData) (ps ks:List Str) (g:List Value -> List Value -> List Value) (gV:List V -> List V -> List V):Prop where
 to:∀ (s:Shared) (us ws:List Value),K.In s.heap -> (g us ws).length = ps.length -> BindsTo s fd ⟨us,ks.zip ws⟩ (ps.zip (g us ws))
 rel:∀ {vs:List V} {us:List Value} {zs:List V} {ws:List Value},Vals vs us -> Vals zs ws -> Vals (gV vs zs) (g us ws)
variable {g:List Value -> List Value -> List Value} {gV:List V -> List V -> List V}
end
structure au (N P:List Str) (sc:Scope):Prop where
 kind:sc.kind = .function
 co:sc.isCoroutine = false
 gen:sc.isGenerator = false
 nd:N.Nodup
 pre:N.take P.length = P
 par:∀ x ∈ P,sc.names.lookup x = some .local \/ sc.names.lookup x = some .cell
 JQ:∀ y ∈ sc.names,y.2 ≠ .free
theorem rR {kindOf:Str -> Option NameKind} {x:Str}:∀ {binds:List (Str × Value)} {m:Str -> Option Value},(∀ v,(x,v) ∉ binds) -> bindL kindOf binds m x = m x
 | [],_,_=>rfl
 | (n,v) :: r,m,h=>by
  unfold bindL
  rw [rR fun w hw=>h w (List.mem_cons_of_mem _ hw)]
  split
  ·have:x ≠ n:=by rintro rfl;exact h v List.mem_cons_self
   simp [this]
  ·rfl
theorem rT {kindOf:Str -> Option NameKind} {x:Str}:∀ {binds:List (Str × Value)} {m:Str -> Option Value},(∀ v,(x,v) ∉ binds) -> bindC kindOf binds m x = m x
 | [],_,_=>rfl
 | (n,v) :: r,m,h=>by
  unfold bindC
  rw [rT fun w hw=>h w (List.mem_cons_of_mem _ hw)]
  split
  ·rfl
  ·have:x ≠ n:=by rintro rfl;exact h v List.mem_cons_self
   simp [this]
theorem rS {kindOf:Str -> Option NameKind} {x:Str} {v:Value}:∀ {P:List Str} {vs:List Value} {i:Nat} {m:Str -> Option Value},P.Nodup -> P[i]? = some x -> vs[i]? = some v -> kindOf x = some .local ->
  bindL kindOf (P.zip vs) m x = some v
 | [],_,_,_,_,h,_,_=>by simp at h
 | _ :: _,[],_,_,_,_,h,_=>by simp at h
 | p :: P,w :: vs,0,m,nd,h1,h2,hk=>by
  simp at h1 h2;subst h1;subst h2
  show bindL kindOf ((p,w) :: P.zip vs) m p = _
  unfold bindL
  rw [rR fun v hv=>(List.nodup_cons.mp nd).1 (List.of_mem_zip hv).1,if_pos hk]
  simp
 | p :: P,w :: vs,i + 1,m,nd,h1,h2,hk=>by
  show bindL kindOf ((p,w) :: P.zip vs) m x = _
  unfold bindL
  exact rS (i:=i) (List.nodup_cons.mp nd).2 (by simpa using h1) (by simpa using h2) hk
theorem rV {kindOf:Str -> Option NameKind} {x:Str} {v:Value}:∀ {P:List Str} {vs:List Value} {i:Nat} {m:Str -> Option Value},P.Nodup -> P[i]? = some x -> vs[i]? = some v -> kindOf x ≠ some .local ->
  bindC kindOf (P.zip vs) m x = some v
 | [],_,_,_,_,h,_,_=>by simp at h
 | _ :: _,[],_,_,_,_,h,_=>by simp at h
 | p :: P,w :: vs,0,m,nd,h1,h2,hk=>by
  simp at h1 h2;subst h1;subst h2
  show bindC kindOf ((p,w) :: P.zip vs) m p = _
  unfold bindC
  rw [rT fun v hv=>(List.nodup_cons.mp nd).1 (List.of_mem_zip hv).1,if_neg hk]
  simp
 | p :: P,w :: vs,i + 1,m,nd,h1,h2,hk=>by
  show bindC kindOf ((p,w) :: P.zip vs) m x = _
  unfold bindC
  exact rV (i:=i) (List.nodup_cons.mp nd).2 (by simpa using h1) (by simpa using h2) hk
noncomputable def start (N:List Str) (vs:List V):St:=vs.map some ++ List.replicate (N.length - vs.length) none
noncomputable def xJ (CX:Bm) (P:Program) (w:World) (K:PySem.W.Frag) (mg:Str -> Option Value) (base:Heap) (N:List Str) (qual:Str) (scope:Scope) (f:Addr) (cd:Value) (A:Around) (outer:List Env) (s:Shared) (H:Hp) (E:XK):Cx where
 prog:=P
 w:=w
 K:=K
 mg:=mg
 base:=base
 A:=A.deeper (envOfC qual scope s.heap.objs.size f cd)
 N:=N
 s₀:=s
 H₀:=H
 env:=envOfC qual scope s.heap.objs.size f cd
 outer:=outer
 stack:=envOfC qual scope s.heap.objs.size f cd :: outer
 ex:=[]
 calm:=true
 fn:=fun _=>true
 pn:=[]
 xe:=fun e s'=>wpAny (model P w) (A.deeper (envOfC qual scope s.heap.objs.size f cd)) (leaving (envOfC qual scope s.heap.objs.size f cd) e) (fun _ TC=>CX outer H s E e TC) (fun e' TC=>CX outer H s E e' TC) s'
theorem wz {sc:Scope} {n:Nat} {x:Str} (h:sc.names.lookup x = some .cell):∃ c,(cellsFrom n sc.names []).lookup x = some c:=by
 have q:=PySem.W.cellsFrom_some sc.names n [] (.inl h)
 exact Option.isSome_iff_exists.mp q
theorem Av {CX:Bm} {P:Program} {w:World} {K:PySem.W.Frag} {mg:Str -> Option Value} {base:Heap} {N ps:List Str} {qual:Str} {scope:Scope} {f:Addr} {cd:Value} {A:Around} {outer:List Env} {s s1:Shared} {H:Hp} {E:XK} {us:List Value} {vs:List V}
  (S:au N ps scope) (hd:A.handled = none) (e0:G_ P w K mg base A outer s H) (hl:vs.length = ps.length) (r:Vals vs us)
  (x:InCallC s s.heap.objs.size (bindL (envOfC qual scope s.heap.objs.size f cd).kindOf (ps.zip us) fun _=>none) (cellsFrom (s.heap.objs.size + 1) scope.names []) (bindC (envOfC qual scope s.heap.objs.size f cd).kindOf (ps.zip us) fun _=>none) s1) :
  Inv (xJ CX P w K mg base N qual scope f cd A outer s H E) [] (start N vs) H s1:=by
 have hpl:ps.length <= N.length:=by have:=congrArg List.length S.pre;rw [List.length_take] at this;omega
 obtain ⟨h1,tk,rfl,hk⟩:=x.done
 have N3:∀ b:Addr,b ∉ (xJ CX P w K mg base N qual scope f cd A outer s H E).ex:=fun b z=>absurd (show b ∈ ([]:List Addr) from z) (by simp)
 refine ⟨⟨e0.mod,S.kind,rfl,rfl,Nat.le_refl _,fun y z c h1 h2=>?_,fun y hy=>?_,fun y c _ h=>?_,fun _=>hd,Around.frames_deeper e0.frames,.inr ⟨rfl,rfl⟩,fun b z=>absurd z (N3 b),e0.bs,e0.Ic,fun b _ _=>N3 b,fun b z=>absurd z (N3 b),e0.m_,e0.My⟩,
  rfl,e0.bare,Un.kept hk,⟨_,x.toInCall.ns,fun i y v h1 h2 h3=>?_⟩,fun y c h=>⟨_,x.cell y c h⟩,e0.dD.fresh (Nat.le_refl _),fun y c h=>?_,fun p hp=>absurd (show p ∈ ([]:List (Addr × Obj)) from hp) (by simp),e0.dD.kept hk,?_⟩
 ·exact name_of_addr x.apart (PySem.mem_of_lookup h1) (PySem.mem_of_lookup h2)
 ·have hy:scope.names.lookup y = some .cell \/ scope.names.lookup y = some .free:=hy
  rcases hy with hy | hy
  ·exact wz hy
  ·exact absurd rfl (S.JQ _ (PySem.mem_of_lookup hy))
 ·exact Nat.le_of_lt (x.above y c (PySem.mem_of_lookup h))
 ·have hi:i < vs.length:=by
   unfold start at h2
   by_cases hi:i < vs.length
   ·exact hi
   ·rw [List.getElem?_append_right (by simpa using hi)] at h2
    rw [List.getElem?_replicate] at h2
    split at h2 <;> cases h2
  have ha:vs[i]? = some v:=by
   unfold start at h2
   rw [List.getElem?_append_left (by simpa using hi),List.getElem?_map] at h2
   cases e:vs[i]? with
   | none=>rw [e] at h2;cases h2
   | some a=>rw [e] at h2;cases h2;rfl
  obtain ⟨u,hu,rv⟩:=r.get ha
  have hp:ps[i]? = some y:=by
   rw [<- S.pre,List.getElem?_take_of_lt (by omega)];exact h1
  have ndP:ps.Nodup:=by rw [<- S.pre];exact S.nd.sublist (List.take_sublist _ _)
  refine ⟨u,rv,?_⟩
  rcases S.par y (List.mem_of_getElem? hp) with k | k
  ·exact .inl ⟨k,rS ndP hp hu k⟩
  ·obtain ⟨c,e⟩:=wz (n:=s.heap.objs.size + 1) k
   refine .inr ⟨.inl k,c,e,?_⟩
   have q:=x.cell y c e
   rw [rV ndP hp hu (by show scope.names.lookup y ≠ _;rw [k];decide)] at q
   exact q
 ·exact e0.dD.fresh (Nat.le_of_lt (x.above y c (PySem.mem_of_lookup h)))
 ·unfold start
  show _ = N.length
  rw [List.length_append,List.length_map,List.length_replicate]
  omega
theorem Pe {CX:Bm} {P:Program} {w:World} {K:PySem.W.Frag} {mg:Str -> Option Value} {base:Heap} {k:Nat} {f:Addr} {name qual:Str} {params:Arguments} {body:List Stmt} {scope:Scope} {dV kV doc pm mU ct oc:Value} {an od:Option Addr}
  {D2:Array (Option Value)} {N ps:List Str} {sp:Sp} (lk:K.lookup f = some ⟨oc,od,.func (PySem.W.fnOf name qual params body scope dV kV doc pm an mU ct),D2⟩) (Gk:PySem.W.codeIn K mU qual = true) (S:au N ps scope)
  (len:∀ vs H Q E,sp vs H Q E -> vs.length = ps.length)
  (C9:∀ (A:Around) (outer:List Env) (s:Shared) (H:Hp) (vs:List V) (Q:VK) (E:XK),iC k (A.deeper (envOfC qual scope s.heap.objs.size f mU)) -> sp vs H Q E ->
   ∃ t,nZ (xJ CX P w K mg base N qual scope f mU A outer s H E) body t /\ t { nx:=fun _ H'=>Q .bE H',rt:=Q } (start N vs) H) :
  kC P w K mg base CX (k + 1) f (PySem.W.fnOf name qual params body scope dV kV doc pm an mU ct) ps sp:=by
 refine ⟨len,fun A outer s H args us vs Q E hr e0 hb r D3=>?_⟩
 have hl:=len _ _ _ _ D3
 have KX:K.In s.heap:=e0.mod.Wa.keeps fun b o e=>(e0.bs b o e).1
 have lim:s.heap.NoLimit:=e0.mod.nolimit.keeps fun b o e=>(e0.bs b o e).1
 have ON:∀ y ∈ ps.zip us,scope.names.lookup y.1 = some .local \/ (scope.names.lookup y.1 = some .cell /\ ((cellsFrom (s.heap.objs.size + 1) scope.names []).lookup y.1).isSome = true):=fun ⟨n,v⟩ hy=>by
  rcases S.par n (List.of_mem_zip hy).1 with q | q
  ·exact .inl q
  ·exact .inr ⟨q,PySem.W.cellsFrom_some _ _ _ (.inl q)⟩
 refine codeAny_call_function hr.depth (KX _ _ lk) rfl S.co S.gen rfl (PySem.W.codeRec_of KX Gk) (hb _ _ _ _ ?_)
 refine wpAny_newFunctionEnv_cells S.kind ON fun env he s1 x=>?_
 subst he
 refine ⟨lim.keeps x.toInCall.keep,codeAny_func ?_⟩
 obtain ⟨t,ht,hq⟩:=C9 A outer s H vs Q E (hr.deeper _) D3
 have I:Inv (xJ CX P w K mg base N qual scope f mU A outer s H E) [] (start N vs) H s1:=Av S hr.hd e0 hl r x
 refine wpAny_mono (ht [] s1 (start N vs) H _ I hq) (fun fl s' hs=>?_) fun e s' hs=>hs
 have fin:∀ {σ':St} {H':Hp} {v:V} {u:Value},Inv (xJ CX P w K mg base N qual scope f mU A outer s H E) [] σ' H' s' -> RelV v u -> Q v H' -> CE outer P w H s Q u s' :=
  fun {σ' H' v u} J rv q=>⟨v,H',J.os,J.bare,J.base,J.dD,rv,q⟩
 cases fl with
 | ret u =>
  obtain ⟨v,σ',H',J,rv,q⟩:=hs
  exact fin J rv q
 | next =>
  obtain ⟨σ',H',J,q⟩:=hs
  exact fin (v:=V.bE) (u:=Value.none) J rfl q
 | brk =>
  obtain ⟨_,_,_,q⟩:=hs
  exact False.elim q
 | cont =>
  obtain ⟨_,_,_,q⟩:=hs
  exact False.elim q
end L2
namespace L2
open PySem PySem.Spec PyProof.Rows
section
variable {X:Cx} {x:Str} {p pos:Pos} {e:Expr} {es:List Expr} {t:TA} {id T:String} {r:List V -> Hp -> VK -> Prop}
noncomputable def L5 (r:List V -> Hp -> VK -> Prop) (t:TA):TE:=fun σ H Q=>t σ H fun vs H1=>r vs H1 Q
theorem fW (hc:gI X (.builtin id) r) (hg:Gl X x) (hm:X.mg x = none) (hv:bootBuiltins x = some (.builtin id)) (ha:PA X (e :: es) t) (hn:x ≠ "__name__":=by decide) (OU:(x == ("__debug__" : Str)) = false:=by decide)
  (he:starEach (e :: es) X.env = (false,eval e X.env) :: starEach es X.env:=by rfl) (hpl:(backTo pos (starEach es X.env)).any (·.1) = false:=by rfl):PE X (.Call (.Name x p) (e :: es) [] pos) (L5 r t):=by
 intro pins s σ H Q I h
 refine wpAny_Call_Name_kw (eK I hg hm hv ?_ hn OU)
 exact PyProof.Rows.callWith_builtin1 (dS (ha pos pins s σ H _ I h) fun us s1 ⟨vs,H1,I1,r1,q1⟩=>hc pins s1 σ H1 vs us Q I1 r1 q1) he hpl
theorem mi (hc:gI X (.type T) r) (hg:Gl X x) (hm:X.mg x = none) (hv:bootBuiltins x = some (.type T)) (ha:PA X (e :: es) t) (hn:x ≠ "__name__":=by decide) (OU:(x == ("__debug__" : Str)) = false:=by decide)
  (he:starEach (e :: es) X.env = (false,eval e X.env) :: starEach es X.env:=by rfl) (hpl:(backTo pos (starEach es X.env)).any (·.1) = false:=by rfl):PE X (.Call (.Name x p) (e :: es) [] pos) (L5 r t):=by
 intro pins s σ H Q I h
 refine wpAny_Call_Name_kw (eK I hg hm hv ?_ hn OU)
 exact PyProof.Rows.callWith_type1 (dS (ha pos pins s σ H _ I h) fun us s1 ⟨vs,H1,I1,r1,q1⟩=>hc pins s1 σ H1 vs us Q I1 r1 q1) he hpl
end
end L2
namespace HT
open PySem PyProof.Rows
noncomputable def lexLt:List Int -> List Int -> Bool
 | [],[]=>false
 | [],_ :: _=>true
 | _ :: _,[]=>false
 | x :: xs,y :: ys=>if x = y then lexLt xs ys else decide (x < y)
theorem dP (x y:Int) (xs ys:List Int):lexLt (x :: xs) (y :: ys) = if x = y then lexLt xs ys else decide (x < y):=rfl
theorem j5:lexLt [] [] = false:=rfl
theorem oM (y:Int) (ys:List Int):lexLt [] (y :: ys) = true:=rfl
theorem cY (x:Int) (xs:List Int):lexLt (x :: xs) [] = false:=rfl
theorem v7 (A:Around) (s:Shared) (a:Int) (t:Tok) (c:Int) (u:Tok):∃ e,SeqAt.EqAt A s (.int a t) (.int c u) e /\ (e = true ↔ a = c) :=
 ⟨(a == c),SeqAt.EqAt.int_int a t c u,by simp⟩
theorem B3 (A:Around) (s:Shared) (a:Int) (t:Tok) (c:Int) (u:Tok) (prog:Program) (w:World) (E:Value -> Shared -> Prop) (Q:Value -> Shared -> Prop) (h:Q (.bool (decide (a < c))) s) :
  wpAny (model prog w) A (richCompare .Lt (.int a t) (.int c u)) Q E s :=
 (PyProof.Rows.lt_int h:wpAny (model prog w) A (compareOp .Lt (.int a t) (.int c u)) Q E s)
section
open PySem.SeqAt
open PySem.AutoSeq1 (wpAny_loadPart')
open PySem.MeetsSeq PySem.MeetsSeq2 PySem.MeetsSeq3
theorem j3 (l b:Addr) (items dq:Array Value) (n n2:Nat) (dd zm:Option Addr) (sl wK:Array (Option Value)) (ns ms:List Int) (hi:IntsAre items.toList ns) (hj:IntsAre dq.toList ms) :
  Meets (Builtin.«tuple.__lt__» ⟨[.ref l,.ref b],[]⟩)
   (fun _ R s=>s.heap.get? l = some { cls:=.type "tuple",dict:=dd,data:=.seq items n,slots:=sl } /\ s.heap.get? b = some { cls:=.type "tuple",dict:=zm,data:=.seq dq n2,slots:=wK } /\
    R (.ok (.ret (.bool (lexLt ns ms)))) s) :=
 .of_wp fun prog w A R s h=>by
  obtain ⟨hp,g,d,tk,os⟩:=s;obtain ⟨hl,hb,h⟩:=h
  have f2:=AutoSeq1.sub_tuple_tuple
  have z1:items.size = ns.length:=by rw [<- hi.length];simp
  have z2:dq.size = ms.length:=by rw [<- hj.length];simp
  wp_walk using wpAny_loadPart' hl,wpAny_loadPart' hb,wpAny_forIn_list _ (fun rest b s'=>b.1 = none /\ s' = ⟨hp,g,d,tk,os⟩ /\ ∃ (vs ws:List Value) (lS Bc:List Int),rest = vs.zip ws /\
   IntsAre vs lS /\ IntsAre ws Bc /\ lS.length + dq.size = Bc.length + items.size /\ R (.ok (.ret (.bool (lexLt lS Bc)))) ⟨hp,g,d,tk,os⟩) _
  case turn =>
   rintro ⟨y,x⟩ rest b s' ⟨jU,rfl,vs,ws,lS,Bc,hz,Kt,HL,hlen,hR⟩
   cases Kt with
   | nil=>rw [List.zip_nil_left] at hz;cases hz
   | cons a t hvi' =>
    cases HL with
    | nil=>rw [List.zip_nil_right] at hz;cases hz
    | cons c u hwi' =>
     rw [List.zip_cons_cons] at hz
     injection hz with W8 C2
     injection W8 with hy hx
     subst hy hx
     rw [dP] at hR
     simp only [List.length_cons] at hlen
     obtain ⟨e,he,C6⟩:=v7 A.in1 ⟨hp,g,d,tk,os⟩ a t c u
     refine wpAny_bind (he prog w _ _ ?_)
     cases e with
     | true =>
      rw [if_pos (C6.mp rfl)] at hR
      wp_walk
      exact ⟨rfl,rfl,_,_,_,_,C2,hvi',hwi',by omega,hR⟩
     | false =>
      rw [if_neg (fun q=>absurd (C6.mpr q) Bool.false_ne_true)] at hR
      have Xf:=B3 A.in1 ⟨hp,g,d,tk,os⟩ a t c u prog w
      wp_walk using Xf
      exact ⟨_,rfl,by simpa using hR⟩
  case fin =>
   rintro ⟨b1,b2⟩ s' ⟨jU,rfl,vs,ws,lS,Bc,hz,Kt,HL,hlen,hR⟩
   simp only at jU
   subst jU
   have hv:lexLt lS Bc = decide (items.size < dq.size):=by
    cases Kt with
    | nil =>
     cases HL with
     | nil =>
      simp only [List.length_nil] at hlen
      rw [j5]
      exact (decide_eq_false (by omega)).symm
     | cons c u hw =>
      simp only [List.length_nil,List.length_cons] at hlen
      rw [oM]
      exact (decide_eq_true (by omega)).symm
    | cons a t hv =>
     cases HL with
     | nil =>
      simp only [List.length_nil,List.length_cons] at hlen
      rw [cY]
      exact (decide_eq_false (by omega)).symm
     | cons c u hw =>
      rw [List.zip_cons_cons] at hz
      cases hz
   rw [hv] at hR
   wp_walk
   exact ⟨_,rfl,by simpa [Builtin.Tuple.tupleCompareSizes] using hR⟩
  case h =>
   exact ⟨rfl,rfl,items.toList,dq.toList,ns,ms,rfl,hi,hj,by omega,h⟩
end
section
variable {prog:Program} {w:World} {A:Around} {E:Value -> Shared -> Prop} {s:Shared}
theorem xk {l b:Addr} {items dq:Array Value} {ns ms:List Int} {Q:Value -> Shared -> Prop} (hl:IsTup s.heap l items) (hb:IsTup s.heap b dq) (hi:IntsAre items.toList ns) (hj:IntsAre dq.toList ms)
  (hu:A.units < cLine) (h:Q (.bool (lexLt ns ms)) s):wpAny (model prog w) A (compareOp .Lt (.ref l) (.ref b)) Q E s:=by
 obtain ⟨⟨cls,dd,data,sl⟩,ho,hc,n,hd⟩:=id hl
 obtain ⟨⟨GS,zm,data2,wK⟩,tf,hc2,n2,hd2⟩:=id hb
 simp only at hc hd hc2 hd2
 subst hc hd hc2 hd2
 exact richCompare_meets_room (op:=.Lt) ⟨_,ho,rfl⟩ ⟨_,tf,rfl⟩ PySem.F.slot_tuple_lt PySem.F.entry_tuple_lt (PySem.F.args_tuple_lt_2 _ _) (j3 l b items dq n n2 dd zm sl wK ns ms hi hj)
  ⟨ho,tf,show Value.bool (lexLt ns ms) ≠ Value.notImplemented /\ Q (.bool (lexLt ns ms)) s from ⟨(fun x=>nomatch x),h⟩⟩ hu
theorem GV {t b:Addr} {vs ws:List Value} {Q:Value -> Shared -> Prop} (ht:IsTup s.heap t vs.toArray) (hb:IsTup s.heap b ws.toArray) (hv:vs ≠ [])
  (h1:ws = [] -> Q (.ref t) s) (h2:ws ≠ [] -> Q (.ref s.heap.objs.size) { s with heap:=s.heap.push { cls:=.type "tuple",data:=.seq (vs ++ ws).toArray } })
  (td:vs.length + ws.length <= sizeLine):wpAny (model prog w) A (binaryOp .Add (.ref t) (.ref b)) Q E s:=by
 obtain ⟨⟨cls,dd,data,sl⟩,ho,hc,n,hd⟩:=id ht
 obtain ⟨⟨GS,zm,data2,wK⟩,tf,hc2,n2,hd2⟩:=id hb
 simp only at hc hd hc2 hd2
 subst hc hd hc2 hd2
 have e:vs.toArray ++ ws.toArray = (vs ++ ws).toArray:=by simp
 by_cases hw:ws = []
 ·exact concat_meets ⟨_,ho,rfl⟩ ⟨_,tf,rfl⟩ noFill_tuple_add seq_tuple_add PySem.F.slot_tuple_add PySem.F.entry_tuple_add (PySem.F.args_tuple_add_2 _ _)
   (tuple_addW1 t b vs.toArray ws.toArray n n2 dd zm sl wK (by simpa using hv) (by simp [hw])) ⟨ho,tf,h1 hw⟩
 ·refine concat_meets ⟨_,ho,rfl⟩ ⟨_,tf,rfl⟩ noFill_tuple_add seq_tuple_add PySem.F.slot_tuple_add PySem.F.entry_tuple_add (PySem.F.args_tuple_add_2 _ _)
   (tuple_addW2 t b vs.toArray ws.toArray n n2 dd zm sl wK (by simpa using hv) (by simpa using hw) (by rw [List.size_toArray,List.size_toArray];exact td)) ⟨ho,tf,?_⟩
  rw [e]
  exact h2 hw
noncomputable def eD (n d:Nat):Option Int -> Nat
 | none=>d
 | some v=>if v < 0 then (v + (n:Int)).toNat else min v.toNat n
theorem oy (n d:Nat):eD n d none = d:=rfl
theorem Je (n d:Nat) (hd:d <= n) (o:Option Int):eD n d o <= n:=by
 cases o with
 | none=>exact hd
 | some v =>
  show (if v < 0 then (v + (n:Int)).toNat else min v.toNat n) <= n
  by_cases hv:v < 0
  ·rw [if_pos hv];omega
  ·rw [if_neg hv];exact Nat.min_le_right _ _
theorem zq (v:Int) (n d:Nat):(if v < 0 then max (v + (n:Int)) 0 else min v (n:Int)) = ((eD n d (some v):Nat):Int):=by
 show (if v < 0 then max (v + (n:Int)) 0 else min v (n:Int)) = (((if v < 0 then (v + (n:Int)).toNat else min v.toNat n):Nat):Int)
 by_cases hv:v < 0
 ·simp only [if_pos hv];omega
 ·simp only [if_neg hv];omega
theorem xY (lo hi:Option Int) (n:Nat):Builtin.Slice.sliceAdjust lo hi 1 (n:Int) = (((eD n 0 lo:Nat):Int),((eD n n hi:Nat):Int)):=by
 have h1:¬ ((1:Int) < 0):=by omega
 unfold Builtin.Slice.sliceAdjust
 simp only [h1,if_false]
 refine Prod.ext ?_ ?_
 ·cases lo with
  | none=>rfl
  | some v=>exact zq v n 0
 ·cases hi with
  | none=>rfl
  | some v=>exact zq v n n
theorem xf (i j:Nat):Builtin.Slice.slicePlaces (i:Int) (j:Int) 1 = j - i:=by
 unfold Builtin.Slice.slicePlaces
 have h1:(1:Int) > 0:=by omega
 simp only [h1,if_true,Int.ediv_one]
 split <;> omega
theorem oh {v:Value} {o:Option Int} {Q:Option Int -> Shared -> Prop} (p:IsPart v o) (h:Q o s):wpAny (model prog w) A (Builtin.Slice.slicePartIndex v) Q E s:=by
 cases p with
 | none=>exact slicePart_none h
 | int i t=>exact slicePart_int h
theorem lZ {sl:Addr} {vl vu:Value} {lo hi:Option Int} {n:Nat} {Q:Int × Int × Nat -> Shared -> Prop} (hs:s.heap.IsSliceOf sl vl vu .none) (pl:IsPart vl lo) (pu:IsPart vu hi)
  (h:Q (((eD n 0 lo:Nat):Int),1,eD n n hi - eD n 0 lo) s):wpAny (model prog w) A (Builtin.Slice.sliceApplied (.ref sl) (pure (n:Int))) Q E s:=by
 obtain ⟨os,Kx,Bi,Ru⟩:=id hs
 unfold Builtin.Slice.sliceApplied Builtin.Slice.sliceFields
 refine wpAny_bind (wpAny_bind (wpAny_field Kx Ru (x:=vl) rfl (wpAny_bind (wpAny_field Kx Ru (x:=vu) rfl (wpAny_bind (wpAny_field Kx Ru (x:=.none) rfl (wpAny_pure ?_)))))))
 refine wpAny_bind (slicePart_none ?_)
 show wpAny _ _ (if ((1:Int) == 0) = true then _ else _) _ _ s
 rw [if_neg (by decide)]
 refine wpAny_bind (oh pl (wpAny_bind (oh pu (wpAny_bind (wpAny_pure ?_)))))
 show wpAny _ _ (match Builtin.Slice.sliceAdjust lo hi 1 (n:Int) with | (lo,hi)=>pure (lo,(1:Int),Builtin.Slice.slicePlaces lo hi 1)) _ _ s
 rw [xY lo hi n]
 show wpAny _ _ (pure (((eD n 0 lo:Nat):Int),(1:Int),Builtin.Slice.slicePlaces ((eD n 0 lo:Nat):Int) ((eD n n hi:Nat):Int) 1)) _ _ s
 rw [xf]
 exact wpAny_pure h
theorem B_ (xs:Array Value) (i k:Nat):((List.range k).filterMap fun (m:Nat)=>xs[((i:Int) + (m:Int) * 1).toNat]?).toArray = ((xs.toList.drop i).take k).toArray:=by
 have e:(fun (m:Nat)=>xs[((i:Int) + (m:Int) * 1).toNat]?) = fun m=>xs[i + m]?:=by
  funext m
  have:((i:Int) + (m:Int) * 1).toNat = i + m:=by omega
  rw [this]
 rw [e]
 have:=pick_run xs i k
 rw [List.filterMap_map] at this
 have e2:((fun x=>xs[x]?) ∘ fun x=>i + x) = fun m=>xs[i + m]?:=rfl
 rw [e2] at this
 rw [this]
theorem lr {t sl:Addr} {items:Array Value} {vl vu:Value} {lo hi:Option Int} {Q:Value -> Shared -> Prop} (ht:IsTup s.heap t items) (hs:s.heap.IsSliceOf sl vl vu .none) (pl:IsPart vl lo) (pu:IsPart vu hi)
  (hw:¬ (eD items.size 0 lo = 0 /\ eD items.size items.size hi = items.size))
  (h:Q (.ref s.heap.objs.size) { s with heap:=s.heap.push { cls:=.type "tuple",data:=.seq ((items.toList.drop (eD items.size 0 lo)).take (eD items.size items.size hi - eD items.size 0 lo)).toArray } })
  (td:items.size <= sizeLine):wpAny (model prog w) A (getItem (.ref t) (.ref sl)) Q E s:=by
 have yO:sizeOk (.seq ((items.toList.drop (eD items.size 0 lo)).take (eD items.size items.size hi - eD items.size 0 lo)).toArray):=by
  show ((items.toList.drop (eD items.size 0 lo)).take (eD items.size items.size hi - eD items.size 0 lo)).toArray.size <= sizeLine
  rw [List.size_toArray,List.length_take,List.length_drop,Array.length_toList]
  omega
 have hj:eD items.size items.size hi <= items.size:=Je _ _ (Nat.le_refl _) hi
 obtain ⟨os,Kx,Bi,Ru⟩:=id hs
 have hTs:s.TypeIs (.ref sl) "slice":=⟨os,Kx,Bi⟩
 unfold getItem
 try with_reducible refine wpAny_holding ?_
 first | refine wpAny_bind (wpAny_pure ?_) | skip
 refine wpAny_bind (wpAny_sequenceKey ht.typeIs (by decide) ?_)
 refine wpAny_bind (wpAny_callSpecial?_slot (name:=Str.ofString "__getitem__") ht.typeIs PyProof.Rows.slot_tuple_getitem
  (wpAny_call_entry PyProof.Rows.slot_tuple_getitem ht.typeIs entry_tuple_getitem ?_ (args_tuple_getitem _ _)))
 show wpAny _ _ (Builtin.Tuple.tupleItemsOf (.ref t) >>= _) _ _ s
 refine wpAny_bind (tupleItemsOf_ ht ?_)
 refine wpAny_bind (wpAny_typeOf hTs ?_)
 rw [if_pos (by decide)]
 refine wpAny_bind (lZ hs pl pu ?_)
 have hno:¬ ((((eD items.size 0 lo:Nat):Int) == 0 && (1:Int) == 1 && (eD items.size items.size hi - eD items.size 0 lo) == items.size) = true):=by
  intro q
  rw [Bool.and_eq_true,Bool.and_eq_true] at q
  have q1:((eD items.size 0 lo:Nat):Int) = 0:=eq_of_beq q.1.1
  have q2:eD items.size items.size hi - eD items.size 0 lo = items.size:=eq_of_beq q.2
  exact hw ⟨by omega,by omega⟩
 show wpAny _ _ (if (((eD items.size 0 lo:Nat):Int) == 0 && (1:Int) == 1 && (eD items.size items.size hi - eD items.size 0 lo) == items.size) = true then _ else _) _ _ s
 rw [if_neg hno,B_]
 first
  | exact wpAny_bind (m:=Builtin.Tuple.tupleExact _) (wpAny_newObj_type (wpAny_pure ⟨_,rfl,wpAny_pure h⟩) yO)
  | exact wpAny_bind (m:=Builtin.Tuple.tupleExact _) (wpAny_newObj_type (wpAny_bind (wpAny_pure (wpAny_pure ⟨_,rfl,wpAny_pure h⟩))) yO)
  | exact wpAny_bind (wpAny_bind (m:=Builtin.Tuple.tupleExact _) (wpAny_newObj_type (wpAny_pure (wpAny_pure ⟨_,rfl,wpAny_pure h⟩)) yO))
  | exact wpAny_bind (wpAny_bind (m:=Builtin.Tuple.tupleExact _) (wpAny_newObj_type (wpAny_pure ⟨_,rfl,wpAny_pure h⟩) yO))
end
end HT
namespace L2
open PySem PySem.Spec PyProof.Rows
noncomputable abbrev TO:=St -> Hp -> (Option Int -> Hp -> Prop) -> Prop
noncomputable def PO (X:Cx) (e:Option Expr) (t:TO):Prop :=
 ∀ (pins:List (Addr × Obj)) (s:Shared) (σ:St) (H:Hp) (Q:Option Int -> Hp -> Prop),Inv X pins σ H s -> t σ H Q ->
  wpAny (model X.prog X.w) X.A (evalPart e X.env) (fun u s'=>∃ o H',Inv X pins σ H' s' /\ IsPart u o /\ Q o H') X.xe s
noncomputable def EF:TO:=fun _ H Q=>Q none H
noncomputable def M3 (t:TE):TO:=fun σ H Q=>t σ H fun x H1=>∃ i,x = .int i /\ Q (some i) H1
theorem intsAre_of {ns:List Int}:∀ {us:List Value},Vals (ns.map V.int) us -> IntsAre us ns:=by
 induction ns with
 | nil=>intro us r;rw [List.map_nil] at r;cases r;exact .nil
 | cons n ns ih =>
  intro us r
  rw [List.map_cons] at r
  cases r with
  | cons r1 r2 =>
   obtain ⟨t,e⟩:=r1
   subst e
   exact .cons n t (ih r2)
section
variable {X:Cx} {e:Expr} {te:TE} {lo hi:Option Expr} {tl th:TO} {pos p2:Pos}
theorem sQ:PO X none EF:=by
 intro pins s σ H Q I h
 rw [evalPart_none]
 exact wpAny_pure ⟨none,H,I,.none,h⟩
theorem sP (h:PE X e te):PO X (some e) (M3 te):=by
 intro pins s σ H Q I hw
 rw [evalPart_some]
 refine dS (h pins s σ H _ I hw) fun u s1 ⟨x,H1,I1,r1,q1⟩=>?_
 obtain ⟨i,rfl,q⟩:=q1
 obtain ⟨t,rfl⟩:=r1
 exact ⟨some i,H1,I1,.int i t,q⟩
noncomputable def RZ (X:Cx) (r:V -> Option Int -> Option Int -> Hp -> VK -> Prop):Prop :=
 ∀ (pins:List (Addr × Obj)) (s:Shared) (σ:St) (H:Hp) (x:V) (v vl vu:Value) (lo hi:Option Int) (sl:Addr) (Q:VK),Inv X pins σ H s -> RelV x v -> s.heap.IsSliceOf sl vl vu .none -> IsPart vl lo -> IsPart vu hi -> r x lo hi H Q ->
  ∃ T id,typeLookup (.type T) "__getitem__" = pure (some (.builtin id)) /\ s.TypeIs v T /\ wpAny (model X.prog X.w) X.A (getItem v (.ref sl)) (EP X pins σ Q) X.xe s
noncomputable def tSl (r:V -> Option Int -> Option Int -> Hp -> VK -> Prop) (te:TE) (tl th:TO):TE:=fun σ H Q=>te σ H fun x H1=>tl σ H1 fun l H2=>th σ H2 fun u H3=>r x l u H3 Q
theorem vo {r:V -> Option Int -> Option Int -> Hp -> VK -> Prop} (hr:RZ X r) (he:PE X e te) (hl:PO X lo tl) (hu:PO X hi th):PE X (.Subscript e (.Slice lo hi none p2) pos) (tSl r te tl th):=by
 intro pins s σ H Q I h
 refine Subscript_ (dS (he pins s σ H _ I h) fun v s1 ⟨x,H1,I1,r1,q1⟩=>?_)
 refine wpAny_Slice (dS (hl pins s1 σ H1 _ I1 q1) fun vl s2 ⟨l,H2,I2,pl,q2⟩=>dS (hu pins s2 σ H2 _ I2 q2) fun vu s3 ⟨u,H3,I3,pu,q3⟩=>?_)
 rw [evalPart_none]
 refine wpAny_pure ?_
 have I4:Inv X pins σ H3 { s3 with heap:=s3.heap.push { cls:=.type "slice",data:=.fields #[vl,vu,.none] } }:=I3.kept (t':=s3.toks) fun b ob q=>Heap.get?_push_of_some _ q
 obtain ⟨T,id,hT,ht,hg⟩:=hr pins { s3 with heap:=s3.heap.push { cls:=.type "slice",data:=.fields #[vl,vu,.none] } } σ H3 x v vl vu l u s3.heap.objs.size Q I4 r1 (Heap.IsSliceOf.new ..) pl pu q3
 show wpAny (model X.prog X.w) X.A (subscriptTail e (.Slice lo hi none p2) v (.ref s3.heap.objs.size)) (EP X pins σ Q) X.xe { s3 with heap:=s3.heap.push { cls:=.type "slice",data:=.fields #[vl,vu,.none] } }
 exact tail_any (ops:=[.ref s3.heap.objs.size,v]) ht hT hg (by with_unfolding_all rfl)
noncomputable def wa (xs:List V) (lo hi:Option Int):List V:=(xs.drop (HT.eD xs.length 0 lo)).take (HT.eD xs.length xs.length hi - HT.eD xs.length 0 lo)
theorem mT (xs:List V) (lo hi:Option Int):(wa xs lo hi).length <= xs.length:=by
 unfold wa
 rw [List.length_take,List.length_drop]
 omega
noncomputable def TK (K:PySem.W.Frag):V -> Option Int -> Option Int -> Hp -> VK -> Prop:=fun x lo hi H Q=>∃ a xs,x = .ref a /\ aG K H a xs /\
 ¬ (HT.eD xs.length 0 lo = 0 /\ HT.eD xs.length xs.length hi = xs.length) /\ ∀ p,H p = none -> Q (.ref p) (upd H p (.tup (wa xs lo hi)))
theorem IP:RZ X (TK X.K):=by
 intro pins s σ H x v vl vu lo hi sl Q I rx hs pl pu h
 obtain ⟨a,xs,rfl,hx,hw,q⟩:=h
 cases rx
 obtain ⟨aj,r,ht,hz⟩:=I.tuple hx
 have hlen:aj.toArray.size = xs.length:=by rw [List.size_toArray];exact r.length.symm
 refine ⟨"tuple",_,PyProof.Rows.slot_tuple_getitem.lookup,ht.typeIs,?_⟩
 refine HT.lr ht hs pl pu (by rw [hlen];exact hw) ?_ (by rw [hlen];exact hz)
 rw [hlen]
 refine ⟨.ref s.heap.objs.size,_,I.laid (t':=s.toks) (o:=.tup (wa xs lo hi)) (fun b ob q=>Heap.get?_push_of_some _ q) (Nat.le_refl _) ?_,rfl,q _ (I.dD.fresh (Nat.le_refl _))⟩
 exact ⟨Nat.le_trans (mT xs lo hi) hz,_,(r.drop (HT.eD xs.length 0 lo)).take (HT.eD xs.length xs.length hi - HT.eD xs.length 0 lo),IsTup.new _ _⟩
noncomputable def NC (K:PySem.W.Frag):R2:=fun x y H Q=>∃ a b xs ys,x = .ref a /\ y = .ref b /\ aG K H a xs /\ aG K H b ys /\ xs ≠ [] /\ xs.length + ys.length <= sizeLine /\
 (ys = [] -> Q (.ref a) H) /\ (ys ≠ [] -> ∀ p,H p = none -> Q (.ref p) (upd H p (.tup (xs ++ ys))))
theorem Vals.sV {xs:List V} {us:List Value} (r:Vals xs us):us = [] ↔ xs = []:=by
 cases r with
 | nil=>simp
 | cons _ _=>simp
theorem FA:j_ X (binaryOp .Add) (NC X.K):=by
 intro pins s σ H x y v u Q I rx ry h
 obtain ⟨a,b,xs,ys,rfl,rfl,ha,hb,hx,hz,q1,q2⟩:=h
 cases rx
 cases ry
 obtain ⟨aj,r1,p1,_⟩:=I.tuple ha
 obtain ⟨m6,r2,p2,_⟩:=I.tuple hb
 refine HT.GV p1 p2 (fun z=>hx (r1.sV.mp z)) (fun z=>⟨.ref a,H,I,rfl,q1 (r2.sV.mp z)⟩) (fun z=>?_) (by rw [<- r1.length,<- r2.length];exact hz)
 refine ⟨.ref s.heap.objs.size,_,I.laid (t':=s.toks) (o:=.tup (xs ++ ys)) (fun b ob q=>Heap.get?_push_of_some _ q) (Nat.le_refl _) ?_,rfl,q2 (fun w=>z (r2.sV.mpr w)) _ (I.dD.fresh (Nat.le_refl _))⟩
 exact ⟨by rw [List.length_append];exact hz,_,r1.append r2,IsTup.new _ _⟩
end
end L2
namespace L2
open PySem PySem.Spec PyProof.Rows
noncomputable def Ao (n:Nat) (i:Int):Option Nat:=if 0 <= i then (if i < n then some i.toNat else none) else if -(n:Int) <= i then some (i + n).toNat else none
noncomputable def MF {α:Type} (xs:List α) (i:Int):Option α:=(Ao xs.length i).bind fun j=>xs[j]?
theorem yM {n:Nat} {i:Int} {j:Nat} (h:Ao n i = some j):seqIndex? i n = some j /\ j < n /\ -(n:Int) <= i /\ i < n:=by
 unfold Ao at h
 by_cases h0:0 <= i
 ·rw [if_pos h0] at h
  by_cases h1:i < n
  ·rw [if_pos h1] at h
   have e:i.toNat = j:=Option.some.inj h
   exact ⟨by rw [seqIndex_of h0 h1,e],by omega,by omega,h1⟩
  ·rw [if_neg h1] at h;cases h
 ·rw [if_neg h0] at h
  by_cases h1:-(n:Int) <= i
  ·rw [if_pos h1] at h
   have e:(i + n).toNat = j:=Option.some.inj h
   exact ⟨by rw [seqIndex_neg (by omega) h1,e],by omega,h1,by omega⟩
  ·rw [if_neg h1] at h;cases h
theorem zE {α:Type} {xs:List α} {i:Int} {v:α} (h:MF xs i = some v):∃ j,seqIndex? i xs.length = some j /\ xs[j]? = some v /\ j < xs.length /\ -(xs.length:Int) <= i /\ i < xs.length:=by
 unfold MF at h
 cases e:Ao xs.length i with
 | none=>rw [e] at h;cases h
 | some j =>
  rw [e] at h
  obtain ⟨h1,h2,h3,h4⟩:=yM e
  exact ⟨j,h1,h,h2,h3,h4⟩
noncomputable def nY (b:Expr):Prop:=∀ o i,subscripted b false o i = operate [o,i] (getItem o i)
noncomputable def LY (X:Cx) (r:R2):Prop :=
 ∀ (value slice:Expr) (pins:List (Addr × Obj)) (s:Shared) (σ:St) (H:Hp) (x y:V) (v u:Value) (Q:VK),Inv X pins σ H s -> RelV x v -> RelV y u -> r x y H Q ->
  subscripted slice false v u = operate [v,u] (getItem v u) -> wpAny (model X.prog X.w) X.A (subscriptTail value slice v u) (EP X pins σ Q) X.xe s
noncomputable def MtR (X:Cx) (id:String) (r:V -> List V -> Hp -> VK -> Prop):Prop :=
 ∀ (pins:List (Addr × Obj)) (s:Shared) (σ:St) (H:Hp) (x:V) (xs:List V) (v:Value) (us:List Value) (Q:VK),Inv X pins σ H s -> RelV x v -> Vals xs us -> r x xs H Q ->
  wpAny (model X.prog X.w) X.A (call (.builtin id) (v :: us)) (EP X pins σ Q) X.xe s
section
variable {X:Cx} {a b:Expr} {ta tb:TE} {pos:Pos}
theorem LY.or {r r':R2} (h:LY X r) (h':LY X r'):LY X (fun x y H Q=>r x y H Q \/ r' x y H Q):=by
 intro value slice pins s σ H x y v u Q I rx ry q hs
 rcases q with q | q
 ·exact h value slice pins s σ H x y v u Q I rx ry q hs
 ·exact h' value slice pins s σ H x y v u Q I rx ry q hs
theorem NP {r:R2} (hr:LY X r) (ha:PE X a ta) (hb:PE X b tb) (hs:nY b):PE X (.Subscript a b pos) (EE r ta tb):=by
 intro pins s σ H Q I h
 exact Subscript_ (LP ha hb I h fun v u s2 x y H2 I2 rx ry q=>hr a b pins s2 σ H2 x y v u Q I2 rx ry q (hs _ _))
noncomputable def TQ (K:PySem.W.Frag):R2:=fun x y H Q=>∃ p xs i v,x = .ref p /\ y = .int i /\ du K H p xs /\ MF xs i = some v /\ Q v H
noncomputable def TN (K:PySem.W.Frag):R2:=fun x y H Q=>∃ p xs i v,x = .ref p /\ y = .int i /\ aG K H p xs /\ MF xs i = some v /\ Q v H
theorem FW:LY X (TQ X.K):=by
 intro value slice pins s σ H x y v u Q I rx ry h hs
 obtain ⟨p,xs,i,z,rfl,rfl,hq,he,q⟩:=h
 cases rx
 obtain ⟨t,rfl⟩:=ry
 obtain ⟨aj,r,pl,hz⟩:=I.list hq
 obtain ⟨j,h1,h2,h3,h4,h5⟩:=zE he
 obtain ⟨w,ew,qX⟩:=r.get h2
 have hl:=r.length
 have hn:=sZ
 have fin:EP X pins σ Q w s:=⟨z,H,I,qX,q⟩
 by_cases h0:0 <= i
 ·have hj:i.toNat = j:=by
   rw [seqIndex_of h0 h5] at h1
   exact Option.some.inj h1
  exact item_listR pl.isList h0 (by omega) (by rw [hj];simpa using ew) fin hs
 ·have hj:(i + (aj.toArray.size:Int)).toNat = j:=by
   rw [seqIndex_neg (by omega) h4] at h1
   rw [List.size_toArray,<- hl]
   exact Option.some.inj h1
  exact subscriptTail_builtinR (x:=w) pl.isList.typeIs slot_list_getitem.lookup
   (wpAny_getItem_list_neg (Q:=fun r s'=>r = w /\ EP X pins σ Q r s') pl.isList (by omega) (by rw [List.size_toArray] <;> omega) (by omega) (by rw [hj];simpa using ew) ⟨rfl,fin⟩) hs
theorem Kc:LY X (TN X.K):=by
 intro value slice pins s σ H x y v u Q I rx ry h hs
 obtain ⟨p,xs,i,z,rfl,rfl,hq,he,q⟩:=h
 cases rx
 obtain ⟨t,rfl⟩:=ry
 obtain ⟨aj,r,pl,hz⟩:=I.tuple hq
 obtain ⟨j,h1,h2,h3,h4,h5⟩:=zE he
 obtain ⟨w,ew,qX⟩:=r.get h2
 have hl:=r.length
 have hn:=sZ
 have fin:EP X pins σ Q w s:=⟨z,H,I,qX,q⟩
 exact subscriptTail_builtinR (x:=w) pl.typeIs slot_tuple_getitem.lookup
  (getItem_tuple (j:=j) (Q:=fun r s'=>r = w /\ EP X pins σ Q r s') pl (by omega) (by omega) (by rw [List.size_toArray,<- hl];exact h1) (by simpa using ew) ⟨rfl,fin⟩) hs
theorem xi (aj:List Value) (n j:Nat) (u:Value):Obj.mapSeq (·.setIfInBounds j u) { cls:=.type "list",data:=.seq aj.toArray n } = { cls:=.type "list",data:=.seq (aj.set j u).toArray n }:=by
 simp [Obj.mapSeq]
theorem Inv.lst {pins:List (Addr × Obj)} {σ:St} {H:Hp} {s:Shared} {p:Addr} {xs:List V} (I:Inv X pins σ H s) (h:H p = some (.lst xs)) :
  ∃ (aj:List Value) (n:Nat),Vals xs aj /\ s.heap.get? p = some { cls:=.type "list",data:=.seq aj.toArray n } /\ xs.length <= sizeLine:=by
 obtain ⟨z,aj,n,r,e⟩:=I.dD p _ h
 exact ⟨aj,n,r,e,z⟩
theorem Inv.J0 {pins:List (Addr × Obj)} {σ:St} {H:Hp} {s:Shared} {p:Addr} {xs ys:List V} {aj its':List Value} {n n':Nat} {f:Obj -> Obj} (I:Inv X pins σ H s) (h:H p = some (.lst xs))
  (ho:s.heap.get? p = some { cls:=.type "list",data:=.seq aj.toArray n }) (hf:f { cls:=.type "list",data:=.seq aj.toArray n } = { cls:=.type "list",data:=.seq its'.toArray n' }) (r:Vals ys its') (hz:ys.length <= sizeLine) (t:Nat) :
  Inv X pins σ (upd H p (.lst ys)) { s with heap:=s.heap.update p f,toks:=t }:=by
 have e:(s.heap.update p f).get? p = some { cls:=.type "list",data:=.seq its'.toArray n' }:=by
  rw [Heap.get?_update_self f ho (by rw [hf] <;> rfl),hf]
 refine I.write (x:=p) (e:=p) (by rw [h];trivial) (.inl rfl) (fun b u hb q=>(Heap.get?_update_other _ _ (Ne.symm hb)).trans q) ⟨_,e⟩ ?_
 exact ⟨hz,its',n',r,e⟩
noncomputable def Nz:V -> V -> V -> Hp -> (Hp -> Prop) -> Prop:=fun o i v H Q=>∃ p xs k j,o = .ref p /\ i = .int k /\ H p = some (.lst xs) /\ Ao xs.length k = some j /\ Q (upd H p (.lst (xs.set j v)))
theorem set_list:QK X Nz:=by
 intro pins s σ H o i v ov iv u Q I ro ri rv h
 obtain ⟨p,xs,k,j,rfl,rfl,hp,hj,q⟩:=h
 cases ro
 obtain ⟨t,rfl⟩:=ri
 obtain ⟨aj,n,r,ho,hz⟩:=I.lst hp
 obtain ⟨h1,h2,h3,h4⟩:=yM hj
 have hl:=r.length
 have hn:=sZ
 have I':Inv X pins σ (upd H p (.lst (xs.set j v))) { s with heap:=s.heap.update p (Obj.mapSeq (·.setIfInBounds j u)) } :=
  I.J0 hp ho (xi aj n j u) (r.set rv j) (by rw [List.length_set];exact hz) s.toks
 by_cases h0:0 <= k
 ·have hk:k.toNat = j:=by
   rw [seqIndex_of h0 h4] at h1
   exact Option.some.inj h1
  exact PySem.W.ki_setAt ho h0 (by omega) (by rw [List.size_toArray,<- hl];exact h4) (by rw [hk];exact ⟨_,I',q⟩)
 ·have hk:(k + (aj.toArray.size:Int)).toNat = j:=by
   rw [seqIndex_neg (by omega) h3] at h1
   rw [List.size_toArray,<- hl]
   exact Option.some.inj h1
  exact PySem.W.ki_setBack ho (by omega) (by rw [List.size_toArray,<- hl];exact h3) (by omega) (by rw [hk];exact ⟨_,I',q⟩)
theorem sv (lo hi:Option Int) (n:Nat):(sliceBounds lo hi none n).1 = ((HT.eD n 0 lo:Nat):Int) /\ (sliceBounds lo hi none n).2.1 = ((HT.eD n n hi:Nat):Int) /\ (sliceBounds lo hi none n).2.2 = 1:=by
 refine ⟨?_,?_,rfl⟩
 ·cases lo with
  | none=>simp [sliceBounds,HT.eD]
  | some i =>
   simp only [sliceBounds,HT.eD,Option.getD_none,show (1:Int) > 0 by decide,if_true]
   by_cases h:i < 0
   ·simp only [h,if_true] <;> omega
   ·simp only [h,if_false] <;> omega
 ·cases hi with
  | none=>simp [sliceBounds,HT.eD]
  | some i =>
   simp only [sliceBounds,HT.eD,Option.getD_none,show (1:Int) > 0 by decide,if_true]
   by_cases h:i < 0
   ·simp only [h,if_true] <;> omega
   ·simp only [h,if_false] <;> omega
theorem qa (aj:List Value) (lo hi:Option Int):slicePick aj.toArray lo hi none = ((aj.drop (HT.eD aj.length 0 lo)).take (HT.eD aj.length aj.length hi - HT.eD aj.length 0 lo)).toArray:=by
 obtain ⟨h1,h2,h3⟩:=sv lo hi aj.toArray.size
 unfold slicePick
 rw [h1,h2,h3]
 simp only [sliceRange_one,pick_run,List.size_toArray] <;> rfl
noncomputable def TL (K:PySem.W.Frag):V -> Option Int -> Option Int -> Hp -> VK -> Prop:=fun x lo hi H Q=>∃ a xs,x = .ref a /\ du K H a xs /\ ∀ p,H p = none -> Q (.ref p) (upd H p (.lst (wa xs lo hi)))
theorem yj:RZ X (TL X.K):=by
 intro pins s σ H x v vl vu lo hi sl Q I rx hs pl pu h
 obtain ⟨a,xs,rfl,hx,q⟩:=h
 cases rx
 obtain ⟨aj,r,ht,hz⟩:=I.list hx
 have hlen:=r.length
 refine ⟨"list",_,slot_list_getitem.lookup,ht.isList.typeIs,?_⟩
 refine wpAny_getItem_list_slice ht.isList hs pl pu .none (by simp) ?_ (by rw [List.size_toArray] <;> omega)
 rw [qa,<- hlen]
 refine ⟨.ref s.heap.objs.size,_,I.laid (t':=s.toks) (o:=.lst (wa xs lo hi)) (fun b ob q=>Heap.get?_push_of_some _ q) (Nat.le_refl _) ?_,rfl,q _ (I.dD.fresh (Nat.le_refl _))⟩
 exact ⟨Nat.le_trans (mT xs lo hi) hz,_,0,(r.drop (HT.eD xs.length 0 lo)).take (HT.eD xs.length xs.length hi - HT.eD xs.length 0 lo),Heap.get?_push_size _ rfl⟩
noncomputable def jf:V -> Bool
 | .bE=>true
 | .bl _=>true
 | .int _=>true
 | .str _=>true
 | _=>false
noncomputable def Ea:V -> V -> Bool
 | .bE,.bE=>true
 | .bl a,.bl b=>a == b
 | .bl a,.int b=>(if a then 1 else 0) == b
 | .int a,.bl b=>a == (if b then 1 else 0)
 | .int a,.int b=>a == b
 | .str a,.str b=>a == b
 | _,_=>false
theorem Lv {A:Around} {s:Shared} {y x:V} {u v:Value} (ry:RelV y u) (rx:RelV x v) (fy:jf y = true) (fx:jf x = true):SeqAt.EqAt A s u v (Ea y x):=by
 cases y with
 | bE =>
  cases ry
  cases x with
  | bE=>cases rx;exact SeqAt.EqAt.same _
  | bl b=>cases rx;exact SeqAt.EqAt.none_bool b
  | int b=>obtain ⟨t,rfl⟩:=rx;exact SeqAt.EqAt.none_int b t
  | str b=>obtain ⟨t,rfl⟩:=rx;exact SeqAt.EqAt.none_str b t
  | _=>exact absurd (show false = true from fx) Bool.false_ne_true
 | bl a =>
  cases ry
  cases x with
  | bE=>cases rx;exact SeqAt.EqAt.bool_none a
  | bl b=>cases rx;exact SeqAt.EqAt.bool_bool a b
  | int b=>obtain ⟨t,rfl⟩:=rx;exact SeqAt.EqAt.bool_int a b t
  | str b=>obtain ⟨t,rfl⟩:=rx;exact SeqAt.EqAt.bool_str a b t
  | _=>exact absurd (show false = true from fx) Bool.false_ne_true
 | int a =>
  obtain ⟨t',rfl⟩:=ry
  cases x with
  | bE=>cases rx;exact SeqAt.EqAt.int_none a t'
  | bl b=>cases rx;exact SeqAt.EqAt.int_bool a t' b
  | int b=>obtain ⟨t,rfl⟩:=rx;exact SeqAt.EqAt.int_int a t' b t
  | str b=>obtain ⟨t,rfl⟩:=rx;exact SeqAt.EqAt.int_str a t' b t
  | _=>exact absurd (show false = true from fx) Bool.false_ne_true
 | str a =>
  obtain ⟨t',rfl⟩:=ry
  cases x with
  | bE=>cases rx;exact SeqAt.EqAt.str_none a t'
  | bl b=>cases rx;exact SeqAt.EqAt.str_bool a t' b
  | int b=>obtain ⟨t,rfl⟩:=rx;exact SeqAt.EqAt.str_int a t' b t
  | str b=>obtain ⟨t,rfl⟩:=rx;exact SeqAt.EqAt.str_str a t' b t
  | _=>exact absurd (show false = true from fx) Bool.false_ne_true
 | _=>exact absurd (show false = true from fy) Bool.false_ne_true
noncomputable def xH (x:V) (u:Value):Bool:=match u with
 | .none=>Ea .bE x
 | .bool b=>Ea (.bl b) x
 | .int i _=>Ea (.int i) x
 | .str z _=>Ea (.str z) x
 | _=>false
theorem Dv {x y:V} {u:Value} (r:RelV y u) (f:jf y = true):xH x u = Ea y x:=by
 cases y with
 | bE=>cases r;rfl
 | bl b=>cases r;rfl
 | int i=>obtain ⟨t,rfl⟩:=r;rfl
 | str z=>obtain ⟨t,rfl⟩:=r;rfl
 | _=>exact absurd (show false = true from f) Bool.false_ne_true
theorem lL {x:V}:∀ {xs:List V} {us:List Value},Vals xs us -> xs.all jf = true -> us.any (xH x) = xs.any fun y=>Ea y x
 | _,_,.nil,_=>rfl
 | y :: xs,u :: us,.cons r t,f=>by
  rw [List.all_cons,Bool.and_eq_true] at f
  rw [List.any_cons,List.any_cons,Dv r f.1,lL t f.2]
theorem i_ {A:Around} {s:Shared} {x:V} {v:Value} (rx:RelV x v) (fx:jf x = true):∀ {xs:List V} {us:List Value},Vals xs us -> xs.all jf = true -> ∀ u ∈ us,SeqAt.EqAt A s u v (xH x u)
 | _,_,.nil,_=>fun u hu=>by cases hu
 | y :: xs,u :: us,.cons r t,f=>fun u' hu=>by
  rw [List.all_cons,Bool.and_eq_true] at f
  rcases List.mem_cons.mp hu with rfl | hu
  ·rw [Dv r f.1];exact Lv r rx f.1 fx
  ·exact i_ rx fx t f.2 u' hu
noncomputable def Rk (x:V) (xs:List V):Bool:=xs.any fun y=>Ea y x
noncomputable def TR (K:PySem.W.Frag) (neg:Bool):R2:=fun x y H Q=>∃ p xs,y = .ref p /\ (du K H p xs \/ aG K H p xs) /\ jf x = true /\ xs.all jf = true /\ Q (.bl (if neg then !Rk x xs else Rk x xs)) H
theorem Af:j_ X (compareOp .In) (TR X.K false):=by
 intro pins s σ H x y v u Q I rx ry h
 obtain ⟨p,xs,rfl,hq,fx,fs,q⟩:=h
 cases ry
 rcases hq with hq | hq
 ·obtain ⟨aj,r,pl,hz⟩:=I.list hq
  refine SeqAt.in_listAt (xH x) pl.isList (fun w hw=>i_ rx fx r fs w (by simpa using hw)) ⟨.bl _,H,I,rfl,?_⟩
  rw [show aj.toArray.any (xH x) = aj.any (xH x) by simp,lL r fs]
  exact q
 ·obtain ⟨aj,r,pl,hz⟩:=I.tuple hq
  refine SeqAt.in_tupleAt (xH x) pl (fun w hw=>i_ rx fx r fs w (by simpa using hw)) ⟨.bl _,H,I,rfl,?_⟩
  rw [show aj.toArray.any (xH x) = aj.any (xH x) by simp,lL r fs]
  exact q
theorem Fy:j_ X (compareOp .NotIn) (TR X.K true):=by
 intro pins s σ H x y v u Q I rx ry h
 obtain ⟨p,xs,rfl,hq,fx,fs,q⟩:=h
 cases ry
 rcases hq with hq | hq
 ·obtain ⟨aj,r,pl,hz⟩:=I.list hq
  refine SeqAt.notIn_listAt (xH x) pl.isList (fun w hw=>i_ rx fx r fs w (by simpa using hw)) ⟨.bl _,H,I,rfl,?_⟩
  rw [show aj.toArray.any (xH x) = aj.any (xH x) by simp,lL r fs]
  exact q
 ·obtain ⟨aj,r,pl,hz⟩:=I.tuple hq
  refine SeqAt.notIn_tupleAt (xH x) pl (fun w hw=>i_ rx fx r fs w (by simpa using hw)) ⟨.bl _,H,I,rfl,?_⟩
  rw [show aj.toArray.any (xH x) = aj.any (xH x) by simp,lL r fs]
  exact q
theorem ub:gI X (.builtin "len") (fun xs H Q=>∃ p ys,xs = [.ref p] /\ (du X.K H p ys \/ aG X.K H p ys) /\ Q (.int ys.length) H):=by
 intro pins s σ H xs us Q I r h
 obtain ⟨p,ys,rfl,hq,q⟩:=h
 obtain ⟨u,rfl,rx⟩:=vals1 r
 cases rx
 have hn:=sZ
 rcases hq with hq | hq
 ·obtain ⟨aj,r',pl,hz⟩:=I.list hq
  have hlen:=r'.length
  exact Calls.call_len_list pl.isList (by simp only [List.size_toArray] <;> omega) ⟨.int ys.length,H,I.tok _,⟨s.toks + 1,by rw [List.size_toArray,hlen]⟩,q⟩
 ·obtain ⟨aj,r',pl,hz⟩:=I.tuple hq
  have hlen:=r'.length
  exact len_tuple pl (by simp only [List.size_toArray] <;> omega) ⟨.int ys.length,H,I.tok _,⟨s.toks + 1,by rw [List.size_toArray,hlen]⟩,q⟩
theorem ua:gI X (.type "list") (fun xs H Q=>∃ p ys,xs = [.ref p] /\ (du X.K H p ys \/ aG X.K H p ys) /\ ∀ l,H l = none -> Q (.ref l) (upd H l (.lst ys))):=by
 intro pins s σ H xs us Q I r h
 obtain ⟨p,ys,rfl,hq,q⟩:=h
 obtain ⟨u,rfl,rx⟩:=vals1 r
 cases rx
 have fin:∀ (aj:List Value),Vals ys aj -> ys.length <= sizeLine -> ∀ (h':Heap) (c':Nat),(∀ b o',s.heap.get? b = some o' -> h'.get? b = some o') ->
   h'.get? s.heap.objs.size = some { cls:=.type "list",dict:=none,data:=.seq aj.toArray c',slots:=#[] } -> EP X pins σ Q (.ref s.heap.objs.size) { s with heap:=h' }:=fun aj r' hz h' c' kp e =>
  ⟨.ref s.heap.objs.size,_,I.laid (t':=s.toks) kp (Nat.le_refl _) (show dY X.prog X.w _ h' _ (.lst ys) from ⟨hz,aj,c',r',e⟩),rfl,q _ (I.dD.fresh (Nat.le_refl _))⟩
 rcases hq with hq | hq
 ·obtain ⟨aj,r',pl,hz⟩:=I.list hq
  have hlen:=r'.length
  obtain ⟨o,ho,hc,n,hd⟩:=pl.isList
  exact call_list_seq p (.inl rfl) ho hc hd (fun h' c' kp e=>fin aj r' hz h' c' kp e) (by simp only [List.size_toArray] <;> omega)
 ·obtain ⟨aj,r',pl,hz⟩:=I.tuple hq
  have hlen:=r'.length
  obtain ⟨o,ho,hc,n,hd⟩:=pl
  exact call_list_seq p (.inr rfl) ho hc hd (fun h' c' kp e=>fin aj r' hz h' c' kp e) (by simp only [List.size_toArray] <;> omega)
theorem qL:gI X (.type "tuple") (fun xs H Q=>∃ p ys,xs = [.ref p] /\ ((du X.K H p ys /\ ∀ l,H l = none -> Q (.ref l) (upd H l (.tup ys))) \/ (aG X.K H p ys /\ Q (.ref p) H))):=by
 intro pins s σ H xs us Q I r h
 obtain ⟨p,ys,rfl,h⟩:=h
 obtain ⟨u,rfl,rx⟩:=vals1 r
 cases rx
 rcases h with ⟨hq,q⟩ | ⟨hq,q⟩
 ·obtain ⟨aj,r',pl,hz⟩:=I.list hq
  have hlen:=r'.length
  refine call_tuple_list pl.isList (fun h' kp=>?_) (by simp only [List.size_toArray] <;> omega)
  have I1:Inv X pins σ H { s with heap:=h' }:=I.kept (t':=s.toks) kp
  have I2:Inv X pins σ (upd H h'.objs.size (.tup ys)) { s with heap:=h'.push { cls:=.type "tuple",data:=.seq aj.toArray } } :=
   I1.laid (t':=s.toks) (fun b o e=>Heap.get?_push_of_some _ e) (Nat.le_refl _) (show dY X.prog X.w _ _ _ (.tup ys) from ⟨hz,aj,r',IsTup.new _ _⟩)
  exact ⟨.ref h'.objs.size,_,I2,rfl,q _ (I1.dD.fresh (Nat.le_refl _))⟩
 ·obtain ⟨aj,r',pl,hz⟩:=I.tuple hq
  exact call_tuple_same pl ⟨.ref p,H,I,rfl,q⟩
noncomputable def tyV (K:PySem.W.Frag) (T:String) (x:V) (H:Hp):Prop:=match x with
 | .str _=>T = "str"
 | .int _=>T = "int"
 | .ref p=>(T = "list" /\ ∃ xs,du K H p xs) \/ (T = "tuple" /\ ∃ o,K.lookup p = some o /\ o.cls = .type "tuple" /\ o.dict = none) \/
   (T = "dict" /\ ((∃ qo,H p = some (.dK qo)) \/ ∃ qo,H p = some (.dT qo))) \/ (T = "set" /\ ∃ S n,H p = some (.set S n))
 | _=>False
theorem Iy {pins:List (Addr × Obj)} {σ:St} {H:Hp} {s:Shared} {T:String} {x:V} {v:Value} (I:Inv X pins σ H s) (r:RelV x v) (ty:tyV X.K T x H) :
  s.TypeIs v T /\ ∀ a,v = .ref a -> ∃ ob,s.heap.get? a = some ob /\ ob.dict = none:=by
 cases x with
 | str z =>
  obtain ⟨t,rfl⟩:=r
  cases (show T = "str" from ty)
  exact ⟨typeIs_str s z t,fun _ e=>nomatch e⟩
 | int i =>
  obtain ⟨t,rfl⟩:=r
  cases (show T = "int" from ty)
  exact ⟨typeIs_int s i t,fun _ e=>nomatch e⟩
 | ref p =>
  cases r
  rcases ty with ⟨rfl,xs,hq⟩ | ⟨rfl,o,hk,hc,hd⟩ | ⟨rfl,hk⟩ | ⟨rfl,S,n,hk⟩
  ·obtain ⟨aj,_,pl,_⟩:=I.list hq
   refine ⟨pl.isList.typeIs,fun a e=>?_⟩
   cases e
   obtain ⟨o,n,e,c,hd,_⟩:=pl
   exact ⟨o,e,hd⟩
  ·refine ⟨⟨o,I.An p o hk,hc⟩,fun a e=>?_⟩
   cases e
   exact ⟨o,I.An _ o hk,hd⟩
  ·have z:∃ o,s.heap.get? p = some o /\ o.ExactDict:=by
    rcases hk with ⟨qo,hk⟩ | ⟨qo,hk⟩
    ·obtain ⟨_,_,_,_,o,_,_,e,ex,_⟩:=I.dD p _ hk
     exact ⟨o,e,ex⟩
    ·obtain ⟨_,_,_,_,o,_,_,e,ex,_⟩:=I.dD p _ hk
     exact ⟨o,e,ex⟩
   obtain ⟨o,e,ex⟩:=z
   refine ⟨⟨o,e,ex.1⟩,fun a e2=>?_⟩
   cases e2
   exact ⟨o,e,ex.2.1⟩
  ·obtain ⟨o,_,_,_,e,ex,_⟩:=I.dD p _ hk
   refine ⟨⟨o,e,ex.1⟩,fun a e2=>?_⟩
   cases e2
   exact ⟨o,e,ex.2.1⟩
 | _=>exact False.elim ty
noncomputable def tBM (K:PySem.W.Frag) (T:String) (r:V -> List V -> Hp -> VK -> Prop) (to:TE) (t:TA):TE:=fun σ H Q=>to σ H fun x H1=>tyV K T x H1 /\ t σ H1 fun xs H2=>r x xs H2 Q
variable {o e:Expr} {es:List Expr} {to:TE} {t:TA} {name:Str} {apos xK:Pos} {T id:String} {r:V -> List V -> Hp -> VK -> Prop}
theorem Ck (pa:PlainAttrs T) (slot:Slot T name id) (hty:typeOf (.builtin id) = pure (.type "method_descriptor")) (hm:MtR X id r) (ho:PE X o to) (ha:PA X (e :: es) t)
  (OZ:attributeBase o name X.env (eval o X.env) = eval o X.env:=by rfl)
  (hfew:((backTo xK (starEach (e :: es) X.env)).all (fun x=>!x.1) && (backToKw xK (keywordEach [] X.env)).all (fun x=>x.1.isSome)
   && decide ((e :: es).length + ([]:List Keyword).length + (if ([]:List Keyword).isEmpty then 0 else 1) < 30)) = true:=by rfl)
  (hline:(apos.endLine == xK.line) = true:=by rfl) (hs:starEach (e :: es) X.env = (false,eval e X.env) :: starEach es X.env:=by rfl) (Kw:(backTo xK (starEach es X.env)).any (·.1) = false:=by rfl) :
  PE X (.Call (.Attribute o name apos) (e :: es) [] xK) (tBM X.K T r to t):=by
 intro pins s σ H Q I h
 refine wpAny_Call_method_late OZ hfew hline rfl (dS (ho pins s σ H _ I h) fun v s1 ⟨x,H1,I1,r1,ty,q1⟩=>?_)
 obtain ⟨h1,h2⟩:=Iy I1 r1 ty
 refine ⟨T,id,pa,slot,hty,h1,h2,?_⟩
 have hA:=ha xK pins s1 σ H1 _ I1 q1
 rw [hs] at hA ⊢
 refine Calls.callWith_builtin (by show (false || (backTo xK (starEach es X.env)).any (·.1)) = false;rw [Kw] <;> rfl) (Calls.evalArgs_plain ?_)
 exact dS hA fun us s2 ⟨vs,H2,I2,r2,q2⟩=>hm pins s2 σ H2 x vs v us Q I2 r1 r2 q2
/- xs.append(e),list.index on a module's tuple .. are MtR facts of 06m -/
end
end L2
namespace L2
open PySem PySem.Spec PyProof.Rows
noncomputable def MtM (X:Cx) (id:String) (r:V -> List V -> Hp -> VK -> Prop):Prop :=
 ∀ (pins:List (Addr × Obj)) (s:Shared) (σ:St) (H:Hp) (x:V) (xs:List V) (v:Value) (us:List Value) (Q:VK),Inv X pins σ H s -> RelV x v -> Vals xs us -> r x xs H Q ->
  wpAny (model X.prog X.w) X.A (call (.builtin id) (v :: us)) (EP X pins σ Q) X.xe s
theorem Vals.one:∀ {x:V} {us:List Value},Vals [x] us -> ∃ u,us = [u] /\ RelV x u
 | _,_,.cons r .nil=>⟨_,rfl,r⟩
theorem Vals.rep {xs:List V} {us:List Value} (h:Vals xs us):∀ k:Nat,Vals (List.replicate k xs).flatten (List.replicate k us).flatten
 | 0=>.nil
 | k + 1=>by
  rw [List.replicate_succ,List.replicate_succ,List.flatten_cons,List.flatten_cons]
  exact Vals.append h (Vals.rep h k)
theorem foldl_rep (aj:List Value):∀ (k:Nat) (acc:List Value),
  List.foldl (fun x1 x2=>x1 ++ x2) acc.toArray (List.replicate k aj.toArray) = (acc ++ (List.replicate k aj).flatten).toArray
 | 0,acc=>by simp
 | k + 1,acc=>by
  have e:acc.toArray ++ aj.toArray = (acc ++ aj).toArray:=by simp
  have e2:(acc ++ aj) ++ (List.replicate k aj).flatten = acc ++ (List.replicate (k + 1) aj).flatten:=by
   rw [List.replicate_succ,List.flatten_cons,List.append_assoc]
  rw [<- e2,<- foldl_rep aj k (acc ++ aj),<- e,List.replicate_succ,List.foldl_cons]
section
variable {X:Cx} {pins:List (Addr × Obj)} {σ:St} {H:Hp} {s:Shared} {l b:Addr} {xs ys zs:List V}
theorem Inv.ml {aj its':List Value} {n:Nat} {f:Array Value -> Array Value} {t':Nat} (I:Inv X pins σ H s) (hH:H l = some (.lst xs))
  (e:s.heap.get? l = some { cls:=.type "list",data:=.seq aj.toArray n }) (hf:f aj.toArray = its'.toArray) (hv:Vals ys its') (hz:ys.length <= sizeLine) :
  Inv X pins σ (upd H l (.lst ys)) { s with heap:=s.heap.update l (Obj.mapSeq f),toks:=t' }:=by
 have q:=PySem.IsL.update e f
 rw [hf] at q
 refine I.write (x:=l) (e:=l) (by rw [hH];exact trivial) (.inl rfl) (fun b' u hb hu=>(Heap.get?_update_other s.heap (Obj.mapSeq f) (Ne.symm hb)).trans hu) ⟨_,q⟩ ?_
 exact ⟨hz,its',_,hv,q⟩
theorem Inv.J3 {aj:List Value} {t':Nat} (I:Inv X pins σ H s) (hv:Vals ys aj) (hz:ys.length <= sizeLine) :
  Inv X pins σ (upd H s.heap.objs.size (.lst ys)) { s with heap:=s.heap.push { cls:=.type "list",data:=.seq aj.toArray },toks:=t' } :=
 I.laid (fun _ _ q=>Heap.get?_push_of_some _ q) (Nat.le_refl _) ⟨hz,aj,0,hv,Heap.get?_push_size _ rfl⟩
theorem Inv.fresh (I:Inv X pins σ H s):H s.heap.objs.size = none:=I.dD.fresh (Nat.le_refl _)
theorem Inv.Al (I:Inv X pins σ H s) (hH:H l = some (.lst xs)):xs.length <= sizeLine /\ ∃ (aj:List Value) (n:Nat),Vals xs aj /\ xs.length = aj.length /\ s.heap.get? l = some { cls:=.type "list",data:=.seq aj.toArray n }:=by
 obtain ⟨z,aj,n,r,e⟩:=I.dD l _ hH
 exact ⟨z,aj,n,r,r.length,e⟩
theorem vv {n:Nat} (h:n <= sizeLine):Builtin.List.listTooLong n = false:=by
 unfold Builtin.List.listTooLong
 exact decide_eq_false (by omega)
end
section
variable {X:Cx}
noncomputable def Ff:V -> List V -> Hp -> VK -> Prop:=fun x vs H Q=>∃ l xs y,x = .ref l /\ vs = [y] /\ H l = some (.lst xs) /\ xs.length < sizeLine /\ Q .bE (upd H l (.lst (xs ++ [y])))
theorem Ai:MtM X "list.append" Ff:=by
 intro pins s σ H x vs v us Q I rx rv h
 obtain ⟨l,xs,y,rfl,rfl,hH,hz,q⟩:=h
 cases rx
 obtain ⟨u,rfl,ru⟩:=rv.one
 obtain ⟨z,aj,n,r,hl,e⟩:=I.Al hH
 refine call_meets F.slot_list_append ⟨_,e,rfl⟩ F.entry_list_append (F.args_list_append_2 _ _) (PySem.list_append l aj.toArray n u (by rw [List.size_toArray];omega)) ⟨e,?_⟩
 refine ⟨.bE,_,I.ml (its':=aj ++ [u]) hH e (by simp) (r.append (.cons ru .nil)) ?_,rfl,q⟩
 rw [List.length_append,List.length_singleton]
 omega
noncomputable def Fe:V -> List V -> Hp -> VK -> Prop:=fun x vs H Q=>∃ l b xs zs,x = .ref l /\ vs = [.ref b] /\ H l = some (.lst xs) /\ H b = some (.lst zs) /\ xs.length + zs.length <= sizeLine /\ Q .bE (upd H l (.lst (xs ++ zs)))
theorem Ah:MtM X "list.extend" Fe:=by
 intro pins s σ H x vs v us Q I rx rv h
 obtain ⟨l,b,xs,zs,rfl,rfl,hH,hB,hz,q⟩:=h
 cases rx
 obtain ⟨u,rfl,ru⟩:=rv.one
 cases ru
 obtain ⟨z,aj,n,r,hl,e⟩:=I.Al hH
 obtain ⟨z2,m6,n2,r2,Ax,e2⟩:=I.Al hB
 have td:aj.toArray.size + m6.toArray.size <= sizeLine:=by rw [List.size_toArray,List.size_toArray];omega
 have C3:¬ (!aj.toArray.isEmpty && Builtin.List.listTooLong (aj.toArray.size + m6.toArray.size)) = true:=by
  rw [vv td,Bool.and_false]
  exact Bool.false_ne_true
 refine call_meets F.slot_list_extend ⟨_,e,rfl⟩ F.entry_list_extend (F.args_list_extend_2 _ _)
  (AutoSeq1.list_extend_list_list_0 l aj.toArray n b m6.toArray n2 C3 (by rw [List.size_toArray];omega) (by omega)) ⟨e,e2,?_⟩
 refine ⟨.bE,_,I.ml (its':=aj ++ m6) hH e (by simp) (r.append r2) ?_,rfl,q⟩
 rw [List.length_append]
 omega
noncomputable def TV:R2:=fun x y H Q=>∃ l b xs zs,x = .ref l /\ y = .ref b /\ H l = some (.lst xs) /\ H b = some (.lst zs) /\ xs.length + zs.length <= sizeLine /\ ∀ p,H p = none -> Q (.ref p) (upd H p (.lst (xs ++ zs)))
theorem JK:j_ X (binaryOp .Add) TV:=by
 intro pins s σ H x y v u Q I rx ry h
 obtain ⟨l,b,xs,zs,rfl,rfl,hH,hB,hz,q⟩:=h
 cases rx
 cases ry
 obtain ⟨z,aj,n,r,hl,e⟩:=I.Al hH
 obtain ⟨z2,m6,n2,r2,Ax,e2⟩:=I.Al hB
 refine PySem.P.add_list e e2 ?_ (by rw [List.size_toArray,List.size_toArray];omega)
 have ea:aj.toArray ++ m6.toArray = (aj ++ m6).toArray:=by simp
 rw [ea]
 exact ⟨.ref _,_,I.J3 (t':=s.toks) (r.append r2) (by rw [List.length_append];omega),rfl,q _ I.fresh⟩
noncomputable def TM:R2:=fun x y H Q=>∃ l k xs,x = .ref l /\ y = .int k /\ H l = some (.lst xs) /\ -(2 ^ 63) <= k /\ k < 2 ^ 63 /\ xs.length * k.toNat <= sizeLine /\
 ∀ p,H p = none -> Q (.ref p) (upd H p (.lst (List.replicate k.toNat xs).flatten))
theorem len_rep {α:Type} (xs:List α) (k:Nat):(List.replicate k xs).flatten.length = k * xs.length:=by
 induction k with
 | zero=>simp
 | succ k ih=>rw [List.replicate_succ,List.flatten_cons,List.length_append,ih,Nat.succ_mul,Nat.add_comm]
theorem JG:j_ X (binaryOp .Mult) TM:=by
 intro pins s σ H x y v u Q I rx ry h
 obtain ⟨l,k,xs,rfl,rfl,hH,h1,h2,hz,q⟩:=h
 cases rx
 obtain ⟨t,rfl⟩:=ry
 obtain ⟨z,aj,n,r,hl,e⟩:=I.Al hH
 have hlen:aj.toArray.size * k.toNat <= sizeLine:=by rw [List.size_toArray,<- hl];exact hz
 have m9:¬ aj.toArray.size * k.toNat > (2 ^ 63 - 1) / 8:=by
  have:(sizeLine:Nat) <= (2 ^ 63 - 1) / 8:=by decide
  omega
 have Xz:¬ (!Builtin.List.listFitsIndex k) = true:=by
  rw [fitsIndex_both h1 h2]
  exact Bool.false_ne_true
 have C3:¬ Builtin.List.listTooLong (aj.toArray.size * k.toNat) = true:=by
  rw [vv hlen]
  exact Bool.false_ne_true
 have Xt:List.foldl (fun x1 x2=>x1 ++ x2) #[] (List.replicate (if aj.toArray.isEmpty = true then 0 else k.toNat) aj.toArray) = (List.replicate k.toNat aj).flatten.toArray:=by
  have f0:∀ m:Nat,List.foldl (fun x1 x2=>x1 ++ x2) #[] (List.replicate m aj.toArray) = (List.replicate m aj).flatten.toArray:=fun m=>by
   have:=foldl_rep aj m []
   rw [List.nil_append] at this
   exact this
  rw [f0]
  cases aj with
  | nil=>simp
  | cons a r'=>rw [if_neg (by simp)]
 refine wpAny_binaryOp_repeat_ref (T:="list") (U:="int") (by decide) ⟨_,e,rfl⟩ (fun s'=>typeIs_int s' k t) noFill_list_mul F.fills_int_mul F.slot_int_rmul repeat_list F.slot_int_index.lookup
  (call_meets F.slot_int_rmul (typeIs_int s k t) F.entry_int_rmul (F.args_int_rmul_2 _ _) (int___rmul___int_list k t l aj.toArray n)
   ⟨e,rfl,⟨_,e,rfl⟩,call_meets F.slot_list_mul ⟨_,e,rfl⟩ F.entry_list_mul (F.args_list_mul_2 _ _) (AutoListH.list___mul___list_int_3 l aj.toArray n k t Xz m9 C3) ⟨e,?_⟩⟩)
 rw [Xt]
 exact ⟨.ref _,_,I.J3 (t':=s.toks) (r.rep k.toNat) (by rw [len_rep,Nat.mul_comm];exact hz),rfl,q _ I.fresh⟩
end
section
variable {prog:Program} {w:World} {A:Around} {E:Value -> Shared -> Prop} {s:Shared}
set_option maxRecDepth 100000 in
end
section
variable {X:Cx}
end
end L2
namespace Att
open PySem PySem.W PySem.Calls PyProof.Rows
theorem m7 {P:Params} {h:Heap}:∀ (ns:List Int) (vs:List Value),WellAll P h vs (ns.map WData.int) -> IntsAre vs ns:=by
 intro ns
 induction ns with
 | nil =>
  intro vs w
  rw [List.map_nil] at w
  cases w
  exact .nil
 | cons n ns ih =>
  intro vs w
  rw [List.map_cons] at w
  cases w with
  | cons a b =>
   cases a
   exact .cons _ _ (ih _ b)
theorem zW {l:OpenLaw} {n:Nat} (hn:l.most = some n) {P:Params} {h:Heap} {args:List WData} {vals:List Value}
  (Ge:l.row.toRowW.claim.pre args = true) (Mn:WellAll P h vals args) :
  ∃ a vs ns,vals = [Value.ref a] /\ args = [WData.list (ns.map WData.int)] /\ h.get? a = some { cls:=.type "list",data:=.seq vs.toArray } /\ IntsAre vs ns /\ ns.length <= n:=by
 have Xd:WShape.hasAll [] args [.list .int] = true:=(pre_splitW Ge).1
 have hc:l.pre.holds [] { args:=args } = true:=(pre_splitW Ge).2
 obtain ⟨d,r,rfl,h1,h2⟩:=hasAllW_cons Xd
 obtain rfl:=hasAllW_nil h2
 obtain ⟨xs,rfl,h3⟩:=hasW_list h1
 obtain ⟨ns,rfl⟩:=items_int h3
 have hlen:ns.length <= n:=by
  unfold OpenLaw.pre at hc
  have h4:(WTm.not (.lt (.lit (.int (n:Int))) (.len (.arg 0)))).holds [] { args:=[.list (ns.map .int)] } = true:=by
   have h4:=(holds_andW hc).1
   rw [hn] at h4
   exact h4
  have h5:=condW_of h4 (w_not (w_lt w_lit (w_len_list (w_arg rfl))))
  rw [List.length_map] at h5
  refine Nat.le_of_not_lt fun q=>?_
  have q':(n:Int) < ((ns.length:Nat):Int):=by omega
  first
   | (rw [decide_eq_true q'] at h5;exact absurd h5 (by decide))
   | (simp at h5;omega)
 cases Mn with
 | cons w1 w2 =>
  cases w2
  cases w1 with
  | list ho hall=>exact ⟨_,_,ns,rfl,rfl,ho,m7 ns _ hall,hlen⟩
theorem Ad (l:OpenLaw) (args:List WData):l.row.toRowW.claim.post args (.bool true) args = true :=
 postW_of (r:=l.row.toRowW) (X:=(true == true))
  (show WShape.has [] (.bool true) .bool = true by first | rfl | decide | simp [WShape.has,WShape.arms,WShape.armsAll])
  (show (WTm.eq .res (.lit (.bool true))).value [] { args:=args,res:=some (.bool true),after:=args } = some (.bool (true == true)) from w_eq_bool (w_res rfl) w_lit) rfl
theorem wC {l:OpenLaw} {n:Nat} {q:Program} {loose:List Str} {XP:(Str -> Option Value) -> Heap -> Prop} {YP:World -> Heap -> Prop} {d:DefRec}
  (hn:l.most = some n) (OT:d.params.defaults = [])
  (call:∀ (w:World) (s₀ s₁:Shared) (mg mb:Str -> Option Value) (fa:Addr) (o:Obj) (pm cd doc:Value) (a:Addr) (vs:List Value) (ns:List Int),
   Ground q loose [] XP w s₀ mg mb s₁.heap -> YP w s₁.heap ->
   s₁.heap.get? fa = some o -> o.data = .func (docDef d.name d.params d.body d.scope pm cd doc) -> s₁.heap.CodeRec cd d.name -> mg d.name = some (.ref fa) ->
   s₁.heap.get? a = some { cls:=.type "list",data:=.seq vs.toArray } -> IntsAre vs ns -> ns.length <= n -> s₁.gens = #[] ->
   codeAny (model l.prog w) callerA (.call (.ref fa) ⟨[.ref a],[]⟩) (fun r s'=>r = .ok (.ret (.bool true)) /\ OldK s₁.heap s'.heap /\ s'.os = s₁.os /\ AllBare s'.gens) s₁) :
  WalkO q loose XP YP l.row.toRowW d [] (fun f vs=>PySem.call f vs):=by
 intro w s₀ s₁ mg mb G Y fa o pm cd doc dV kV ho hd Gk hD hmg hg args vals as Ge af4 hrd Mn hlo
 obtain rfl:dV = .none:=Dflts.none hD OT
 obtain rfl:kV = .none:=Dflts.noKw hD
 obtain ⟨a,vs,ns,rfl,rfl,Ky,hints,hlen⟩:=zW hn Ge Mn
 refine enter_call (codeAny_mono (call w s₀ s₁ mg mb fa o pm cd doc a vs ns G Y ho (fd_plain hd) Gk hmg Ky hints hlen hg) fun r s' hq=>?_)
 obtain ⟨rfl,h2,h3,h4⟩:=hq
 exact ⟨.inl ⟨.bool true,.bool true,[],rfl,fun _=>rfl,.bool true,Ad l _,fun _=>⟨List.Pairwise.nil,fun _ hm=>(nomatch hm)⟩⟩,h2,h3,h4⟩
section
variable {prog:Program} {w:World} {A:Around} {E:Value -> Shared -> Prop} {s:Shared} {K:Frag}
noncomputable def ledger (h:Heap) (L d:Addr):List (Addr × Obj):=(List.range h.objs.size).filterMap fun a=>if a = L \/ a = d then none else (h.get? a).map fun o=>(a,o)
end
end Att
namespace L2
open PySem PySem.Spec PyProof.Rows
theorem lU:∀ {vs:List Value} {ns:List Int},IntsAre vs ns -> Vals (ns.map V.int) vs
 | _,_,.nil=>.nil
 | _,_,.cons n t h=>.cons ⟨t,rfl⟩ (lU h)
noncomputable def G9 (H:Hp):Prop:=∀ b,H b = none \/ ∃ o xs,H b = some (.je o (.lst xs))
theorem CO {P:Program} {w:World} {K:PySem.W.Frag} {mg mb:Str -> Option Value} {CX:Bm} {k:Nat} {fa a:Addr} {fd:FuncData} {x:Str} {sp:Sp} {s₁:Shared} {vs:List Value} {ns:List Int}
  (KX:K.In s₁.heap) (Bg:s₁.heap.Ns mainGlobals mg) (hb:s₁.heap.Ns builtinsNs mb) (hbb:∀ x:Str,x ≠ "__name__" -> mb x = bootBuiltins x) (Xv:s₁.heap.NoLimit) (hg:s₁.gens = #[])
  (ha:s₁.heap.get? a = some { cls:=.type "list",data:=.seq vs.toArray }) (hi:IntsAre vs ns) (hl:ns.length <= sizeLine) (hr:iC k callerA)
  (F:∀ base:Heap,K.In base -> base.Ns mainGlobals mg -> kC P w K mg base CX k fa fd [x] sp) (OY:∀ (s:Shared) (u:Value),BindsTo s fd ⟨[u],[]⟩ [(x,u)])
  (D3:∀ H:Hp,G9 H -> du K H a (ns.map V.int) -> sp [.ref a] H (fun v _=>v = .bl true) fun _ _ _=>False)
  (XN:∀ H e s',CX [] H s₁ (fun _ _ _=>False) e s' -> False) :
  codeAny (model P w) callerA (.call (.ref fa) ⟨[.ref a],[]⟩) (fun r s'=>r = .ok (.ret (.bool true)) /\ OldK s₁.heap s'.heap /\ s'.os = s₁.os /\ AllBare s'.gens) s₁:=by
 have rv:=lU hi
 have V_:=hi.length
 have core:∀ H:Hp,G9 H -> du K H a (ns.map V.int) -> mJ P w H s₁.heap -> (∀ b,H b ≠ none -> b = a) -> (H a ≠ none -> K.lookup a = none) ->
   codeAny (model P w) callerA (.call (.ref fa) ⟨[.ref a],[]⟩) (fun r s'=>r = .ok (.ret (.bool true)) /\ OldK s₁.heap s'.heap /\ s'.os = s₁.os /\ AllBare s'.gens) s₁:=by
  intro H hO hS dD hA hK
  have zA:∀ {b:Addr} {o:Obj},s₁.heap.get? b = some o -> H b = none -> (tm s₁.heap H).get? b = some o:=fun e n=>C7 e n
  have N3:∀ {b:Addr} {o:Obj} {es:Array DictEntry} {ep:Nat},s₁.heap.get? b = some o -> o.data = .dict es ep -> H b = none:=fun {b o es ep} e d=>by
   cases q:H b with
   | none=>rfl
   | some u =>
    have e':b = a:=hA b (by rw [q];simp)
    subst e'
    rw [ha] at e;cases e
    have d':Data.seq vs.toArray _ = Data.dict es ep:=d
    cases d'
  have Rc:∀ {b:Addr} {m:Str -> Option Value},s₁.heap.Ns b m -> (tm s₁.heap H).Ns b m:=fun {b m} ⟨o,es,ep,e,d,r⟩=>⟨o,es,ep,zA e (N3 e d),d,r⟩
  have hKb:K.In (tm s₁.heap H):=fun b o e=>zA (KX b o e) (by
   cases q:H b with
   | none=>rfl
   | some u =>
    have e':b = a:=hA b (by rw [q];simp)
    subst e'
    rw [hK (by rw [q];simp)] at e;cases e)
  have hM:Mod K mg (tm s₁.heap H):=⟨hKb,Rc Bg,⟨mb,Rc hb,hbb⟩,let ⟨mc,h1,h2⟩:=Xv;⟨mc,Rc h1,h2⟩⟩
  have e0:G_ P w K mg (tm s₁.heap H) callerA [] s₁ H:=⟨rfl,hM,fun b o e=>FE e,Nat.le_of_eq (Ay _ _),trivial,fun b hb=>absurd (show b ∈ ([]:List Addr) from hb) (by simp),dD,.of_eq hg⟩
  refine codeAny_mono ((F _ hKb (Rc Bg)).run callerA [] s₁ H ⟨[.ref a],[]⟩ [.ref a] [.ref a] _ _ hr e0 (OY s₁ (.ref a)) (.cons rfl .nil) (D3 H hO hS)) fun r s' h=>?_
  cases r with
  | error e=>exact (XN H e s' h).elim
  | ok fl =>
   cases fl with
   | next=>exact False.elim h
   | brk=>exact False.elim h
   | cont=>exact False.elim h
   | ret u =>
    obtain ⟨v,H',os,bare,un,Xp,r',q⟩:=h
    have q':v = .bl true:=q
    subst q'
    obtain rfl:u = Value.bool true:=r'
    refine ⟨rfl,OldK.of_keep fun b o e=>?_,os,bare⟩
    cases q:H b with
    | none=>exact un.keep b o e q (by intro z;exact absurd (show b ∈ ([]:List Addr) from z) (by simp)) (by simp)
    | some u =>
     rcases hO b with z | ⟨ob,xs,z⟩
     ·rw [q] at z;cases z
     ·have z2:=un.qz b ob _ z
      obtain ⟨e1,_⟩:=dD b _ z
      obtain ⟨e2,_⟩:=Xp b _ z2
      rw [e] at e1;cases e1
      exact e2
 cases hk:K.lookup a with
 | some o =>
  have e:=KX a o hk
  rw [ha] at e
  cases e
  refine core (fun _=>none) (fun _=>.inl rfl) (.inr ⟨_,vs.toArray,_,hk,rfl,rfl,rfl,by rw [List.size_toArray,V_];exact hl,by simpa using rv⟩) (fun b u z=>by have z':(none:Option HO) = some u:=z;cases z') (fun b z=>absurd rfl z) fun z=>absurd rfl z
 | none =>
  refine core (fun b=>if b = a then some (.je { cls:=.type "list",data:=.seq vs.toArray } (.lst (ns.map V.int))) else none) (fun b=>?_) (.inl (.inr ⟨{ cls:=.type "list",data:=.seq vs.toArray },if_pos rfl⟩)) (fun b u z=>?_) (fun b z=>?_) fun _=>hk
  ·by_cases hb:b = a
   ·exact .inr ⟨_,_,if_pos hb⟩
   ·exact .inl (if_neg hb)
  ·by_cases hb:b = a
   ·have z':=(if_pos hb).symm.trans z
    cases z'
    subst hb
    exact ⟨ha,by rw [List.length_map];exact hl,vs,_,rv,ha⟩
   ·have z':=(if_neg hb).symm.trans z
    cases z'
  ·by_cases hb:b = a
   ·exact hb
   ·exact absurd (if_neg hb) z
end L2
namespace L2
open PySem PySem.Spec PyProof.Rows
theorem Ek {l:PySem.W.OpenLaw} {n k:Nat} {q:Program} {loose:List Str} {XP:(Str -> Option Value) -> Heap -> Prop} {YP:World -> Heap -> Prop} {d:DefRec} {K:Params -> PySem.W.Frag} {CX:World -> Bm} {sp:World -> Sp} {x:Str}
  (hn:l.most = some n) (Gg:n <= sizeLine) (OT:d.params.defaults = []) (hr:iC k callerA)
  (hY:∀ (w:World) (h:Heap),YP w h -> (K w.params).In h)
  (F:∀ (w:World) (mg:Str -> Option Value) (fa:Addr) (h:Heap),(K w.params).In h -> h.Ns mainGlobals mg -> mg d.name = some (.ref fa) ->
   ∃ fd:FuncData,(∀ (s:Shared) (u:Value),BindsTo s fd ⟨[u],[]⟩ [(x,u)]) /\
    ∀ base:Heap,(K w.params).In base -> base.Ns mainGlobals mg -> kC l.prog w (K w.params) mg base (CX w) k fa fd [x] (sp w))
  (D3:∀ (w:World) (H:Hp) (a:Addr) (ns:List Int),ns.length <= n -> G9 H -> du (K w.params) H a (ns.map V.int) -> sp w [.ref a] H (fun v _=>v = .bl true) fun _ _ _=>False)
  (XN:∀ (w:World) (H:Hp) (s:Shared) (e:Value) (s':Shared),CX w [] H s (fun _ _ _=>False) e s' -> False) :
  PySem.W.WalkO q loose XP YP l.row.toRowW d [] (fun f vs=>PySem.call f vs):=by
 refine Att.wC hn OT fun w s₀ s₁ mg mb fa o pm cd doc a vs ns G Y ho hd Gk hmg Ky hints hlen hg=>?_
 have KX:=hY w _ Y
 obtain ⟨fd,hb,hF⟩:=F w mg fa _ KX G.T.g hmg
 exact CO KX G.T.g G.T.b G.T.builtins G.T.nolimit hg Ky hints (Nat.le_trans hlen Gg) hr hF hb (fun H hO hS=>D3 w H a ns hlen hO hS) fun H e s'=>XN w H s₁ e s'
end L2
namespace L2
open PySem PySem.Spec PyProof.Rows
noncomputable def aq (s:Stmt):Arguments:=match s with
 | .FunctionDef _ a _ _ _ _ _ _ _ _=>a
 | _=>{ posonlyargs:=[],args:=[],vararg:=none,kwonlyargs:=[],kw_defaults:=[],kwarg:=none,defaults:=[] }
noncomputable def ae (s:Stmt):List Stmt:=match s with
 | .FunctionDef _ _ b _ _ _ _ _ _ _=>b
 | _=>[]
noncomputable def aa (s:Stmt):Scope:=match s with
 | .FunctionDef _ _ _ _ _ _ sc _ _ _=>sc
 | _=>{ kind:=.function,names:=[],isGenerator:=false,isCoroutine:=false }
noncomputable abbrev DZ:Bm:=fun _ _ _ _ _ _=>False
noncomputable abbrev E0:XK:=fun _ _ _=>False
theorem NR {X:Cx}:Passes DZ X E0:=fun _ _ _ _ _ _ _ h=>h.elim
structure L0 (K:PySem.W.Frag) (x qual:Str) (st:Stmt) (f:Addr) (fd:FuncData):Prop where
 ex:∃ (oc:Value) (od:Option Addr) (kV doc pm:Value) (an:Option Addr) (mU ct:Value) (D2:Array (Option Value)),
  fd = PySem.W.fnOf x qual (aq st) (ae st) (aa st) .none kV doc pm an mU ct /\ K.lookup f = some ⟨oc,od,.func fd,D2⟩ /\ PySem.W.codeIn K mU qual = true
 kp:PySem.W.keepIn K (.ref f) = true
section
variable {P:Program} {w:World} {K:PySem.W.Frag} {mg:Str -> Option Value} {base:Heap}
theorem L0.ok {x qual:Str} {st:Stmt} {f:Addr} {fd:FuncData} {N ps:List Str} {k:Nat} {sp:Sp} (F:L0 K x qual st f fd) (S:au N ps (aa st)) (len:∀ vs H Q E,sp vs H Q E -> vs.length = ps.length)
  (C9:∀ (mU:Value) (A:Around) (outer:List Env) (s:Shared) (H:Hp) (vs:List V) (Q:VK) (E:XK),iC k (A.deeper (envOfC qual (aa st) s.heap.objs.size f mU)) -> sp vs H Q E ->
   ∃ t,nZ (xJ DZ P w K mg base N qual (aa st) f mU A outer s H E).N0 (ae st) t /\ t { nx:=fun _ H'=>Q .bE H',rt:=Q } (start N vs) H):kC P w K mg base DZ (k + 1) f fd ps sp:=by
 obtain ⟨oc,od,kV,doc,pm,an,mU,ct,D2,rfl,lk,Gk⟩:=F.ex
 refine Pe lk Gk S len fun A outer s H vs Q E hr D3=>?_
 obtain ⟨t,h,q⟩:=C9 mU A outer s H vs Q E hr D3
 exact ⟨t,h.N0,q⟩
theorem L0.binds {x qual:Str} {st:Stmt} {f:Addr} {fd:FuncData} {ps:List Str} (F:L0 K x qual st f fd)
  (h:∀ (kV doc pm:Value) (an:Option Addr) (mU ct:Value) (us:List Value),us.length = ps.length -> bindArgs (PySem.W.fnOf x qual (aq st) (ae st) (aa st) .none kV doc pm an mU ct) ⟨us,[]⟩ = pure (ps.zip us)):Binds K fd ps []:=by
 obtain ⟨oc,od,kV,doc,pm,an,mU,ct,D2,rfl,lk,Gk⟩:=F.ex
 exact .all (h kV doc pm an mU ct)
theorem aF {x qual:Str} {st:Stmt} {f:Addr} {oc:Value} {od an:Option Addr} {D2:Array (Option Value)} {kV doc pm mU ct:Value} (l:K.lookup f = some ⟨oc,od,.func (PySem.W.fnOf x qual (aq st) (ae st) (aa st) .none kV doc pm an mU ct),D2⟩)
  (c:PySem.W.codeIn K mU qual = true) (k:PySem.W.keepIn K (.ref f) = true):L0 K x qual st f (PySem.W.fnOf x qual (aq st) (ae st) (aa st) .none kV doc pm an mU ct):=⟨⟨oc,od,kV,doc,pm,an,mU,ct,D2,rfl,l,c⟩,k⟩
end
section
variable {X:Cx}
end
noncomputable def ao (H H':Hp):Prop:=∀ b o,H b = some o -> H' b = some o
theorem ao.refl (H:Hp):ao H H:=fun _ _ h=>h
theorem ao.trans {H H1 H2:Hp} (a:ao H H1) (b:ao H1 H2):ao H H2:=fun c o h=>b c o (a c o h)
theorem ao.free {H H':Hp} (e:ao H H') {l:Addr} (h:H' l = Option.none):H l = Option.none:=by
 cases q:H l with
 | none=>rfl
 | some o =>
  rw [e l o q] at h
  cases h
theorem ao.seq {K:PySem.W.Frag} {H H':Hp} {a:Addr} {xs:List V} (e:ao H H') (h:du K H a xs):du K H' a xs:=by
 rcases h with (h | ⟨o,h⟩) | h
 ·exact .inl (.inl (e _ _ h))
 ·exact .inl (.inr ⟨o,e _ _ h⟩)
 ·exact .inr h
end L2
set_option autoImplicit false
set_option linter.all false
set_option Elab.async false
set_option maxRecDepth 100000
set_option maxHeartbeats 4000000
section
namespace DI
open PySem (Str Expr Stmt Scope NameKind)
inductive Fl where | ow | fz | al | sc
 deriving DecidableEq
inductive D where
 | bE | bl (b:Bool) | int (i:Int)
 | tup (ds:List D)
 | lst (f:Fl) (ds:List D)
 | jG (f:Fl) (ks:List (List Int)) (vs:List D)
 | kM (f:Fl) (ks:List Int) (vs:List D)
mutual
noncomputable def aD (g:Fl -> Fl):D -> D
 | .tup ds=>.tup (ai g ds)
 | .lst f ds=>.lst (g f) (ai g ds)
 | .jG f ks vs=>.jG (g f) ks (ai g vs)
 | .kM f ks vs=>.kM (g f) ks (ai g vs)
 | .bE=>.bE
 | .bl b=>.bl b
 | .int i=>.int i
noncomputable def ai (g:Fl -> Fl):List D -> List D
 | []=>[]
 | d :: ds=>aD g d :: ai g ds
end
theorem aw (g:Fl -> Fl):∀ ds:List D,ai g ds = ds.map (aD g)
 | []=>rfl
 | d :: ds=>by rw [ai,aw g ds];rfl
noncomputable def bo:Fl -> Fl | .ow=>.al | f=>f
noncomputable def kg:Fl -> Fl | .fz=>.al | f=>f
noncomputable def aL:Fl -> Fl | .sc=>.sc | _=>.fz
noncomputable def xr:Fl -> Bool | .sc=>true | _=>false
mutual
noncomputable def aT (p:Fl -> Bool):D -> Bool
 | .tup ds=>az p ds
 | .lst f ds=>p f || az p ds
 | .jG f ks vs=>p f || az p vs
 | .kM f ks vs=>p f || az p vs
 | _=>false
noncomputable def az (p:Fl -> Bool):List D -> Bool
 | []=>false
 | d :: ds=>aT p d || az p ds
end
noncomputable def cn:Fl -> Bool | .al=>true | _=>false
noncomputable def fe:Fl -> Bool | .ow=>true | _=>false
noncomputable def anyF:Fl -> Bool:=fun _=>true
mutual
noncomputable def gO:D -> D -> Bool
 | .bE,.bE=>true
 | .bl a,.bl b=>a == b
 | .bl a,.int b=>(if a then 1 else 0) == b
 | .int a,.bl b=>a == (if b then 1 else 0)
 | .int a,.int b=>a == b
 | .tup a,.tup b=>dy a b
 | .lst _ a,.lst _ b=>dy a b
 | _,_=>false
noncomputable def dy:List D -> List D -> Bool
 | [],[]=>true
 | a :: as,b :: bs=>gO a b && dy as bs
 | _,_=>false
end
noncomputable def b_:Nat -> D -> Bool
 | _,.bE=>true
 | _,.bl _=>true
 | _,.int _=>true
 | n + 1,.tup ds=>ds.all (b_ n)
 | n + 1,.lst _ ds=>ds.all (b_ n)
 | _,_=>false
noncomputable abbrev O (α:Type):=Option (Except Nat α)
noncomputable def ok {α:Type} (a:α):O α:=some (.ok a)
noncomputable def bd {α β:Type} (x:O α) (f:α -> O β):O β:=match x with
 | some (.ok a)=>f a
 | some (.error c)=>some (.error c)
 | none=>none
@[simp] theorem Rg {α:Type} {a:α}:((none:O α) = ok a) = False:=by simp [ok]
@[simp] theorem UN {α:Type} {a b:α}:(ok a = ok b) = (a = b):=by simp [ok]
@[simp] theorem YU {α:Type} {a:α} {c:Nat}:((some (.error c):O α) = ok a) = False:=by simp [ok]
@[simp] theorem HJ {α:Type} {p:Prop} [Decidable p] {a b:α}:((if p then ok a else none) = ok b) = (p /\ a = b):=by
 by_cases h:p <;> simp [h]
@[simp] theorem W6 {α:Type} {p:Prop} [Decidable p] {a b:α}:((if p then none else ok a) = ok b) = (¬ p /\ a = b):=by
 by_cases h:p <;> simp [h]
theorem ah {α β:Type} {x:O α} {f:α -> O β} {b:β} (h:bd x f = ok b):∃ a,x = ok a /\ f a = ok b:=by
 unfold bd at h
 match x,h with
 | some (.ok a),h=>exact ⟨a,rfl,h⟩
 | some (.error c),h=>cases h
 | none,h=>cases h
inductive Ha where | add | sub | mul | fdiv | mod | pow | shl | shr | band
 deriving DecidableEq
inductive Bn where | eq | ne | lt | le | gt | ge | Oq | Cw | Bd
 deriving DecidableEq
inductive Ty where | int | bool | list | tuple
 deriving DecidableEq
inductive Bf where | len | abs | C0 | list1 | tuple1 | kU | all1 | ig
 deriving DecidableEq
inductive Tg where | nm (i:Nat) | tp (is:List Nat)
 deriving DecidableEq
inductive IK where | mP | seq | eE (p:Nat)
 deriving DecidableEq
inductive GK where | i (z:Int) | t (zs:List Int)
 deriving DecidableEq
inductive CE where
 | bE | bl (b:Bool) | int (i:Int) | glo (x:Str) (i:Int) | glt (x:Str) (zs:List Int)
 | v (i:Nat)
 | bin (op:Ha) (a b:CE)
 | neg (a:CE) | not (a:CE) | and (es:List CE) | or (es:List CE) | ite (c a b:CE)
 | cmp (op:Bn) (a b:CE)
 | pY (a:CE) (t:Ty)
 | call (f:Nat) (es:List CE)
 | bf (f:Bf) (es:List CE)
 | ix (a b:CE)
 | ml (a:CE)
 | tup (es:List CE) | lst (es:List CE)
 | eE (p:Nat) (es:List CE)
 | comp (n:Nat) (t:Tg) (caps:List Nat) (ik:IK) (es a_:List CE) (elt:CE)
inductive CI where | mP (a:CE) | seq (a:CE) | D1 (p:Nat) (es:List CE)
inductive CS where
 | asg (t:Tg) (e:CE) | par (i j:Nat) (a b:CE) | ret (e:CE) | rs (c:Nat) | ex (e:CE)
 | mut (p i:Nat) (es:List CE) | app (i:Nat) (e:CE) | setI (i:Nat) (k e:CE)
 | ifs (c:CE) (a b:List CS)
 | Iq (c:CE) (b:List CS)
 | fr (t:Tg) (it:CI) (b:List CS)
noncomputable abbrev aC:=List (Option D)
noncomputable abbrev aA:=Nat -> List D -> O D
noncomputable def big:Nat:=2 ^ 9000
noncomputable def i9 (i j:Int):Bool:=decide (i.natAbs < 2 ^ 64) || decide (j.natAbs < 2 ^ 64) || (decide (i.natAbs < big) && decide (j.natAbs < big))
noncomputable def rM (j:Int):Bool:=decide (j ≠ 0) && decide (j.natAbs < big)
noncomputable def k_ (i j:Int):Bool:=decide (0 <= j) && decide (j <= 1000000) && decide (i.natAbs < 2 ^ 64)
noncomputable def eN:Nat:=1000000
theorem qp {α:Type} {c:Prop} [inst:Decidable c] {v d:α} (h:(if c then ok v else none) = ok d):c /\ v = d:=by
 cases inst with
 | isTrue hc=>exact ⟨hc,Except.ok.inj (Option.some.inj h)⟩
 | isFalse hc=>cases h
noncomputable def cQ:Ha -> D -> D -> O D
 | .add,.int i,.int j=>ok (.int (i + j))
 | .add,.lst f a,.lst g b=>if xr f = false /\ xr g = false /\ a.length + b.length <= eN then ok (.lst .ow (ai bo (a ++ b))) else none
 | .add,.tup a,.tup b=>if a.length + b.length <= eN then ok (.tup (ai bo (a ++ b))) else none
 | .sub,.int i,.int j=>ok (.int (i - j))
 | .mul,.int i,.int j=>if i9 i j then ok (.int (i * j)) else none
 | .mul,.lst f a,.int k=>if xr f = false /\ a.length * k.toNat <= eN /\ k <= eN /\ -eN <= k then ok (.lst .ow (ai bo (List.replicate k.toNat a).flatten)) else none
 | .fdiv,.int i,.int j=>if rM j then ok (.int (i.fdiv j)) else none
 | .mod,.int i,.int j=>if j ≠ 0 then ok (.int (i.fmod j)) else none
 | .pow,.int i,.int j=>if k_ i j then ok (.int (i ^ j.toNat)) else none
 | .shl,.int i,.int j=>if k_ i j then ok (.int (i * 2 ^ j.toNat)) else none
 | .shr,.int i,.int j=>if 0 <= j then ok (.int (i / 2 ^ j.toNat)) else none
 | .band,.int i,.int j=>if j = 1 then ok (.int (i % 2)) else none
 | _,_,_=>none
noncomputable def inD (x:D):List D -> Bool
 | []=>false
 | y :: ys=>gO y x || inD x ys
noncomputable def iR:D -> Bool
 | .bE=>true | .bl _=>true | .int _=>true | _=>false
noncomputable def Ke:D -> Option (List D)
 | .tup ds=>some ds
 | .lst _ ds=>some ds
 | _=>none
noncomputable def eM:Bn -> D -> D -> O D
 | .eq,a,b=>if b_ 40 a && b_ 40 b then ok (.bl (gO a b)) else none
 | .ne,a,b=>if b_ 40 a && b_ 40 b then ok (.bl (!gO a b)) else none
 | .lt,.int i,.int j=>ok (.bl (decide (i < j)))
 | .le,.int i,.int j=>ok (.bl (decide (i <= j)))
 | .gt,.int i,.int j=>ok (.bl (decide (j < i)))
 | .ge,.int i,.int j=>ok (.bl (decide (j <= i)))
 | .Oq,a,.bE=>ok (.bl (match a with | .bE=>true | _=>false))
 | .Cw,a,.bE=>ok (.bl (match a with | .bE=>false | _=>true))
 | .Bd,a,b=>match Ke b with
  | some ds=>if iR a && ds.all iR then ok (.bl (inD a ds)) else none
  | none=>none
 | _,_,_=>none
noncomputable def dZ:Ty -> D -> Bool
 | .int,.int _=>true | .int,.bl _=>true
 | .bool,.bl _=>true
 | .list,.lst _ _=>true
 | .tuple,.tup _=>true
 | _,_=>false
noncomputable def Ao (n:Nat) (i:Int):Option Nat:=if 0 <= i then (if i < n then some i.toNat else none) else if -(n:Int) <= i then some (i + n).toNat else none
noncomputable def wD (ds:List D) (i:Int):O D:=match (Ao ds.length i).bind fun j=>ds[j]? with
 | some d=>ok (aD bo d)
 | none=>none
noncomputable def vG:D -> D -> O D
 | .tup ds,.int i=>wD ds i
 | .lst _ ds,.int i=>wD ds i
 | _,_=>none
noncomputable def intsOf:List D -> Option (List Int)
 | []=>some []
 | .int i :: ds=>(intsOf ds).map (i :: ·)
 | _ :: _=>none
noncomputable def jm:List D -> Option (List Bool)
 | []=>some []
 | .bl i :: ds=>(jm ds).map (i :: ·)
 | _ :: _=>none
theorem dW:∀ {ds:List D} {ns:List Int},intsOf ds = some ns -> ds = ns.map D.int
 | [],ns,h=>by simp [intsOf] at h;subst h;rfl
 | d :: ds,ns,h=>by
  cases d <;> simp [intsOf] at h
  obtain ⟨ms,h1,rfl⟩:=h
  rw [dW h1];rfl
theorem wB:∀ {ds:List D} {bs:List Bool},jm ds = some bs -> ds = bs.map D.bl
 | [],bs,h=>by simp [jm] at h;subst h;rfl
 | d :: ds,bs,h=>by
  cases d <;> simp [jm] at h
  obtain ⟨ms,h1,rfl⟩:=h
  rw [wB h1];rfl
theorem bq:∀ ns:List Int,intsOf (ns.map D.int) = some ns
 | []=>rfl
 | n :: ns=>by simp [intsOf,bq ns]
theorem mF:∀ bs:List Bool,jm (bs.map D.bl) = some bs
 | []=>rfl
 | b :: bs=>by simp [jm,mF bs]
noncomputable def sortI (ns:List Int):List Int:=ns.mergeSort (fun a b=>decide (a <= b))
noncomputable def qV (ds:List D):O D:=match intsOf ds with
 | some ns=>if ns.length < 64 then ok (.lst .ow ((sortI ns).map D.int)) else none
 | none=>none
noncomputable def uj:Bf -> List D -> O D
 | .len,xs=>match xs with
  | [.tup ds]=>ok (.int ds.length)
  | [.lst _ ds]=>ok (.int ds.length)
  | _=>none
 | .abs,xs=>match xs with
  | [.int i]=>ok (.int (if i < 0 then -i else i))
  | _=>none
 | .C0,xs=>match xs with
  | [.int i]=>ok (.int i)
  | [.bl b]=>ok (.int (if b then 1 else 0))
  | _=>none
 | .list1,xs=>match xs with
  | [.lst _ ds]=>ok (.lst .ow (ai bo ds))
  | [.tup ds]=>ok (.lst .ow (ai bo ds))
  | _=>none
 | .tuple1,xs=>match xs with
  | [.lst _ ds]=>ok (.tup (ai bo ds))
  | [.tup ds]=>ok (.tup (ai bo ds))
  | _=>none
 | .kU,xs=>match xs with
  | [.lst _ ds]=>(match intsOf ds with
   | some ns=>ok (.int ns.sum)
   | none=>none)
  | _=>none
 | .all1,xs=>match xs with
  | [.lst _ ds]=>(match jm ds with
   | some bs=>ok (.bl (bs.all id))
   | none=>none)
  | _=>none
 | .ig,xs=>match xs with
  | [.lst _ ds]=>qV ds
  | [.tup ds]=>qV ds
  | _=>none
noncomputable def ji (ns:List Int):List Int:=ns.foldl (fun (m:List Int) (k:Int)=>if m.any (· == k) then m else m ++ [k]) []
noncomputable def yE:D -> O D
 | .tup ds=>(match intsOf ds with
  | some ns=>if ns.length < 4000 then ok (.int (ji ns).length) else none
  | none=>none)
 | _=>none
noncomputable def ic:D -> O Bool
 | .bl b=>ok b
 | _=>none
noncomputable def intD:D -> O Int
 | .int i=>ok i
 | _=>none
noncomputable def Ae:Option (Option D) -> Option (List D)
 | some (some (.lst .ow ds))=>some ds
 | _=>none
theorem yB {o:Option (Option D)} {ds:List D} (h:Ae o = some ds):o = some (some (.lst .ow ds)):=by
 unfold Ae at h
 split at h <;> cases h
 rfl
theorem F_ {d:D} {i:Int} (h:intD d = ok i):d = .int i:=by
 cases d <;> simp [intD] at h
 rw [h]
noncomputable def FH:D -> O D
 | .int i=>ok (.int (-i))
 | _=>none
noncomputable def iO:List Nat -> List D -> aC -> O aC
 | [],[],ρ=>ok ρ
 | i :: is,d :: ds,ρ=>if i < ρ.length then iO is ds (ρ.set i (some d)) else none
 | _,_,_=>none
noncomputable def bU:Tg -> D -> aC -> O aC
 | .nm i,d,ρ=>if i < ρ.length then ok (ρ.set i (some d)) else none
 | .tp is,.tup ds,ρ=>if az fe ds then none else iO is ds ρ
 | _,_,_=>none
noncomputable def qc:D -> O (List D)
 | .lst _ ds=>ok (ai aL ds)
 | _=>none
noncomputable def fc (Φ:aA):IK -> List D -> O (List D)
 | .eE p,xs=>bd (Φ p xs) qc
 | .mP,[.int n]=>if n <= eN /\ -eN <= n then ok ((List.range n.toNat).map fun (k:Nat)=>D.int (k:Int)) else none
 | .seq,[.tup ds]=>ok (ai aL ds)
 | .seq,[.lst _ ds]=>ok (ai aL ds)
 | _,_=>none
noncomputable def hU (bind:D -> O aC) (test:aC -> O Bool) (el:aC -> O D):List D -> O (List D)
 | []=>ok []
 | x :: xs=>bd (bind x) fun ρ=>bd (test ρ) fun b=>if b then bd (el ρ) fun y=>bd (hU bind test el xs) fun ys=>ok (y :: ys) else hU bind test el xs
noncomputable def aY (n:Nat) (caps:List Nat) (ρ:aC):aC:=List.replicate n none ++ caps.map fun i=>(ρ[i]?.getD none).map (aD aL)
noncomputable def yi (o:Option (Option D)):O D:=match o with
 | some (some d)=>ok (aD bo d)
 | _=>none
theorem BP {o:Option (Option D)} {d:D} (h:yi o = ok d):∃ d',o = some (some d') /\ d = aD bo d':=by
 cases o with
 | none=>cases h
 | some z=>cases z with
  | none=>cases h
  | some z=>cases h;exact ⟨z,rfl,rfl⟩
mutual
noncomputable def aN (Φ:aA):CE -> aC -> O D
 | .bE,_=>ok .bE
 | .bl b,_=>ok (.bl b)
 | .int i,_=>ok (.int i)
 | .glo _ i,_=>ok (.int i)
 | .glt _ zs,_=>ok (.tup (zs.map D.int))
 | .v i,ρ=>yi ρ[i]?
 | .bin op a b,ρ=>bd (aN Φ a ρ) fun x=>bd (aN Φ b ρ) fun y=>cQ op x y
 | .neg a,ρ=>bd (aN Φ a ρ) FH
 | .not a,ρ=>bd (bd (aN Φ a ρ) ic) fun b=>ok (.bl (!b))
 | .and es,ρ=>rK Φ es ρ
 | .or es,ρ=>AM Φ es ρ
 | .ite c a b,ρ=>bd (bd (aN Φ c ρ) ic) fun k=>if k then aN Φ a ρ else aN Φ b ρ
 | .cmp op a b,ρ=>bd (aN Φ a ρ) fun x=>bd (aN Φ b ρ) fun y=>eM op x y
 | .pY a t,ρ=>bd (aN Φ a ρ) fun x=>ok (.bl (dZ t x))
 | .call f es,ρ=>bd (cM Φ es ρ) fun xs=>bd (Φ f (ai aL xs)) fun r=>ok (aD kg r)
 | .bf f es,ρ=>bd (cM Φ es ρ) fun xs=>uj f xs
 | .ix a b,ρ=>bd (aN Φ a ρ) fun x=>bd (aN Φ b ρ) fun y=>vG x y
 | .ml a,ρ=>bd (aN Φ a ρ) fun x=>yE x
 | .eE p es,ρ=>bd (cM Φ es ρ) fun xs=>Φ p xs
 | .tup es,ρ=>bd (cM Φ es ρ) fun xs=>ok (.tup xs)
 | .lst es,ρ=>bd (cM Φ es ρ) fun xs=>ok (.lst .ow xs)
 | .comp n t caps ik es a_ elt,ρ=>bd (cM Φ es ρ) fun xs=>bd (fc Φ ik xs) fun items =>
   bd (hU (fun d=>bU t d (aY n caps ρ)) (fun ρ'=>iS Φ a_ ρ') (fun ρ'=>aN Φ elt ρ') items) fun ds=>if ds.length <= eN then ok (.lst .ow (ai kg ds)) else none
noncomputable def cM (Φ:aA):List CE -> aC -> O (List D)
 | [],_=>ok []
 | e :: es,ρ=>bd (aN Φ e ρ) fun x=>bd (cM Φ es ρ) fun xs=>ok (x :: xs)
noncomputable def iS (Φ:aA):List CE -> aC -> O Bool
 | [],_=>ok true
 | e :: es,ρ=>bd (bd (aN Φ e ρ) ic) fun b=>if b then iS Φ es ρ else ok false
noncomputable def rK (Φ:aA):List CE -> aC -> O D
 | [],_=>none
 | e :: es,ρ=>bd (bd (aN Φ e ρ) ic) fun c=>match es with
  | []=>ok (.bl c)
  | _ :: _=>if c then rK Φ es ρ else ok (.bl false)
noncomputable def AM (Φ:aA):List CE -> aC -> O D
 | [],_=>none
 | e :: es,ρ=>bd (bd (aN Φ e ρ) ic) fun c=>match es with
  | []=>ok (.bl c)
  | _ :: _=>if c then ok (.bl true) else AM Φ es ρ
end
noncomputable def wL (Φ:aA) (e:CE) (ρ:aC):O Bool:=bd (aN Φ e ρ) ic
inductive Fo where | nx | rt (d:D) | bk | ct
noncomputable def c_ {α β:Type} (n:Nat) (step:α -> O (α ⊕ β)) (a:α):O β:=match n with
 | 0=>none
 | n + 1=>bd (step a) fun r=>match r with
  | .inl a'=>c_ n step a'
  | .inr b=>ok b
open Classical in
noncomputable def fR {α β:Type} (step:α -> O (α ⊕ β)) (a:α):O β :=
 if h:∃ n,c_ n step a ≠ none then c_ (Classical.choose h) step a else none
theorem jc {α β:Type} (step:α -> O (α ⊕ β)):∀ (n m:Nat) (a:α),n <= m -> c_ n step a ≠ none -> c_ m step a = c_ n step a
 | 0,_,_,_,h=>absurd rfl h
 | n + 1,0,_,hl,_=>by omega
 | n + 1,m + 1,a,hl,h=>by
  unfold c_ at h ⊢
  match hs:step a with
  | none=>rw [hs] at h;exact absurd rfl h
  | some (.error c)=>rfl
  | some (.ok (.inr b))=>rfl
  | some (.ok (.inl a')) =>
   rw [hs] at h
   exact jc step n m a' (by omega) h
theorem lT {α β:Type} {step:α -> O (α ⊕ β)} {a:α} {n:Nat} {r:Except Nat β} (h:c_ n step a = some r):fR step a = some r:=by
 have hx:∃ n,c_ n step a ≠ none:=⟨n,by rw [h];simp⟩
 unfold fR
 rw [dif_pos hx]
 have hc:=Classical.choose_spec hx
 rcases Nat.le_total n (Classical.choose hx) with hl | hl
 ·rw [jc step _ _ a hl (by rw [h];simp),h]
 ·rw [<- jc step _ _ a hl hc,h]
theorem mj {α β:Type} {step:α -> O (α ⊕ β)} {a:α} {r:Except Nat β} (h:fR step a = some r):∃ n,c_ n step a = some r:=by
 unfold fR at h
 split at h
 ·exact ⟨_,h⟩
 ·cases h
theorem n8 {α β:Type} {step:α -> O (α ⊕ β)} {a a':α} (h:step a = ok (.inl a')):fR step a = fR step a':=by
 match hr:fR step a' with
 | some r =>
  obtain ⟨n,hn⟩:=mj hr
  refine lT (n:=n + 1) ?_
  unfold c_;rw [h];exact hn
 | none =>
  match hq:fR step a with
  | none=>rfl
  | some r =>
   obtain ⟨n,hn⟩:=mj hq
   match n,hn with
   | n + 1,hn =>
    unfold c_ at hn;rw [h] at hn
    rw [lT (n:=n) hn] at hr;cases hr
theorem ib {α β:Type} {step:α -> O (α ⊕ β)} {a:α} {b:β} (h:step a = ok (.inr b)):fR step a = ok b :=
 lT (n:=1) (by unfold c_;rw [h];rfl)
mutual
noncomputable def iQ:CE -> List Nat
 | .v i=>[i]
 | .bin _ a b=>iQ a ++ iQ b
 | .neg a=>iQ a
 | .not a=>iQ a
 | .and es=>dw es
 | .or es=>dw es
 | .ite c a b=>iQ c ++ (iQ a ++ iQ b)
 | .cmp _ a b=>iQ a ++ iQ b
 | .pY a _=>iQ a
 | .call _ es=>dw es
 | .bf _ es=>dw es
 | .ix a b=>iQ a ++ iQ b
 | .ml a=>iQ a
 | .tup es=>dw es
 | .lst es=>dw es
 | .eE _ es=>dw es
 | .comp _ _ caps _ es _ _=>caps ++ dw es
 | _=>[]
noncomputable def dw:List CE -> List Nat
 | []=>[]
 | e :: es=>iQ e ++ dw es
end
noncomputable def je (is:List Nat) (ρ:aC):aC:=ρ.mapIdx fun i d=>if i ∈ is then d.map (aD aL) else d
noncomputable def keep (e:CE) (d:D) (ρ:aC):D × aC:=if aT cn d then (aD aL d,je (iQ e) ρ) else (d,ρ)
noncomputable def jX (Φ:aA) (e:CE) (ρ:aC):O (D × aC):=match e with
 | .v i=>match ρ[i]? with
  | some (some d)=>if aT fe d then ok (d,ρ.set i none) else ok (d,ρ)
  | _=>none
 | _=>bd (aN Φ e ρ) fun d=>ok (keep e d ρ)
noncomputable def cK (Φ:aA) (it:CI) (ρ:aC):O (List D × aC):=match it with
 | .D1 p es=>bd (cM Φ es ρ) fun xs=>bd (Φ p xs) fun d=>bd (qc d) fun items=>ok (items,if az cn xs then je (dw es) ρ else ρ)
 | .mP a=>bd (aN Φ a ρ) fun x=>match x with
  | .int n=>if n <= eN /\ -eN <= n then ok ((List.range n.toNat).map fun (k:Nat)=>D.int (k:Int),ρ) else none
  | _=>none
 | .seq a=>bd (aN Φ a ρ) fun x=>match x with
  | .tup ds=>ok (ai aL ds,if aT cn x then je (iQ a) ρ else ρ)
  | .lst f ds=>ok (ai aL ds,if aT cn x then je (iQ a) ρ else ρ)
  | _=>none
noncomputable def oO (es:List CE) (xs:List D) (ρ:aC):List D × aC:=if az cn xs then (ai aL xs,je (dw es) ρ) else (xs,ρ)
noncomputable def xh (Φ:aA) (p i:Nat) (r:List D × aC):O (Fo × aC):=match r.2[i]? with
 | some (some d)=>bd (Φ p (d :: r.1)) fun d'=>ok (.nx,r.2.set i (some d'))
 | _=>none
noncomputable def d9 (bind:D -> aC -> O aC) (body:aC -> O (Fo × aC)):List D -> aC -> O (Fo × aC)
 | [],ρ=>ok (.nx,ρ)
 | d :: ds,ρ=>bd (bind d ρ) fun ρ1=>bd (body ρ1) fun r=>match r with
  | (.nx,ρ2)=>d9 bind body ds ρ2
  | (.ct,ρ2)=>d9 bind body ds ρ2
  | (.bk,ρ2)=>ok (.nx,ρ2)
  | (.rt d,ρ2)=>ok (.rt d,ρ2)
mutual
noncomputable def uI (Φ:aA):CS -> aC -> O (Fo × aC)
 | .asg t e,ρ=>bd (jX Φ e ρ) fun r=>bd (bU t r.1 r.2) fun ρ'=>ok (.nx,ρ')
 | .par i j a b,ρ=>bd (aN Φ a ρ) fun x=>bd (aN Φ b ρ) fun y=>if aT anyF x = false /\ aT anyF y = false /\ i < ρ.length /\ j < ρ.length then ok (.nx,(ρ.set i (some x)).set j (some y)) else none
 | .ret e,ρ=>bd (jX Φ e ρ) fun r=>ok (.rt r.1,r.2)
 | .rs c,_=>some (.error c)
 | .ex e,ρ=>bd (aN Φ e ρ) fun _=>ok (.nx,ρ)
 | .mut p i es,ρ=>bd (cM Φ es ρ) fun xs=>xh Φ p i (oO es xs ρ)
 | .app i e,ρ=>bd (jX Φ e ρ) fun r=>match Ae r.2[i]? with
  | some ds=>if ds.length < eN then ok (.nx,r.2.set i (some (.lst .ow (ds ++ [r.1])))) else none
  | none=>none
 | .setI i k e,ρ=>bd (jX Φ e ρ) fun r=>bd (bd (aN Φ k r.2) intD) fun z=>match Ae r.2[i]? with
  | some ds=>match Ao ds.length z with
   | some j=>ok (.nx,r.2.set i (some (.lst .ow (ds.set j r.1))))
   | none=>none
  | none=>none
 | .ifs c a b,ρ=>bd (wL Φ c ρ) fun k=>if k then bc Φ a ρ else bc Φ b ρ
 | .Iq c b,ρ=>fR (fun ρ=>bd (wL Φ c ρ) fun k=>if k then bd (bc Φ b ρ) fun r=>match r with
   | (.nx,ρ')=>ok (.inl ρ')
   | (.ct,ρ')=>ok (.inl ρ')
   | (.bk,ρ')=>ok (.inr (.nx,ρ'))
   | (.rt d,ρ')=>ok (.inr (.rt d,ρ'))
  else ok (.inr (.nx,ρ))) ρ
 | .fr t it b,ρ=>bd (cK Φ it ρ) fun r=>d9 (fun d ρ=>bU t d ρ) (fun ρ=>bc Φ b ρ) r.1 r.2
noncomputable def bc (Φ:aA):List CS -> aC -> O (Fo × aC)
 | [],ρ=>ok (.nx,ρ)
 | s :: ss,ρ=>bd (uI Φ s ρ) fun r=>match r with
  | (.nx,ρ')=>bc Φ ss ρ'
  | r=>ok r
end
noncomputable def xc (Φ:aA) (n:Nat) (b:List CS) (ds:List D):O D:=bd (bc Φ b (ds.map some ++ List.replicate (n - ds.length) none)) fun r=>match r.1 with
 | .nx=>ok .bE
 | .rt d=>ok d
 | _=>none
noncomputable def zK:List D -> O D
 | [.lst _ a,.lst _ b]=>ok (.lst .ow (List.zipWith (fun x y=>.tup [x,y]) a b))
 | _=>none
end DI
end
section
namespace DI
open PySem PySem.Spec PyProof.Rows L2
noncomputable abbrev aH:=List Nat
noncomputable abbrev St:=L2.St
noncomputable abbrev kO:=Addr -> List V -> Prop
inductive Nd where | l (xs:List V) | d (cs:List (List Int)) (as:List Addr) (xs:List V) (ep:Nat)
 | ei (ks:List Int) (xs:List V) (ep:Nat)
noncomputable abbrev iU:=aH -> Addr -> Nd -> Fl -> Prop
structure mX (T:kO) (as:List Addr) (cs:List (List Int)):Prop where
 len:as.length = cs.length
 tup:∀ (j:Nat) (a:Addr) (c:List Int),as[j]? = some a -> cs[j]? = some c -> T a (c.map V.int)
theorem mX.imp {T T':kO} {as:List Addr} {cs:List (List Int)} (h:mX T as cs) (hT:∀ p xs,T p xs -> T' p xs):mX T' as cs:=⟨h.len,fun j a c h1 h2=>hT _ _ (h.tup j a c h1 h2)⟩
mutual
inductive Rep (T:kO) (N:iU):aH -> V -> D -> Prop where
 | bE {q:aH}:Rep T N q .bE .bE
 | bl {q:aH} (b:Bool):Rep T N q (.bl b) (.bl b)
 | int {q:aH} (i:Int):Rep T N q (.int i) (.int i)
 | tup {q:aH} {p:Addr} {xs:List V} {ds:List D} (h:T p xs) (r:ag T N q 0 xs ds):Rep T N q (.ref p) (.tup ds)
 | lst {q:aH} {p:Addr} {xs:List V} {f:Fl} {ds:List D} (h:N q p (.l xs) f) (r:ag T N q 0 xs ds):Rep T N q (.ref p) (.lst f ds)
 | jG {q:aH} {p:Addr} {cs:List (List Int)} {as:List Addr} {xs:List V} {ep:Nat} {f:Fl} {ds:List D} (h:N q p (.d cs as xs ep) f) (k:mX T as cs) (r:ag T N q 0 xs ds):Rep T N q (.ref p) (.jG f cs ds)
 | kM {q:aH} {p:Addr} {ks:List Int} {xs:List V} {ep:Nat} {f:Fl} {ds:List D} (h:N q p (.ei ks xs ep) f) (r:ag T N q 0 xs ds):Rep T N q (.ref p) (.kM f ks ds)
inductive ag (T:kO) (N:iU):aH -> Nat -> List V -> List D -> Prop where
 | nil {q:aH} {n:Nat}:ag T N q n [] []
 | cons {q:aH} {n:Nat} {v:V} {d:D} {vs:List V} {ds:List D} (h:Rep T N (n :: q) v d) (t:ag T N q (n + 1) vs ds):ag T N q n (v :: vs) (d :: ds)
end
mutual
theorem tq:∀ d:D,aT (fun _=>false) d = false
 | .bE=>rfl
 | .bl _=>rfl
 | .int _=>rfl
 | .tup ds=>f_ ds
 | .lst _ ds=>f_ ds
 | .jG _ _ ds=>f_ ds
 | .kM _ _ ds=>f_ ds
theorem f_:∀ ds:List D,az (fun _=>false) ds = false
 | []=>rfl
 | d :: ds=>by show (aT _ d || az _ ds) = false;rw [tq d,f_ ds];rfl
end
theorem Bb {a b:Bool} (h:(a || b) = false):a = false /\ b = false:=by cases a <;> cases b <;> first | exact ⟨rfl,rfl⟩ | cases h
section
variable {T T':kO} {N N':iU} {g:Fl -> Fl} {P:Fl -> Bool} {C:aH -> aH -> Prop} {I:Nat -> Nat -> Prop}
mutual
theorem Rep.gen (hT:∀ p xs,T p xs -> T' p xs) (h0:I 0 0) (hI:∀ n n',I n n' -> I (n + 1) (n' + 1)) (hC:∀ k k' n n',C k k' -> I n n' -> C (n :: k) (n' :: k')) (hN:∀ k k' p xs f,C k k' -> P f = false -> N k p xs f -> N' k' p xs (g f)) :
  ∀ {k:aH} {v:V} {d:D},Rep T N k v d -> ∀ {k':aH},C k k' -> aT P d = false -> Rep T' N' k' v (aD g d)
 | _,_,_,.bE,_,_,_=>.bE
 | _,_,_,.bl b,_,_,_=>.bl b
 | _,_,_,.int i,_,_,_=>.int i
 | _,_,_,.tup h r,_,c,e=>.tup (hT _ _ h) (ag.gen hT h0 hI hC hN r c h0 e)
 | _,_,_,.lst h r,_,c,e=>.lst (hN _ _ _ _ _ c (Bb e).1 h) (ag.gen hT h0 hI hC hN r c h0 (Bb e).2)
 | _,_,_,.jG h k r,_,c,e=>.jG (hN _ _ _ _ _ c (Bb e).1 h) (k.imp hT) (ag.gen hT h0 hI hC hN r c h0 (Bb e).2)
 | _,_,_,.kM h r,_,c,e=>.kM (hN _ _ _ _ _ c (Bb e).1 h) (ag.gen hT h0 hI hC hN r c h0 (Bb e).2)
theorem ag.gen (hT:∀ p xs,T p xs -> T' p xs) (h0:I 0 0) (hI:∀ n n',I n n' -> I (n + 1) (n' + 1)) (hC:∀ k k' n n',C k k' -> I n n' -> C (n :: k) (n' :: k')) (hN:∀ k k' p xs f,C k k' -> P f = false -> N k p xs f -> N' k' p xs (g f)) :
  ∀ {k:aH} {n:Nat} {vs:List V} {ds:List D},ag T N k n vs ds -> ∀ {k':aH} {n':Nat},C k k' -> I n n' -> az P ds = false -> ag T' N' k' n' vs (ai g ds)
 | _,_,_,_,.nil,_,_,_,_,_=>.nil
 | _,_,_,_,.cons h t,_,_,c,i,e=>.cons (Rep.gen hT h0 hI hC hN h (hC _ _ _ _ c i) (Bb e).1) (ag.gen hT h0 hI hC hN t c (hI _ _ i) (Bb e).2)
end
theorem Rep.map {q q':aH} (hT:∀ p xs,T p xs -> T' p xs) (hN:∀ c p xs f,N (c ++ q) p xs f -> N' (c ++ q') p xs (g f)) {k:aH} {v:V} {d:D} (h:Rep T N k v d) (c:aH) (e:k = c ++ q):Rep T' N' (c ++ q') v (aD g d) :=
 Rep.gen (P:=fun _=>false) (C:=fun k k'=>∃ c,k = c ++ q /\ k' = c ++ q') (I:=fun n n'=>n = n') hT rfl (fun _ _ e=>by rw [e]) (fun _ _ n _ ⟨c,e1,e2⟩ e=>⟨n :: c,by rw [e1];rfl,by rw [e2,<- e];rfl⟩) (fun _ _ p xs f ⟨c,e1,e2⟩ _ h=>by subst e1;subst e2;exact hN c p xs f h) h ⟨c,e,rfl⟩ (tq d)
theorem ag.map {q q':aH} (hT:∀ p xs,T p xs -> T' p xs) (hN:∀ c p xs f,N (c ++ q) p xs f -> N' (c ++ q') p xs (g f)) {k:aH} {n:Nat} {vs:List V} {ds:List D} (h:ag T N k n vs ds) (c:aH) (e:k = c ++ q):ag T' N' (c ++ q') n vs (ai g ds) :=
 ag.gen (P:=fun _=>false) (C:=fun k k'=>∃ c,k = c ++ q /\ k' = c ++ q') (I:=fun n n'=>n = n') hT rfl (fun _ _ e=>by rw [e]) (fun _ _ n _ ⟨c,e1,e2⟩ e=>⟨n :: c,by rw [e1];rfl,by rw [e2,<- e];rfl⟩) (fun _ _ p xs f ⟨c,e1,e2⟩ _ h=>by subst e1;subst e2;exact hN c p xs f h) h ⟨c,e,rfl⟩ rfl (f_ ds)
theorem Rep.ja (hT:∀ p xs,T p xs -> T' p xs) (hN:∀ k k' p xs f,N k p xs f -> N' k' p xs (g f)) {k:aH} {v:V} {d:D} (h:Rep T N k v d) (k':aH):Rep T' N' k' v (aD g d) :=
 Rep.gen (P:=fun _=>false) (C:=fun _ _=>True) (I:=fun _ _=>True) hT trivial (fun _ _ e=>e) (fun _ _ _ _ e _=>e) (fun k k' p xs f _ _ h=>hN k k' p xs f h) h trivial (tq d)
theorem ag.ja (hT:∀ p xs,T p xs -> T' p xs) (hN:∀ k k' p xs f,N k p xs f -> N' k' p xs (g f)) {k:aH} {n:Nat} {vs:List V} {ds:List D} (h:ag T N k n vs ds) (k':aH) (n':Nat):ag T' N' k' n' vs (ai g ds) :=
 ag.gen (P:=fun _=>false) (C:=fun _ _=>True) (I:=fun _ _=>True) hT trivial (fun _ _ e=>e) (fun _ _ _ _ e _=>e) (fun k k' p xs f _ _ h=>hN k k' p xs f h) h trivial trivial (f_ ds)
end
mutual
theorem eU:∀ d:D,aD id d = d
 | .bE=>rfl
 | .bl _=>rfl
 | .int _=>rfl
 | .tup ds=>by rw [aD,eu ds]
 | .lst f ds=>by rw [aD,eu ds];rfl
 | .jG f ks vs=>by rw [aD,eu vs];rfl
 | .kM f ks vs=>by rw [aD,eu vs];rfl
theorem eu:∀ ds:List D,ai id ds = ds
 | []=>rfl
 | d :: ds=>by rw [ai,eU d,eu ds]
end
section
variable {T T':kO} {N N':iU}
theorem Rep.imp {q q':aH} (hT:∀ p xs,T p xs -> T' p xs) (hN:∀ c p xs f,N (c ++ q) p xs f -> N' (c ++ q') p xs f) {v:V} {d:D} (h:Rep T N q v d):Rep T' N' q' v d:=by
 have:=Rep.map (g:=id) hT hN h [] rfl
 rw [eU] at this;exact this
theorem ag.imp {q q':aH} {n:Nat} (hT:∀ p xs,T p xs -> T' p xs) (hN:∀ c p xs f,N (c ++ q) p xs f -> N' (c ++ q') p xs f) {vs:List V} {ds:List D} (h:ag T N q n vs ds):ag T' N' q' n vs ds:=by
 have:=ag.map (g:=id) hT hN h [] rfl
 rw [eu] at this;exact this
theorem ag.length:∀ {k:aH} {n:Nat} {vs:List V} {ds:List D},ag T N k n vs ds -> vs.length = ds.length
 | _,_,_,_,.nil=>rfl
 | _,_,_,_,.cons _ t=>by simp [ag.length t]
theorem ag.get:∀ {k:aH} {n j:Nat} {vs:List V} {ds:List D} {d:D},ag T N k n vs ds -> ds[j]? = some d -> ∃ v,vs[j]? = some v /\ Rep T N ((n + j) :: k) v d
 | _,_,_,_,_,_,.nil,e=>by simp at e
 | _,_,0,_,_,_,.cons h t,e=>by simp at e;subst e;exact ⟨_,rfl,h⟩
 | _,n,j + 1,_,_,_,.cons h t,e=>by
  obtain ⟨v,h1,h2⟩:=ag.get (j:=j) t (by simpa using e)
  refine ⟨v,by simpa using h1,?_⟩
  have:n + 1 + j = n + (j + 1):=by omega
  rw [<- this];exact h2
theorem ag.vO:∀ {k:aH} {n j:Nat} {vs:List V} {ds:List D} {v:V},ag T N k n vs ds -> vs[j]? = some v -> ∃ d,ds[j]? = some d /\ Rep T N ((n + j) :: k) v d
 | _,_,_,_,_,_,.nil,e=>by simp at e
 | _,_,0,_,_,_,.cons h t,e=>by simp at e;subst e;exact ⟨_,rfl,h⟩
 | _,n,j + 1,_,_,_,.cons h t,e=>by
  obtain ⟨v,h1,h2⟩:=ag.vO (j:=j) t (by simpa using e)
  refine ⟨v,by simpa using h1,?_⟩
  have:n + 1 + j = n + (j + 1):=by omega
  rw [<- this];exact h2
theorem ag.nV {k:aH} (hN:∀ k k' p xs f,N k p xs f -> N k' p xs f):∀ {n m l:Nat} {vs ws:List V} {ds es:List D},ag T N k n vs ds -> ag T N k m ws es -> ag T N k l (vs ++ ws) (ds ++ es)
 | _,_,_,_,_,_,_,.nil,t=>by
  have:=ag.ja (T':=T) (N':=N) (g:=id) (fun _ _ h=>h) hN t
  rw [eu] at this;exact this _ _
 | _,_,_,_,_,_,_,.cons h t,u=>.cons (by
  have:=Rep.ja (T':=T) (N':=N) (g:=id) (fun _ _ h=>h) hN h
  rw [eU] at this;exact this _) (ag.nV hN t u)
end
noncomputable def KL (K:PySem.W.Frag) (a:Addr) (xs:List V):Prop :=
 ∃ (o:Obj) (aj:Array Value) (n:Nat),K.lookup a = some o /\ o.cls = .type "list" /\ o.dict = none /\ o.data = .seq aj n /\ aj.size <= sizeLine /\ Vals xs aj.toList
noncomputable def DO (p:Addr) (cs:List (List Int)) (as:List Addr) (xs:List V) (ep:Nat) (h:Heap):Prop :=
 ∃ (zs:List (List Int × Addr × Value)) (o:Obj) (es:Array DictEntry),zs.map (·.1) = cs /\ zs.map (·.2.1) = as /\ Vals xs (zs.map (·.2.2)) /\ h.get? p = some o /\ o.ExactDict /\ o.data = .dict es ep /\
  es.toList = zs.map (fun z=>⟨reduceHash (Builtin.Tuple.tupleHashOf (z.1.map hashInt)),.ref z.2.1,z.2.2⟩) /\ cs.Nodup /\ cs.length <= sizeLine /\ (p == sysModules) = false
noncomputable def IO (p:Addr) (ks:List Int) (xs:List V) (ep:Nat) (h:Heap):Prop :=
 ∃ (zs:List (Int × Tok × Value)) (o:Obj) (es:Array DictEntry),zs.map (·.1) = ks /\ Vals xs (zs.map (·.2.2)) /\ h.get? p = some o /\ o.ExactDict /\ o.data = .dict es ep /\ es.toList = zs.map (fun z=>⟨hashInt z.1,.int z.1 z.2.1,z.2.2⟩) /\ ks.Nodup /\ ks.length <= sizeLine /\ (p == sysModules) = false
noncomputable abbrev h_ (H:Hp) (p:Addr) (n:Nd):Prop:=match n with
 | .l xs=>H p = some (.lst xs)
 | .d cs as xs ep=>H p = some (.ext (DO p cs as xs ep))
 | .ei ks xs ep=>H p = some (.ext (IO p ks xs ep))
theorem h_.ne {H:Hp} {p:Addr} {n:Nd} (h:h_ H p n):H p ≠ none:=by
 cases n with
 | l xs=>intro z;rw [show H p = some (.lst xs) from h] at z;cases z
 | d cs as xs ep=>intro z;rw [show H p = some (.ext (DO p cs as xs ep)) from h] at z;cases z
 | ei ks xs ep=>intro z;rw [show H p = some (.ext (IO p ks xs ep)) from h] at z;cases z
theorem h_.at {H H':Hp} {p:Addr} {n:Nd} (e:∀ o,H p = some o -> H' p = some o) (h:h_ H p n):h_ H' p n:=by
 cases n with
 | l xs=>exact e _ h
 | d cs as xs ep=>exact e _ h
 | ei ks xs ep=>exact e _ h
theorem h_.same {H H':Hp} {p:Addr} {n:Nd} (e:ao H H') (h:h_ H p n):h_ H' p n:=h.at (e p)
theorem h_.some {H:Hp} {p:Addr} {n:Nd} (h:h_ H p n):∃ o,H p = some o /\ (∀ xs,o ≠ .tup xs) /\ (∀ a u,o ≠ .je a u):=by
 cases n with
 | l xs=>exact ⟨_,h,fun _ z=>(nomatch z),fun _ _ z=>(nomatch z)⟩
 | d cs as xs ep=>exact ⟨_,h,fun _ z=>(nomatch z),fun _ _ z=>(nomatch z)⟩
 | ei ks xs ep=>exact ⟨_,h,fun _ z=>(nomatch z),fun _ _ z=>(nomatch z)⟩
noncomputable def nd (K:PySem.W.Frag) (R A:Addr -> Prop) (τ:Addr -> Option aH) (H:Hp):iU:=fun q p n f=>match f with
 | .ow=>h_ H p n /\ τ p = some q
 | .fz=>h_ H p n /\ R p
 | .al=>h_ H p n /\ A p
 | .sc=>match n with
  | .l xs=>(∃ o,H p = some (.je o (.lst xs))) \/ KL K p xs
  | .d _ _ _ _=>False
  | .ei _ _ _=>False
theorem nd.Ho {K:PySem.W.Frag} {R A:Addr -> Prop} {τ:Addr -> Option aH} {H:Hp} {q:aH} {p:Addr} {n:Nd} (h:nd K R A τ H q p n .sc):∃ xs,n = .l xs /\ ((∃ o,H p = some (.je o (.lst xs))) \/ KL K p xs):=by
 cases n with
 | l xs=>exact ⟨xs,rfl,h⟩
 | d _ _ _ _=>exact h.elim
 | ei _ _ _=>exact h.elim
theorem nd.sq {K:PySem.W.Frag} {R A:Addr -> Prop} {τ:Addr -> Option aH} {H:Hp} {q:aH} {p:Addr} {xs:List V} {f:Fl} (h:nd K R A τ H q p (.l xs) f):du K H p xs:=by
 cases f with
 | ow=>exact du.of h.1
 | fz=>exact du.of h.1
 | al=>exact du.of h.1
 | sc=>exact h.elim (fun h=>.inl (.inr h)) .inr
theorem nd.lst {K:PySem.W.Frag} {R A:Addr -> Prop} {τ:Addr -> Option aH} {H:Hp} {q:aH} {p:Addr} {xs:List V} {f:Fl} (h:nd K R A τ H q p (.l xs) f) (hf:xr f = false):H p = some (.lst xs):=by
 cases f with
 | ow=>exact h.1
 | fz=>exact h.1
 | al=>exact h.1
 | sc=>cases hf
theorem nd.dat {K:PySem.W.Frag} {R A:Addr -> Prop} {τ:Addr -> Option aH} {H:Hp} {q:aH} {p:Addr} {cs:List (List Int)} {as:List Addr} {xs:List V} {ep:Nat} {f:Fl} (h:nd K R A τ H q p (.d cs as xs ep) f):H p = some (.ext (DO p cs as xs ep)):=by
 cases f with
 | ow=>exact h.1
 | fz=>exact h.1
 | al=>exact h.1
 | sc=>exact h.elim
theorem nd.iat {K:PySem.W.Frag} {R A:Addr -> Prop} {τ:Addr -> Option aH} {H:Hp} {q:aH} {p:Addr} {ks:List Int} {xs:List V} {ep:Nat} {f:Fl} (h:nd K R A τ H q p (.ei ks xs ep) f):H p = some (.ext (IO p ks xs ep)):=by
 cases f with
 | ow=>exact h.1
 | fz=>exact h.1
 | al=>exact h.1
 | sc=>exact h.elim
theorem Rd.same {H H':Hp} {a:Addr} {u:HO} (e:ao H H') (h:Rd H a u):Rd H' a u:=h.elim (fun h=>.inl (e _ _ h)) fun ⟨o,h⟩=>.inr ⟨o,e _ _ h⟩
theorem aG.same {K:PySem.W.Frag} {H H':Hp} {a:Addr} {xs:List V} (e:ao H H') (h:aG K H a xs):aG K H' a xs:=h.elim (fun h=>.inl (Rd.same e h)) .inr
theorem nd.same {K:PySem.W.Frag} {R A:Addr -> Prop} {τ:Addr -> Option aH} {H H':Hp} {q:aH} {p:Addr} {n:Nd} {f:Fl} (e:ao H H') (h:nd K R A τ H q p n f):nd K R A τ H' q p n f:=by
 cases f with
 | ow=>exact ⟨h.1.same e,h.2⟩
 | fz=>exact ⟨h.1.same e,h.2⟩
 | al=>exact ⟨h.1.same e,h.2⟩
 | sc=>cases n with
  | l xs=>exact h.elim (fun ⟨o,h⟩=>.inl ⟨o,e _ _ h⟩) .inr
  | d _ _ _ _=>exact h.elim
  | ei _ _ _=>exact h.elim
theorem Rd.there {H:Hp} {a:Addr} {u:HO} (h:Rd H a u):H a ≠ none:=by
 rcases h with h | ⟨o,h⟩ <;> (rw [h];simp)
theorem ao.ne {H H':Hp} (e:ao H H') {a:Addr} (h:H a ≠ none):H' a ≠ none:=by
 cases q:H a with
 | none=>exact absurd q h
 | some o=>rw [e a o q];simp
structure SI (X:Cx) (F R:Addr -> Prop) (τ:Addr -> Option aH) (ρ:aC) (σ:St) (H:Hp):Prop where
 len:ρ.length = σ.length
 rep:∀ (i:Nat) (d:D),ρ[i]? = some (some d) -> ∃ v,σ[i]? = some (some v) /\ Rep (aG X.K H) (nd X.K R (fun _=>False) τ H) [i] v d
 rt:∀ p,R p -> τ p = none
 rh:∀ p,R p -> H p ≠ none
 rf:∀ p,R p -> F p \/ X.H₀ p = none
 th:∀ p q,τ p = some q -> H p ≠ none
 t0:∀ p q,τ p = some q -> X.H₀ p = none
 same:ao X.H₀ H
theorem SI.go {X:Cx} {F R:Addr -> Prop} {τ:Addr -> Option aH} {ρ:aC} {σ:St} {H H':Hp} (S:SI X F R τ ρ σ H) (e:ao H H'):SI X F R τ ρ σ H' :=
 ⟨S.len,fun i d h=>let ⟨v,h1,h2⟩:=S.rep i d h;⟨v,h1,h2.imp (fun _ _ h=>aG.same e h) fun _ _ _ _ h=>nd.same e h⟩,S.rt,fun p h=>ao.ne e (S.rh p h),S.rf,fun p q h=>ao.ne e (S.th p q h),S.t0,S.same.trans e⟩
noncomputable def kN (G:Addr -> Prop) (τ:Addr -> Option aH) (fv:List Nat) (p:Addr):Prop:=G p /\ ∀ c i,τ p = some (c ++ [i]) -> i ∈ fv
theorem kN.mono {G:Addr -> Prop} {τ:Addr -> Option aH} {fv fv':List Nat} {p:Addr} (h:kN G τ fv p) (hs:∀ i ∈ fv,i ∈ fv'):kN G τ fv' p:=⟨h.1,fun c i e=>hs i (h.2 c i e)⟩
noncomputable def gP (X:Cx) (F:Addr -> Prop) (p:Addr):Prop:=F p \/ X.H₀ p = none
noncomputable def cc (K:PySem.W.Frag) (G R:Addr -> Prop) (τ:Addr -> Option aH) (fv:List Nat) (H H':Hp) (v:V) (d:D):Prop :=
 ∃ τt:Addr -> Option aH,(∀ p q,τt p = some q -> H p = none) /\ Rep (aG K H') (nd K R (kN G τ fv) τt H') [] v d
noncomputable def cj (K:PySem.W.Frag) (G R:Addr -> Prop) (τ:Addr -> Option aH) (fv:List Nat) (H H':Hp) (vs:List V) (ds:List D):Prop :=
 ∃ τt:Addr -> Option aH,(∀ p q,τt p = some q -> H p = none) /\ ag (aG K H') (nd K R (kN G τ fv) τt H') [] 0 vs ds
section
variable {K:PySem.W.Frag} {G R:Addr -> Prop} {τ:Addr -> Option aH} {fv fv':List Nat} {H H1 H2:Hp} {v:V} {d:D} {vs:List V} {ds:List D}
theorem cc.go (h:cc K G R τ fv H H1 v d) (e:ao H1 H2):cc K G R τ fv H H2 v d :=
 let ⟨τt,h1,h2⟩:=h;⟨τt,h1,h2.imp (fun _ _ h=>aG.same e h) fun _ _ _ _ h=>nd.same e h⟩
theorem nd.mono {A A' R':Addr -> Prop} {τ τ':Addr -> Option aH} {q q':aH} {p:Addr} {xs:Nd} {f:Fl} (h:nd K R A τ H q p xs f) (hR:R p -> R' p) (hA:A p -> A' p) (ht:τ p = some q -> τ' p = some q'):nd K R' A' τ' H q' p xs f:=by
 cases f with
 | ow=>exact ⟨h.1,ht h.2⟩
 | fz=>exact ⟨h.1,hR h.2⟩
 | al=>exact ⟨h.1,hA h.2⟩
 | sc=>exact h
theorem cc.mono (h:cc K G R τ fv H H1 v d) (hs:∀ i ∈ fv,i ∈ fv'):cc K G R τ fv' H H1 v d :=
 let ⟨τt,h1,h2⟩:=h;⟨τt,h1,h2.imp (fun _ _ h=>h) fun _ _ _ _ h=>h.mono id (fun h=>h.mono hs) id⟩
theorem cj.mono (h:cj K G R τ fv H H1 vs ds) (hs:∀ i ∈ fv,i ∈ fv'):cj K G R τ fv' H H1 vs ds :=
 let ⟨τt,h1,h2⟩:=h;⟨τt,h1,h2.imp (fun _ _ h=>h) fun _ _ _ _ h=>h.mono id (fun h=>h.mono hs) id⟩
theorem cc.old {H0:Hp} (h:cc K G R τ fv H H1 v d) (e:ao H0 H):cc K G R τ fv H0 H1 v d :=
 let ⟨τt,h1,h2⟩:=h;⟨τt,fun p q z=>e.free (h1 p q z),h2⟩
theorem cc.int {i:Int}:cc K G R τ fv H H1 (.int i) (.int i):=⟨fun _=>none,fun _ _ h=>by simp at h,.int i⟩
theorem cc.bl {b:Bool}:cc K G R τ fv H H1 (.bl b) (.bl b):=⟨fun _=>none,fun _ _ h=>by simp at h,.bl b⟩
theorem cc.bE:cc K G R τ fv H H1 .bE .bE:=⟨fun _=>none,fun _ _ h=>by simp at h,.bE⟩
theorem cc.isInt {i:Int} (h:cc K G R τ fv H H1 v (.int i)):v = .int i:=by obtain ⟨_,_,h⟩:=h;cases h;rfl
theorem cc.Au {i:Bool} (h:cc K G R τ fv H H1 v (.bl i)):v = .bl i:=by obtain ⟨_,_,h⟩:=h;cases h;rfl
noncomputable def sy:aH -> aH
 | []=>[]
 | [n]=>[n + 1]
 | a :: b :: r=>a :: sy (b :: r)
theorem uS (c:aH) (n:Nat):sy (c ++ [n]) = c ++ [n + 1]:=by
 induction c with
 | nil=>rfl
 | cons a c ih =>
  cases c with
  | nil=>rfl
  | cons b c=>show a :: sy (b :: c ++ [n]) = _;rw [ih];rfl
theorem ag.shift {T:kO} {N N':iU} (hN:∀ c n p xs f,N (c ++ [n]) p xs f -> N' (c ++ [n + 1]) p xs f):∀ {n:Nat} {vs:List V} {ds:List D},ag T N [] n vs ds -> ag T N' [] (n + 1) vs ds
 | _,_,_,.nil=>.nil
 | n,_,_,.cons h t=>.cons (h.imp (q:=[n]) (q':=[n + 1]) (fun _ _ h=>h) fun c p xs f h=>hN c n p xs f h) (ag.shift hN t)
theorem cj.nil:cj K G R τ fv H H1 [] []:=⟨fun _=>none,fun _ _ h=>by simp at h,.nil⟩
open Classical in
theorem cj.cons (e1:ao H H1) (e2:ao H1 H2) (h:cc K G R τ fv H H1 v d) (t:cj K G R τ fv H1 H2 vs ds):cj K G R τ fv H H2 (v :: vs) (d :: ds):=by
 obtain ⟨τ1,f1,h1⟩:=h
 obtain ⟨τ2,f2,h2⟩:=t
 refine ⟨fun p=>if H1 p = none then (τ2 p).map sy else (τ1 p).map (· ++ [0]),fun p q hq=>?_,.cons (h1.imp (q':=[0]) (fun _ _ h=>aG.same e2 h) fun c p xs f h=>?_) (ag.shift (fun c n p xs f h=>?_) h2)⟩
 ·by_cases hp:H1 p = none
  ·exact e1.free hp
  ·simp only [hp,if_false] at hq
   cases q1:τ1 p with
   | none=>rw [q1] at hq;simp at hq
   | some k=>exact f1 p k q1
 ·have h':nd K R (kN G τ fv) τ1 H2 (c ++ []) p xs f:=nd.same e2 h
  cases f with
  | ow =>
   have hp:H1 p ≠ none:=h.1.ne
   refine ⟨h'.1,?_⟩
   simp only [hp,if_false]
   rw [h.2];simp
  | fz=>exact h'
  | al=>exact h'
  | sc=>exact h'
 ·cases f with
  | ow =>
   have hp:H1 p = none:=f2 p _ h.2
   refine ⟨h.1,?_⟩
   simp only [hp,if_true]
   rw [h.2];simp [uS]
  | fz=>exact h
  | al=>exact h
  | sc=>exact h
end
noncomputable def tD (X:Cx) (F:Addr -> Prop) (Φ:aA) (c:CE):TE:=fun σ H Q=>∃ R τ ρ d,SI X F R τ ρ σ H /\ aN Φ c ρ = ok d /\ ∀ v H',ao H H' -> cc X.K (gP X F) R τ (iQ c) H H' v d -> Q v H'
noncomputable def uR (X:Cx) (F:Addr -> Prop) (Φ:aA) (cs:List CE):TA:=fun σ H Q=>∃ R τ ρ ds,SI X F R τ ρ σ H /\ cM Φ cs ρ = ok ds /\ ∀ vs H',ao H H' -> cj X.K (gP X F) R τ (dw cs) H H' vs ds -> Q vs H'
noncomputable def ie (X:Cx) (F:Addr -> Prop) (Φ:aA) (c:CE):TT:=fun σ H Q=>∃ R τ ρ b,SI X F R τ ρ σ H /\ wL Φ c ρ = ok b /\ ∀ H',ao H H' -> Q b H'
theorem PE.imp {X:Cx} {e:Expr} {t t':TE} (h:PE X e t) (hi:∀ σ H Q,t' σ H Q -> t σ H Q):PE X e t':=fun pins s σ H Q I hw=>h pins s σ H Q I (hi σ H Q hw)
theorem PT.imp {X:Cx} {e:Expr} {t t':TT} (h:PT X e t) (hi:∀ σ H Q,t' σ H Q -> t σ H Q):PT X e t':=fun pins s σ H Q I hw=>h pins s σ H Q I (hi σ H Q hw)
theorem PW.imp {X:Cx} {e:Expr} {t t':TT} (h:PW X e t) (hi:∀ σ H Q,t' σ H Q -> t σ H Q):PW X e t':=fun wh pins s σ H Q I hw=>h wh pins s σ H Q I (hi σ H Q hw)
theorem PA.imp {X:Cx} {es:List Expr} {t t':TA} (h:PA X es t) (hi:∀ σ H Q,t' σ H Q -> t σ H Q):PA X es t':=fun pos pins s σ H Q I hw=>h pos pins s σ H Q I (hi σ H Q hw)
theorem PS.imp {X:Cx} {st:Stmt} {t t':TS} (h:PS X st t) (hi:∀ D σ H,t' D σ H -> t D σ H):PS X st t':=fun pins s σ H D I hw=>h pins s σ H D I (hi D σ H hw)
theorem nZ.imp {X:Cx} {st:List Stmt} {t t':TS} (h:nZ X st t) (hi:∀ D σ H,t' D σ H -> t D σ H):nZ X st t':=fun pins s σ H D I hw=>h pins s σ H D I (hi D σ H hw)
end DI
end
section
namespace DI
open PySem PySem.Spec PyProof.Rows L2
theorem pk:∀ (as bs:List D),dy as bs = true ↔ as.length = bs.length /\ ∀ (j:Nat) (a b:D),as[j]? = some a -> bs[j]? = some b -> gO a b = true
 | [],[]=>by simp [dy]
 | [],b :: bs=>by simp [dy]
 | a :: as,[]=>by simp [dy]
 | a :: as,b :: bs=>by
  rw [dy,Bool.and_eq_true,pk as bs]
  constructor
  ·rintro ⟨h1,h2,h3⟩
   refine ⟨by simp [h2],fun j x y hx hy=>?_⟩
   cases j with
   | zero=>simp at hx hy;subst hx hy;exact h1
   | succ j=>exact h3 j x y (by simpa using hx) (by simpa using hy)
  ·rintro ⟨h2,h3⟩
   exact ⟨h3 0 a b rfl rfl,by simpa using h2,fun j x y hx hy=>h3 (j + 1) x y (by simpa using hx) (by simpa using hy)⟩
noncomputable def Pp (as bs:List D) (j:Nat):Bool:=match as[j]?,bs[j]? with
 | some a,some b=>gO a b
 | _,_=>false
theorem ki (as bs:List D):((List.range (min as.length bs.length)).all (Pp as bs) && as.length == bs.length) = dy as bs:=by
 rw [Bool.eq_iff_iff,pk,Bool.and_eq_true,List.all_eq_true,beq_iff_eq]
 constructor
 ·rintro ⟨h1,h2⟩
  refine ⟨h2,fun j a b ha hb=>?_⟩
  have hj:j < as.length:=by
   by_cases h:j < as.length
   ·exact h
   ·rw [List.getElem?_eq_none (by omega)] at ha;cases ha
  have:=h1 j (by rw [List.mem_range];omega)
  unfold Pp at this
  rw [ha,hb] at this;exact this
 ·rintro ⟨h2,h1⟩
  refine ⟨fun j hj=>?_,h2⟩
  rw [List.mem_range] at hj
  unfold Pp
  have ha:as[j]? = some as[j]:=List.getElem?_eq_getElem (by omega)
  have hb:bs[j]? = some bs[j]:=List.getElem?_eq_getElem (by omega)
  rw [ha,hb];exact h1 j _ _ ha hb
section
variable {X:Cx} {pins:List (Addr × Obj)} {σ:St} {H:Hp} {s:Shared} {N N':iU}
theorem fA {n:Nat} {ds:List D} (h:b_ n (.tup ds) = true):∃ m,n = m + 1 /\ ∀ d ∈ ds,b_ m d = true:=by
 cases n with
 | zero=>cases h
 | succ m=>exact ⟨m,rfl,List.all_eq_true.mp h⟩
theorem fB {n:Nat} {f:Fl} {ds:List D} (h:b_ n (.lst f ds) = true):∃ m,n = m + 1 /\ ∀ d ∈ ds,b_ m d = true:=by
 cases n with
 | zero=>cases h
 | succ m=>exact ⟨m,rfl,List.all_eq_true.mp h⟩
theorem yH (I:Inv X pins σ H s) {p:Addr} {xs ys:List V} (h:du X.K H p xs) (h':aG X.K H p ys):False:=by
 obtain ⟨aj,_,pl,_⟩:=I.list h
 obtain ⟨its',_,pt,_⟩:=I.tuple h'
 exact SeqAt.ne_of_list_tuple pl.isList pt rfl
theorem BS (I:Inv X pins σ H s) (hN:∀ q p xs f,N q p (.l xs) f -> du X.K H p xs) (Bj:∀ q p xs f,N' q p (.l xs) f -> du X.K H p xs) :
  ∀ (n:Nat) {k k':aH} {v:V} {d d':D},Rep (aG X.K H) N k v d -> Rep (aG X.K H) N' k' v d' -> b_ n d = true -> b_ n d' = true -> gO d d' = true:=by
 intro n
 induction n with
 | zero =>
  intro k k' v d d' h h' ho e9
  cases h with
  | bE=>cases h';rfl
  | bl b=>cases h';exact beq_self_eq_true b
  | int i=>cases h';exact beq_self_eq_true i
  | tup _ _=>obtain ⟨m,hm,_⟩:=fA ho;omega
  | lst _ _=>obtain ⟨m,hm,_⟩:=fB ho;omega
  | jG _ _=>simp [b_] at ho
  | kM _ _=>simp [b_] at ho
 | succ n ih =>
  have sub:∀ {q q':aH} {xs:List V} {ds kl:List D},ag (aG X.K H) N q 0 xs ds -> ag (aG X.K H) N' q' 0 xs kl -> (∀ d ∈ ds,b_ n d = true) -> (∀ d ∈ kl,b_ n d = true) -> dy ds kl = true:=by
   intro q q' xs ds kl r r' ho e9
   rw [pk]
   refine ⟨by rw [<- r.length,<- r'.length],fun j a b ha hb=>?_⟩
   obtain ⟨v1,h1,r1⟩:=r.get ha
   obtain ⟨v2,h2,r2⟩:=r'.get hb
   rw [h1] at h2;cases h2
   exact ih r1 r2 (ho a (List.mem_of_getElem? ha)) (e9 b (List.mem_of_getElem? hb))
  intro k k' v d d' h h' ho e9
  cases h with
  | bE=>cases h';rfl
  | bl b=>cases h';exact beq_self_eq_true b
  | int i=>cases h';exact beq_self_eq_true i
  | tup h r =>
   obtain ⟨m,hm,ho⟩:=fA ho
   obtain rfl:n = m:=by omega
   cases h' with
   | tup h' r' =>
    obtain ⟨m,hm,e9⟩:=fA e9
    obtain rfl:n = m:=by omega
    obtain rfl:=I.jB h h';exact sub r r' ho e9
   | lst h' r'=>exact (yH I (Bj _ _ _ _ h') h).elim
   | jG _ _=>simp [b_] at e9
   | kM _ _=>simp [b_] at e9
  | lst h r =>
   obtain ⟨m,hm,ho⟩:=fB ho
   obtain rfl:n = m:=by omega
   cases h' with
   | tup h' r'=>exact (yH I (hN _ _ _ _ h) h').elim
   | lst h' r' =>
    obtain ⟨m,hm,e9⟩:=fB e9
    obtain rfl:n = m:=by omega
    obtain rfl:=I.lg (hN _ _ _ _ h) (Bj _ _ _ _ h');exact sub r r' ho e9
   | jG _ _=>simp [b_] at e9
   | kM _ _=>simp [b_] at e9
  | jG _ _=>simp [b_] at ho
  | kM _ _=>simp [b_] at ho
structure Alike (A:Around) (s:Shared) (u u':Value) (b:Bool):Prop where
 eq:SeqAt.EqAt A s u u' b
 rc:SeqAt.RcAt A s u u' b
 ne:SeqAt.RcNeAt A s u u' (!b)
theorem alike (I:Inv X pins σ H s) (hN:∀ q p xs f,N q p (.l xs) f -> du X.K H p xs) (Bj:∀ q p xs f,N' q p (.l xs) f -> du X.K H p xs) :
  ∀ (n:Nat) (A:Around) {k k':aH} {v v':V} {u u':Value} {d d':D},Rep (aG X.K H) N k v d -> Rep (aG X.K H) N' k' v' d' -> b_ n d = true -> b_ n d' = true -> RelV v u -> RelV v' u' -> A.units + n < cLine ->
   Alike A s u u' (gO d d'):=by
 intro n
 induction n with
 | zero =>
  intro A k k' v v' u u' d d' h h' ho e9 r r' hu
  cases h with
  | tup _ _=>obtain ⟨m,hm,_⟩:=fA ho;omega
  | lst _ _=>obtain ⟨m,hm,_⟩:=fB ho;omega
  | jG _ _=>simp [b_] at ho
  | kM _ _=>simp [b_] at ho
  | bE =>
   cases r
   cases h' with
   | tup _ _=>obtain ⟨m,hm,_⟩:=fA e9;omega
   | lst _ _=>obtain ⟨m,hm,_⟩:=fB e9;omega
   | jG _ _=>simp [b_] at e9
   | kM _ _=>simp [b_] at e9
   | bE=>cases r';exact ⟨SeqAt.EqAt.same _,SeqAt.RcAt.none_none,SeqAt.RcNeAt.none_none⟩
   | bl b=>cases r';exact ⟨SeqAt.EqAt.none_bool b,SeqAt.RcAt.none_bool b,SeqAt.RcNeAt.none_bool b⟩
   | int b=>obtain ⟨t,rfl⟩:=r';exact ⟨SeqAt.EqAt.none_int b t,SeqAt.RcAt.none_int b t,SeqAt.RcNeAt.none_int b t⟩
  | bl a =>
   cases r
   cases h' with
   | tup _ _=>obtain ⟨m,hm,_⟩:=fA e9;omega
   | lst _ _=>obtain ⟨m,hm,_⟩:=fB e9;omega
   | jG _ _=>simp [b_] at e9
   | kM _ _=>simp [b_] at e9
   | bE=>cases r';exact ⟨SeqAt.EqAt.bool_none a,SeqAt.RcAt.bool_none a,SeqAt.RcNeAt.bool_none a⟩
   | bl b=>cases r';exact ⟨SeqAt.EqAt.bool_bool a b,SeqAt.RcAt.bool_bool a b,SeqAt.RcNeAt.bool_bool a b⟩
   | int b=>obtain ⟨t,rfl⟩:=r';exact ⟨SeqAt.EqAt.bool_int a b t,SeqAt.RcAt.bool_int a b t,SeqAt.RcNeAt.bool_int a b t⟩
  | int a =>
   obtain ⟨t',rfl⟩:=r
   cases h' with
   | tup _ _=>obtain ⟨m,hm,_⟩:=fA e9;omega
   | lst _ _=>obtain ⟨m,hm,_⟩:=fB e9;omega
   | jG _ _=>simp [b_] at e9
   | kM _ _=>simp [b_] at e9
   | bE=>cases r';exact ⟨SeqAt.EqAt.int_none a t',SeqAt.RcAt.int_none a t',SeqAt.RcNeAt.int_none a t'⟩
   | bl b=>cases r';exact ⟨SeqAt.EqAt.int_bool a t' b,SeqAt.RcAt.int_bool a t' b,SeqAt.RcNeAt.int_bool a t' b⟩
   | int b=>obtain ⟨t,rfl⟩:=r';exact ⟨SeqAt.EqAt.int_int a t' b t,SeqAt.RcAt.int_int a t' b t,SeqAt.RcNeAt.int_int a t' b t⟩
 | succ n ih =>
  intro A k k' v v' u u' d d' h h' ho e9 r r' hu
  have fO:A.units < cLine:=by omega
  have Xb:A.in1.units + n < cLine:=by show A.units + 1 + n < cLine;omega
  have sub:∀ {q q':aH} {xs Ej:List V} {ds kl:List D} {aj its':List Value},ag (aG X.K H) N q 0 xs ds -> ag (aG X.K H) N' q' 0 Ej kl -> (∀ d ∈ ds,b_ n d = true) -> (∀ d ∈ kl,b_ n d = true) -> Vals xs aj -> Vals Ej its' ->
    ∀ (j:Nat) (h1:j < aj.toArray.size) (h2:j < its'.toArray.size),SeqAt.EqAt A.in1 s aj.toArray[j] its'.toArray[j] (Pp ds kl j):=by
   intro q q' xs Ej ds kl aj its' rs yn hd OV rv Ba j h1 h2
   have l1:ds.length = aj.length:=by rw [<- rs.length,rv.length]
   have l2:kl.length = its'.length:=by rw [<- yn.length,Ba.length]
   simp only [List.size_toArray] at h1 h2
   have ea:ds[j]? = some ds[j]:=List.getElem?_eq_getElem (by omega)
   have eb:kl[j]? = some kl[j]:=List.getElem?_eq_getElem (by omega)
   obtain ⟨w1,g1,p1⟩:=rs.get ea
   obtain ⟨w2,g2,p2⟩:=yn.get eb
   obtain ⟨u1,k1,z1⟩:=rv.get g1
   obtain ⟨u2,k2,z2⟩:=Ba.get g2
   have:=(ih A.in1 p1 p2 (hd _ (List.getElem_mem _)) (OV _ (List.getElem_mem _)) z1 z2 Xb).eq
   unfold Pp
   rw [ea,eb]
   rw [List.getElem?_eq_getElem h1] at k1
   rw [List.getElem?_eq_getElem h2] at k2
   cases k1;cases k2
   simpa using this
  cases h with
  | bE =>
   cases r
   cases h' with
   | jG _ _=>simp [b_] at e9
   | kM _ _=>simp [b_] at e9
   | bE=>cases r';exact ⟨SeqAt.EqAt.same _,SeqAt.RcAt.none_none,SeqAt.RcNeAt.none_none⟩
   | bl b=>cases r';exact ⟨SeqAt.EqAt.none_bool b,SeqAt.RcAt.none_bool b,SeqAt.RcNeAt.none_bool b⟩
   | int b=>obtain ⟨t,rfl⟩:=r';exact ⟨SeqAt.EqAt.none_int b t,SeqAt.RcAt.none_int b t,SeqAt.RcNeAt.none_int b t⟩
   | tup h' rr=>cases r';obtain ⟨aj,_,pt,_⟩:=I.tuple h';exact ⟨SeqAt.EqAt.none_tuple pt fO,SeqAt.RcAt.none_tuple pt fO,SeqAt.RcNeAt.none_tuple pt fO⟩
   | lst h' rr=>cases r';obtain ⟨aj,_,pt,_⟩:=I.list (Bj _ _ _ _ h');exact ⟨SeqAt.EqAt.none_list pt.isList fO,SeqAt.RcAt.none_list pt.isList fO,SeqAt.RcNeAt.none_list pt.isList fO⟩
  | bl a =>
   cases r
   cases h' with
   | jG _ _=>simp [b_] at e9
   | kM _ _=>simp [b_] at e9
   | bE=>cases r';exact ⟨SeqAt.EqAt.bool_none a,SeqAt.RcAt.bool_none a,SeqAt.RcNeAt.bool_none a⟩
   | bl b=>cases r';exact ⟨SeqAt.EqAt.bool_bool a b,SeqAt.RcAt.bool_bool a b,SeqAt.RcNeAt.bool_bool a b⟩
   | int b=>obtain ⟨t,rfl⟩:=r';exact ⟨SeqAt.EqAt.bool_int a b t,SeqAt.RcAt.bool_int a b t,SeqAt.RcNeAt.bool_int a b t⟩
   | tup h' rr=>cases r';obtain ⟨aj,_,pt,_⟩:=I.tuple h';exact ⟨SeqAt.EqAt.bool_tuple a pt fO,SeqAt.RcAt.bool_tuple a pt fO,SeqAt.RcNeAt.bool_tuple a pt fO⟩
   | lst h' rr=>cases r';obtain ⟨aj,_,pt,_⟩:=I.list (Bj _ _ _ _ h');exact ⟨SeqAt.EqAt.bool_list a pt.isList fO,SeqAt.RcAt.bool_list a pt.isList fO,SeqAt.RcNeAt.bool_list a pt.isList fO⟩
  | int a =>
   obtain ⟨t',rfl⟩:=r
   cases h' with
   | jG _ _=>simp [b_] at e9
   | kM _ _=>simp [b_] at e9
   | bE=>cases r';exact ⟨SeqAt.EqAt.int_none a t',SeqAt.RcAt.int_none a t',SeqAt.RcNeAt.int_none a t'⟩
   | bl b=>cases r';exact ⟨SeqAt.EqAt.int_bool a t' b,SeqAt.RcAt.int_bool a t' b,SeqAt.RcNeAt.int_bool a t' b⟩
   | int b=>obtain ⟨t,rfl⟩:=r';exact ⟨SeqAt.EqAt.int_int a t' b t,SeqAt.RcAt.int_int a t' b t,SeqAt.RcNeAt.int_int a t' b t⟩
   | tup h' rr=>cases r';obtain ⟨aj,_,pt,_⟩:=I.tuple h';exact ⟨SeqAt.EqAt.int_tuple a t' pt fO,SeqAt.RcAt.int_tuple a t' pt fO,SeqAt.RcNeAt.int_tuple a t' pt fO⟩
   | lst h' rr=>cases r';obtain ⟨aj,_,pt,_⟩:=I.list (Bj _ _ _ _ h');exact ⟨SeqAt.EqAt.int_list a t' pt.isList fO,SeqAt.RcAt.int_list a t' pt.isList fO,SeqAt.RcNeAt.int_list a t' pt.isList fO⟩
  | @tup _ p xs ds h rs =>
   cases r
   obtain ⟨aj,rv,pt,_⟩:=I.tuple h
   have pt:s.heap.IsTuple p aj.toArray:=pt
   cases h' with
   | jG _ _=>simp [b_] at e9
   | kM _ _=>simp [b_] at e9
   | bE=>cases r';exact ⟨SeqAt.EqAt.tuple_none pt fO,SeqAt.RcAt.tuple_none pt fO,SeqAt.RcNeAt.tuple_none pt fO⟩
   | bl b=>cases r';exact ⟨SeqAt.EqAt.tuple_bool b pt fO,SeqAt.RcAt.tuple_bool b pt fO,SeqAt.RcNeAt.tuple_bool b pt fO⟩
   | int b=>obtain ⟨t,rfl⟩:=r';exact ⟨SeqAt.EqAt.tuple_int b t pt fO,SeqAt.RcAt.tuple_int b t pt fO,SeqAt.RcNeAt.tuple_int b t pt fO⟩
   | lst h' rr=>cases r';obtain ⟨its',_,pl,_⟩:=I.list (Bj _ _ _ _ h');exact ⟨SeqAt.EqAt.tuple_list pt pl.isList fO,SeqAt.RcAt.tuple_list pt pl.isList fO,SeqAt.RcNeAt.tuple_list pt pl.isList fO⟩
   | @tup _ p' Ej kl h' yn =>
    cases r'
    obtain ⟨m,hm,Mp⟩:=fA ho
    obtain rfl:n = m:=by omega
    obtain ⟨m,hm,tf⟩:=fA e9
    obtain rfl:n = m:=by omega
    obtain ⟨its',Ba,Q7,_⟩:=I.tuple h'
    have Q7:s.heap.IsTuple p' its'.toArray:=Q7
    have key:=sub rs yn Mp tf rv Ba
    have l1:ds.length = aj.toArray.size:=by rw [List.size_toArray,<- rs.length,rv.length]
    have l2:kl.length = its'.toArray.size:=by rw [List.size_toArray,<- yn.length,Ba.length]
    have rc:SeqAt.RcAt A s (.ref p) (.ref p') (gO (.tup ds) (.tup kl)):=by
     have:=SeqAt.RcAt.tuples pt Q7 fO key
     rw [<- l1,<- l2,ki] at this;exact this
    refine ⟨?_,rc,?_⟩
    ·by_cases hp:p = p'
     ·subst hp
      rw [BS I hN Bj (n + 1) (Rep.tup h rs) (Rep.tup h' yn) ho e9]
      exact SeqAt.EqAt.same _
     ·exact SeqAt.EqAt.of_refs hp rc
    ·have:=SeqAt.RcNeAt.tuples pt Q7 fO key
     rw [<- l1,<- l2,ki] at this;exact this
  | @lst _ p xs f ds h rs =>
   cases r
   obtain ⟨aj,rv,pl,_⟩:=I.list (hN _ _ _ _ h)
   have pl:=pl.isList
   cases h' with
   | jG _ _=>simp [b_] at e9
   | kM _ _=>simp [b_] at e9
   | bE=>cases r';exact ⟨SeqAt.EqAt.list_none pl fO,SeqAt.RcAt.list_none pl fO,SeqAt.RcNeAt.list_none pl fO⟩
   | bl b=>cases r';exact ⟨SeqAt.EqAt.list_bool b pl fO,SeqAt.RcAt.list_bool b pl fO,SeqAt.RcNeAt.list_bool b pl fO⟩
   | int b=>obtain ⟨t,rfl⟩:=r';exact ⟨SeqAt.EqAt.list_int b t pl fO,SeqAt.RcAt.list_int b t pl fO,SeqAt.RcNeAt.list_int b t pl fO⟩
   | tup h' rr=>cases r';obtain ⟨its',_,pt,_⟩:=I.tuple h';exact ⟨SeqAt.EqAt.list_tuple pl pt fO,SeqAt.RcAt.list_tuple pl pt fO,SeqAt.RcNeAt.list_tuple pl pt fO⟩
   | @lst _ p' Ej f' kl h' yn =>
    cases r'
    obtain ⟨m,hm,Mp⟩:=fB ho
    obtain rfl:n = m:=by omega
    obtain ⟨m,hm,tf⟩:=fB e9
    obtain rfl:n = m:=by omega
    obtain ⟨its',Ba,Hx,_⟩:=I.list (Bj _ _ _ _ h')
    have Hx:=Hx.isList
    have key:=sub rs yn Mp tf rv Ba
    have l1:ds.length = aj.toArray.size:=by rw [List.size_toArray,<- rs.length,rv.length]
    have l2:kl.length = its'.toArray.size:=by rw [List.size_toArray,<- yn.length,Ba.length]
    have two:SeqAt.RcAt A s (.ref p) (.ref p') (gO (.lst f ds) (.lst f' kl)) /\ SeqAt.RcNeAt A s (.ref p) (.ref p') (!gO (.lst f ds) (.lst f' kl)):=by
     show SeqAt.RcAt A s (.ref p) (.ref p') (dy ds kl) /\ SeqAt.RcNeAt A s (.ref p) (.ref p') (!dy ds kl)
     rw [<- ki]
     by_cases hl:ds.length = kl.length
     ·have e1:(ds.length == kl.length) = true:=by simp [hl]
      rw [e1,Bool.and_true,<- hl,Nat.min_self]
      have hz:aj.toArray.size = its'.toArray.size:=by rw [<- l1,<- l2,hl]
      refine ⟨?_,?_⟩
      ·have:=SeqAt.RcAt.lists pl Hx hz fO key
       rw [<- l1] at this;exact this
      ·have:=SeqAt.RcNeAt.lists pl Hx hz fO key
       rw [<- l1] at this;exact this
     ·have e1:(ds.length == kl.length) = false:=by simp [hl]
      rw [e1,Bool.and_false]
      have hz:(aj.toArray.size != its'.toArray.size) = true:=by rw [<- l1,<- l2];simp [hl]
      exact ⟨SeqAt.RcAt.lists_lengths pl Hx hz fO,SeqAt.RcNeAt.lists_lengths pl Hx hz fO⟩
    refine ⟨?_,two.1,two.2⟩
    by_cases hp:p = p'
    ·subst hp
     rw [BS I hN Bj (n + 1) (Rep.lst h rs) (Rep.lst h' yn) ho e9]
     exact SeqAt.EqAt.same _
    ·exact SeqAt.EqAt.of_refs hp two.1
  | jG _ _=>simp [b_] at ho
  | kM _ _=>simp [b_] at ho
end
end DI
end
section
namespace DI
open PySem PySem.Spec PyProof.Rows L2
structure Px where
 pe:Nat -> Scope -> List Str -> Expr -> Option (List Expr)
 pi:Nat -> Scope -> List Str -> Expr -> Option (List Expr)
 pm:Nat -> Scope -> List Str -> Stmt -> Option (Expr × List Expr)
structure Sx where
 sc:Scope
 N:List Str
 fn:Nat -> Option Str
 bl:List Str
 cs:List (Str × GK)
 px:Px
noncomputable def NX:Ha -> Operator
 | .add=>.Add | .sub=>.Sub | .mul=>.Mult | .fdiv=>.FloorDiv | .mod=>.Mod | .pow=>.Pow | .shl=>.LShift | .shr=>.RShift | .band=>.BitAnd
noncomputable def UL:Bn -> CmpOp
 | .eq=>.Eq | .ne=>.NotEq | .lt=>.Lt | .le=>.LtE | .gt=>.Gt | .ge=>.GtE | .Oq=>.Is | .Cw=>.IsNot | .Bd=>.In
noncomputable def tyName:Ty -> String
 | .int=>"int" | .bool=>"bool" | .list=>"list" | .tuple=>"tuple"
noncomputable def ui:Bf -> String
 | .len=>"len" | .abs=>"abs" | .C0=>"int" | .list1=>"list" | .tuple1=>"tuple" | .kU=>"sum" | .all1=>"all" | .ig=>"sorted"
noncomputable def Ir (sc:Scope) (x:Str):Bool:=decide (sc.names.lookup x = some .local) || decide (sc.names.lookup x = some .cell) || decide (sc.names.lookup x = some .free)
noncomputable def iV (sc:Scope) (x:Str):Bool:=decide (sc.names.lookup x = some .globalImplicit)
noncomputable def oH (x:Str):Bool:=!(x == ("__debug__" : Str)) && !(x == ("__classdict__" : Str)) && decide (x ≠ ("__name__" : Str))
noncomputable def i8:Expr -> Bool
 | .Set _ _ _=>false
 | _=>true
noncomputable def vj (sc outer:Scope):Scope :=
 { sc with names:=sc.names.map fun (n,k)=>if (k == .free && outer.kind == .function && outer.names.lookup n == some .cell) then (n,.cell) else (n,k) }
noncomputable def bM:Expr -> List Str
 | .Name x _=>[x]
 | .Tuple es _ _=>es.filterMap fun e=>match e with | .Name x _=>some x | _=>none
 | _=>[]
noncomputable def gR (S:Sx) (caps:List Nat):List Str:=caps.filterMap fun i=>S.N[i]?
noncomputable def Sx.inner (S:Sx) (target:Expr) (caps:List Nat) (sc:Scope):Sx:=⟨vj sc S.sc,bM target ++ gR S caps,S.fn,S.bl,S.cs,S.px⟩
noncomputable def ip:Expr -> Bool
 | .Tuple _ _ _=>true
 | _=>false
noncomputable def isNm:Expr -> Bool
 | .Name _ _=>true
 | _=>false
noncomputable def fu:Expr -> Bool
 | .Call ..=>true
 | .BinOp ..=>true
 | .Subscript ..=>true
 | .Compare ..=>true
 | .Dict ..=>true
 | _=>false
noncomputable def Q_:Expr -> Bool
 | .Call ..=>true
 | .Name ..=>true
 | _=>false
theorem av {a b:Bool} (h:(a && b) = true):a = true /\ b = true:=by
 cases a <;> cases b <;> first | exact ⟨rfl,rfl⟩ | cases h
noncomputable def aR {α:Type} (o:Option α) (f:α -> Bool):Bool:=match o with
 | some a=>f a
 | none=>false
theorem aS {α:Type} {o:Option α} {f:α -> Bool} (h:aR o f = true):∃ a,o = some a /\ f a = true:=by
 cases o with
 | some a=>exact ⟨a,rfl,h⟩
 | none=>cases h
noncomputable def vC:Expr -> Option Const
 | .Constant c _ _=>some c
 | _=>none
theorem Bv {e:Expr} {c:Const} (h:vC e = some c):∃ j p,e = .Constant c j p:=by
 cases e <;> first | (cases h;done) | (cases h;exact ⟨_,_,rfl⟩)
noncomputable def CV:Const -> Bool
 | .none=>true
 | _=>false
theorem Aq {c:Const} (h:CV c = true):c = .none:=by cases c <;> first | rfl | cases h
noncomputable def HI (b:Bool):Const -> Bool
 | .bool c=>decide (b = c)
 | _=>false
theorem CY {b:Bool} {c:Const} (h:HI b c = true):c = .bool b:=by cases c <;> first | (cases h;done) | rw [of_decide_eq_true h]
noncomputable def CW (b:Int):Const -> Bool
 | .int c=>decide (b = c)
 | _=>false
theorem Ar {b:Int} {c:Const} (h:CW b c = true):c = .int b:=by cases c <;> first | (cases h;done) | rw [of_decide_eq_true h]
noncomputable def Km (b:Str):Const -> Bool
 | _=>false
theorem Mh {b:Str} {c:Const} (h:Km b c = true):c = .str b:=by cases c <;> first | (cases h;done) | rw [of_decide_eq_true h]
noncomputable def En:Expr -> Option Str
 | .Name x _=>some x
 | _=>none
theorem lV {e:Expr} {x:Str} (h:En e = some x):∃ p,e = .Name x p:=by
 cases e <;> first | (cases h;done) | (cases h;exact ⟨_,rfl⟩)
noncomputable def MT:Expr -> Option (Expr × Operator × Expr)
 | .BinOp l o r _=>some (l,o,r)
 | _=>none
theorem Eu {e l r:Expr} {o:Operator} (h:MT e = some (l,o,r)):∃ p,e = .BinOp l o r p:=by
 cases e <;> first | (cases h;done) | (cases h;exact ⟨_,rfl⟩)
noncomputable def Sb:Expr -> Option (UnaryOp × Expr)
 | .UnaryOp o e _=>some (o,e)
 | _=>none
theorem Bs {e x:Expr} {o:UnaryOp} (h:Sb e = some (o,x)):∃ p,e = .UnaryOp o x p:=by
 cases e <;> first | (cases h;done) | (cases h;exact ⟨_,rfl⟩)
noncomputable def vBool:Expr -> Option (BoolOp × List Expr)
 | .BoolOp o vs _=>some (o,vs)
 | _=>none
theorem uL {e:Expr} {o:BoolOp} {vs:List Expr} (h:vBool e = some (o,vs)):∃ p,e = .BoolOp o vs p:=by
 cases e <;> first | (cases h;done) | (cases h;exact ⟨_,rfl⟩)
noncomputable def vIf:Expr -> Option (Expr × Expr × Expr)
 | .IfExp t x y _=>some (t,x,y)
 | _=>none
theorem Iv {e t x y:Expr} (h:vIf e = some (t,x,y)):∃ p,e = .IfExp t x y p:=by
 cases e <;> first | (cases h;done) | (cases h;exact ⟨_,rfl⟩)
noncomputable def one {α:Type}:List α -> Option α
 | []=>none
 | x :: xs=>match xs with
  | []=>some x
  | _ :: _=>none
theorem cB {α:Type} {l:List α} {x:α} (h:one l = some x):l = [x]:=by
 cases l with
 | nil=>cases h
 | cons y ys=>cases ys with
  | nil=>cases h;rfl
  | cons _ _=>cases h
noncomputable def two {α:Type}:List α -> Option (α × α)
 | []=>none
 | x :: xs=>(one xs).map fun y=>(x,y)
theorem n9 {α:Type} {l:List α} {x y:α} (h:two l = some (x,y)):l = [x,y]:=by
 cases l with
 | nil=>cases h
 | cons z zs=>cases zs with
  | nil=>cases h
  | cons w ws=>cases ws with
   | nil=>cases h;rfl
   | cons _ _=>cases h
noncomputable def Sf {α:Type}:List α -> Option (α × List α)
 | []=>none
 | x :: xs=>some (x,xs)
theorem Bw {α:Type} {l xs:List α} {x:α} (h:Sf l = some (x,xs)):l = x :: xs:=by
 cases l with
 | nil=>cases h
 | cons y ys=>cases h;rfl
noncomputable def zO:Expr -> Option (Expr × List CmpOp × List Expr)
 | .Compare l os rs _=>some (l,os,rs)
 | _=>none
theorem r6 {e l:Expr} {os:List CmpOp} {rs:List Expr} (h:zO e = some (l,os,rs)):∃ p,e = .Compare l os rs p:=by
 cases e <;> first | (cases h;done) | (cases h;exact ⟨_,rfl⟩)
noncomputable def wQ:Expr -> Option (Expr × List Expr × List Keyword)
 | .Call f as ks _=>some (f,as,ks)
 | _=>none
theorem zP {e f:Expr} {as:List Expr} {ks:List Keyword} (h:wQ e = some (f,as,ks)):∃ p,e = .Call f as ks p:=by
 cases e <;> first | (cases h;done) | (cases h;exact ⟨_,rfl⟩)
noncomputable def ft (e:Expr):Option (Str × List Expr):=match wQ e with
 | some (f,as,ks)=>match ks with
  | []=>match En f with
   | some x=>some (x,as)
   | none=>none
  | _ :: _=>none
 | none=>none
theorem dv {e:Expr} {x:Str} {as:List Expr} (h:ft e = some (x,as)):∃ p pos,e = .Call (.Name x p) as [] pos:=by
 unfold ft at h
 cases hv:wQ e with
 | none=>rw [hv] at h;cases h
 | some z =>
  obtain ⟨f,as',ks⟩:=z
  rw [hv] at h
  obtain ⟨pos,rfl⟩:=zP hv
  cases ks with
  | cons _ _=>cases h
  | nil =>
   cases hn:En f with
   | none=>replace h:(match En f with | some x=>some (x,as') | none=>none) = some (x,as):=h;rw [hn] at h;cases h
   | some y =>
    replace h:(match En f with | some x=>some (x,as') | none=>none) = some (x,as):=h
    rw [hn] at h
    obtain ⟨p,rfl⟩:=lV hn
    cases h
    exact ⟨p,pos,rfl⟩
noncomputable def Bt:Expr -> Option (Expr × Expr)
 | .Subscript a b _=>some (a,b)
 | _=>none
theorem rZ {e a b:Expr} (h:Bt e = some (a,b)):∃ p,e = .Subscript a b p:=by
 cases e <;> first | (cases h;done) | (cases h;exact ⟨_,rfl⟩)
noncomputable def zN:Expr -> Option (List Expr)
 | .Tuple es _ _=>some es
 | _=>none
theorem kR {e:Expr} {es:List Expr} (h:zN e = some es):∃ n p,e = .Tuple es n p:=by
 cases e <;> first | (cases h;done) | (cases h;exact ⟨_,_,rfl⟩)
noncomputable def MP:Expr -> Option (List Expr)
 | .List es _=>some es
 | _=>none
theorem Eo {e:Expr} {es:List Expr} (h:MP e = some es):∃ p,e = .List es p:=by
 cases e <;> first | (cases h;done) | (cases h;exact ⟨_,rfl⟩)
noncomputable def Hc:Expr -> Option (Expr × List Comprehension × Scope)
 | .ListComp e gs sc _=>some (e,gs,sc)
 | _=>none
theorem Bu {e x:Expr} {gs:List Comprehension} {sc:Scope} (h:Hc e = some (x,gs,sc)):∃ p,e = .ListComp x gs sc p:=by
 cases e <;> first | (cases h;done) | (cases h;exact ⟨_,rfl⟩)
theorem oF {a:Bool} (h:(!a) = true):a = false:=by cases a <;> first | rfl | cases h
noncomputable def t4 (S:Sx) (n:Nat) (t:Tg) (caps:List Nat) (target:Expr) (sc:Scope):Bool :=
 decide (sc.kind = .function) && sc.names.all (fun (x,k)=>decide (k ≠ .cell) && (decide (k ≠ .local) || decide (sc.names.lookup x = some .local)) && (decide (k ≠ .free) || decide (S.sc.names.lookup x = some .cell) || decide (S.sc.names.lookup x = some .free))) &&
 decide (n = (bM target).length) && (bM target).all (fun x=>decide (sc.names.lookup x = some .local)) && decide (bM target ++ gR S caps).Nodup &&
 caps.all (fun i=>match S.N[i]? with | some x=>decide (sc.names.lookup x = some .free) | none=>false) &&
 (match t with
  | .nm i=>decide (i = 0) && isNm target
  | .tp is=>aR (zN target) fun es=>decide (is = List.range es.length) && es.all isNm)
mutual
noncomputable def bT (S:Sx):CE -> Expr -> Bool
 | .eE p es,e0=>fu e0 && aR (S.px.pe p S.sc S.bl e0) fun xs=>bL S es xs
 | .bE,e0=>aR (vC e0) fun c=>CV c
 | .bl b,e0=>aR (vC e0) fun c=>HI b c
 | .int i,e0=>aR (vC e0) fun c=>CW i c
 | .v i,e0=>aR (En e0) fun x=>decide (S.N[i]? = some x) && Ir S.sc x && oH x
 | .glo x i,e0=>aR (En e0) fun y=>decide (y = x) && iV S.sc x && decide ((x,GK.i i) ∈ S.cs) && !(x == ("__debug__" : Str))
 | .glt x zs,e0=>aR (En e0) fun y=>decide (y = x) && iV S.sc x && decide ((x,GK.t zs) ∈ S.cs) && !(x == ("__debug__" : Str))
 | .bin op a b,e0=>aR (MT e0) fun z=>decide (z.2.1 = NX op) && bT S a z.1 && bT S b z.2.2
 | .neg a,e0=>aR (Sb e0) fun z=>decide (z.1 = .USub) && bT S a z.2
 | .not a,e0=>aR (Sb e0) fun z=>decide (z.1 = .Not) && bT S a z.2
 | .and es,e0=>aR (vBool e0) fun z=>decide (z.1 = .And) && bL S es z.2
 | .or es,e0=>aR (vBool e0) fun z=>decide (z.1 = .Or) && bL S es z.2
 | .ite c a b,e0=>aR (vIf e0) fun z=>bT S c z.1 && bT S a z.2.1 && bT S b z.2.2
 | .cmp op a b,e0=>aR (zO e0) fun z=>decide (z.2.1 = [UL op]) && bT S a z.1 && aR (one z.2.2) fun r=>bT S b r && i8 r
 | .pY a t,e0=>aR (ft e0) fun z=>decide (z.1 = ("isinstance" : Str)) && iV S.sc z.1 && decide (z.1 ∈ S.bl) && aR (two z.2) fun y=>bT S a y.1 && aR (En y.2) fun x=>decide (x = (tyName t:Str)) && iV S.sc x && decide (x ∈ S.bl)
 | .call f es,e0=>aR (ft e0) fun z=>decide (S.fn f = some z.1) && iV S.sc z.1 && oH z.1 && aR (Sf z.2) fun y=>bL S es (y.1 :: y.2)
 | .bf f es,e0=>aR (ft e0) fun z=>decide (z.1 = (ui f:Str)) && iV S.sc z.1 && decide (z.1 ∈ S.bl) && aR (Sf z.2) fun y=>bL S es (y.1 :: y.2)
 | .ml a,e0=>aR (ft e0) fun z=>decide (z.1 = ("len" : Str)) && iV S.sc z.1 && decide (z.1 ∈ S.bl) && aR (one z.2) fun y=>aR (ft y) fun w=>decide (w.1 = ("set" : Str)) && iV S.sc w.1 && decide (w.1 ∈ S.bl) && aR (one w.2) fun u=>bT S a u
 | .ix a b,e0=>aR (Bt e0) fun z=>bT S a z.1 && bT S b z.2
 | .tup es,e0=>aR (zN e0) fun xs=>bL S es xs && decide (es.length <= 1000)
 | .lst es,e0=>aR (MP e0) fun xs=>bL S es xs && decide (es.length <= 1000)
 | .comp n t caps ik es a_ elt,e0=>aR (Hc e0) fun z=>aR (one z.2.1) fun g=>decide (g.is_async = 0) && t4 S n t caps g.target z.2.2 && i8 g.iter && decide (a_.length <= 1) && bL (S.inner g.target caps z.2.2) a_ g.ifs && bT (S.inner g.target caps z.2.2) elt z.1 &&
     (match ik with
      | .mP=>aR (ft g.iter) fun w=>decide (w.1 = ("range" : Str)) && iV S.sc w.1 && decide (w.1 ∈ S.bl) && aR (one w.2) fun y=>bL S es [y]
      | .seq=>bL S es [g.iter]
      | .eE p=>Q_ g.iter && (decide (1100 <= p) || ip g.target) && aR (S.px.pi p S.sc S.bl g.iter) fun xs=>bL S es xs)
noncomputable def bL (S:Sx):List CE -> List Expr -> Bool
 | [],es=>match es with
  | []=>true
  | _ :: _=>false
 | c :: cs,es=>match es with
  | []=>false
  | e :: es=>bT S c e && bL S cs es
end
noncomputable def Hl (K:PySem.W.Frag) (n:Nat) (m:List D -> O D):Sp:=fun vs H Q _=>∃ (F:Addr -> Prop) (ds:List D) (r:D),vs.length = n /\ ag (aG K H) (nd K F (fun _=>False) (fun _=>none) H) [] 0 vs ds /\ m ds = ok r /\
 ∀ v H',ao H H' -> (∃ τt:Addr -> Option aH,(∀ p q,τt p = some q -> H p = none) /\ Rep (aG K H') (nd K (fun p=>F p \/ H p = none) (fun _=>False) τt H') [] v r) -> Q v H'
structure L1 (X:Cx) (k:Nat) (x:Str) (m:List D -> O D):Prop where
 ex:∃ (f:Addr) (fd:FuncData) (ps:List Str),kC X.prog X.w X.K X.mg X.base DZ k f fd ps (Hl X.K ps.length m) /\ X.mg x = some (.ref f) /\ PySem.W.keepIn X.K (.ref f) = true /\ Binds X.K fd ps [] /\ ∀ ds r,m ds = ok r -> ds.length = ps.length
noncomputable def kinds:List String:=["NoneType","bool","int","str","list","tuple","dict"]
noncomputable def Oo:Ty -> String -> Bool
 | .int,s=>s == "int" || s == "bool"
 | t,s=>s == tyName t
theorem ao.upd {H:Hp} {p:Addr} {o:HO} (h:H p = none):ao H (upd H p o):=fun b u e=>by
 rw [aK (by rintro rfl;rw [h] at e;cases e)];exact e
theorem CD {i j:Int} (h:i9 i j = true):IntMulOk i j:=by
 unfold i9 at h
 simp only [Bool.or_eq_true,Bool.and_eq_true,decide_eq_true_eq] at h
 rcases h with (h | h) | ⟨h1,h2⟩
 ·exact .of_left (intBits_le h)
 ·exact .of_right (intBits_le h)
 ·have b1:Builtin.Int.intBits i <= 9000:=intBits_le h1
  have b2:Builtin.Int.intBits j <= 9000:=intBits_le h2
  unfold IntMulOk
  have hb:Builtin.Int.intTooBig ((Builtin.Int.intBits i:Int) + (Builtin.Int.intBits j:Int)) = false:=by
   unfold Builtin.Int.intTooBig
   have:(bitsLine:Int) = 134217728:=by decide
   exact decide_eq_false (by omega)
  rw [hb];simp
section
variable {K:PySem.W.Frag} {R:Addr -> Prop} {τ τt:Addr -> Option aH} {fv:List Nat} {H H':Hp}
theorem FC {X:Cx}:j_ X (binaryOp .Add) (fun x y H Q=>∃ a b xs ys,x = .ref a /\ y = .ref b /\ aG X.K H a xs /\ aG X.K H b ys /\ xs.length + ys.length <= sizeLine /\ (xs = [] -> Q (.ref b) H) /\ (ys = [] -> Q (.ref a) H) /\ ∀ p,H p = none -> Q (.ref p) (upd H p (.tup (xs ++ ys)))):=by
 intro pins s σ H x y v u Q I rx ry h
 obtain ⟨a,b,xs,ys,rfl,rfl,ha,hb,hz,q0,q1,q2⟩:=h
 cases rx
 cases ry
 by_cases hx:xs = []
 ·subst hx
  obtain ⟨aj,r1,p1,_⟩:=I.tuple ha
  obtain ⟨m6,r2,p2,_⟩:=I.tuple hb
  cases r1
  obtain ⟨⟨cls,dd,data,sl⟩,ho,hc,n,hd⟩:=id p1
  obtain ⟨⟨GS,zm,data2,wK⟩,tf,hc2,n2,hd2⟩:=id p2
  simp only at hc hd hc2 hd2
  subst hc hd hc2 hd2
  exact concat_meets ⟨_,ho,rfl⟩ ⟨_,tf,rfl⟩ noFill_tuple_add seq_tuple_add PySem.F.slot_tuple_add PySem.F.entry_tuple_add (PySem.F.args_tuple_add_2 _ _)
   (tuple_addW0 a b [].toArray m6.toArray n n2 dd zm sl wK rfl) ⟨ho,tf,⟨.ref b,H,I,rfl,q0 rfl⟩⟩
 ·exact FA pins s σ H (.ref a) (.ref b) _ _ Q I rfl rfl ⟨a,b,xs,ys,rfl,rfl,ha,hb,hx,hz,q1,fun _=>q2⟩
theorem nd.o9 {A:Addr -> Prop} (k k':aH) (p:Addr) (xs:Nd) (f:Fl) (h:nd K R A (fun _=>none) H k p xs f):nd K R A (fun _=>none) H k' p xs f:=by
 cases f with
 | ow=>exact nomatch h.2
 | fz=>exact h
 | al=>exact h
 | sc=>exact h
theorem N4 {X:Cx} {F:Addr -> Prop} {ρ:aC} {σ:St} (Si:SI X F R τ ρ σ H) (fr:∀ p q,τt p = some q -> H p = none) (k k':aH) (p:Addr) (xs:Nd) (f:Fl) (h:nd K R (kN (gP X F) τ fv) τt H' k p xs f) :
  nd K R (kN (gP X F) τ fv) (fun _=>none) H' k' p xs (bo f):=by
 cases f with
 | ow=>exact ⟨h.1,.inr (Si.same.free (fr p _ h.2)),fun c i e=>absurd (fr p _ h.2) (Si.th p _ e)⟩
 | fz=>exact h
 | al=>exact h
 | sc=>exact h
theorem ag.fw {X:Cx} {F:Addr -> Prop} {ρ:aC} {σ:St} {k:aH} {n:Nat} {xs:List V} {ds:List D} (h:ag (aG K H') (nd K R (kN (gP X F) τ fv) τt H') k n xs ds) (Si:SI X F R τ ρ σ H) (fr:∀ p q,τt p = some q -> H p = none) {k':aH} {n':Nat} :
  ag (aG K H') (nd K R (kN (gP X F) τ fv) (fun _=>none) H') k' n' xs (ai bo ds):=ag.ja (fun _ _ h=>h) (N4 Si fr) h _ _
theorem Rep.fw {X:Cx} {F:Addr -> Prop} {ρ:aC} {σ:St} {k:aH} {v:V} {d:D} (h:Rep (aG K H') (nd K R (kN (gP X F) τ fv) τt H') k v d) (Si:SI X F R τ ρ σ H) (fr:∀ p q,τt p = some q -> H p = none) {k':aH} :
  Rep (aG K H') (nd K R (kN (gP X F) τ fv) (fun _=>none) H') k' v (aD bo d):=Rep.ja (fun _ _ h=>h) (N4 Si fr) h _
theorem ag.rep {A:Addr -> Prop} {xs:List V} {ds:List D} (h:ag (aG K H) (nd K R A (fun _=>none) H) [] 0 xs (ai bo ds)):∀ n:Nat,ag (aG K H) (nd K R A (fun _=>none) H) [] 0 (List.replicate n xs).flatten (ai bo (List.replicate n ds).flatten)
 | 0=>.nil
 | n + 1=>by
  rw [List.replicate_succ,List.replicate_succ,List.flatten_cons,List.flatten_cons,aw,List.map_append,<- aw,<- aw]
  exact ag.nV nd.o9 h (ag.rep h n)
theorem cc.vx {G:Addr -> Prop} {p:Addr} {xs:List V} {ds:List D} (hp:H p = none) (e:ao H H') (hl:H' p = some (.lst xs)) (r:ag (aG K H') (nd K R (kN G τ fv) (fun _=>none) H') [] 0 xs ds):cc K G R τ fv H H' (.ref p) (.lst .ow ds):=by
 refine ⟨fun q=>if q = p then some [] else none,fun q k hq=>?_,.lst ⟨hl,by simp⟩ (r.imp (fun _ _ h=>h) fun c q xs f h=>?_)⟩
 ·by_cases Be:q = p
  ·subst Be;exact hp
  ·simp [Be] at hq
 ·cases f with
  | ow=>exact nomatch h.2
  | fz=>exact h
  | al=>exact h
  | sc=>exact h
end
theorem FU (K:PySem.W.Frag):∀ t:Ty,∀ s ∈ kinds,PySem.W.kitOne K (.type s) (.type (tyName t)) = some (Oo t s):=by
 intro t s hs
 simp only [kinds,List.mem_cons,List.not_mem_nil,or_false] at hs
 cases t <;> rcases hs with rfl | rfl | rfl | rfl | rfl | rfl | rfl <;> rfl
structure PX (X:Cx) (sc:Scope) (bl:List Str) (k:Nat):Prop where
 sc:X.env.scope = sc
 calm:X.calm = true
 room:iC k X.A
 bl:∀ x ∈ bl,X.mg x = none
theorem PX.gl {X:Cx} {sc:Scope} {bl:List Str} {k:Nat} (L:PX X sc bl k) {x:Str} (h:iV sc x = true):Gl X x:=by
 unfold Gl
 show X.env.scope.names.lookup x = some .globalImplicit
 rw [L.sc];exact of_decide_eq_true h
noncomputable def qM (X:Cx) (F:Addr -> Prop) (Φ:aA):List CE -> List Expr -> Prop
 | [],[]=>True
 | c :: cs,a :: as=>PE X a (tD X F Φ c) /\ (∀ es,starEach (a :: es) X.env = (false,eval a X.env) :: starEach es X.env) /\ nY a /\ qM X F Φ cs as
 | _,_=>False
structure wI (K:PySem.W.Frag) (H2:Hp) (vs:List V) (xs:List D) (H':Hp):Prop where
 n0:∃ R0:Addr -> Prop,ag (aG K H2) (nd K R0 (fun _=>False) (fun _=>none) H2) [] 0 vs (ai aL xs) /\ ∀ p o,R0 p -> H2 p = some o -> H' p = some o
 tp:∀ a ys,aG K H2 a ys -> aG K H' a ys
structure LU (K:PySem.W.Frag) (J:It) (H2:Hp) (vs:List V) (xs items:List D):Prop where
 go:∀ i H' R',wI K H2 vs xs H' -> ag (aG K H') (nd K R' (fun _=>False) (fun _=>none) H') [] 0 vs (ai aL xs) -> i < items.length -> J.go i H'
 wJ:∀ i H' R' x nA,wI K H2 vs xs H' -> ag (aG K H') (nd K R' (fun _=>False) (fun _=>none) H') [] 0 vs (ai aL xs) -> i < items.length -> J.wJ i H' x nA -> ao H' nA /\ ∃ d,items[i]? = some d /\ Rep (aG K nA) (nd K R' (fun _=>False) (fun _=>none) nA) [] x d
 stop:∀ i H' R',wI K H2 vs xs H' -> ag (aG K H') (nd K R' (fun _=>False) (fun _=>none) H') [] 0 vs (ai aL xs) -> items.length <= i -> J.stop i H'
structure G8 (px:Px) (Φ:aA):Prop where
 e:∀ (X:Cx) (sc:Scope) (bl:List Str) (k:Nat),PX X sc bl k -> ∀ (p:Nat) (e:Expr) (args:List Expr),px.pe p sc bl e = some args -> ∀ (F:Addr -> Prop) (cs:List CE),qM X F Φ cs args -> PE X e (tD X F Φ (.eE p cs)) /\ PT X e (ie X F Φ (.eE p cs))
 i:∀ (X:Cx) (sc:Scope) (bl:List Str) (k:Nat),PX X sc bl k -> ∀ (p:Nat) (e:Expr) (args:List Expr),px.pi p sc bl e = some args -> ∀ (F:Addr -> Prop) (cs:List CE) (tg:Expr),(decide (1100 <= p) || ip tg) = true -> qM X F Φ cs args ->
  ∀ (pins:List (Addr × Obj)) (s:Shared) (σ:St) (H:Hp) (R:Addr -> Prop) (τ:Addr -> Option aH) (ρ:aC) (xs:List D) (d:D) (items:List D),Inv X pins σ H s -> SI X F R τ ρ σ H -> cM Φ cs ρ = ok xs -> Φ p xs = ok d -> qc d = ok items -> ∀ Rr:It -> Hp -> Prop,
   (∀ J H2 vs,ao H H2 -> cj X.K (gP X F) R τ (dw cs) H H2 vs xs -> LU X.K J H2 vs xs items -> Rr J H2) ->
   wpAny (model X.prog X.w) X.A (eval e X.env) (fun v s1=>wpAny (model X.prog X.w) X.A (pyIter v) (DX X pins σ tg Rr) X.xe s1) X.xe s
noncomputable def R6 (K:PySem.W.Frag):GK -> Value -> Prop
 | .i i,u=>RelV (.int i) u
 | .t zs,u=>∃ (a:Addr) (o:Obj) (aj:Array Value) (n:Nat),u = .ref a /\ K.lookup a = some o /\ o.cls = .type "tuple" /\ o.data = .seq aj n /\ aj.size <= sizeLine /\ Vals (zs.map V.int) aj.toList
structure Lk (X:Cx) (S:Sx) (k:Nat) (Φ:aA):Prop where
 sc:X.env.scope = S.sc
 N:X.N = S.N
 nd:X.N.Nodup
 calm:X.calm = true
 room:iC k X.A
 bl:∀ x ∈ S.bl,X.mg x = none
 fn:∀ f x,S.fn f = some x -> L1 X k x (Φ f)
 cs:∀ x i,(x,i) ∈ S.cs -> ∃ u,X.mg x = some u /\ R6 X.K i u
 pr:G8 S.px Φ
theorem Lk.pX {X:Cx} {S:Sx} {k:Nat} {Φ:aA} (L:Lk X S k Φ):PX X S.sc S.bl k:=⟨L.sc,L.calm,L.room,L.bl⟩
section
variable {X:Cx} {S:Sx} {k:Nat} {F:Addr -> Prop} {Φ:aA}
theorem Lk.gl (L:Lk X S k Φ) {x:Str} (h:iV S.sc x = true):Gl X x:=by
 unfold Gl
 show X.env.scope.names.lookup x = some .globalImplicit
 rw [L.sc];exact of_decide_eq_true h
theorem Lk.QO (L:Lk X S k Φ) {x:Str} (h:Ir S.sc x = true):LV X.env.scope x:=by
 unfold LV;rw [L.sc]
 unfold Ir at h
 rw [Bool.or_eq_true,Bool.or_eq_true] at h
 rcases h with (h | h) | h
 ·exact .inl (of_decide_eq_true h)
 ·exact .inr (.inl (of_decide_eq_true h))
 ·exact .inr (.inr (of_decide_eq_true h))
theorem tD.intro {c:CE} {σ:St} {H:Hp} {Q:VK} {R:Addr -> Prop} {τ:Addr -> Option aH} {ρ:aC} {d:D} (Si:SI X F R τ ρ σ H) (e:aN Φ c ρ = ok d) (h:∀ v H',ao H H' -> cc X.K (gP X F) R τ (iQ c) H H' v d -> Q v H'):tD X F Φ c σ H Q:=⟨R,τ,ρ,d,Si,e,h⟩
theorem Tz (L:Lk X S k Φ) {i:Nat} {x:Str} {pos:Pos} (h:bT S (.v i) (.Name x pos) = true):PE X (.Name x pos) (tD X F Φ (.v i)):=by
 replace h:=av h
 replace h:=And.intro (av h.1) h.2
 obtain ⟨⟨h1,h2⟩,h3⟩:=h
 unfold oH at h3
 simp only [Bool.and_eq_true,Bool.not_eq_true'] at h3
 refine PE.imp (xg (i:=i) (by rw [L.N];exact of_decide_eq_true h1) (L.QO h2) h3.1.1 h3.1.2) fun σ H Q hq=>?_
 obtain ⟨R,τ,ρ,d,Si,ev,hq⟩:=hq
 obtain ⟨d',hd,rfl⟩:=BP ev
 ·obtain ⟨v,hv,hr⟩:=Si.rep i d' hd
  refine ⟨v,hv,hq v H (ao.refl H) ⟨fun _=>none,fun _ _ h=>by simp at h,?_⟩⟩
  refine Rep.map (q:=[i]) (q':=[]) (fun _ _ h=>h) (fun c p xs f h=>?_) hr [] rfl
  cases f with
  | ow =>
   refine ⟨h.1,.inr (Si.t0 p _ h.2),fun c' j e=>?_⟩
   rw [h.2] at e
   have e':=Option.some.inj e
   have:=congrArg List.getLast? e'
   simp at this
   show _ ∈ [i]
   simp [this]
  | fz=>exact h
  | al=>exact h.2.elim
  | sc=>exact h
theorem iw {op:Ha} {x y d:D} (OH:op ≠ .add /\ op ≠ .mul) (h:cQ op x y = ok d):∃ i j,x = .int i /\ y = .int j:=by
 cases x with
 | int i=>cases y with
  | int j=>exact ⟨i,j,rfl,rfl⟩
  | _=>cases op <;> first | (cases h;done) | (simp at OH;done)
 | _=>cases op <;> first | (cases h;done) | (simp at OH;done)
theorem IZ (L:Lk X S k Φ) {op:Ha} {a b:CE} {l r:Expr} {pos:Pos} (ha:PE X l (tD X F Φ a)) (hb:PE X r (tD X F Φ b)):PE X (.BinOp l (NX op) r pos) (tD X F Φ (.bin op a b)):=by
 have two:∀ {σ:St} {H:Hp} {Q:VK} {r2:R2},(∃ R τ ρ d,SI X F R τ ρ σ H /\ aN Φ (.bin op a b) ρ = ok d /\ (∀ v H',ao H H' -> cc X.K (gP X F) R τ (iQ (.bin op a b)) H H' v d -> Q v H') /\
   ∀ x y v u H',cQ op x y = ok d -> ao H H' -> cc X.K (gP X F) R τ (iQ (.bin op a b)) H H' v x -> cc X.K (gP X F) R τ (iQ (.bin op a b)) H H' u y -> r2 v u H' Q) -> EE r2 (tD X F Φ a) (tD X F Φ b) σ H Q:=by
  rintro σ H Q r2 ⟨R,τ,ρ,d,Si,ev,hq,hr⟩
  obtain ⟨x,ex,ev⟩:=ah ev
  obtain ⟨y,ey,ev⟩:=ah ev
  refine tD.intro Si ex fun v H1 e1 r1=>tD.intro (Si.go e1) ey fun u H2 e2 r2=>?_
  exact hr x y v u H2 ev (e1.trans e2) ((r1.go e2).mono fun i hi=>List.mem_append_left _ hi) ((r2.old e1).mono fun i hi=>List.mem_append_right _ hi)
 have xt:∀ {C:Int -> Int -> Prop} {g:Int -> Int -> Int},j_ X (binaryOp (NX op)) (rI C fun i j=>.int (g i j)) -> (∀ x y d,cQ op x y = ok d -> ∃ i j,x = .int i /\ y = .int j /\ C i j /\ d = .int (g i j)) ->
   PE X (.BinOp l (NX op) r pos) (tD X F Φ (.bin op a b)):=by
  intro C g ho hd
  refine PE.imp (Cf ho ha hb) fun σ H Q hq=>?_
  obtain ⟨R,τ,ρ,d,Si,ev,hq⟩:=hq
  refine two ⟨R,τ,ρ,d,Si,ev,hq,fun x y v u H' eb e rv ru=>?_⟩
  obtain ⟨i,j,rfl,rfl,c,rfl⟩:=hd x y d eb
  exact ⟨i,j,rv.isInt,ru.isInt,c,hq _ H' e .int⟩
 cases op with
 | sub =>
  refine xt (C:=fun _ _=>True) (g:=fun i j=>i - j) (HB fun _ _ _ _ _ _ _ _ q=>sub_int q) fun x y d h=>?_
  obtain ⟨i,j,rfl,rfl⟩:=iw (by simp) h
  cases h;exact ⟨_,_,rfl,rfl,trivial,rfl⟩
 | mod =>
  refine xt (C:=fun _ j=>j ≠ 0) (g:=fun i j=>i.fmod j) Fz fun x y d h=>?_
  obtain ⟨i,j,rfl,rfl⟩:=iw (by simp) h
  obtain ⟨h1,h⟩:=qp h
  subst h;exact ⟨_,_,rfl,rfl,h1,rfl⟩
 | fdiv =>
  refine xt (C:=fun _ j=>rM j = true) (g:=fun i j=>i.fdiv j) (HB fun i j _ _ _ _ _ hc q=>?_) fun x y d h=>?_
  ·unfold rM at hc
   rw [Bool.and_eq_true] at hc
   have h1:j ≠ 0:=of_decide_eq_true hc.1
   have h2:j.natAbs < big:=of_decide_eq_true hc.2
   exact floordiv_int h1 q (.inl (PyProof.noPylong_of_log2 ((Nat.log2_lt (by omega)).mpr h2)))
  ·obtain ⟨i,j,rfl,rfl⟩:=iw (by simp) h
   obtain ⟨h1,h⟩:=qp h
   subst h;exact ⟨_,_,rfl,rfl,h1,rfl⟩
 | pow =>
  refine xt (C:=fun i j=>k_ i j = true) (g:=fun i j=>i ^ j.toNat) (HB fun i j _ _ _ _ _ hc q=>?_) fun x y d h=>?_
  ·unfold k_ at hc
   simp only [Bool.and_eq_true,decide_eq_true_eq] at hc
   exact pow_int_small hc.1.1 hc.1.2 hc.2 q
  ·obtain ⟨i,j,rfl,rfl⟩:=iw (by simp) h
   obtain ⟨h1,h⟩:=qp h
   subst h;exact ⟨_,_,rfl,rfl,h1,rfl⟩
 | shl =>
  refine xt (C:=fun i j=>k_ i j = true) (g:=fun i j=>i * 2 ^ j.toNat) (HB fun i j _ _ _ _ _ hc q=>?_) fun x y d h=>?_
  ·unfold k_ at hc
   simp only [Bool.and_eq_true,decide_eq_true_eq] at hc
   exact lshift_int_small hc.1.1 hc.1.2 hc.2 q
  ·obtain ⟨i,j,rfl,rfl⟩:=iw (by simp) h
   obtain ⟨h1,h⟩:=qp h
   subst h;exact ⟨_,_,rfl,rfl,h1,rfl⟩
 | shr =>
  refine xt (C:=fun _ j=>0 <= j) (g:=fun i j=>i / 2 ^ j.toNat) JF fun x y d h=>?_
  obtain ⟨i,j,rfl,rfl⟩:=iw (by simp) h
  obtain ⟨h1,h⟩:=qp h
  subst h;exact ⟨_,_,rfl,rfl,h1,rfl⟩
 | band =>
  refine xt (C:=fun _ j=>j = 1) (g:=fun i _=>i % 2) (HB fun i j _ _ _ _ _ hc q=>by subst hc;exact and_int (by rw [bitAnd_m1];exact q)) fun x y d h=>?_
  obtain ⟨i,j,rfl,rfl⟩:=iw (by simp) h
  obtain ⟨h1,h⟩:=qp h
  subst h;exact ⟨_,_,rfl,rfl,h1,rfl⟩
 | mul =>
  have hi:j_ X (binaryOp .Mult) (rI (fun i j=>i9 i j = true) fun i j=>.int (i * j)):=HB fun i j _ _ _ _ _ hc q=>mul_int q (CD hc)
  refine PE.imp (Cf (hi.or JG) ha hb) fun σ H Q hq=>?_
  obtain ⟨R,τ,ρ,d,Si,ev,hq⟩:=hq
  refine two ⟨R,τ,ρ,d,Si,ev,hq,fun x y v u H' eb e rv ru=>?_⟩
  cases y with
  | int j =>
   cases x with
   | int i =>
    obtain ⟨h1,eb⟩:=qp eb
    subst eb
    exact .inl ⟨i,j,rv.isInt,ru.isInt,h1,hq _ H' e .int⟩
   | lst f a =>
    obtain ⟨hc,eb⟩:=qp eb
    ·subst eb
     obtain ⟨τt,fr,rp⟩:=rv
     cases rp with
     | @lst _ p xs _ _ hn rs =>
      have hz:sizeLine = 16777216:=sizeLine_eq
      have m9:eN = 1000000:=rfl
      refine .inr ⟨p,j,xs,rfl,ru.isInt,hn.lst hc.1,by omega,by omega,by rw [rs.length];omega,fun p' oT=>?_⟩
      have es:ao H' (upd H' p' (.lst (List.replicate j.toNat xs).flatten)):=ao.upd oT
      refine hq _ _ (e.trans es) (cc.vx (e.free oT) (e.trans es) (aM) ?_)
      exact (ag.rep (rs.fw Si fr) j.toNat).imp (fun _ _ h=>aG.same es h) fun _ _ _ _ h=>nd.same es h
   | _=>cases eb
  | _=>cases x <;> cases eb
 | add =>
  refine PE.imp (Cf ((JL.or JK).or FC) ha hb) fun σ H Q hq=>?_
  obtain ⟨R,τ,ρ,d,Si,ev,hq⟩:=hq
  refine two ⟨R,τ,ρ,d,Si,ev,hq,fun x y v u H' eb e rv ru=>?_⟩
  have hz:sizeLine = 16777216:=sizeLine_eq
  have m9:eN = 1000000:=rfl
  cases x with
  | int i =>
   cases y with
   | int j =>
    cases eb
    exact .inl (.inl ⟨i,j,rv.isInt,ru.isInt,hq _ H' e .int⟩)
   | _=>cases eb
  | lst f a =>
   cases y with
   | lst g b =>
    obtain ⟨hc,eb⟩:=qp eb
    ·subst eb
     obtain ⟨τt,fr,rp⟩:=rv
     obtain ⟨R9,Mz,TH⟩:=ru
     cases rp with
     | @lst _ p xs _ _ hn rs =>
      cases TH with
      | @lst _ p2 Ip _ _ Gg B1 =>
       refine .inl (.inr ⟨p,p2,xs,Ip,rfl,rfl,hn.lst hc.1,Gg.lst hc.2.1,by rw [rs.length,B1.length];omega,fun p' oT=>?_⟩)
       have es:ao H' (upd H' p' (.lst (xs ++ Ip))):=ao.upd oT
       refine hq _ _ (e.trans es) (cc.vx (e.free oT) (e.trans es) (aM) ?_)
       rw [aw,List.map_append,<- aw,<- aw]
       exact (ag.nV nd.o9 (n:=0) (m:=0) (rs.fw Si fr) (B1.fw Si Mz)).imp (fun _ _ h=>aG.same es h) fun _ _ _ _ h=>nd.same es h
   | _=>cases eb
  | tup a =>
   cases y with
   | tup b =>
    obtain ⟨hc,eb⟩:=qp eb
    subst eb
    obtain ⟨τt,fr,rp⟩:=rv
    obtain ⟨R9,Mz,TH⟩:=ru
    cases rp with
    | @tup _ p xs _ hn rs =>
     cases TH with
     | @tup _ p2 Ip _ Gg B1 =>
      have hl:=rs.length
      have Ax:=B1.length
      refine .inr ⟨p,p2,xs,Ip,rfl,rfl,hn,Gg,by rw [hl,Ax];omega,fun z=>?_,fun z=>?_,fun p' oT=>?_⟩
      ·subst z
       cases rs
       exact hq _ H' e ⟨fun _=>none,fun _ _ h=>by simp at h,.tup Gg (B1.fw Si Mz)⟩
      ·subst z
       cases B1
       refine hq _ H' e ⟨fun _=>none,fun _ _ h=>by simp at h,.tup hn ?_⟩
       rw [List.append_nil]
       exact rs.fw Si fr
      ·have es:ao H' (upd H' p' (.tup (xs ++ Ip))):=ao.upd oT
       refine hq _ _ (e.trans es) ⟨fun _=>none,fun _ _ h=>by simp at h,.tup (aG.of aM) ?_⟩
       rw [aw,List.map_append,<- aw,<- aw]
       exact (ag.nV nd.o9 (n:=0) (m:=0) (rs.fw Si fr) (B1.fw Si Mz)).imp (fun _ _ h=>aG.same es h) fun _ _ _ _ h=>nd.same es h
   | _=>cases eb
  | _=>cases y <;> cases eb
end
end DI
end
section
namespace DI
open PySem PySem.Spec PyProof.Rows L2
section
variable {T T':kO} {N N':iU} {P:Fl -> Bool}
theorem Rep.without (hT:∀ p xs,T p xs -> T' p xs) (hN:∀ k k' p xs f,P f = false -> N k p xs f -> N' k' p xs f) {k:aH} {v:V} {d:D} (h:Rep T N k v d) (e:aT P d = false) (k':aH):Rep T' N' k' v d:=by
 have:=Rep.gen (g:=id) (P:=P) (N':=N') (C:=fun _ _=>True) (I:=fun _ _=>True) hT trivial (fun _ _ e=>e) (fun _ _ _ _ e _=>e) (fun k k' p xs f _ e h=>hN k k' p xs f e h) h (k':=k') trivial e
 rw [eU] at this;exact this
theorem ag.without (hT:∀ p xs,T p xs -> T' p xs) (hN:∀ k k' p xs f,P f = false -> N k p xs f -> N' k' p xs f) {k:aH} {n:Nat} {vs:List V} {ds:List D} (h:ag T N k n vs ds) (e:az P ds = false) (k':aH) (n':Nat):ag T' N' k' n' vs ds:=by
 have:=ag.gen (g:=id) (P:=P) (N':=N') (C:=fun _ _=>True) (I:=fun _ _=>True) hT trivial (fun _ _ e=>e) (fun _ _ _ _ e _=>e) (fun k k' p xs f _ e h=>hN k k' p xs f e h) h (k':=k') (n':=n') trivial trivial e
 rw [eu] at this;exact this
theorem Rep.kP (hT:∀ p xs,T p xs -> T' p xs) (hN:∀ k p xs f,P f = false -> N k p xs f -> N' k p xs f) {k:aH} {v:V} {d:D} (h:Rep T N k v d) (e:aT P d = false):Rep T' N' k v d:=by
 have:=Rep.gen (g:=id) (P:=P) (N':=N') (C:=fun a b=>a = b) (I:=fun a b=>a = b) hT rfl (fun _ _ e=>by rw [e]) (fun _ _ _ _ a b=>by rw [a,b]) (fun k k' p xs f c e h=>by subst c;exact hN k p xs f e h) h rfl e
 rw [eU] at this;exact this
theorem ag.kP (hT:∀ p xs,T p xs -> T' p xs) (hN:∀ k p xs f,P f = false -> N k p xs f -> N' k p xs f) {k:aH} {n:Nat} {vs:List V} {ds:List D} (h:ag T N k n vs ds) (e:az P ds = false):ag T' N' k n vs ds:=by
 have:=ag.gen (g:=id) (P:=P) (N':=N') (C:=fun a b=>a = b) (I:=fun a b=>a = b) hT rfl (fun _ _ e=>by rw [e]) (fun _ _ _ _ a b=>by rw [a,b]) (fun k k' p xs f c e h=>by subst c;exact hN k p xs f e h) h rfl rfl e
 rw [eu] at this;exact this
end
theorem Rep.sX {K:PySem.W.Frag} {R:Addr -> Prop} {H:Hp} {k:aH} {v:V} {d:D} (h:Rep (aG K H) (nd K R (fun _=>False) (fun _=>none) H) k v d) {k':aH}:Rep (aG K H) (nd K R (fun _=>False) (fun _=>none) H) k' v d:=by
 have:=Rep.ja (g:=id) (fun _ _ h=>h) nd.o9 h k'
 rw [eU] at this;exact this
noncomputable def jZ (X:Cx) (R:Addr -> Prop) (τ:Addr -> Option aH) (H:Hp) (v:V) (d:D):Prop :=
 ∃ τt:Addr -> Option aH,(∀ p q,τt p = some q -> τ p = none /\ ¬ R p /\ X.H₀ p = none /\ H p ≠ none) /\ Rep (aG X.K H) (nd X.K R (fun _=>False) τt H) [] v d
section
variable {X:Cx} {F R:Addr -> Prop} {τ:Addr -> Option aH} {ρ:aC} {σ:St} {H H':Hp}
theorem SI.set {i:Nat} {v:V} {d:D} (Si:SI X F R τ ρ σ H) (r:jZ X R τ H v d) (hi:i < ρ.length):∃ τ',SI X F R τ' (ρ.set i (some d)) (σ.set i (some v)) H:=by
 obtain ⟨τt,ht,rp⟩:=r
 refine ⟨fun p=>match τt p with | some q=>some (q ++ [i]) | none=>τ p,⟨by simp [Si.len],fun j d' hj=>?_,fun p hp=>?_,Si.rh,Si.rf,fun p q hq=>?_,fun p q hq=>?_,Si.same⟩⟩
 ·by_cases j6:j = i
  ·subst j6
   rw [List.getElem?_set_self hi] at hj
   cases hj
   refine ⟨v,List.getElem?_set_self (by rw [<- Si.len];exact hi),rp.imp (q':=[j]) (fun _ _ h=>h) fun c p xs f h=>?_⟩
   cases f with
   | ow=>rw [List.append_nil] at h;exact ⟨h.1,by simp only [h.2]⟩
   | fz=>exact h
   | al=>exact h
   | sc=>exact h
  ·rw [List.getElem?_set_ne (Ne.symm j6)] at hj
   obtain ⟨w,hw,qX⟩:=Si.rep j d' hj
   refine ⟨w,by rw [List.getElem?_set_ne (Ne.symm j6)];exact hw,qX.imp (fun _ _ h=>h) fun c p xs f h=>?_⟩
   cases f with
   | ow =>
    refine ⟨h.1,?_⟩
    cases q:τt p with
    | none=>simp only [q];exact h.2
    | some k=>have:=(ht p k q).1;rw [h.2] at this;cases this
   | fz=>exact h
   | al=>exact h
   | sc=>exact h
 ·cases q:τt p with
  | none=>simp only [q];exact Si.rt p hp
  | some k=>exact absurd hp (ht p k q).2.1
 ·cases z:τt p with
  | none=>simp only [z] at hq;exact Si.th p q hq
  | some k=>exact (ht p k z).2.2.2
 ·cases z:τt p with
  | none=>simp only [z] at hq;exact Si.t0 p q hq
  | some k=>exact (ht p k z).2.2.1
theorem AA {k:aH} {v:V} {d:D} (h:Rep (aG X.K H) (nd X.K R (fun _=>False) τ H) k v d) (ho:aT fe d = false):jZ X R τ H v d :=
 ⟨fun _=>none,fun _ _ h=>by simp at h,Rep.without (P:=fe) (fun _ _ h=>h) (fun k k' p xs f hf h=>by
  cases f with
  | ow=>cases hf
  | fz=>exact h
  | al=>exact h.2.elim
  | sc=>exact h) h ho _⟩
open Classical in
theorem SI.move {i:Nat} {d:D} (Si:SI X F R τ ρ σ H) (hd:ρ[i]? = some (some d)):∃ v τ',σ[i]? = some (some v) /\ SI X F R τ' (ρ.set i none) σ H /\ jZ X R τ' H v d:=by
 obtain ⟨v,hv,rp⟩:=Si.rep i d hd
 refine ⟨v,fun p=>match τ p with | some q=>if q.getLast? = some i then none else some q | none=>none,hv,⟨by simp [Si.len],fun j d' hj=>?_,fun p hp=>?_,Si.rh,Si.rf,fun p q hq=>?_,fun p q hq=>?_,Si.same⟩,
  fun p=>match τ p with | some q=>if q.getLast? = some i then (if H p = none then none else some q.dropLast) else none | none=>none,fun p q hq=>?_,rp.imp (q:=[i]) (q':=[]) (fun _ _ h=>h) fun c p xs f h=>?_⟩
 ·by_cases j6:j = i
  ·subst j6
   rw [List.getElem?_set] at hj
   simp at hj
  ·rw [List.getElem?_set_ne (Ne.symm j6)] at hj
   obtain ⟨w,hw,qX⟩:=Si.rep j d' hj
   refine ⟨w,hw,qX.imp (q:=[j]) (q':=[j]) (fun _ _ h=>h) fun c p xs f h=>?_⟩
   cases f with
   | ow =>
    refine ⟨h.1,?_⟩
    simp only [h.2]
    rw [if_neg (by simp;exact j6)]
   | fz=>exact h
   | al=>exact h
   | sc=>exact h
 ·simp only [Si.rt p hp]
 ·cases z:τ p with
  | none=>simp only [z] at hq;cases hq
  | some k=>exact Si.th p k z
 ·cases z:τ p with
  | none=>simp only [z] at hq;cases hq
  | some k=>exact Si.t0 p k z
 ·cases z:τ p with
  | none=>simp only [z] at hq;cases hq
  | some k =>
   simp only [z] at hq ⊢
   by_cases hl:k.getLast? = some i
   ·rw [if_pos hl]
    exact ⟨rfl,(fun hR=>by have:=Si.rt p hR;rw [z] at this;cases this),Si.t0 p k z,Si.th p k z⟩
   ·rw [if_neg hl] at hq;cases hq
 ·cases f with
  | ow =>
   refine ⟨h.1,?_⟩
   have hn:H p ≠ none:=h.1.ne
   simp only [h.2]
   rw [if_pos (by simp),if_neg hn]
   simp
  | fz=>exact h
  | al=>exact h.2.elim
  | sc=>exact h
theorem zc (is:List Nat) (ρ:aC) (j:Nat) (d:D) (h:(je is ρ)[j]? = some (some d)):∃ d',ρ[j]? = some (some d') /\ d = (if j ∈ is then aD aL d' else d'):=by
 unfold je at h
 rw [List.getElem?_mapIdx] at h
 cases q:ρ[j]? with
 | none=>rw [q] at h;cases h
 | some o =>
  rw [q] at h
  cases o with
  | none=>simp at h
  | some d' =>
   refine ⟨d',rfl,?_⟩
   by_cases hj:j ∈ is
   ·simp [hj] at h ⊢;exact h.symm
   ·simp [hj] at h ⊢;exact h.symm
open Classical in
theorem zd {fv:List Nat} (Si:SI X F R τ ρ σ H) (es:ao H H') :
  ∃ R' τ',(∀ p,R p -> R' p) /\ SI X F R' τ' (je fv ρ) σ H' /\ ∀ τt:Addr -> Option aH,(∀ p q,τt p = some q -> H p = none) -> ∀ (k k':aH) (p:Addr) (xs:Nd) (f:Fl),nd X.K R (kN (gP X F) τ fv) τt H' k p xs f -> nd X.K R' (fun _=>False) (fun _=>none) H' k' p xs (aL f):=by
 have ia:=Si.go es
 have fresh:∀ p,H p = none -> kN (gP X F) τ fv p:=fun p hp=>⟨.inr (Si.same.free hp),fun c i e=>absurd hp (Si.th p _ e)⟩
 refine ⟨fun p=>R p \/ (H' p ≠ none /\ kN (gP X F) τ fv p),fun p=>if kN (gP X F) τ fv p then none else τ p,fun p h=>.inl h,⟨by simp [je,Si.len],fun j d' hj=>?_,fun p hp=>?_,fun p hp=>?_,fun p hp=>?_,fun p q hq=>?_,fun p q hq=>?_,ia.same⟩,fun τt fr k k' p xs f h=>?_⟩
 ·obtain ⟨d0,h0,e0⟩:=zc _ _ _ _ hj
  obtain ⟨w,hw,qX⟩:=ia.rep j d0 h0
  refine ⟨w,hw,?_⟩
  by_cases Rp:j ∈ fv
  ·rw [if_pos Rp] at e0
   subst e0
   refine Rep.map (q:=[j]) (q':=[j]) (fun _ _ h=>h) (fun c p xs f h=>?_) qX [] rfl
   cases f with
   | ow =>
    refine ⟨h.1,.inr ⟨h.1.ne,.inr (Si.t0 p _ h.2),fun c' i' e'=>?_⟩⟩
    rw [h.2] at e'
    have:=congrArg List.getLast? (Option.some.inj e')
    simp at this;subst this;exact Rp
   | fz=>exact ⟨h.1,.inl h.2⟩
   | al=>exact h.2.elim
   | sc=>exact h
  ·rw [if_neg Rp] at e0
   subst e0
   refine qX.imp (q:=[j]) (q':=[j]) (fun _ _ h=>h) fun c p xs f h=>?_
   cases f with
   | ow =>
    refine ⟨h.1,?_⟩
    show (if kN (gP X F) τ fv p then none else τ p) = some (c ++ [j])
    rw [if_neg (fun z=>Rp (z.2 c j h.2))];exact h.2
   | fz=>exact ⟨h.1,.inl h.2⟩
   | al=>exact h.2.elim
   | sc=>exact h
 ·rcases hp with hp | hp
  ·simp only [Si.rt p hp];split <;> rfl
  ·rw [if_pos hp.2]
 ·rcases hp with hp | hp
  ·exact ia.rh p hp
  ·exact hp.1
 ·rcases hp with hp | hp
  ·exact Si.rf p hp
  ·exact hp.2.1
 ·split at hq
  ·cases hq
  ·exact ia.th p q hq
 ·split at hq
  ·cases hq
  ·exact Si.t0 p q hq
 ·cases f with
  | ow=>exact ⟨h.1,.inr ⟨h.1.ne,fresh p (fr p _ h.2)⟩⟩
  | fz=>exact ⟨h.1,.inl h.2⟩
  | al=>exact ⟨h.1,.inr ⟨h.1.ne,h.2⟩⟩
  | sc=>exact h
theorem tL {fv:List Nat} {v:V} {d:D} (Si:SI X F R τ ρ σ H) (es:ao H H') (r:cc X.K (gP X F) R τ fv H H' v d) :
  ∃ R' τ',(∀ p,R p -> R' p) /\ SI X F R' τ' (je fv ρ) σ H' /\ Rep (aG X.K H') (nd X.K R' (fun _=>False) (fun _=>none) H') [] v (aD aL d):=by
 obtain ⟨τt,fr,rp⟩:=r
 obtain ⟨R',τ',h1,h2,h3⟩:=zd (fv:=fv) Si es
 exact ⟨R',τ',h1,h2,Rep.ja (fun _ _ h=>h) (h3 τt fr) rp _⟩
theorem vY {fv:List Nat} {vs:List V} {ds:List D} (Si:SI X F R τ ρ σ H) (es:ao H H') (r:cj X.K (gP X F) R τ fv H H' vs ds) :
  ∃ R' τ',(∀ p,R p -> R' p) /\ SI X F R' τ' (je fv ρ) σ H' /\ ag (aG X.K H') (nd X.K R' (fun _=>False) (fun _=>none) H') [] 0 vs (ai aL ds):=by
 obtain ⟨τt,fr,rp⟩:=r
 obtain ⟨R',τ',h1,h2,h3⟩:=zd (fv:=fv) Si es
 exact ⟨R',τ',h1,h2,ag.ja (fun _ _ h=>h) (h3 τt fr) rp _ _⟩
theorem nE {v:V} {d:D} {τ':Addr -> Option aH} (h:Rep (aG X.K H) (nd X.K R (fun _=>False) (fun _=>none) H) [] v d):jZ X R τ' H v d:=⟨fun _=>none,fun _ _ h=>by simp at h,h⟩
open Classical in
theorem HG {e:CE} {v:V} {d:D} (Si:SI X F R τ ρ σ H) (es:ao H H') (r:cc X.K (gP X F) R τ (iQ e) H H' v d) :
  ∃ R' τ',(∀ p,R p -> R' p) /\ SI X F R' τ' (keep e d ρ).2 σ H' /\ jZ X R' τ' H' v (keep e d ρ).1:=by
 unfold keep
 by_cases ha:aT cn d = true
 ·rw [if_pos ha]
  obtain ⟨R',τ',h1,h2,h3⟩:=tL Si es r
  exact ⟨R',τ',h1,h2,nE h3⟩
 ·obtain ⟨τt,fr,rp⟩:=r
  rw [if_neg ha]
  refine ⟨R,τ,fun _ h=>h,Si.go es,fun p=>if H' p = none then none else τt p,fun p q hq=>?_,?_⟩
  ·dsimp only at hq
   split at hq
   ·cases hq
   ·rename_i hn
    have hf:=fr p q hq
    refine ⟨?_,fun hR=>Si.rh p hR hf,Si.same.free hf,hn⟩
    cases z:τ p with
    | none=>rfl
    | some k=>exact absurd hf (Si.th p k z)
  ·have Rz:aT cn d = false:=by simpa using ha
   have st:∀ {k:aH} {v:V} {d:D},Rep (aG X.K H') (nd X.K R (kN (gP X F) τ (iQ e)) τt H') k v d -> aT cn d = false -> Rep (aG X.K H') (nd X.K R (fun _=>False) (fun p=>if H' p = none then none else τt p) H') k v d:=by
    intro k v d h ha
    exact Rep.kP (P:=cn) (fun _ _ h=>h) (fun k p xs f hf h=>by
     cases f with
     | ow=>exact ⟨h.1,by show (if H' p = none then none else τt p) = _;rw [if_neg (h.1.ne)];exact h.2⟩
     | fz=>exact h
     | al=>cases hf
     | sc=>exact h) h ha
   exact st rp Rz
open Classical in
noncomputable def tK (X:Cx) (F:Addr -> Prop) (Φ:aA) (c:CE):TE:=fun σ H Q=>∃ R τ ρ r,SI X F R τ ρ σ H /\ jX Φ c ρ = ok r /\ ∀ v H' R' τ',ao H H' -> (∀ p,R p -> R' p) -> SI X F R' τ' r.2 σ H' -> jZ X R' τ' H' v r.1 -> Q v H'
end
end DI
end
section
namespace DI
open PySem PySem.Spec PyProof.Rows L2
section
variable {T T':kO} {N N':iU}
theorem ag.child {q:aH} (hT:∀ p xs,T p xs -> T' p xs) (hN:∀ c m p xs f,N (c ++ (m :: q)) p xs f -> N' (c ++ (m :: q)) p xs f):∀ {n:Nat} {vs:List V} {ds:List D},ag T N q n vs ds -> ag T' N' q n vs ds
 | _,_,_,.nil=>.nil
 | n,_,_,.cons h t=>.cons (Rep.imp (q:=n :: q) (q':=n :: q) hT (fun c p xs f h=>hN c n p xs f h) h) (ag.child hT hN t)
theorem ag.Hm {q:aH} {v:V} {d:D}:∀ {n:Nat} {vs:List V} {ds:List D},ag T N q n vs ds -> Rep T N ((n + ds.length) :: q) v d -> ag T N q n (vs ++ [v]) (ds ++ [d])
 | n,_,_,.nil,h=>.cons (by simpa using h) .nil
 | n,_,_,.cons (ds:=ds) h t,h'=>.cons h (ag.Hm t (by
   have e:n + (ds.length + 1) = n + 1 + ds.length:=by omega
   rw [List.length_cons,e] at h';exact h'))
theorem ag.setAt {q:aH} {v:V} {d:D}:∀ {n j:Nat} {vs:List V} {ds:List D},ag T N q n vs ds -> Rep T N ((n + j) :: q) v d -> ag T N q n (vs.set j v) (ds.set j d)
 | _,_,_,_,.nil,_=>by simp;exact .nil
 | _,0,_,_,.cons _ t,h'=>.cons (by simpa using h') t
 | n,j + 1,_,_,.cons h t,h'=>.cons h (ag.setAt (j:=j) t (by
   have e:n + (j + 1) = n + 1 + j:=by omega
   rw [e] at h';exact h'))
end
section
variable {X:Cx} {F R:Addr -> Prop} {τ:Addr -> Option aH} {ρ:aC} {σ:St} {H:Hp}
theorem SI.own {i:Nat} {ds:List D} (Si:SI X F R τ ρ σ H) (hi:ρ[i]? = some (some (.lst .ow ds))):∃ p xs,σ[i]? = some (some (.ref p)) /\ H p = some (.lst xs) /\ xs.length = ds.length /\ τ p = some [i] /\ ag (aG X.K H) (nd X.K R (fun _=>False) τ H) [i] 0 xs ds:=by
 obtain ⟨v,hv,rp⟩:=Si.rep i _ hi
 cases rp with
 | lst h r=>exact ⟨_,_,hv,h.1,r.length,h.2,r⟩
theorem SI.T1 {i m:Nat} {v:V} {d d0 d1:D} {ds kl:List D} {p:Addr} {xs Ej:List V} {n n':Nd} {o:HO} (Si:SI X F R τ ρ σ H) (hi:ρ[i]? = some (some d0)) (hv:σ[i]? = some (some (.ref p))) (hp:h_ H p n) (ht:τ p = some [i])
  (rs:ag (aG X.K H) (nd X.K R (fun _=>False) τ H) [i] 0 xs ds) (rk:jZ X R τ H v d) (Bh:h_ (upd H p o) p n')
  (mk:∀ {N:iU},N [i] p n' .ow -> ag (aG X.K (upd H p o)) N [i] 0 Ej kl -> Rep (aG X.K (upd H p o)) N [i] (.ref p) d1)
  (hb:∀ {N:iU},ag (aG X.K (upd H p o)) N [i] 0 xs ds -> Rep (aG X.K (upd H p o)) N (m :: [i]) v d -> ag (aG X.K (upd H p o)) N [i] 0 Ej kl) :
  ∃ τ',SI X F R τ' (ρ.set i (some d1)) σ (upd H p o):=by
 obtain ⟨τt,hτ,rp⟩:=rk
 have HN:i < ρ.length:=by
  by_cases z:i < ρ.length
  ·exact z
  ·rw [List.getElem?_eq_none (by omega)] at hi;cases hi
 obtain ⟨o0,Rn,Xh,Rm⟩:=h_.some hp
 have nR:∀ a,R a -> a ≠ p:=fun a ha e=>by subst e;rw [Si.rt _ ha] at ht;cases ht
 have nT:∀ a q,τt a = some q -> a ≠ p:=fun a q e z=>by subst z;rw [(hτ _ q e).1] at ht;cases ht
 have nO:∀ a u,H a = some u -> u ≠ o0 -> a ≠ p:=fun a u e h z=>by subst z;rw [Rn] at e;cases e;exact h rfl
 have keep:∀ a,a ≠ p -> (upd H p o) a = H a:=fun a h=>aK h
 have KR:∀ a ys,aG X.K H a ys -> aG X.K (upd H p o) a ys:=fun a ys h=>by
  rcases h with (h | ⟨o',h⟩) | h
  ·exact .inl (.inl (by rw [keep a (nO a _ h fun z=>Xh _ z.symm)];exact h))
  ·exact .inl (.inr ⟨o',by rw [keep a (nO a _ h fun z=>Rm _ _ z.symm)];exact h⟩)
  ·exact .inr h
 have RB:∀ a (z:Nd),a ≠ p -> h_ H a z -> h_ (upd H p o) a z:=fun a z ne h=>h.at fun u e=>by rw [keep a ne];exact e
 have hSc:∀ {τ1:Addr -> Option aH} q q' a (z:Nd),nd X.K R (fun _=>False) τ1 H q a z .sc -> ∀ τ2,nd X.K R (fun _=>False) τ2 (upd H p o) q' a z .sc:=fun q q' a z h τ2=>by
  obtain ⟨ys,rfl,h⟩:=h.Ho
  exact h.elim (fun ⟨o',w⟩=>.inl ⟨o',by rw [keep a (nO a _ w fun z=>Rm _ _ z.symm)];exact w⟩) .inr
 have hNd:∀ q a ys f,q ≠ [i] -> nd X.K R (fun _=>False) τ H q a ys f -> nd X.K R (fun _=>False) (fun a=>match τt a with | some q=>some (q ++ [m,i]) | none=>τ a) (upd H p o) q a ys f:=fun q a ys f hq h=>by
  cases f with
  | ow =>
   have ne:a ≠ p:=fun z=>by
    subst z
    have:=h.2.symm.trans ht
    exact hq (Option.some.inj this)
   refine ⟨RB a ys ne h.1,?_⟩
   cases z:τt a with
   | none=>simp only [z];exact h.2
   | some k=>have:=(hτ a k z).1;rw [h.2] at this;cases this
  | fz=>exact ⟨RB a ys (nR a h.2) h.1,h.2⟩
  | al=>exact h.2.elim
  | sc=>exact hSc q q a ys h _
 refine ⟨fun a=>match τt a with | some q=>some (q ++ [m,i]) | none=>τ a,⟨by simp [Si.len],fun j d' hj=>?_,fun a ha=>?_,fun a ha=>?_,Si.rf,fun a q hq=>?_,fun a q hq=>?_,?_⟩⟩
 ·by_cases j6:j = i
  ·subst j6
   rw [List.getElem?_set_self HN] at hj
   cases hj
   refine ⟨.ref p,hv,mk ⟨Bh,?_⟩ (hb (ag.child KR (fun c n a ys f h=>hNd _ a ys f (fun z=>by
    have:=congrArg List.length z
    simp at this) h) rs) (rp.imp (q:=[]) (q':=[m,j]) KR fun c a ys f h=>?_))⟩
   ·cases z:τt p with
    | none=>simp only [z];exact ht
    | some k=>exact absurd rfl (nT p k z)
   ·cases f with
    | ow =>
     rw [List.append_nil] at h
     exact ⟨RB a ys (nT a _ h.2) h.1,by simp only [h.2]⟩
    | fz=>exact ⟨RB a ys (nR a h.2) h.1,h.2⟩
    | al=>exact h.2.elim
    | sc=>exact hSc _ _ a ys h _
  ·rw [List.getElem?_set_ne (Ne.symm j6)] at hj
   obtain ⟨u,hu,ru⟩:=Si.rep j d' hj
   refine ⟨u,hu,ru.imp (q:=[j]) (q':=[j]) KR fun c a ys f h=>hNd _ a ys f (fun z=>?_) h⟩
   have:=congrArg List.getLast? z
   simp at this
   exact j6 this
 ·cases z:τt a with
  | none=>simp only [z];exact Si.rt a ha
  | some k=>exact absurd ha (hτ a k z).2.1
 ·rw [keep a (nR a ha)];exact Si.rh a ha
 ·by_cases Ry:a = p
  ·subst Ry;rw [aM];simp
  ·rw [keep a Ry]
   cases z:τt a with
   | none=>simp only [z] at hq;exact Si.th a q hq
   | some k=>exact (hτ a k z).2.2.2
 ·cases z:τt a with
  | none=>simp only [z] at hq;exact Si.t0 a q hq
  | some k=>exact (hτ a k z).2.2.1
 ·intro a u e
  have ne:a ≠ p:=fun z=>by subst z;rw [Si.t0 _ _ ht] at e;cases e
  rw [keep a ne];exact Si.same a u e
theorem SI.put {i m:Nat} {v:V} {d:D} {ds kl:List D} {g:List V -> List V} {p:Addr} {xs:List V} (Si:SI X F R τ ρ σ H) (hi:ρ[i]? = some (some (.lst .ow ds))) (hv:σ[i]? = some (some (.ref p))) (hp:H p = some (.lst xs)) (ht:τ p = some [i])
  (rs:ag (aG X.K H) (nd X.K R (fun _=>False) τ H) [i] 0 xs ds) (rk:jZ X R τ H v d)
  (hb:∀ {N:iU},ag (aG X.K (upd H p (.lst (g xs)))) N [i] 0 xs ds -> Rep (aG X.K (upd H p (.lst (g xs)))) N (m :: [i]) v d -> ag (aG X.K (upd H p (.lst (g xs)))) N [i] 0 (g xs) kl) :
  ∃ τ',SI X F R τ' (ρ.set i (some (.lst .ow kl))) σ (upd H p (.lst (g xs))) :=
 Si.T1 (n:=.l xs) (n':=.l (g xs)) hi hv hp ht rs rk aM (fun h r=>.lst h r) hb
end
end DI
end
section
namespace DI
open PySem PySem.Spec PyProof.Rows L2
theorem km {env:Env}:∀ (names:List (Str × NameKind)) (acc:List (Str × Addr)),(∀ x,(x,NameKind.free) ∈ names -> ∃ c,env.cells.lookup x = some c) ->
  ∃ cl,(forIn names acc (fun (y:Str × NameKind) (cs:List (Str × Addr))=>do
    let (name,kind):=y
    let mut cs:=cs
    if kind == .free then cs:=(name,<- cellOf env name) :: cs
    pure (ForInStep.yield cs)):Sem (List (Str × Addr))) = pure cl /\
   (∀ x c,cl.lookup x = some c -> acc.lookup x = some c \/ (env.cells.lookup x = some c /\ (x,NameKind.free) ∈ names)) /\ (∀ x,((x,NameKind.free) ∈ names \/ (∃ c,acc.lookup x = some c)) -> ∃ c,cl.lookup x = some c)
 | [],acc,_=>⟨acc,rfl,fun x c h=>.inl h,fun x h=>h.elim (fun h=>nomatch h) id⟩
 | (n,kd) :: names,acc,h=>by
  by_cases hk:kd = .free
  ·subst hk
   obtain ⟨c,hc⟩:=h n List.mem_cons_self
   obtain ⟨cl,e,h1,h2⟩:=km names ((n,c) :: acc) (fun x hx=>h x (List.mem_cons_of_mem _ hx))
   refine ⟨cl,?_,fun x c' hx=>?_,fun x hx=>?_⟩
   ·rw [List.forIn_cons]
    have e0:cellOf env n = pure c:=by unfold cellOf;rw [hc]
    simp only [beq_self_eq_true,if_true,e0,pure_bind]
    exact e
   ·rcases h1 x c' hx with z | z
    ·by_cases Oz:x = n
     ·subst Oz
      simp at z;subst z
      exact .inr ⟨hc,List.mem_cons_self⟩
     ·rw [List.lookup_cons] at z
      have:(x == n) = false:=by simpa using Oz
      rw [this] at z
      exact .inl z
    ·exact .inr ⟨z.1,List.mem_cons_of_mem _ z.2⟩
   ·refine h2 x ?_
    rcases hx with hx | ⟨c',hx⟩
    ·rcases List.mem_cons.mp hx with z | z
     ·cases z;exact .inr ⟨c,by simp⟩
     ·exact .inl z
    ·by_cases Oz:x = n
     ·subst Oz;exact .inr ⟨c,by simp⟩
     ·refine .inr ⟨c',?_⟩
      rw [List.lookup_cons]
      have:(x == n) = false:=by simpa using Oz
      rw [this];exact hx
  ·obtain ⟨cl,e,h1,h2⟩:=km names acc (fun x hx=>h x (List.mem_cons_of_mem _ hx))
   have hb:(kd == NameKind.free) = false:=by simpa using hk
   refine ⟨cl,?_,fun x c' hx=>(h1 x c' hx).imp id fun z=>⟨z.1,List.mem_cons_of_mem _ z.2⟩,fun x hx=>h2 x ?_⟩
   ·rw [List.forIn_cons]
    simp only [hb,Bool.false_eq_true,if_false,pure_bind]
    exact e
   ·rcases hx with hx | hx
    ·rcases List.mem_cons.mp hx with z | z
     ·cases z;exact absurd rfl hk
     ·exact .inl z
    ·exact .inr hx
theorem xM {env:Env} {sc:Scope} (h:∀ x,(x,NameKind.free) ∈ sc.names -> ∃ c,env.cells.lookup x = some c) :
  ∃ cl,closureFor sc env = pure cl /\ (∀ x c,cl.lookup x = some c -> env.cells.lookup x = some c) /\ (∀ x,(x,NameKind.free) ∈ sc.names -> ∃ c,cl.lookup x = some c):=by
 obtain ⟨cl,e,h1,h2⟩:=km (env:=env) sc.names [] h
 refine ⟨cl,?_,fun x c hx=>(h1 x c hx).elim (fun z=>by simp at z) (·.1),fun x hx=>h2 x (.inl hx)⟩
 unfold closureFor
 simp only [bind_pure]
 exact e
theorem tR {prog:Program} {w:World} {A:Around} {R:Result -> Shared -> Prop} {s:Shared} {elt target iter:Expr} {ifs:List Expr} {scope:Scope} {pos:Pos} {it acc:Value} {env:Env} (I:Nat -> Shared -> Prop)
  (turn:∀ n s,I n s -> wpAny (model prog w) A (pyNext it) (fun r s₁=>match r with
   | none=>R (.ok .next) s₁
   | some v=>wpAny (model prog w) A (letOwnedTupleGo target it v) (fun _ s₁=>wpAny (model prog w) A (assign target env v) (fun _ s₂ =>
     wpAny (model prog w) A (forIn ifs true fun c r=>if r = true then do let ok <- isTrue c env (eval c env);pure (ForInStep.yield ok) else pure (ForInStep.yield r)) (fun ok s₃ =>
      if ok = true then wpAny (model prog w) A (eval elt env) (fun x s₄ =>
       wpAny (model prog w) A (call (.builtin "list.append") [acc,x]) (fun _ s₅=>∃ m,m < n /\ I m s₅) (fun _ _=>False) s₄) (fun _ _=>False) s₃
      else ∃ m,m < n /\ I m s₃) (fun _ _=>False) s₂) (fun _ _=>False) s₁) (fun _ _=>False) s₁) (fun _ _=>False) s)
  (n:Nat) (h:I n s) :
  codeAny (model prog w) A (.compLoop (.ListComp elt [⟨target,iter,ifs,0⟩] scope pos) 0 it acc env) R s:=by
 refine codeAny_loop rfl I (fun n s hI=>?_) n h
 show wpAny _ A ((compTurn (.ListComp elt [⟨target,iter,ifs,0⟩] scope pos) 0 it acc env).onRaise (fun x=>do noteFrame x env;theTreesLotGoes x)) _ _ s
 refine wpAny_noted ?_
 rw [compTurn_list]
 refine wpAny_bind (wpAny_standAt (wpAny_bind (wpAny_mono (turn n s hI) (fun r s₁ h₁=>?_) fun _ _ h'=>h'.elim)))
 cases r with
 | none=>exact wpAny_pure h₁
 | some v =>
  refine wpAny_bind (wpAny_mono h₁ (fun _ s₂ h₂=>?_) fun _ _ h'=>h'.elim)
  refine wpAny_bind (wpAny_mono h₂ (fun _ s₂ h₂=>wpAny_bind (wpAny_mono h₂ (fun ok s₃ h₃=>?_) fun _ _ h'=>h'.elim)) fun _ _ h'=>h'.elim)
  cases ok with
  | false=>exact wpAny_pure ⟨rfl,h₃⟩
  | true =>
   exact wpAny_bind (wpAny_bind (wpAny_mono h₃ (fun x s₄ h₄=>wpAny_bind (wpAny_mono h₄ (fun _ s₅ h₅=>wpAny_pure (wpAny_pure ⟨rfl,h₅⟩)) fun _ _ h'=>h'.elim)) fun _ _ h'=>h'.elim))
noncomputable def eL (X:Cx) (N':List Str) (scope:Scope) (cl:List (Str × Addr)) (C:Addr) (s₀:Shared) (H₀:Hp) (fp:List Addr):Cx :=
 { X with N:=N',s₀:=s₀,H₀:=H₀,env:=compEnvC scope cl C X.env,outer:=X.stack,stack:=X.stack,ex:=fp,fn:=fun _=>false,pn:=[],xe:=fun _ _=>False }
theorem fY {env:Env}:∀ {names:List (Str × NameKind)} {x:Str} {kd:NameKind},(names.map fun (n,k)=>if (k == NameKind.free && env.scope.kind == .function && env.kindOf n == some .cell) then (n,NameKind.cell) else (n,k)).lookup x = some kd ->
  names.lookup x = some kd \/ (kd = .cell /\ names.lookup x = some .free)
 | [],_,_,h=>by simp at h
 | (n,k) :: r,x,kd,h=>by
  rw [List.map_cons] at h
  cases hx:x == n with
  | true =>
   by_cases hc:(k == NameKind.free && env.scope.kind == .function && env.kindOf n == some .cell) = true
   ·simp only [hc,if_true,List.lookup_cons,hx] at h
    cases h
    simp only [Bool.and_eq_true,beq_iff_eq] at hc
    refine .inr ⟨rfl,?_⟩
    rw [List.lookup_cons,hx,hc.1.1]
   ·have xy:(k == NameKind.free && env.scope.kind == .function && env.kindOf n == some .cell) = false:=by simpa using hc
    simp only [xy,Bool.false_eq_true,if_false,List.lookup_cons,hx] at h
    cases h
    exact .inl (by rw [List.lookup_cons,hx])
  | false =>
   have:List.lookup x (r.map fun (n,k)=>if (k == NameKind.free && env.scope.kind == .function && env.kindOf n == some .cell) then (n,NameKind.cell) else (n,k)) = some kd:=by
    by_cases hc:(k == NameKind.free && env.scope.kind == .function && env.kindOf n == some .cell) = true
    ·simp only [hc,if_true,List.lookup_cons,hx] at h;exact h
    ·have xy:(k == NameKind.free && env.scope.kind == .function && env.kindOf n == some .cell) = false:=by simpa using hc
     simp only [xy,Bool.false_eq_true,if_false,List.lookup_cons,hx] at h;exact h
   rw [List.lookup_cons,hx]
   exact fY this
theorem dm {env:Env}:∀ {names:List (Str × NameKind)} {x:Str},names.lookup x = some .free ->
  (names.map fun (n,k)=>if (k == NameKind.free && env.scope.kind == .function && env.kindOf n == some .cell) then (n,NameKind.cell) else (n,k)).lookup x = some .free \/
  (names.map fun (n,k)=>if (k == NameKind.free && env.scope.kind == .function && env.kindOf n == some .cell) then (n,NameKind.cell) else (n,k)).lookup x = some .cell
 | [],_,h=>by simp at h
 | (n,k) :: r,x,h=>by
  rw [List.map_cons]
  cases hx:x == n with
  | true =>
   rw [List.lookup_cons,hx] at h
   cases h
   by_cases hc:(NameKind.free == NameKind.free && env.scope.kind == .function && env.kindOf n == some .cell) = true
   ·simp only [hc,if_true,List.lookup_cons,hx];exact .inr trivial
   ·have xy:(NameKind.free == NameKind.free && env.scope.kind == .function && env.kindOf n == some .cell) = false:=by simpa using hc
    simp only [xy,Bool.false_eq_true,if_false,List.lookup_cons,hx];exact .inl trivial
  | false =>
   rw [List.lookup_cons,hx] at h
   by_cases hc:(k == NameKind.free && env.scope.kind == .function && env.kindOf n == some .cell) = true
   ·simp only [hc,if_true,List.lookup_cons,hx];exact dm h
   ·have xy:(k == NameKind.free && env.scope.kind == .function && env.kindOf n == some .cell) = false:=by simpa using hc
    simp only [xy,Bool.false_eq_true,if_false,List.lookup_cons,hx];exact dm h
theorem dU {names:List (Str × NameKind)} {x:Str} {kd:NameKind} (h:names.lookup x = some kd):(x,kd) ∈ names:=PySem.mem_of_lookup h
end DI
end
section
namespace DI
open PySem PySem.Spec PyProof.Rows L2
structure kL (S:Sx) (n:Nat) (t:Tg) (caps:List Nat) (target:Expr) (sc:Scope):Prop where
 kind:sc.kind = .function
 CA:∀ y ∈ sc.names,y.2 ≠ .cell
 loc:∀ y ∈ sc.names,y.2 = .local -> sc.names.lookup y.1 = some .local
 free:∀ x,(x,NameKind.free) ∈ sc.names -> S.sc.names.lookup x = some .cell \/ S.sc.names.lookup x = some .free
 n:n = (bM target).length
 tl:∀ x ∈ bM target,sc.names.lookup x = some .local
 nd:(bM target ++ gR S caps).Nodup
 eN:∀ i ∈ caps,∃ x,S.N[i]? = some x /\ sc.names.lookup x = some .free
 tg:(∃ x p,t = .nm 0 /\ target = .Name x p) \/ (∃ es k p,t = .tp (List.range es.length) /\ target = .Tuple es k p /\ es.all isNm = true)
theorem rN {S:Sx} {n:Nat} {t:Tg} {caps:List Nat} {target:Expr} {sc:Scope} (h:t4 S n t caps target sc = true):kL S n t caps target sc:=by
 unfold t4 at h
 simp only [Bool.and_eq_true,decide_eq_true_eq,List.all_eq_true,Bool.or_eq_true] at h
 obtain ⟨⟨⟨⟨⟨⟨h1,h2⟩,h3⟩,h4⟩,h5⟩,h6⟩,h7⟩:=h
 refine ⟨h1,fun y hy=>(h2 y hy).1.1,fun y hy hk=>?_,fun x hx=>?_,h3,h4,h5,fun i hi=>?_,?_⟩
 ·rcases (h2 y hy).1.2 with z | z
  ·exact absurd hk z
  ·exact z
 ·rcases (h2 _ hx).2 with (z | z) | z
  ·exact absurd rfl z
  ·exact .inl z
  ·exact .inr z
 ·have:=h6 i hi
  split at this
  ·rename_i x e;exact ⟨x,e,of_decide_eq_true this⟩
  ·cases this
 ·cases t with
  | nm i =>
   obtain ⟨g1,g2⟩:=av h7
   obtain rfl:i = 0:=of_decide_eq_true g1
   cases target <;> first | (cases g2;done) | exact .inl ⟨_,_,rfl,rfl⟩
  | tp is =>
   obtain ⟨es,hv,g⟩:=aS h7
   obtain ⟨k,p,rfl⟩:=kR hv
   obtain ⟨g1,g2⟩:=av g
   obtain rfl:is = _:=of_decide_eq_true g1
   exact .inr ⟨es,k,p,rfl,rfl,g2⟩
theorem wA {S:Sx}:∀ {caps:List Nat},(∀ i ∈ caps,∃ x,S.N[i]? = some x) -> (gR S caps).length = caps.length /\ ∀ (j i:Nat),caps[j]? = some i -> (gR S caps)[j]? = S.N[i]?
 | [],_=>⟨rfl,fun j i h=>by simp at h⟩
 | i :: caps,h=>by
  obtain ⟨x,hx⟩:=h i List.mem_cons_self
  obtain ⟨h1,h2⟩:=wA (caps:=caps) fun j hj=>h j (List.mem_cons_of_mem _ hj)
  have e:gR S (i :: caps) = x :: gR S caps:=by unfold gR;rw [List.filterMap_cons,hx]
  rw [e]
  refine ⟨by simp [h1],fun j k hj=>?_⟩
  cases j with
  | zero=>simp at hj;subst hj;simp [hx]
  | succ j=>simp at hj ⊢;exact h2 j k hj
section
variable {X:Cx} {S:Sx} {k:Nat} {Φ:aA} {pins:List (Addr × Obj)} {σ:St} {H2:Hp} {s₂:Shared}
noncomputable def qb (n:Nat) (caps:List Nat) (σ:St):St:=List.replicate n none ++ caps.map fun i=>σ[i]?.getD none
noncomputable def fb (aj:List Value) (n:Nat):Obj:={ cls:=.type "list",data:=.seq aj.toArray n }
theorem GR {n:Nat} {t:Tg} {caps:List Nat} {target:Expr} {sc:Scope} {cl:List (Str × Addr)} {fp:List Addr} (L:Lk X S k Φ) (co:kL S n t caps target sc) (I2:Inv X pins σ H2 s₂)
  (m8:∀ x c,cl.lookup x = some c -> X.env.cells.lookup x = some c) (xx:∀ x,(x,NameKind.free) ∈ sc.names -> ∃ c,cl.lookup x = some c) (Gi:∀ b ∈ fp,pR X pins H2 b) (KC:∀ b ∈ fp,b < s₂.heap.objs.size) :
  (eL X (bM target ++ gR S caps) sc cl (s₂.heap.objs.size + 1) s₂ H2 fp).Ok:=by
 have OC:=I2.lX
 refine ⟨I2.ok.mod,co.kind,I2.ok.glob,I2.ok.blt,Nat.le_succ _,fun x y c h1 h2=>I2.ok.inj x y c (m8 x c h1) (m8 y c h2),fun x hx=>?_,(fun _ _ z=>by cases z),I2.ok.hd,I2.ok.frames,.inl rfl,fun b hb=>⟨?_,fun x c e=>(Gi b hb).2.2.2.2.1 x c (m8 x c e)⟩,I2.bs,Nat.le_trans I2.ok.Ic I2.sz,fun b o e hb=>?_,fun b hb z=>?_,I2.stack,I2.yf⟩
 ·have yN:(relabel sc X.env).names.lookup x = some .cell \/ (relabel sc X.env).names.lookup x = some .free:=hx
  rcases yN with yN | yN
  ·rcases fY yN with z | z
   ·exact absurd rfl (co.CA _ (dU z))
   ·exact xx x (dU z.2)
  ·rcases fY yN with z | z
   ·exact xx x (dU z)
   ·cases z.1
 ·exact Nat.ne_of_lt (Nat.lt_succ_of_lt (KC b hb))
 ·rcases (Gi b hb).2.2.2.1 with z | z
  ·exact I2.ok.Cz b o e z
  ·exact absurd (Nat.lt_of_lt_of_le (Heap.lt_size e) (Nat.le_trans I2.ok.Ic z)) (Nat.lt_irrefl _)
 ·rcases List.mem_cons.mp (OC b z) with w | w
  ·exact (Gi b hb).2.1 w
  ·exact (Gi b hb).2.2.1 w
theorem CZ {n:Nat} {t:Tg} {caps:List Nat} {target:Expr} {sc:Scope} {cl:List (Str × Addr)} {fp:List Addr} {h₁:Heap} {tk:Nat} (L:Lk X S k Φ) (co:kL S n t caps target sc) (I2:Inv X pins σ H2 s₂)
  (m8:∀ x c,cl.lookup x = some c -> X.env.cells.lookup x = some c) (xx:∀ x,(x,NameKind.free) ∈ sc.names -> ∃ c,cl.lookup x = some c) (Gi:∀ b ∈ fp,pR X pins H2 b) (KC:∀ b ∈ fp,b < s₂.heap.objs.size)
  (Bg:h₁.Ns (s₂.heap.objs.size + 1) fun _=>none) (old:∀ b o,s₂.heap.get? b = some o -> h₁.get? b = some o) (kf:h₁.get? s₂.heap.objs.size = some (fb [] 0)) :
  Inv (eL X (bM target ++ gR S caps) sc cl (s₂.heap.objs.size + 1) s₂ H2 fp) [(s₂.heap.objs.size,fb [] 0)] (qb n caps σ) H2 { s₂ with heap:=h₁,toks:=tk }:=by
 have m9:∀ i ∈ caps,∃ x,S.N[i]? = some x:=fun i hi=>let ⟨x,e,_⟩:=co.eN i hi;⟨x,e⟩
 obtain ⟨cl1,cl2⟩:=wA m9
 refine ⟨GR L co I2 m8 xx Gi KC,rfl,I2.bare,Un.kept old,⟨_,Bg,fun i x v e1 e2 e3=>?_⟩,fun x c e=>?_,I2.dD.fresh (Nat.le_succ _),fun x c e=>I2.j7 x c (m8 x c e),fun p hp=>?_,I2.dD.kept old,?_⟩
 ·unfold qb at e2
  have hi:n <= i:=by
   by_cases hi:i < n
   ·rw [List.getElem?_append_left (by simpa using hi),List.getElem?_replicate,if_pos hi] at e2;cases e2
   ·omega
  have RO:(bM target ++ gR S caps)[i]? = some x:=e1
  rw [List.getElem?_append_right (by rw [<- co.n];exact hi),<- co.n] at RO
  rw [List.getElem?_append_right (by simpa using hi),List.length_replicate,List.getElem?_map] at e2
  cases hc:caps[i - n]? with
  | none=>rw [hc] at e2;cases e2
  | some ci =>
   rw [hc] at e2
   rw [cl2 _ _ hc] at RO
   obtain ⟨x',Pk,Rt⟩:=co.eN ci (List.mem_of_getElem? hc)
   rw [Pk] at RO;cases RO
   have e2':σ[ci]? = some (some v):=by
    have Pq:σ[ci]?.getD none = some v:=Option.some.inj e2
    cases q:σ[ci]? with
    | none=>rw [q] at Pq;cases Pq
    | some o=>rw [q] at Pq;simp at Pq;rw [Pq]
   have hvs:LV X.env.scope x:=by
    unfold LV;rw [L.sc]
    rcases co.free x (dU Rt) with z | z
    ·exact .inr (.inl z)
    ·exact .inr (.inr z)
   obtain ⟨m,hn,hl⟩:=I2.loc
   obtain ⟨u,r,lk⟩:=hl ci x v (by rw [L.N];exact Pk) e2' hvs
   refine ⟨u,r,.inr ⟨?_,?_⟩⟩
   ·rcases dm (env:=X.env) Rt with z | z
    ·exact .inr z
    ·exact .inl z
   ·have hcx:∃ c,X.env.cells.lookup x = some c /\ s₂.heap.IsCell c (some u):=by
     rcases lk with ⟨z,_⟩ | ⟨_,z⟩
     ·have z':X.env.scope.names.lookup x = some .local:=z
      rw [L.sc] at z'
      rcases co.free x (dU Rt) with w | w <;> (rw [w] at z';cases z')
     ·exact z
    obtain ⟨c,ec,o,ho,hd⟩:=hcx
    obtain ⟨c',ec'⟩:=xx x (dU Rt)
    have:=m8 x c' ec'
    rw [ec] at this;cases this
    exact ⟨c,ec',o,old _ _ ho,hd⟩
 ·obtain ⟨v,o,ho,hd⟩:=I2.cell x c (m8 x c e)
  exact ⟨v,o,old _ _ ho,hd⟩
 ·have oT:p = (s₂.heap.objs.size,fb [] 0):=by simpa [eL] using hp
  subst oT
  refine ⟨kf,I2.dD.fresh (Nat.le_refl _),Nat.ne_of_lt (Nat.lt_succ_self _),fun z=>?_,fun v z=>by cases z⟩
  rcases List.mem_cons.mp (I2.lX _ z) with w | w
  ·exact absurd w (Nat.ne_of_gt I2.lt)
  ·exact I2.JP (Nat.le_refl _) w
 ·show (qb n caps σ).length = (bM target ++ gR S caps).length
  unfold qb
  rw [List.length_append,List.length_append,List.length_replicate,List.length_map,cl1,co.n]
end
end DI
end
section
namespace DI
open PySem PySem.Spec PyProof.Rows L2
theorem ag.snoc {T:kO} {N:iU} {k:aH}:∀ {n:Nat} {vs:List V} {ds:List D} {v:V} {d:D},ag T N k n vs ds -> Rep T N ((n + ds.length) :: k) v d -> ag T N k n (vs ++ [v]) (ds ++ [d])
 | n,_,_,_,_,.nil,h=>.cons h .nil
 | n,_,_,_,_,.cons (ds:=ds) h t,r=>.cons h (ag.snoc t (by
  have e:n + (ds.length + 1) = n + 1 + ds.length:=by omega
  rw [List.length_cons,e] at r;exact r))
open Classical in
theorem cj.snoc {K:PySem.W.Frag} {G R:Addr -> Prop} {τ:Addr -> Option aH} {fv:List Nat} {H H1 H2:Hp} {v:V} {d:D} {vs:List V} {ds:List D} (e1:ao H H1) (e2:ao H1 H2) (h:cj K G R τ fv H H1 vs ds) (t:cc K G R τ fv H1 H2 v d) :
  cj K G R τ fv H H2 (vs ++ [v]) (ds ++ [d]):=by
 obtain ⟨τ1,f1,h1⟩:=h
 obtain ⟨τ2,f2,h2⟩:=t
 refine ⟨fun p=>if H1 p = none then (τ2 p).map (· ++ [ds.length]) else τ1 p,fun p q hq=>?_,ag.snoc (h1.imp (q:=[]) (q':=[]) (fun _ _ h=>aG.same e2 h) fun c p xs f h=>?_) ((Nat.zero_add ds.length).symm ▸ h2.imp (q:=[]) (q':=[ds.length]) (fun _ _ h=>h) fun c p xs f h=>?_)⟩
 ·dsimp only at hq
  by_cases hp:H1 p = none
  ·exact e1.free hp
  ·rw [if_neg hp] at hq;exact f1 p q hq
 ·have h':=nd.same e2 h
  cases f with
  | ow =>
   refine ⟨h'.1,?_⟩
   show (if H1 p = none then (τ2 p).map (· ++ [ds.length]) else τ1 p) = _
   rw [if_neg (h.1.ne)];exact h.2
  | fz=>exact h'
  | al=>exact h'
  | sc=>exact h'
 ·cases f with
  | ow =>
   refine ⟨h.1,?_⟩
   show (if H1 p = none then (τ2 p).map (· ++ [ds.length]) else τ1 p) = _
   rw [if_pos (f2 p _ h.2),h.2];simp
  | fz=>exact h
  | al=>exact h
  | sc=>exact h
structure Yl (K:PySem.W.Frag) (J:It) (R:Addr -> Prop) (H1:Hp) (items:List D):Prop where
 go:∀ i H',ao H1 H' -> i < items.length -> J.go i H'
 wJ:∀ i H' x nA,ao H1 H' -> i < items.length -> J.wJ i H' x nA -> ao H' nA /\ ∃ d,items[i]? = some d /\ Rep (aG K nA) (nd K R (fun _=>False) (fun _=>none) nA) [] x d
 stop:∀ i H',ao H1 H' -> items.length <= i -> J.stop i H'
section
variable {X:Cx} {S:Sx} {k:Nat} {F:Addr -> Prop} {Φ:aA}
noncomputable def l_ (X:Cx) (F:Addr -> Prop) (τ:Addr -> Option aH) (fv:List Nat) (H2:Hp) (p:Addr):Prop:=H2 p ≠ none /\ kN (gP X F) τ fv p
theorem w8 {R:Addr -> Prop} {τ τt:Addr -> Option aH} {ρ:aC} {σ:St} {H H2:Hp} {fv fv':List Nat} (Si:SI X F R τ ρ σ H) (fr:∀ p q,τt p = some q -> H p = none) (hs:∀ i ∈ fv,i ∈ fv') (kp kq:aH) (p:Addr) (xs:Nd) (f:Fl)
  (h:nd X.K R (kN (gP X F) τ fv) τt H2 kp p xs f):nd X.K (l_ X F τ fv' H2) (fun _=>False) (fun _=>none) H2 kq p xs (aL f):=by
 cases f with
 | ow=>exact ⟨h.1,h.1.ne,.inr (Si.same.free (fr p _ h.2)),fun c i e=>absurd (fr p _ h.2) (Si.th p _ e)⟩
 | fz=>exact ⟨h.1,h.1.ne,Si.rf p h.2,fun c i e=>by rw [Si.rt p h.2] at e;cases e⟩
 | al=>exact ⟨h.1,h.1.ne,h.2.mono hs⟩
 | sc=>exact h
theorem Ei {a:Addr} {xs:List V} {items:List D} {R:Addr -> Prop} {H1:Hp} {q:aH} (hl:du X.K H1 a xs) (rs:ag (aG X.K H1) (nd X.K R (fun _=>False) (fun _=>none) H1) q 0 xs items):Yl X.K (MI X.K a) R H1 items where
 go:=fun i H' e hi=>⟨xs,xs[i]'(by rw [rs.length];exact hi),e.seq hl,List.getElem?_eq_getElem _⟩
 wJ:=fun i H' x nA e hi y=>by
  obtain ⟨rfl,y⟩:=y
  obtain ⟨d,hd,rd⟩:=rs.vO (y xs (e.seq hl))
  refine ⟨ao.refl _,d,hd,?_⟩
  have:=Rep.ja (g:=id) (fun _ _ h=>h) nd.o9 rd []
  rw [eU] at this
  exact this.imp (fun _ _ h=>aG.same e h) fun _ _ _ _ h=>nd.same e h
 stop:=fun i H' e hi=>⟨xs,e.seq hl,by rw [rs.length];exact hi⟩
theorem Im {a:Addr} {xs:List V} {items:List D} {R:Addr -> Prop} {H1:Hp} {q:aH} (hl:aG X.K H1 a xs) (rs:ag (aG X.K H1) (nd X.K R (fun _=>False) (fun _=>none) H1) q 0 xs items):Yl X.K (MH X.K a) R H1 items where
 go:=fun i H' e hi=>⟨xs,xs[i]'(by rw [rs.length];exact hi),aG.same e hl,List.getElem?_eq_getElem _⟩
 wJ:=fun i H' x nA e hi y=>by
  obtain ⟨rfl,y⟩:=y
  obtain ⟨d,hd,rd⟩:=rs.vO (y xs (aG.same e hl))
  refine ⟨ao.refl _,d,hd,?_⟩
  have:=Rep.ja (g:=id) (fun _ _ h=>h) nd.o9 rd []
  rw [eU] at this
  exact this.imp (fun _ _ h=>aG.same e h) fun _ _ _ _ h=>nd.same e h
 stop:=fun i H' e hi=>⟨xs,aG.same e hl,by rw [rs.length];exact hi⟩
theorem Io {lo:Int} {n:Nat} {R:Addr -> Prop} {H1:Hp}:Yl X.K (A9 lo n) R H1 ((List.range n).map fun (k:Nat)=>D.int (lo + (k:Int))) where
 go:=fun i H' e hi=>by simpa [A9] using hi
 wJ:=fun i H' x nA e hi y=>by
  obtain ⟨rfl,rfl⟩:=y
  have mm:i < n:=by simpa using hi
  exact ⟨ao.refl _,.int (lo + i),by rw [List.getElem?_map,List.getElem?_range mm];rfl,.int _⟩
 stop:=fun i H' e hi=>by simpa [A9] using hi
theorem BQ {n:Nat} {t:Tg} {caps fv:List Nat} {target:Expr} {sc:Scope} {cl:List (Str × Addr)} {fp:List Addr} {R:Addr -> Prop} {τ:Addr -> Option aH} {ρ:aC} {σ:St} {H2:Hp} {s₂:Shared} {C:Addr} (Si:SI X F R τ ρ σ H2) (hs:∀ i ∈ caps,i ∈ fv) :
  SI (eL X (bM target ++ gR S caps) sc cl C s₂ H2 fp) (kN (gP X F) τ fv) (l_ X F τ fv H2) (fun _=>none) (aY n caps ρ) (qb n caps σ) H2:=by
 refine ⟨by simp [aY,qb],fun i d hi=>?_,fun _ _=>rfl,fun p h=>h.1,fun p h=>.inl h.2,fun _ _ h=>by simp at h,fun _ _ h=>by simp at h,ao.refl _⟩
 unfold aY at hi
 have hn:n <= i:=by
  by_cases hn:i < n
  ·rw [List.getElem?_append_left (by simpa using hn),List.getElem?_replicate,if_pos hn] at hi;cases hi
  ·omega
 rw [List.getElem?_append_right (by simpa using hn),List.length_replicate,List.getElem?_map] at hi
 cases hc:caps[i - n]? with
 | none=>rw [hc] at hi;cases hi
 | some ci =>
  rw [hc] at hi
  have mm:(ρ[ci]?.getD none).map (aD aL) = some d:=Option.some.inj hi
  have hr:∃ d0,ρ[ci]? = some (some d0) /\ aD aL d0 = d:=by
   cases q:ρ[ci]? with
   | none=>rw [q] at mm;cases mm
   | some o =>
    cases o with
    | none=>rw [q] at mm;cases mm
    | some d0=>rw [q] at mm;exact ⟨d0,rfl,Option.some.inj mm⟩
  obtain ⟨d0,h0,rfl⟩:=hr
  obtain ⟨v,hv,rv⟩:=Si.rep ci d0 h0
  refine ⟨v,?_,Rep.ja (fun _ _ h=>h) (fun kp kq p xs f h=>?_) ((rv.imp (q:=[ci]) (q':=[ci]) (N':=fun q p xs f=>nd X.K R (fun _=>False) τ H2 q p xs f /\ (f = .ow -> ∃ c,q = c ++ [ci])) (fun _ _ h=>h) fun c p xs f h=>⟨h,fun _=>⟨c,rfl⟩⟩)) [i]⟩
  ·unfold qb
   rw [List.getElem?_append_right (by simpa using hn),List.length_replicate,List.getElem?_map,hc]
   simp [hv]
  ·obtain ⟨h,hq⟩:=h
   cases f with
   | ow =>
    obtain ⟨c,rfl⟩:=hq rfl
    refine ⟨h.1,h.1.ne,.inr (Si.t0 p _ h.2),fun c' i' e=>?_⟩
    rw [h.2] at e
    have:=congrArg List.getLast? (Option.some.inj e)
    simp at this;subst this
    exact hs _ (List.mem_of_getElem? hc)
   | fz=>exact ⟨h.1,h.1.ne,Si.rf p h.2,fun c i e=>by rw [Si.rt p h.2] at e;cases e⟩
   | al=>exact h.2.elim
   | sc=>exact h
theorem CB:∀ {es:List Expr},es.all isNm = true -> ∃ xs:List (Str × Pos),es = xs.map fun x=>Expr.Name x.1 x.2
 | [],_=>⟨[],rfl⟩
 | e :: es,h=>by
  rw [List.all_cons,Bool.and_eq_true] at h
  obtain ⟨xs,rfl⟩:=CB h.2
  cases e <;> simp [isNm] at h
  exact ⟨(_,_) :: xs,rfl⟩
theorem wY (xs:List (Str × Pos)):(xs.map fun x=>Expr.Name x.1 x.2).filterMap (fun e=>match e with | .Name x _=>some x | _=>none) = xs.map (·.1):=by
 induction xs with
 | nil=>rfl
 | cons x xs ih=>simp [ih]
noncomputable def Dm (i:Nat):Nat -> G7
 | 0=>K1
 | n + 1=>Dp (rG i) (Dm (i + 1) n)
theorem yv {X:Cx} (hN:X.N.Nodup):∀ (xs:List (Str × Pos)) (i:Nat),(∀ (j:Nat) x,xs[j]? = some x -> X.N[i + j]? = some x.1 /\ X.env.scope.names.lookup x.1 = some .local) ->
  MG X (xs.map fun x=>Expr.Name x.1 x.2) (Dm i xs.length) /\ (assignEach (xs.map fun x=>Expr.Name x.1 x.2) X.env).length = xs.length /\ (assignEach (xs.map fun x=>Expr.Name x.1 x.2) X.env).findIdx? (·.1) = none
 | [],_,_=>⟨yu,rfl,rfl⟩
 | x :: xs,i,h=>by
  obtain ⟨h1,h2,h3⟩:=yv hN xs (i + 1) fun j y hy=>by
   have:=h (j + 1) y (by simpa using hy)
   rwa [show i + (j + 1) = i + 1 + j by omega] at this
  obtain ⟨g1,g2⟩:=h 0 x rfl
  refine ⟨vm (sR hN g1 (.inl g2) (.inr g2)) h1 rfl,?_,?_⟩
  ·show (_ :: assignEach _ X.env).length = _
   rw [List.length_cons,h2];rfl
  ·show (((false,assign (.Name x.1 x.2) X.env) :: assignEach (xs.map fun x=>Expr.Name x.1 x.2) X.env)).findIdx? (·.1) = none
   rw [List.findIdx?_cons]
   simp [h3]
end
end DI
end
section
namespace DI
open PySem PySem.Spec PyProof.Rows L2
section
variable {X:Cx} {F R:Addr -> Prop} {τ:Addr -> Option aH} {ρ:aC} {σ σ':St} {H:Hp}
theorem SI.Nq {i:Nat} {v:V} {d:D} (Si:SI X F R τ ρ σ H) (rp:Rep (aG X.K H) (nd X.K R (fun _=>False) (fun _=>none) H) [] v d) (hi:i < ρ.length):SI X F R τ (ρ.set i (some d)) (σ.set i (some v)) H:=by
 refine ⟨by simp [Si.len],fun j d' hj=>?_,Si.rt,Si.rh,Si.rf,Si.th,Si.t0,Si.same⟩
 by_cases j6:j = i
 ·subst j6
  rw [List.getElem?_set_self hi] at hj
  cases hj
  refine ⟨v,List.getElem?_set_self (by rw [<- Si.len];exact hi),rp.imp (q':=[j]) (fun _ _ h=>h) fun c p xs f h=>?_⟩
  cases f with
  | ow=>exact nomatch h.2
  | fz=>exact h
  | al=>exact h
  | sc=>exact h
 ·rw [List.getElem?_set_ne (Ne.symm j6)] at hj
  obtain ⟨w,hw,qX⟩:=Si.rep j d' hj
  exact ⟨w,by rw [List.getElem?_set_ne (Ne.symm j6)];exact hw,qX⟩
theorem SI.sig (Si:SI X F R τ ρ σ H) (hl:σ'.length = σ.length) (h:∀ (i:Nat) d,ρ[i]? = some (some d) -> σ'[i]? = σ[i]?):SI X F R τ ρ σ' H :=
 ⟨by rw [hl];exact Si.len,fun i d hi=>let ⟨v,hv,r⟩:=Si.rep i d hi;⟨v,by rw [h i d hi];exact hv,r⟩,Si.rt,Si.rh,Si.rf,Si.th,Si.t0,Si.same⟩
theorem oi {Q:St -> Hp -> Prop} (σ0:St) (hi:Nat):∀ {m i:Nat} {vs:List V} {ds:List D} {kp:aH} {q:Nat} {σ:St} {ρ ρ':aC},i + m = hi -> ag (aG X.K H) (nd X.K R (fun _=>False) (fun _=>none) H) kp q vs ds -> SI X F R τ ρ σ H -> iO (List.range' i m) ds ρ = ok ρ' ->
  σ.length = σ0.length -> (∀ j,hi <= j -> σ[j]? = σ0[j]?) -> (∀ σ',σ'.length = σ0.length -> (∀ j,hi <= j -> σ'[j]? = σ0[j]?) -> SI X F R τ ρ' σ' H -> Q σ' H) -> Dm i m vs σ H Q
 | 0,_,_,_,_,_,σ,_,_,_,.nil,Si,e,h1,h2,hq=>by
  cases e
  exact ⟨rfl,hq σ h1 h2 Si⟩
 | 0,_,_,_,_,_,_,_,_,_,.cons _ _,_,e,_,_,_=>by cases e
 | m + 1,_,_,_,_,_,_,_,_,_,.nil,_,e,_,_,_=>by cases e
 | m + 1,i,_,_,_,_,σ,ρ,_,him,.cons (v:=v) (d:=d) h t,Si,e,h1,h2,hq=>by
  change (if _ then _ else _) = _ at e
  split at e
  ·rename_i mm
   have ia:=Si.Nq (i:=i) (Rep.sX h) mm
   refine ⟨_,_,rfl,oi σ0 hi (by omega) t ia e (by simpa using h1) (fun j hj=>?_) hq⟩
   rw [List.getElem?_set_ne (by omega)];exact h2 j hj
  ·cases e
end
section
variable {X:Cx} {S:Sx} {k:Nat} {F:Addr -> Prop} {Φ:aA}
theorem Iz {n:Nat} {t:Tg} {caps:List Nat} {target:Expr} {sc:Scope} {cl:List (Str × Addr)} {fp:List Addr} {s₂:Shared} {H2:Hp} {C:Addr} (OX:X.calm = true) (co:kL S n t caps target sc) :
  ∃ g,PG (eL X (bM target ++ gR S caps) sc cl C s₂ H2 fp) target g /\ ∀ (F' R':Addr -> Prop) (x:V) (d:D) (σ':St) (nA:Hp) (Q:St -> Hp -> Prop) (ρb ρ1:aC),
   SI (eL X (bM target ++ gR S caps) sc cl C s₂ H2 fp) F' R' (fun _=>none) ρb σ' nA -> Rep (aG X.K nA) (nd X.K R' (fun _=>False) (fun _=>none) nA) [] x d -> aT fe d = false -> bU t d ρb = ok ρ1 ->
   (∀ σ2,σ2.length = σ'.length -> (∀ j,n <= j -> σ2[j]? = σ'[j]?) -> SI (eL X (bM target ++ gR S caps) sc cl C s₂ H2 fp) F' R' (fun _=>none) ρ1 σ2 nA -> Q σ2 nA) -> g x σ' nA Q:=by
 have KA:∀ x ∈ bM target,(relabel sc X.env).names.lookup x = some .local:=fun x hx=>lookup_relabel_local (co.tl x hx)
 rcases co.tg with ⟨x,p,rfl,rfl⟩ | ⟨es,kk,p,rfl,rfl,Az⟩
 ·have hn:n = 1:=co.n
  subst hn
  refine ⟨rG 0,sR co.nd rfl (.inl (KA x (List.mem_singleton.mpr rfl:x ∈ [x]))) (.inr (KA x (List.mem_singleton.mpr rfl:x ∈ [x]))),fun F' R' v d σ' nA Q ρb ρ1 Si rp _ e hq=>?_⟩
  simp only [bU] at e
  split at e
  ·rename_i hi
   cases e
   refine hq _ (by simp) (fun j hj=>?_) (Si.Nq rp hi)
   rw [List.getElem?_set_ne (by omega)]
  ·cases e
 ·obtain ⟨xs,rfl⟩:=CB Az
  have hN:bM (.Tuple (xs.map fun x=>Expr.Name x.1 x.2) kk p) = xs.map (·.1):=wY xs
  have hn:n = xs.length:=by rw [co.n,hN,List.length_map]
  have:=yv (X:=eL X (bM (.Tuple (xs.map fun x=>Expr.Name x.1 x.2) kk p) ++ gR S caps) sc cl C s₂ H2 fp) co.nd xs 0 (fun j y hy=>by
   refine ⟨?_,KA y.1 (by rw [hN];exact List.mem_map.mpr ⟨y,List.mem_of_getElem? hy,rfl⟩)⟩
   show (bM (.Tuple (xs.map fun x=>Expr.Name x.1 x.2) kk p) ++ gR S caps)[0 + j]? = _
   have hj:j < xs.length:=by
    by_cases hj:j < xs.length
    ·exact hj
    ·rw [List.getElem?_eq_none (by omega)] at hy;cases hy
   rw [hN,Nat.zero_add,List.getElem?_append_left (by simpa using hj),List.getElem?_map,hy];rfl)
  obtain ⟨h1,h2,h3⟩:=this
  refine ⟨_,Cc OX h1 h2 h3,fun F' R' v d σ' nA Q ρb ρ1 Si rp ho e hq=>?_⟩
  cases d <;> try (simp [bU] at e;done)
  rename_i ds
  simp only [bU] at e
  split at e
  ·cases e
  ·cases rp with
   | @tup _ a ys _ hp rs =>
    rw [List.length_map] at e
    have e':iO (List.range' 0 xs.length) ds ρb = ok ρ1:=by rw [<- List.range_eq_range'];exact e
    refine ⟨a,ys,rfl,hp,?_,oi (X:=eL X (bM (.Tuple (xs.map fun x=>Expr.Name x.1 x.2) kk p) ++ gR S caps) sc cl C s₂ H2 fp) σ' n (by omega) rs Si e' rfl (fun _ _=>rfl) hq⟩
    rw [rs.length]
    have:∀ (is:List Nat) (ds:List D) (ρ ρ':aC),iO is ds ρ = ok ρ' -> ds.length = is.length:=by
     intro is
     induction is with
     | nil=>intro ds ρ ρ' e;cases ds with | nil=>rfl | cons _ _=>cases e
     | cons i is ih=>intro ds ρ ρ' e;cases ds with
      | nil=>cases e
      | cons d ds =>
       change (if _ then _ else _) = _ at e
       split at e
       ·simp [ih ds _ _ e]
       ·cases e
    rw [this _ _ _ _ e',List.length_range']
theorem UI:∀ f:Fl,fe (aL f) = false:=by intro f;cases f <;> rfl
mutual
theorem FF:∀ d:D,aT fe (aD aL d) = false
 | .bE=>by simp [aD,aT]
 | .bl _=>by simp [aD,aT]
 | .int _=>by simp [aD,aT]
 | .tup ds=>by simp [aD,aT,fX ds]
 | .lst f ds=>by simp [aD,aT,fX ds,UI]
 | .jG f ks vs=>by simp [aD,aT,fX vs,UI]
 | .kM f ks vs=>by simp [aD,aT,fX vs,UI]
theorem fX:∀ ds:List D,az fe (ai aL ds) = false
 | []=>by simp [ai,az]
 | d :: ds=>by simp [ai,az,FF d,fX ds]
end
theorem yQ {P:Program} {w:World} {H:Hp} {h:Heap} {a:Addr} {o:HO} (x:mJ P w H h) (hn:H a = none) (new:dY P w (upd H a o) h a o):mJ P w (upd H a o) h:=fun b u e=>by
 by_cases hb:b = a
 ·subst hb;rw [aM] at e;cases e;exact new
 ·rw [aK hb] at e
  exact (x b u e).p8 (fun c v _ q=>q) (fun c q=>by rw [aK (cC q hn)];exact q) fun c xs q=>by rw [aK (cC q hn)];exact q
structure CAt (X X':Cx) (F' R':Addr -> Prop) (n:Nat) (base:aC) (σ0:St) (fp:List Addr) (tn:Nat -> Heap -> Prop) (H2:Hp) (D:Addr) (items:List DI.D) (bind:DI.D -> O aC) (test:aC -> O Bool) (el:aC -> O DI.D) (all:List DI.D) (m:Nat) (s':Shared):Prop where
 ex:∃ (i:Nat) (vs:List V) (aj:List Value) (nn:Nat) (σ':St) (H':Hp) (dn rest:List DI.D),m = items.length - i /\ i <= items.length /\ Inv X' [(D,fb aj nn)] σ' H' s' /\ tn i s'.heap /\ (∀ b ∈ fp,H' b = none) /\ Vals vs aj /\ ao H2 H' /\
  SI X' F' R' (fun _=>none) base σ' H' /\ cj X.K (gP X' F') R' (fun _=>none) [] H2 H' vs dn /\ hU bind test el (items.drop i) = ok rest /\ dn ++ rest = all
end
end DI
end
section
namespace DI
open PySem PySem.Spec PyProof.Rows L2
theorem cj.go {K:PySem.W.Frag} {G R:Addr -> Prop} {τ:Addr -> Option aH} {fv:List Nat} {H H1 H2:Hp} {vs:List V} {ds:List D} (h:cj K G R τ fv H H1 vs ds) (e:ao H1 H2):cj K G R τ fv H H2 vs ds :=
 let ⟨τt,h1,h2⟩:=h;⟨τt,h1,h2.imp (fun _ _ h=>aG.same e h) fun _ _ _ _ h=>nd.same e h⟩
theorem oG:∀ {ds:List D} {d:D},az fe ds = false -> d ∈ ds -> aT fe d = false
 | [],_,_,h=>nomatch h
 | e :: ds,d,h,hm=>by
  rw [az,Bool.or_eq_false_iff] at h
  rcases List.mem_cons.mp hm with rfl | z
  ·exact h.1
  ·exact oG h.2 z
theorem zV {d:D} {items:List D} (h:qc d = ok items):∀ d ∈ items,aT fe d = false:=by
 unfold qc at h
 split at h
 ·cases h;exact fun d hd=>oG (fX _) hd
 ·cases h
theorem xq {Φ:aA} {ik:IK} {xs items:List D} (h:fc Φ ik xs = ok items):∀ d ∈ items,aT fe d = false:=by
 cases ik with
 | eE p=>obtain ⟨d,_,h⟩:=ah h;exact zV h
 | mP =>
  cases xs with
  | nil=>cases h
  | cons x t=>cases x <;> first | (cases h;done) | (cases t with
   | cons _ _=>cases h
   | nil =>
    obtain ⟨_,h⟩:=qp h
    subst h
    intro d hd
    obtain ⟨k,_,rfl⟩:=List.mem_map.mp hd
    rfl)
 | seq =>
  cases xs with
  | nil=>cases h
  | cons x t=>cases x <;> first | (cases h;done) | (cases t with
   | cons _ _=>cases h
   | nil=>cases h;exact fun d hd=>oG (fX _) hd)
theorem xu {n:Nat} {caps:List Nat} {ρ:aC} {i:Nat} {d:D} (h:(aY n caps ρ)[i]? = some (some d)):n <= i:=by
 unfold aY at h
 by_cases hn:i < n
 ·rw [List.getElem?_append_left (by simpa using hn),List.getElem?_replicate,if_pos hn] at h;cases h
 ·omega
section
variable {X:Cx} {S:Sx} {k:Nat} {F:Addr -> Prop} {Φ:aA}
theorem CM {n:Nat} {t:Tg} {caps:List Nat} {target:Expr} {sc:Scope} {cl:List (Str × Addr)} {fp:List Addr} {s₂:Shared} {H2:Hp} {C:Addr} (L:Lk X S k Φ) (co:kL S n t caps target sc) :
  Lk (eL X (bM target ++ gR S caps) sc cl C s₂ H2 fp) (S.inner target caps sc) k Φ:=by
 refine ⟨?_,rfl,co.nd,L.calm,L.room,L.bl,fun f x h=>⟨(L.fn f x h).ex⟩,L.cs,L.pr⟩
 show relabel sc X.env = vj sc S.sc
 rw [<- L.sc];rfl
theorem wg (L:Lk X S k Φ) {n:Nat} {t:Tg} {caps:List Nat} {ik:IK} {es a_:List CE} {elt:CE} {target iter iW:Expr} {ifs:List Expr} {sc:Scope} {pos:Pos} (co:kL S n t caps target sc) (Bg:i8 iter = true)
    (hE:∀ (X':Cx) (F':Addr -> Prop),Lk X' (S.inner target caps sc) k Φ -> PE X' iW (tD X' F' Φ elt))
    (hC:(a_ = [] /\ ifs = []) \/ ∃ c e,a_ = [c] /\ ifs = [e] /\ ∀ (X':Cx) (F':Addr -> Prop),Lk X' (S.inner target caps sc) k Φ -> PT X' e (ie X' F' Φ c))
    (hI:∀ (pins:List (Addr × Obj)) (s:Shared) (σ:St) (H:Hp) (R:Addr -> Prop) (τ:Addr -> Option aH) (ρ:aC) (xs items:List D),Inv X pins σ H s -> SI X F R τ ρ σ H -> cM Φ es ρ = ok xs -> fc Φ ik xs = ok items -> ∀ Rr:It -> Hp -> Prop,
      (∀ J H2,ao H H2 -> Yl X.K J (l_ X F τ (caps ++ dw es) H2) H2 items -> Rr J H2) -> wpAny (model X.prog X.w) X.A (eval iter X.env) (fun v s1=>wpAny (model X.prog X.w) X.A (pyIter v) (DX X pins σ target Rr) X.xe s1) X.xe s)
    {use:Option (Value -> Sem Unit)} {Post:Value -> Shared -> Prop} {pins:List (Addr × Obj)} {s:Shared} {σ:St} {H:Hp} {R:Addr -> Prop} {τ:Addr -> Option aH} {ρ:aC} {d:D} {Yb:Pos} (I:Inv X pins σ H s) (Si:SI X F R τ ρ σ H) (ev:aN Φ (.comp n t caps ik es a_ elt) ρ = ok d)
    (OF:∀ (acc C:Addr) (H1:Hp) (s1:Shared) (m:Str -> Option Value),s1.heap.Ns C m -> (C ≠ X.env.locals /\ X.s₀.heap.objs.size <= C /\ (∀ x c,X.env.cells.lookup x = some c -> c ≠ C) /\ (∀ p ∈ X.pn ++ pins,p.1 ≠ C) /\ H1 C = none) -> (∀ h',Heap.SameBut C s1.heap h' -> Inv X pins σ H1 { s1 with heap:=h' }) -> ao H H1 ->
      cc X.K (gP X F) R τ (iQ (.comp n t caps ik es a_ elt)) H H1 (.ref acc) d -> compPost (model X.prog X.w) X.A X.xe use Post (.ref acc) C (.ok .next) s1) :
    wpAny (model X.prog X.w) X.A (comprehension (.ListComp iW [⟨target,iter,ifs,0⟩] sc pos) sc X.env Yb (newList []) false (eval iter X.env) use) Post X.xe s:=by
  obtain ⟨xs,dk,ev⟩:=ah ev
  obtain ⟨items,xI,ev⟩:=ah ev
  obtain ⟨ds,Lw,ev⟩:=ah ev
  simp only [HJ] at ev
  obtain ⟨m9,rfl⟩:=ev
  have OJ:=xq xI
  obtain ⟨cl,OW,m8,xx⟩:=xM (env:=X.env) (sc:=sc) (fun x hx=>I.ok.has x (by
    show X.env.scope.names.lookup x = some .cell \/ X.env.scope.names.lookup x = some .free
    rw [L.sc];exact co.free x hx))
  have oU:∀ x,foldedSetIterable iter X.env x = pure x:=by intro x;cases iter <;> first | rfl | (cases Bg;done)
  refine wpAny_comprehension_free (use:=use) rfl oU OW co.kind co.loc (wpAny_mono (hI pins s σ H R τ ρ xs items I Si dk xI (fun J H2=>ao H H2 /\ Yl X.K J (l_ X F τ (caps ++ dw es) H2) H2 items) (fun J H2 e y=>⟨e,y⟩)) (fun xv s₁ h₁=>wpAny_mono h₁ (fun WX s₂ h₂=>?_) fun _ _ e=>e) fun _ _ e=>e)
  obtain ⟨it,fp,tn,J,H2,rfl,I2,T,Ni,f2,e2,yl⟩:=h₂
  have A7:=Si.go e2
  have KC:∀ b ∈ fp,b < s₂.heap.objs.size:=fun b hb=>let ⟨o,ho,_⟩:=T.obj 0 _ Ni b hb;Heap.lt_size ho
  refine wpAny_newObj_type (wpAny_newFunctionEnv co.CA (by intro y hy;simp at hy) (fun h₁ tj oS=>?_) co.kind)
  dsimp only at tj oS ⊢
  generalize XJ:s₂.heap.push { cls:=.type "list",dict:=none,data:=.seq ([]:List Value).toArray } = G2 at tj oS ⊢
  have hGC:G2.objs.size = s₂.heap.objs.size + 1:=by rw [<- XJ,Heap.size_push]
  have RA:s₂.heap.objs.size ≠ s₂.heap.objs.size + 1:=Nat.ne_of_lt (Nat.lt_succ_self _)
  rw [hGC] at tj oS
  have old:∀ b o,s₂.heap.get? b = some o -> h₁.get? b = some o:=fun b o e=>oS.extBut b o (Nat.ne_of_lt (Nat.lt_succ_of_lt (Heap.lt_size e))) (Heap.get?_push_of_some _ (XJ ▸ Heap.get?_push_of_some _ e))
  have kf:h₁.get? s₂.heap.objs.size = some (fb [] 0):=oS.extBut _ _ RA (Heap.get?_push_of_some _ (XJ ▸ Heap.get?_push_size _ rfl))
  let X':=eL X (bM target ++ gR S caps) sc cl (s₂.heap.objs.size + 1) s₂ H2 fp
  let F':=kN (gP X F) τ (caps ++ dw es)
  let R':=l_ X F τ (caps ++ dw es) H2
  have L':Lk X' (S.inner target caps sc) k Φ:=CM L co
  have I4:=fun tk=>CZ (h₁:=h₁) (tk:=tk) L co I2 m8 xx f2 KC (by simpa using tj) old kf
  have S4:SI X' F' R' (fun _=>none) (aY n caps ρ) (qb n caps σ) H2:=BQ (t:=t) A7 (fun i hi=>by simp [hi])
  obtain ⟨g,hg,C8⟩:=Iz (X:=X) (S:=S) (cl:=cl) (fp:=fp) (s₂:=s₂) (H2:=H2) (C:=s₂.heap.objs.size + 1) L.calm co
  have XM:s₂.heap.objs.size ∉ X'.fs:=fun z=>by
    rcases List.mem_cons.mp (I2.lX _ z) with w | w
    · exact absurd w (Nat.ne_of_gt I2.lt)
    · exact I2.JP (Nat.le_refl _) w
  have KG:∀ x c,cl.lookup x = some c -> c ≠ s₂.heap.objs.size:=fun x c e=>by
    obtain ⟨v,q⟩:=I2.cell x c (m8 x c e)
    exact Nat.ne_of_lt q.lt
  have Gh:∀ b ∈ fp,b ≠ X'.env.locals /\ b ∉ X'.fs /\ (b ∈ X'.ex \/ X'.s₀.heap.objs.size <= b) /\ (∀ x c,X'.env.cells.lookup x = some c -> c ≠ b):=fun b hb =>
    ⟨Nat.ne_of_lt (Nat.lt_succ_of_lt (KC b hb)),fun z=>by
      rcases List.mem_cons.mp (I2.lX b z) with w | w
      · exact (f2 b hb).2.1 w
      · exact (f2 b hb).2.2.1 w,.inl hb,fun x c e=>(f2 b hb).2.2.2.2.1 x c (m8 x c e)⟩
  have OR:∀ b ∈ fp,b ≠ s₂.heap.objs.size:=fun b hb=>Nat.ne_of_lt (KC b hb)
  have fin:∀ (vs:List V) (aj:List Value) (nn:Nat) (σ':St) (H':Hp) (s1:Shared),Inv X' [(s₂.heap.objs.size,fb aj nn)] σ' H' s1 -> Vals vs aj -> ao H2 H' -> cj X.K (gP X' F') R' (fun _=>none) [] H2 H' vs ds ->
      compPost (model X.prog X.w) X.A X.xe use Post (.ref s₂.heap.objs.size) (s₂.heap.objs.size + 1) (.ok .next) s1:=by
    intro vs aj nn σ' H' s1 I1 rv sm E_
    obtain ⟨m,hn,_⟩:=I1.loc
    obtain ⟨pD,nD,_,_,_⟩:=I1.pin (s₂.heap.objs.size,fb aj nn) (List.mem_append_right _ List.mem_cons_self)
    have bs:=I1.base
    have HE:∀ b o,s₂.heap.get? b = some o -> b ≠ s₂.heap.objs.size + 1:=fun b o e=>Nat.ne_of_lt (Nat.lt_succ_of_lt (Heap.lt_size e))
    have neD:∀ b o,s₂.heap.get? b = some o -> b ≠ s₂.heap.objs.size:=fun b o e=>Nat.ne_of_lt (Heap.lt_size e)
    have Se:∀ b u,H' b = some u -> upd H' s₂.heap.objs.size (.lst vs) b = some u:=fun b u e=>by rw [aK (cC e nD)];exact e
    have hlen:vs.length <= sizeLine:=by
      obtain ⟨_,_,rr⟩:=E_
      have hz:sizeLine = 16777216:=sizeLine_eq
      have hc:eN = 1000000:=rfl
      rw [rr.length];omega
    have IX:∀ h',Heap.SameBut (s₂.heap.objs.size + 1) s1.heap h' -> Inv X pins σ (upd H' s₂.heap.objs.size (.lst vs)) { s1 with heap:=h' }:=fun h' Gd=>by
      have un:Un (Bk X.stack) fp H2 (upd H' s₂.heap.objs.size (.lst vs)) s₂.heap h' :=
        ⟨fun b o e n hb hx=>Gd.extBut b o (HE b o e) (bs.keep b o e n hb hx),
         fun b o e n hb hx=>let ⟨sl,q⟩:=bs.slot b o e n hb hx;⟨sl,Gd.extBut b _ (HE b o e) q⟩,
         fun b o e n hx=>by rw [aK (neD b o e)];exact bs.free b o e n hx,
         fun b o e hx=>let ⟨o',q⟩:=bs.there b o e hx;⟨o',Gd.extBut b _ (HE b o e) q⟩,
         fun b xs e=>Se b _ (bs.sf b xs e),fun b o u e=>Se b _ (bs.qz b o u e),fun b ps e=>let ⟨more,q⟩:=bs.sk b ps e;⟨more,Se b _ q⟩⟩
      have Xo:mJ X.prog X.w H' h':=fun a o e=>(I1.dD a o e).p8 (fun b u hb q=>Gd.extBut b u (by
        rintro rfl
        have hf:H' (s₂.heap.objs.size + 1) = none:=I1.free
        rcases hb with z | z
        · rw [<- z,hf] at e;cases e
        · rw [hf] at z;cases z) q) (fun _ q=>q) fun _ _ q=>q
      have Xn:mJ X.prog X.w (upd H' s₂.heap.objs.size (.lst vs)) h':=yQ Xo nD ⟨hlen,aj,nn,rv,Gd.extBut _ _ RA pD⟩
      exact I2.Qt (ch:=fp) I1.os un Xn I1.bare fun b hb=>⟨(f2 b hb).2.2.2.1,(f2 b hb).2.1,(f2 b hb).2.2.2.2.1,(f2 b hb).2.2.2.2.2⟩
    have eS:ao H' (upd H' s₂.heap.objs.size (.lst vs)):=ao.upd nD
    obtain ⟨τt,fr,rs⟩:=E_
    have V8:s₂.heap.objs.size + 1 ≠ s₂.heap.objs.size:=Nat.succ_ne_self _
    refine OF s₂.heap.objs.size (s₂.heap.objs.size + 1) _ s1 m hn ⟨Nat.ne_of_gt (Nat.lt_succ_of_lt I2.lt),Nat.le_succ_of_le I2.sz,fun x c e=>?_,fun p hp=>?_,?_⟩ IX ((e2.trans sm).trans eS) ⟨fun q=>if q = s₂.heap.objs.size then some [] else τt q,fun q z hz=>?_,.lst ⟨aM,by simp⟩ (ag.map (q:=[]) (q':=[]) (fun _ _ h=>aG.same eS h) (fun c p ys f h=>?_) rs [] rfl)⟩
    · obtain ⟨v,z⟩:=I2.cell x c e
      exact Nat.ne_of_lt (Nat.lt_succ_of_lt z.lt)
    · exact Nat.ne_of_lt (Nat.lt_succ_of_lt (Heap.lt_size (I2.pin p hp).1))
    · rw [aK V8];exact I1.free
    · by_cases Be:q = s₂.heap.objs.size
      · rw [Be];exact e2.free (sm.free nD)
      · simp only [Be,if_false] at hz;exact e2.free (fr q z hz)
    · have h':=nd.same eS h
      have aa1:∀ p,gP X' F' p -> kN (gP X F) τ (caps ++ dw es) p:=fun p hp=>hp.elim id fun z=>⟨.inr (A7.same.free z),fun c i e=>absurd z (A7.th p _ e)⟩
      cases f with
      | ow =>
        have Be:p ≠ s₂.heap.objs.size:=by
          intro z;subst z
          exact h.1.ne nD
        refine ⟨h'.1,?_⟩
        show (if p = s₂.heap.objs.size then some [] else τt p) = _
        rw [if_neg Be];exact h'.2
      | fz=>exact ⟨h'.1,h'.2.2⟩
      | al=>exact ⟨h'.1,aa1 p h'.2.1⟩
      | sc=>exact h'
  have tst:∀ (P:List (Addr × Obj)) (ρ1:aC) (b:Bool) (σ2:St) (H5:Hp) (s6:Shared),iS Φ a_ ρ1 = ok b -> Inv X' P σ2 H5 s6 -> SI X' F' R' (fun _=>none) ρ1 σ2 H5 ->
      wpAny (model X.prog X.w) X.A (forIn ifs true fun c r=>if r = true then do let ok <- isTrue c X'.env (eval c X'.env);pure (ForInStep.yield ok) else pure (ForInStep.yield r)) (fun UM s7=>UM = b /\ ∃ H7,Inv X' P σ2 H7 s7 /\ ao H5 H7) (fun _ _=>False) s6:=by
    intro P ρ1 b σ2 H5 s6 eb I6 S6
    rcases hC with ⟨rfl,rfl⟩ | ⟨c,e,rfl,rfl,hPT⟩
    · rw [iS] at eb;cases eb
      exact wpAny_tests_nil ⟨rfl,H5,I6,ao.refl _⟩
    · rw [iS] at eb
      obtain ⟨b',eb',eb⟩:=ah eb
      have hb:b' = b:=by
        cases b' with
        | true=>rw [if_pos rfl,iS] at eb;cases eb;rfl
        | false=>rw [if_neg (by simp)] at eb;cases eb;rfl
      subst hb
      refine wpAny_tests_one (wpAny_mono (hPT X' F' L' P s6 σ2 H5 (fun b'' H7=>b'' = b' /\ ao H5 H7) I6 ⟨R',_,ρ1,b',S6,eb',fun H7 e7=>⟨rfl,e7⟩⟩) (fun b'' s7 ⟨H7,I7,hb,e7⟩=>⟨hb,H7,I7,e7⟩) fun _ _ e=>e)
  have loop:∀ tk,codeAny (model X.prog X.w) X.A (.compLoop (.ListComp iW [⟨target,iter,ifs,0⟩] sc pos) 0 (.ref it) (.ref s₂.heap.objs.size) X'.env)
      (compPost (model X.prog X.w) X.A X.xe use Post (.ref s₂.heap.objs.size) (s₂.heap.objs.size + 1)) { s₂ with heap:=h₁,toks:=tk }:=by
    intro tk
    refine tR (CAt X X' F' R' n (aY n caps ρ) (qb n caps σ) fp tn H2 s₂.heap.objs.size items (fun d=>bU t d (aY n caps ρ)) (fun ρ'=>iS Φ a_ ρ') (fun ρ'=>aN Φ elt ρ') ds) ?_ items.length
      ⟨0,[],[],0,qb n caps σ,H2,[],ds,rfl,Nat.zero_le _,I4 tk,T.keep _ _ _ Ni (fun b _ o e=>old b o e),fun b hb=>(f2 b hb).1,.nil,ao.refl _,S4,.nil,by rw [List.drop_zero];exact Lw,rfl⟩
    rintro m s' ⟨i,vs,aj,nn,σ',H',dn,rest,hm,hi,I',p9,fr',rv,sm,ia,E_,gd,eall⟩
    have K3:∀ b ∈ fp,pR X' [(s₂.heap.objs.size,fb aj nn)] H' b:=fun b hb=>⟨fr' b hb,(Gh b hb).1,(Gh b hb).2.1,(Gh b hb).2.2.1,(Gh b hb).2.2.2,fun p hp=>by
      have oT:p = (s₂.heap.objs.size,fb aj nn):=by simpa [X',eL] using hp
      rw [oT];exact (OR b hb).symm⟩
    by_cases iX:i < items.length
    · refine wpAny_mono (T.item X' rfl rfl rfl L.calm i _ s' σ' H' (fun _ _=>False) I' K3 p9 (yl.go i H' sm iX)) (fun r s1 h4=>?_) fun _ _ e=>e
      obtain ⟨u,hr,h4⟩:=h4
      subst hr
      refine wpAny_mono h4 (fun _ s5 h5=>?_) fun _ _ e=>e
      obtain ⟨x,H5,I5,r5,y5,IG,Ya⟩:=h5
      obtain ⟨e5,dd,hd,rd⟩:=yl.wJ i H' x H5 sm iX y5
      have I5':=I5.pinned (fp:=fp) (fun b hb=>⟨Ya b hb,(K3 b hb).2⟩) (T.obj _ _ IG)
      have vL:items.drop i = dd :: items.drop (i + 1):=by
        rw [List.drop_eq_getElem_cons iX]
        rw [List.getElem?_eq_getElem iX] at hd
        cases hd;rfl
      rw [vL,hU] at gd
      obtain ⟨ρ1,eb,gd⟩:=ah gd
      obtain ⟨bb,et,gd⟩:=ah gd
      refine wpAny_mono (hg _ s5 σ' H5 x u (fun σ2 H6=>H6 = H5 /\ σ2.length = σ'.length /\ (∀ j,n <= j -> σ2[j]? = σ'[j]?) /\ SI X' F' R' (fun _=>none) ρ1 σ2 H5) I5' r5
        (C8 F' R' x dd σ' H5 _ (aY n caps ρ) ρ1 (ia.go e5) rd (OJ dd (List.mem_of_getElem? hd)) eb fun σ2 g1 g2 g3=>⟨rfl,g1,g2,g3⟩)) (fun _ s6 h6=>?_) fun _ _ e=>e
      obtain ⟨σ2,H6,I6,rfl,g1,g2,S6⟩:=h6
      refine wpAny_mono (tst _ ρ1 bb σ2 H6 s6 et I6 S6) (fun UM s7 h7=>?_) fun _ _ e=>e
      obtain ⟨rfl,H7,I7,e7⟩:=h7
      have Sh:∀ {P:List (Addr × Obj)} {σ3:St} {H8:Hp} {s8:Shared},Inv X' (P ++ i6 fp s5.heap) σ3 H8 s8 -> tn (i + 1) s8.heap /\ ∀ b ∈ fp,H8 b = none:=fun {P σ3 H8 s8} I8 =>
        ⟨T.keep _ _ _ IG fun b hb o e=>(I8.pin (b,o) (List.mem_append_right _ (List.mem_append_right _ (il hb e)))).1,fun b hb=>by
          obtain ⟨o,e,_⟩:=T.obj _ _ IG b hb
          exact (I8.pin (b,o) (List.mem_append_right _ (List.mem_append_right _ (il hb e)))).2.1⟩
      have Ig:∀ {H8:Hp},ao H7 H8 -> SI X' F' R' (fun _=>none) (aY n caps ρ) σ2 H8:=fun {H8} e8=>(ia.go ((e5.trans e7).trans e8)).sig g1 fun j d hj=>g2 j (xu hj)
      cases UM with
      | false =>
        rw [if_neg (by simp)] at gd ⊢
        exact ⟨items.length - (i + 1),by omega,i + 1,vs,aj,nn,σ2,H7,dn,rest,rfl,iX,I7.kS,(Sh I7).1,(Sh I7).2,rv,(sm.trans e5).trans e7,Ig (ao.refl _),E_.go (e5.trans e7),gd,eall⟩
      | true =>
        rw [if_pos rfl] at gd ⊢
        obtain ⟨y,ey,gd⟩:=ah gd
        obtain ⟨ys,qB,gd⟩:=ah gd
        cases gd
        refine wpAny_mono (hE X' F' L' _ s7 σ2 H7 (fun v H8=>ao H7 H8 /\ cc X.K (gP X' F') R' (fun _=>none) [] H7 H8 v y) I7 ⟨R',_,ρ1,y,S6.go e7,ey,fun v H8 e8 r8=>⟨e8,?_⟩⟩) (fun u8 s8 h8=>?_) fun _ _ e=>e
        · obtain ⟨τt,fr,rr⟩:=r8
          exact ⟨τt,fr,rr.imp (q:=[]) (q':=[]) (fun _ _ h=>h) fun c p ys f h=>h.mono id (fun h=>⟨h.1,fun _ _ e=>by cases e⟩) id⟩
        · obtain ⟨v8,H8,I8,rv8,e8,r8⟩:=h8
          obtain ⟨pD,nD,_,_,_⟩:=I8.pin (s₂.heap.objs.size,fb aj nn) (List.mem_append_right _ (List.mem_append_left _ List.mem_cons_self))
          have hlen:aj.length <= 1000000:=by
            obtain ⟨_,_,rr⟩:=E_
            have h1:dn.length <= ds.length:=by rw [<- eall,List.length_append];omega
            have hc:eN = 1000000:=rfl
            rw [<- rv.length,rr.length];omega
          have hz:sizeLine = 16777216:=sizeLine_eq
          refine call_meets PySem.F.slot_list_append ⟨_,pD,rfl⟩ PySem.F.entry_list_append (PySem.F.args_list_append_2 _ _) (PySem.list_append s₂.heap.objs.size aj.toArray nn u8 (by rw [List.size_toArray];omega)) ⟨pD,?_⟩
          have q:=PySem.IsL.update pD (fun x=>x.push u8)
          have OE:aj.toArray.push u8 = (aj ++ [u8]).toArray:=by simp
          rw [OE] at q
          obtain ⟨Rh,q'⟩:∃ Rh,(s8.heap.update s₂.heap.objs.size (Obj.mapSeq fun x=>x.push u8)).get? s₂.heap.objs.size = some (fb (aj ++ [u8]) Rh):=⟨_,q⟩
          have I8d:Inv X' (i6 fp s5.heap) σ2 H8 s8:=I8.jE fun p hp=>I8.pin p (List.mem_append_right _ (List.mem_append_right _ hp))
          have I8t:Inv X' (i6 fp s5.heap) σ2 H8 { s8 with heap:=s8.heap.update s₂.heap.objs.size (Obj.mapSeq fun x=>x.push u8),toks:=s8.toks } :=
            I8d.turned (it:=s₂.heap.objs.size) (fun b o hb e=>(Heap.get?_update_other s8.heap (Obj.mapSeq fun x=>x.push u8) (Ne.symm hb)).trans e) nD RA (.inr (Nat.le_refl _)) KG fun p hp=>by
              have oT:p ∈ i6 fp s5.heap:=by simpa [X',eL] using hp
              exact OR p.1 (rn oT).1
          have kp:=Sh (P:=[]) (by rw [List.nil_append];exact I8t)
          refine ⟨items.length - (i + 1),by omega,i + 1,vs ++ [v8],aj ++ [u8],Rh,σ2,H8,dn ++ [y],ys,rfl,iX,I8t.jE (fun p hp=>?_),kp.1,kp.2,rv.append (.cons rv8 .nil),((sm.trans e5).trans e7).trans e8,Ig e8,cj.snoc ((sm.trans e5).trans e7) e8 (E_.go (e5.trans e7)) r8,qB,by rw [List.append_assoc];exact eall⟩
          have oT:p = (s₂.heap.objs.size,fb (aj ++ [u8]) Rh):=by simpa using hp
          rw [oT]
          exact ⟨q',nD,RA,XM,fun v z=>by cases z⟩
    · refine wpAny_mono (T.done X' rfl rfl rfl L.calm i _ s' σ' H' (fun _ _=>False) I' K3 p9 (yl.stop i H' sm (by omega))) (fun r s1 h1=>?_) fun _ _ e=>e
      obtain ⟨hr,I1⟩:=h1
      subst hr
      have Xs:items.drop i = []:=List.drop_eq_nil_of_le (by omega)
      rw [Xs,hU] at gd
      cases gd
      rw [List.append_nil] at eall
      subst eall
      exact fin vs aj nn σ' H' s1 I1 rv sm E_
  have key:=fun tk=>codeAny_compStart_list (loop tk) (T.self X.A 0 _ _ _ (T.keep _ _ _ Ni fun b _ o e=>old b o e) (loop tk))
  rw [hGC]
  exact key _
theorem ER (L:Lk X S k Φ) {n:Nat} {t:Tg} {caps:List Nat} {ik:IK} {es a_:List CE} {elt:CE} {target iter iW:Expr} {ifs:List Expr} {sc:Scope} {pos:Pos} (co:kL S n t caps target sc) (Bg:i8 iter = true)
  (hE:∀ (X':Cx) (F':Addr -> Prop),Lk X' (S.inner target caps sc) k Φ -> PE X' iW (tD X' F' Φ elt))
  (hC:(a_ = [] /\ ifs = []) \/ ∃ c e,a_ = [c] /\ ifs = [e] /\ ∀ (X':Cx) (F':Addr -> Prop),Lk X' (S.inner target caps sc) k Φ -> PT X' e (ie X' F' Φ c))
  (hI:∀ (pins:List (Addr × Obj)) (s:Shared) (σ:St) (H:Hp) (R:Addr -> Prop) (τ:Addr -> Option aH) (ρ:aC) (xs items:List D),Inv X pins σ H s -> SI X F R τ ρ σ H -> cM Φ es ρ = ok xs -> fc Φ ik xs = ok items -> ∀ Rr:It -> Hp -> Prop,
   (∀ J H2,ao H H2 -> Yl X.K J (l_ X F τ (caps ++ dw es) H2) H2 items -> Rr J H2) -> wpAny (model X.prog X.w) X.A (eval iter X.env) (fun v s1=>wpAny (model X.prog X.w) X.A (pyIter v) (DX X pins σ target Rr) X.xe s1) X.xe s) :
  PE X (.ListComp iW [⟨target,iter,ifs,0⟩] sc pos) (tD X F Φ (.comp n t caps ik es a_ elt)):=by
 intro pins s σ H Q I hq
 obtain ⟨R,τ,ρ,d,Si,ev,hq⟩:=hq
 rw [eval_ListComp]
 refine wg L co Bg hE hC hI (use:=none) (Post:=EP X pins σ Q) I Si ev fun acc C H1 s1 m hn _ IX sm rt=>?_
 exact ⟨m,hn,fun h' Gd=>⟨.ref acc,H1,IX h' Gd,rfl,hq _ _ sm rt⟩⟩
end
end DI
end
section
namespace DI
open PySem PySem.Spec PyProof.Rows L2
section
variable {X:Cx} {pins:List (Addr × Obj)} {s:Shared} {σ:L2.St} {H:Hp}
theorem vH {A:Around} {E:Value -> Shared -> Prop} {l:Addr} {items:Array Value} {prog:Program} {w:World} {Q:Value -> Shared -> Prop} {s:Shared} (hl:s.heap.IsList l items)
  (h:∀ s₂:Shared,s₂ = { s with heap:=s.heap.push { cls:=.type "list_iterator",data:=.fields #[.ref l,.int 0 0] } } -> s₂.heap.IsListIter s.heap.objs.size l 0 /\ s₂.heap.IsList l items -> (∀ b ∈ [s.heap.objs.size,l],b < s₂.heap.objs.size) -> l ≠ s.heap.objs.size -> Q (.ref s.heap.objs.size) s₂) :
  wpAny (model prog w) A (pyIter (.ref l)) Q E s:=by
 have iX:l < s.heap.objs.size:=by obtain ⟨_,e,_⟩:=hl;exact Heap.lt_size e
 refine wpAny_pyIter_list hl (h _ rfl ⟨⟨_,Heap.get?_push_size _ rfl,rfl,rfl⟩,hl.push _⟩ (fun b hb=>?_) (Nat.ne_of_lt iX))
 have hz:(s.heap.push { cls:=.type "list_iterator",data:=.fields #[.ref l,.int 0 0] }).objs.size = s.heap.objs.size + 1:=Heap.size_push ..
 have jU:b = s.heap.objs.size \/ b = l:=by simpa using hb
 show b < _
 rw [hz]
 rcases jU with e | e
 ·rw [e];exact Nat.lt_succ_self _
 ·rw [e];exact Nat.lt_succ_of_lt iX
theorem vE {h':Heap} {o₀:Obj} {s:Shared} (hk:∀ b o,b ∉ [s.heap.objs.size] -> (s.heap.push o₀).get? b = some o -> h'.get? b = some o):∀ b o,s.heap.get? b = some o -> h'.get? b = some o:=fun b o e =>
 hk b o (fun hm=>absurd ((by simpa using hm:b = s.heap.objs.size) ▸ Heap.lt_size e) (Nat.lt_irrefl _)) (Heap.get?_push_of_some _ e)
theorem cI {h:Heap} {a:Addr} {aj:Array Value} (p:PlainL h a aj):h.IsList a aj:=let ⟨o,n,h1,h2,_,h4⟩:=p;⟨o,h1,h2,n,h4⟩
theorem mQ (val:Nat -> Int) (ns:List Int) (hv:∀ i,val i = ns.getD i 0):∀ k,k <= ns.length -> preSum val k = (ns.take k).sum
 | 0,_=>by simp [preSum]
 | k + 1,h=>by
  have hk:k < ns.length:=by omega
  rw [preSum,mQ val ns hv k (by omega),hv k,List.take_add_one,List.sum_append]
  simp [List.getD,hk]
theorem AZ (hc:X.calm = true):gI X (.builtin "sum") (fun xs H Q=>∃ (p:Addr) (ns:List Int),xs = [.ref p] /\ du X.K H p (ns.map V.int) /\ Q (.int ns.sum) H):=by
 intro pins s σ H xs us Q I r h
 obtain ⟨p,ns,rfl,hq,q⟩:=h
 obtain ⟨u,rfl,ru⟩:=r.one
 cases ru
 obtain ⟨aj,rv,pl,hz⟩:=I.list hq
 have hlen:aj.length = ns.length:=by have:=rv.length;simpa using this.symm
 refine call_sum_walkG (vH (cI pl) fun s₂ e st Gi Xw=>?_)
 subst e
 refine ⟨_,_,_,_,_,_,fun i=>ns.getD i 0,rfl,Walks.list (A:=X.A.in1) (I.ok.hd hc) _ p Xw aj.toArray,st,Gi,fun i v hP=>?_,fun h' tk t' hk=>?_⟩
 ·have hv:aj[i]? = some v:=by simpa using hP
  have hi:i < aj.length:=by
   by_cases z:i < aj.length
   ·exact z
   ·rw [List.getElem?_eq_none (by omega)] at hv;cases hv
  have hn:(ns.map V.int)[i]? = some (.int (ns.getD i 0)):=by
   rw [List.getElem?_map,List.getElem?_eq_getElem (by omega)]
   simp [List.getD,show i < ns.length by omega]
  obtain ⟨u,hu,ru⟩:=rv.get hn
  rw [hv] at hu
  cases hu
  exact ru
 ·refine ⟨.int ns.sum,H,I.kept (t':=tk) (vE hk),⟨t',?_⟩,q⟩
  have hz:preSum (fun i=>ns.getD i 0) aj.toArray.size = ns.sum:=by
   rw [List.size_toArray,hlen,mQ _ ns (fun _=>rfl) _ (Nat.le_refl _),List.take_length]
  rw [hz]
theorem range_all {α:Type} (l:List α) (f:α -> Bool) (tr:Nat -> Bool) (h:∀ i a,l[i]? = some a -> tr i = f a):(List.range l.length).all tr = l.all f:=by
 rw [Bool.eq_iff_iff,List.all_eq_true,List.all_eq_true]
 constructor
 ·intro z a ha
  obtain ⟨i,hi,e⟩:=List.mem_iff_getElem.mp ha
  have:=z i (List.mem_range.mpr hi)
  rw [h i a (by rw [List.getElem?_eq_getElem hi,e])] at this
  exact this
 ·intro z i hi
  have hi:=List.mem_range.mp hi
  rw [h i l[i] (List.getElem?_eq_getElem hi)]
  exact z _ (List.getElem_mem hi)
theorem A1 (hc:X.calm = true):gI X (.builtin "all") (fun xs H Q=>∃ (p:Addr) (bs:List Bool),xs = [.ref p] /\ du X.K H p (bs.map V.bl) /\ Q (.bl (bs.all id)) H):=by
 intro pins s σ H xs us Q I r h
 obtain ⟨p,bs,rfl,hq,q⟩:=h
 obtain ⟨u,rfl,ru⟩:=r.one
 cases ru
 obtain ⟨aj,rv,pl,hz⟩:=I.list hq
 have hlen:aj.length = bs.length:=by have:=rv.length;simpa using this.symm
 refine call_all_walk (vH (cI pl) fun s₂ e st Gi Xw=>?_)
 subst e
 refine ⟨_,_,_,_,_,_,fun i=>bs.getD i false,rfl,Walks.list (A:=X.A.in1) (I.ok.hd hc) _ p Xw aj.toArray,st,fun i v s' Q' E' hP hQ=>?_,fun h' tk hk=>?_⟩
 ·have hv:aj[i]? = some v:=by simpa using hP
  have hi:i < aj.length:=by
   by_cases z:i < aj.length
   ·exact z
   ·rw [List.getElem?_eq_none (by omega)] at hv;cases hv
  have hn:(bs.map V.bl)[i]? = some (.bl (bs.getD i false)):=by
   rw [List.getElem?_map,List.getElem?_eq_getElem (by omega)]
   simp [List.getD,show i < bs.length by omega]
  obtain ⟨u,hu,ru⟩:=rv.get hn
  rw [hv] at hu
  cases hu
  cases ru
  exact wpAny_truthy_bool hQ
 ·refine ⟨.bl (bs.all id),H,I.kept (t':=tk) (vE hk),?_,q⟩
  show Value.bool _ = Value.bool _
  rw [List.size_toArray,hlen,range_all bs id _ fun i a e=>by simp [List.getD,e]]
end
end DI
end
section
namespace DI
open PySem PySem.Spec PyProof.Rows L2
section
variable {prog:Program} {w:World} {A:Around} {E:Value -> Shared -> Prop} {s:Shared}
theorem pB {l:Addr} {vs:List Value} {Q:List Value -> Shared -> Prop} {o:Obj} {n:Nat} (ho:s.heap.get? l = some o) (hc:o.cls = .type "tuple") (hd:o.data = .seq vs.toArray n)
  (h:Q vs { s with heap:=(s.heap.push (seqObj "list" #[] 0)).update s.heap.objs.size (Obj.mapSeq (· ++ vs.toArray)) }) (td:vs.length <= sizeLine):wpAny (model prog w) A (collect (.ref l)) Q E s:=by
 unfold collect
 refine wpAny_bind (wpAny_runValue (codeAny_builtin entry_proto_collect' ?_))
 show wpAny _ _ (newList [] >>= fun z=>again (.builtin "list.__iadd__" ⟨[z,.ref l],[]⟩)) _ _ s
 refine wpAny_bind (wpAny_newList (wpAny_pure ⟨Code.quiet_builtin _ (by decide +kernel),codeAny_builtin entry_list_iadd' ?_⟩))
 have z1:(s.heap.push (seqObj "list" #[] 0)).get? l = some o:=Heap.get?_push_of_some _ ho
 have z2:(s.heap.push (seqObj "list" #[] 0)).get? s.heap.objs.size = some (seqObj "list" #[] 0):=Heap.get?_push_size _ rfl
 show wpAny _ _ (Builtin.List.listExtendWith (.ref s.heap.objs.size) (.ref l) (.ref s.heap.objs.size)) _ _ ({ s with heap:=s.heap.push (seqObj "list" #[] 0) }:Shared)
 unfold Builtin.List.listExtendWith
 refine wpAny_bind (wpAny_typeOf (T:="tuple") ⟨o,z1,hc⟩ ?_)
 rw [if_pos (by rw [show (Value.type "tuple" == Value.type "tuple") = true from rfl,Bool.or_true])]
 refine wpAny_bind (listItems_at z1 hd (wpAny_bind (listItems_at z2 rfl ?_)))
 rw [if_neg (by simp)]
 refine wpAny_bind (listUpdate_at z2 rfl ?_ (Nat.zero_le _) (by
  show (#[] ++ vs.toArray).size <= sizeLine + 1
  rw [Array.size_append,List.size_toArray]
  exact Nat.le_succ_of_le (by simpa using td)))
 refine wpAny_pure ?_
 show wpAny (model prog w) A (load s.heap.objs.size >>= fun o=>match o.data with
   | .seq xs _=>pure xs.toList
   | _=>unsupported "internal:collect") Q E ({ s with heap:=(s.heap.push (seqObj "list" #[] 0)).update s.heap.objs.size (Obj.mapSeq (· ++ vs.toArray)) }:Shared)
 refine wpAny_bind (wpAny_load (get?_update_seq z2 _) ?_)
 show wpAny _ _ (pure ((#[]:Array Value) ++ vs.toArray).toList) Q E _
 rw [show ((#[]:Array Value) ++ vs.toArray).toList = vs by simp]
 exact wpAny_pure h
theorem p_ {l:Addr} {vs:List Value} {ns:List Int} {Q:Value -> Shared -> Prop} {o:Obj} {n:Nat} (ho:s.heap.get? l = some o) (hc:o.cls = .type "tuple") (hd:o.data = .seq vs.toArray n) (hI:IntsAre vs ns) (vM:vs.length < 64)
  (h:∀ (out:Array Value) (lS:List Int),IntsAre out.toList lS -> lS.Perm ns -> lS.Pairwise (· <= ·) -> Q (.ref (s.heap.objs.size + 1)) { s with heap:=sortedAll s.heap vs out }):wpAny (model prog w) A (call (.builtin "sorted") [.ref l]) Q E s:=by
 refine Calls.call_function_entry kind_sorted plain_sorted entry_sorted (args_sorted1 _) ?_
 unfold Builtin.«sorted»
 have hz:vs.length <= sizeLine:=by rw [sizeLine_eq];omega
 refine wpAny_bind (m:=checkCount "sorted" 1 1 _) (wpAny_pure (wpAny_bind (pB ho hc hd (wpAny_bind (wpAny_newList ?_)) hz)))
 have e1:((s.heap.push (seqObj "list" #[] 0)).update s.heap.objs.size (Obj.mapSeq (· ++ vs.toArray))).objs.size = s.heap.objs.size + 1:=by rw [Heap.size_update,size_push']
 have e2:(((s.heap.push (seqObj "list" #[] 0)).update s.heap.objs.size (Obj.mapSeq (· ++ vs.toArray))).push (seqObj "list" vs.toArray 0)).get? (s.heap.objs.size + 1) = some (seqObj "list" vs.toArray 0):=by
  rw [<- e1];exact Heap.get?_push_size _ rfl
 show wpAny _ _ _ _ _ ({ s with heap:=((s.heap.push (seqObj "list" #[] 0)).update s.heap.objs.size (Obj.mapSeq (· ++ vs.toArray))).push (seqObj "list" vs.toArray 0) }:Shared)
 rw [e1]
 refine wpAny_bind (wpAny_holding (wpAny_call_entry slot_list_sort ⟨_,e2,rfl⟩ entry_list_sort (list_sort_tree e2 hI vM fun out lS a1 a2 a3=>⟨_,rfl,wpAny_pure ⟨_,rfl,h out lS a1 a2 a3⟩⟩) (args_list_sort _)))
end
theorem sortI_perm (ns:List Int):(sortI ns).Perm ns:=List.mergeSort_perm ..
theorem BN (ns:List Int):(sortI ns).Pairwise (· <= ·):=by
 have:=List.pairwise_mergeSort (le:=fun a b:Int=>decide (a <= b)) (by intro a b c;simp;omega) (by intro a b;simp;omega) ns
 unfold sortI
 simpa using this
theorem df:∀ {vs:List Value} {ns:List Int},Vals (ns.map V.int) vs -> IntsAre vs ns
 | _,[],h=>by cases h;exact .nil
 | _,n :: ns,h=>by
  cases h with
  | cons r t=>obtain ⟨tk,rfl⟩:=r;exact .cons n tk (df t)
theorem t_ {X:Cx}:gI X (.builtin "sorted") (fun xs H Q=>∃ (p:Addr) (ns:List Int),xs = [.ref p] /\ (du X.K H p (ns.map V.int) \/ aG X.K H p (ns.map V.int)) /\ ns.length < 64 /\ ∀ l,H l = none -> Q (.ref l) (upd H l (.lst ((sortI ns).map V.int)))):=by
 intro pins s σ H xs us Q I r h
 obtain ⟨p,ns,rfl,hq,vM,q⟩:=h
 obtain ⟨u,rfl,ru⟩:=r.one
 cases ru
 have fin:∀ (vs:List Value) (out:Array Value) (lS:List Int),IntsAre out.toList lS -> lS.Perm ns -> lS.Pairwise (· <= ·) -> EP X pins σ Q (.ref (s.heap.objs.size + 1)) { s with heap:=sortedAll s.heap vs out }:=by
  intro vs out lS h1 h2 h3
  obtain rfl:lS = sortI ns:=PySem.W.ksm_same (h2.trans (sortI_perm ns).symm) h3 (BN ns)
  obtain ⟨e,he⟩:=sortedAll_at s.heap vs out
  have hn:H (s.heap.objs.size + 1) = none:=I.dD.fresh (Nat.le_succ _)
  refine ⟨.ref (s.heap.objs.size + 1),upd H (s.heap.objs.size + 1) (.lst ((sortI ns).map V.int)),I.laid (t':=s.toks) (fun b u z=>sortedAll_old z) (Nat.le_succ _) ⟨?_,out.toList,e,lU h1,by simpa using he⟩,rfl,q _ hn⟩
  rw [List.length_map,(sortI_perm ns).length_eq,sizeLine_eq]
  omega
 rcases hq with hq | hq
 ·obtain ⟨aj,rv,pl,hz⟩:=I.list hq
  have hl:aj.length < 64:=by rw [<- rv.length];simpa using vM
  exact sorted_ints (cI pl) (df rv) hl fun out lS h1 h2 h3=>fin aj out lS h1 h2 h3
 ·obtain ⟨aj,rv,⟨o,ho,hc,n,hd⟩,hz⟩:=I.tuple hq
  have hl:aj.length < 64:=by rw [<- rv.length];simpa using vM
  exact p_ ho hc hd (df rv) hl fun out lS h1 h2 h3=>fin aj out lS h1 h2 h3
end DI
end
section
namespace DI
open PySem PySem.Spec PyProof.Rows L2
theorem Bz:isSubtype (.type "tuple") (.type "set") = pure false:=by rw [isSubtype_type];kernel_rfl
theorem uO:isSubtype (.type "tuple") (.type "frozenset") = pure false:=by rw [isSubtype_type];kernel_rfl
noncomputable abbrev mY (led:Bool):Obj:={ cls:=.type "set",dict:=none,data:=.set #[] 0 (.fresh 0 0 led) }
noncomputable abbrev dist (ns:List Int):List Int:=firstMet (fun i=>ns.getD i 0) ns.length
section
variable {prog:Program} {w:World} {A:Around} {E:Value -> Shared -> Prop} {s:Shared}
theorem w6 {l:Addr} {aj:List Value} {ns:List Int} {Q:Value -> Shared -> Prop} (hh:A.handled = none) (hl:s.heap.IsTuple l aj.toArray) (hi:IntsAre aj ns) (hb:aj.length + 1 < scanBound)
  (h:∀ (h':Heap) (tk:Nat),h'.SetOf (intKind prog w) s.heap.objs.size (fun k=>(dist ns).any (· == k)) (dist ns).length -> (∀ b o,b < s.heap.objs.size -> s.heap.get? b = some o -> h'.get? b = some o) -> Q (.ref s.heap.objs.size) { s with heap:=h',toks:=tk }) :
  wpAny (model prog w) A (call (.type "set") [.ref l]) Q E s:=by
 have hnl:aj.length = ns.length:=hi.length
 obtain ⟨c,tl,k1⟩:=F.called_set.mro
 have k2:=F.called_set.made
 have k3:=F.called_set.sub
 have k4:=F.called_set.notType
 have k5:=F.called_set.canCreate
 have k6:=F.typeCall_set_1 (.ref l)
 refine wpAny_call (codeAny_of_tree (show wpAny _ _ (callAny (.type "set") _) _ _ _ from wpAny_pure ⟨Code.quiet_builtin _ (by decide +kernel),codeAny_builtin F.entry_type_call ?_⟩))
 rw [Around.under_plain (weight_type_call_type "set" [.ref l] []) rfl]
 repeat (any_goals (first | assumption | wp_step))
 refine codeAny_mono (code_set_new_1 (.ref l) (E:=E) (Q₁:=fun z s₁=>∃ led:Bool,z = .ref s.heap.objs.size /\ s₁ = { s with heap:=s.heap.push (mY led) }) fun led=>⟨led,rfl,rfl⟩) fun r s₁ hr=>?_
 cases r with
 | error e=>exact hr
 | ok fl =>
  cases fl with
  | next=>exact hr.elim
  | brk=>exact hr.elim
  | cont=>exact hr.elim
  | ret z =>
   obtain ⟨led,rfl,rfl⟩:=hr
   have g1:(s.heap.push (mY led)).get? s.heap.objs.size = some (mY led):=Heap.get?_push_size _ rfl
   have g2:Shared.TypeIs { s with heap:=s.heap.push (mY led) } (.ref s.heap.objs.size) "set":=⟨_,g1,rfl⟩
   have g3:=F.called_set.init.lookup
   have g4:=F.called_set.init.bind (.ref s.heap.objs.size)
   repeat (any_goals (first | assumption | wp_step))
   refine codeAny_mono (codeAny_call_builtin (R:=wants (fun r s₂=>r = .none /\ ∃ h' tk,s₂ = { s with heap:=h',toks:=tk } /\ h'.SetOf (intKind prog w) s.heap.objs.size (fun k=>(dist ns).any (· == k)) (dist ns).length /\ ∀ b o,b < s.heap.objs.size -> s.heap.get? b = some o -> h'.get? b = some o) E) F.called_set.init.plain F.entry_set_init (check_set_init_1 g2 ?_)) fun r₂ s₂ vJ=>?_
   ·obtain ⟨ot,hot,hct,nt,hdt⟩:=hl
    obtain ⟨oc,od,odt,D2⟩:=ot
    simp only at hct hdt
    subst hct
    subst hdt
    have u1:(s.heap.push (mY led)).get? l = some { cls:=.type "tuple",dict:=od,data:=.seq aj.toArray nt,slots:=D2 }:=Heap.get?_push_of_some _ hot
    have u2:=Bz
    have u3:=uO
    have u4:(Value.type "tuple" == Value.type "dict") = false:=by decide
    have u5:(s.heap.push (mY led)).IsTuple l aj.toArray:=⟨_,u1,rfl,nt,rfl⟩
    unfold Builtin.«set.__init__» noKeywords Builtin.Frozenset.updateFrom
    generalize hPI:pyIter = PI
    wp_walk
    subst hPI
    refine wpAny_pyIter_tuple u5 (wpAny_bind (wpAny_runValue ?_))
    have u6:l < s.heap.objs.size:=Heap.lt_size hot
    have u7:A.in1.in1.in1.handled = none:=by simp [hh]
    have hz:(s.heap.push (mY led)).objs.size = s.heap.objs.size + 1:=Heap.size_push ..
    have u8:l ≠ (s.heap.push (mY led)).objs.size:=by rw [hz];exact Nat.ne_of_lt (Nat.lt_succ_of_lt u6)
    have u9:s.heap.objs.size ∉ [(s.heap.push (mY led)).objs.size,l]:=by
     rw [hz]
     intro m
     simp at m
     exact absurd m (Nat.ne_of_gt u6)
    have v1:∀ (i:Nat) (v:Value),aj.toArray[i]? = some v -> ∃ t,v = .int ((fun i=>ns.getD i 0) i) t:=fun i v hv=>hi.int_at i v (by simpa using hv)
    refine codeAny_set_update_loopS ((Walks.tuple u7 _ l u8 aj.toArray).toS) s.heap.objs.size u9 (fun i=>ns.getD i 0) v1 (by rw [List.size_toArray];exact hb) (aj.toArray.size - 0) 0 _ (by omega) (Nat.zero_le _) ⟨⟨_,Heap.get?_push_size _ rfl,rfl,rfl⟩,u5.push _⟩ ?hS0 ?hR
    case hS0 =>
     have y1:((s.heap.push (mY led)).push { cls:=.type "tuple_iterator",data:=.fields #[.ref l,.int 0 0] }).get? s.heap.objs.size = some (mY led):=Heap.get?_push_of_some _ g1
     exact SetOf_congr ((setObjOf_fresh (knd:=intKind prog w) led).setOf y1 (by unfold scanBound;omega)) (fun _=>rfl) rfl
    case hR =>
     intro s' hm AE
     obtain ⟨h',g',d',tk',UJ⟩:=s'
     cases (show g' = s.gens from hm.gens)
     cases (show d' = s.drawn from hm.drawn)
     cases (show UJ = s.os from hm.os)
     have AE:h'.SetOf (intKind prog w) s.heap.objs.size (fun k=>(dist ns).any (· == k)) (dist ns).length:=by
      have e:aj.toArray.size = ns.length:=by rw [List.size_toArray,hnl]
      rw [e] at AE
      exact AE
     refine wpAny_pure (show wpAny _ _ (ret Value.none) _ _ _ from wpAny_pure ⟨rfl,h',tk',rfl,AE,fun b o hb e=>hm.heap b o (fun m=>?_) (Heap.get?_push_of_some _ (Heap.get?_push_of_some _ e))⟩)
     rcases List.mem_cons.mp m with m | m
     ·exact Nat.ne_of_lt hb m
     ·have m:b = (s.heap.push (mY led)).objs.size:=by simpa using m
      rw [hz] at m
      exact Nat.ne_of_lt (Nat.lt_succ_of_lt hb) m
   ·cases r₂ with
    | error e=>exact vJ
    | ok Pf =>
     cases Pf with
     | ret r =>
      obtain ⟨rfl,h',tk,rfl,AE,hk'⟩:=vJ
      repeat (any_goals (first | assumption | wp_step))
      exact h _ _ AE hk'
     | next=>exact vJ.elim
     | brk=>exact vJ.elim
     | cont=>exact vJ.elim
end
theorem v_ (ns:List Int):dist ns = ji ns:=by
 unfold dist firstMet ji
 have e:(List.range ns.length).map (fun i=>ns.getD i 0) = ns:=by
  refine List.ext_getElem (by simp) fun i h1 h2=>?_
  simp at h1
  simp [h1]
 rw [e]
 rfl
noncomputable def rLs (K:PySem.W.Frag):List V -> Hp -> VK -> Prop:=fun xs H Q=>∃ (p:Addr) (ns:List Int),xs = [.ref p] /\ aG K H p (ns.map V.int) /\ ns.length < 4000 /\ Q (.int (ji ns).length) H
theorem boot_set:bootBuiltins ("set" : Str) = some (.type "set"):=by decide +kernel
theorem Fq {X:Cx} {e:Expr} {t:TA} {p p' pos pos':Pos} (hc:X.calm = true) (OQ:Gl X ("len" : Str)) (OL:X.mg ("len" : Str) = none) (Xy:Gl X ("set" : Str)) (OK:X.mg ("set" : Str) = none) (ha:PA X [e] t)
  (pZ:∀ es,starEach (e :: es) X.env = (false,eval e X.env) :: starEach es X.env):PE X (.Call (.Name ("len" : Str) p) [.Call (.Name ("set" : Str) p') [e] [] pos'] [] pos) (L5 (rLs X.K) t):=by
 intro pins s σ H Q I h
 refine wpAny_Call_Name_kw (eK I OQ OL PySem.boot_len ?_ (by decide) (by decide))
 refine PyProof.Rows.callWith_builtin1 ?_ rfl rfl
 show wpAny _ _ (spliced ((false,eval (.Call (.Name ("set" : Str) p') [e] [] pos') X.env) :: [])) _ _ s
 refine Calls.spliced_cons ?_
 refine wpAny_Call_Name_kw (eK I Xy OK boot_set ?_ (by decide) (by decide))
 refine PyProof.Rows.callWith_type1 (dS (ha pos' pins s σ H _ I h) fun us s1 ⟨vs,H1,I1,r1,q1⟩=>?_) (pZ _) rfl
 obtain ⟨a,ns,rfl,hq,hl,q⟩:=q1
 obtain ⟨u,rfl,ru⟩:=r1.one
 cases ru
 obtain ⟨aj,rv,it,hz⟩:=I1.tuple hq
 have hle:aj.length = ns.length:=by rw [<- rv.length];simp
 refine w6 (I1.ok.hd hc) it (df rv) (by unfold scanBound;omega) fun h' tk hS kp=>Calls.spliced_nil ?_
 rw [v_] at hS
 obtain ⟨o,es,ep,tb,g1,g2,g3,_,_,g6,g7,g8⟩:=hS
 refine call_len_set g1 g2 g3 g7 (by unfold scanBound at g6;omega) ?_
 exact ⟨.int (ji ns).length,H1,I1.kept (t':=tk + 1 + 1) fun b u z=>kp b u (Heap.lt_size z) z,⟨_,by rw [g8]⟩,q⟩
end DI
end
section
namespace DI
open PySem PySem.Spec PyProof.Rows L2
section
variable {X:Cx} {S:Sx} {k:Nat} {F:Addr -> Prop} {Φ:aA}
theorem Lk.u40 (L:Lk X S k Φ):X.A.units + 40 < cLine:=by have:=L.room.units;omega
noncomputable def Q2 (K:PySem.W.Frag) (neg:Bool):R2:=fun v u H Q=>∃ (d d':D) (N N':iU) (k k':aH),Rep (aG K H) N k v d /\ Rep (aG K H) N' k' u d' /\ (∀ q p xs f,N q p (.l xs) f -> du K H p xs) /\ (∀ q p xs f,N' q p (.l xs) f -> du K H p xs) /\ b_ 40 d = true /\ b_ 40 d' = true /\
 Q (.bl (if neg then !gO d d' else gO d d')) H
theorem JJ (hu:X.A.units + 40 < cLine):j_ X (compareOp .Eq) (Q2 X.K false):=by
 intro pins s σ H x y v u Q I rx ry h
 obtain ⟨d,d',N,N',k,k',r1,r2,n1,n2,o1,o2,q⟩:=h
 exact (alike I n1 n2 40 X.A r1 r2 o1 o2 rx ry hu).rc X.prog X.w X.xe _ ⟨.bl _,H,I,rfl,q⟩
theorem JH (hu:X.A.units + 40 < cLine):j_ X (compareOp .NotEq) (Q2 X.K true):=by
 intro pins s σ H x y v u Q I rx ry h
 obtain ⟨d,d',N,N',k,k',r1,r2,n1,n2,o1,o2,q⟩:=h
 exact (alike I n1 n2 40 X.A r1 r2 o1 o2 rx ry hu).ne X.prog X.w X.xe _ ⟨.bl _,H,I,rfl,q⟩
theorem B2 {T T':kO} {N N':iU} {k k':aH} {v v':V} {d d':D} (h:Rep T N k v d) (h':Rep T' N' k' v' d') (f:iR d = true) (f':iR d' = true):jf v = true /\ Ea v v' = gO d d':=by
 cases h <;> first | (cases f;done) | (cases h' <;> first | (cases f';done) | exact ⟨rfl,by simp [Ea,gO]⟩)
theorem ra {T:kO} {N:iU} {k:aH} {v:V} {d:D} (h:Rep T N k v d) (f:iR d = true):jf v = true:=by
 cases h <;> first | (cases f;done) | rfl
theorem sJ {T T':kO} {N N':iU} {k':aH} {v:V} {d:D} (hv:Rep T' N' k' v d) (f:iR d = true):∀ {k:aH} {n:Nat} {xs:List V} {ds:List D},ag T N k n xs ds -> ds.all iR = true -> xs.all jf = true /\ Rk v xs = inD d ds
 | _,_,_,_,.nil,_=>⟨rfl,rfl⟩
 | _,_,_,_,.cons h t,fs=>by
  rw [List.all_cons,Bool.and_eq_true] at fs
  obtain ⟨h1,h2⟩:=sJ hv f t fs.2
  obtain ⟨g1,g2⟩:=B2 h hv fs.1 f
  refine ⟨by rw [List.all_cons,g1,h1];rfl,?_⟩
  unfold Rk at h2 ⊢
  rw [List.any_cons,g2,h2];rfl
noncomputable def Ji (K:PySem.W.Frag) (op:Bn):R2:=match op with
 | .eq=>Q2 K false
 | .ne=>Q2 K true
 | .lt=>B6 fun i j=>.bl (decide (i < j))
 | .le=>B6 fun i j=>.bl (decide (i <= j))
 | .gt=>B6 fun i j=>.bl (decide (j < i))
 | .ge=>B6 fun i j=>.bl (decide (j <= i))
 | .Oq=>fun x y H Q=>y = .bE /\ Q (.bl (decide (x = .bE))) H
 | .Cw=>fun x y H Q=>y = .bE /\ Q (.bl (!decide (x = .bE))) H
 | .Bd=>TR K false
theorem Ct (L:Lk X S k Φ) (op:Bn):j_ X (compareOp (UL op)) (Ji X.K op):=by
 cases op with
 | eq=>exact JJ L.u40
 | ne=>exact JH L.u40
 | lt=>exact NT
 | le=>exact NU
 | gt=>exact NV
 | ge=>exact NW
 | Oq=>exact JI
 | Cw=>exact Fx
 | Bd=>exact Af
theorem sU {op:CmpOp} {r:Expr} (h:i8 r = true):behindInMarks op r = false:=by
 cases r <;> first | rfl | (cases h;done)
theorem nM {op:Bn} {x y d:D} (OH:op = .lt \/ op = .le \/ op = .gt \/ op = .ge) (h:eM op x y = ok d):∃ i j,x = .int i /\ y = .int j:=by
 cases x with
 | int i=>cases y with
  | int j=>exact ⟨i,j,rfl,rfl⟩
  | _=>rcases OH with rfl | rfl | rfl | rfl <;> cases h
 | _=>rcases OH with rfl | rfl | rfl | rfl <;> cases h
theorem wj {op:Bn} {a b:CE} {σ:St} {H:Hp} {Q:VK} (hq:tD X F Φ (.cmp op a b) σ H Q):EE (Ji X.K op) (tD X F Φ a) (tD X F Φ b) σ H Q:=by
 obtain ⟨R,τ,ρ,d,Si,ev,hq⟩:=hq
 obtain ⟨x,ex,ev⟩:=ah ev
 obtain ⟨y,ey,ev⟩:=ah ev
 refine tD.intro Si ex fun v H1 e1 r1=>tD.intro (Si.go e1) ey fun u H2 e2 r2=>?_
 have e:=e1.trans e2
 have rv:=r1.go e2
 have ru:=r2
 obtain ⟨τ1,f1,p1⟩:=rv
 obtain ⟨τ2,f2,p2⟩:=ru
 have sq:∀ {A:Addr -> Prop} {τ:Addr -> Option aH} (q:aH) (p:Addr) (xs:List V) (f:Fl),nd X.K R A τ H2 q p (.l xs) f -> du X.K H2 p xs:=fun q p xs f h=>h.sq
 cases op with
 | eq =>
  obtain ⟨hc,ev⟩:=qp ev
  ·subst ev
   rw [Bool.and_eq_true] at hc
   exact ⟨x,y,_,_,_,_,p1,p2,sq,sq,hc.1,hc.2,hq _ H2 e .bl⟩
 | ne =>
  obtain ⟨hc,ev⟩:=qp ev
  ·subst ev
   rw [Bool.and_eq_true] at hc
   exact ⟨x,y,_,_,_,_,p1,p2,sq,sq,hc.1,hc.2,hq _ H2 e .bl⟩
 | lt=>obtain ⟨i,j,rfl,rfl⟩:=nM (by simp) ev;cases ev;cases p1;cases p2;exact ⟨_,_,rfl,rfl,hq _ H2 e .bl⟩
 | le=>obtain ⟨i,j,rfl,rfl⟩:=nM (by simp) ev;cases ev;cases p1;cases p2;exact ⟨_,_,rfl,rfl,hq _ H2 e .bl⟩
 | gt=>obtain ⟨i,j,rfl,rfl⟩:=nM (by simp) ev;cases ev;cases p1;cases p2;exact ⟨_,_,rfl,rfl,hq _ H2 e .bl⟩
 | ge=>obtain ⟨i,j,rfl,rfl⟩:=nM (by simp) ev;cases ev;cases p1;cases p2;exact ⟨_,_,rfl,rfl,hq _ H2 e .bl⟩
 | Oq =>
  cases y <;> simp [eM] at ev
  cases p2
  refine ⟨rfl,hq _ H2 e ?_⟩
  cases ev
  cases p1 <;> exact .bl
 | Cw =>
  cases y <;> simp [eM] at ev
  cases p2
  refine ⟨rfl,hq _ H2 e ?_⟩
  cases ev
  cases p1 <;> exact .bl
 | Bd =>
  simp only [eM] at ev
  split at ev
  ·rename_i ds hi
   split at ev
   ·rename_i hc
    rw [Bool.and_eq_true] at hc
    cases ev
    cases p2 with
    | tup h rs=>cases hi;obtain ⟨g1,g2⟩:=sJ p1 hc.1 rs hc.2;exact ⟨_,_,rfl,.inr h,ra p1 hc.1,g1,by rw [g2];exact hq _ H2 e .bl⟩
    | lst h rs=>cases hi;obtain ⟨g1,g2⟩:=sJ p1 hc.1 rs hc.2;exact ⟨_,_,rfl,.inl h.sq,ra p1 hc.1,g1,by rw [g2];exact hq _ H2 e .bl⟩
    | _=>cases hi
   ·cases ev
  ·cases ev
theorem BG {c:CE} {σ:St} {H:Hp} {Q:Bool -> Hp -> Prop} (h:ie X F Φ c σ H Q):tB (tD X F Φ c) σ H Q:=by
 obtain ⟨R,τ,ρ,b,Si,ev,hq⟩:=h
 unfold wL at ev
 obtain ⟨d,ed,et⟩:=ah ev
 refine tD.intro Si ed fun v H' e r=>?_
 cases d <;> simp [ic] at et
 cases et
 exact ⟨_,r.Au,hq H' e⟩
theorem dj {c:CE} {e:Expr} (h:PE X e (tD X F Φ c)) (he:∀ whole,isTrue e X.env whole = (do let v <- whole;standAt e.pos;holding [v] (truthy v))):PT X e (ie X F Φ c) :=
 PT.imp (Jm h he) fun _ _ _ h=>BG h
theorem zR {op:Bn} {a b:CE} {σ:St} {H:Hp} {Q:Bool -> Hp -> Prop} (h:ie X F Φ (.cmp op a b) σ H Q):Hg (EE (Ji X.K op) (tD X F Φ a) (tD X F Φ b)) σ H Q :=
 wj (BG h)
theorem dictAt {pins:List (Addr × Obj)} {σ:St} {H:Hp} {s:Shared} {p:Addr} {cs:List (List Int)} {as:List Addr} {xs:List V} {ep:Nat} (I:Inv X pins σ H s) (h:H p = some (.ext (DO p cs as xs ep))):∃ o,s.heap.get? p = some o /\ o.cls = .type "dict":=by
 obtain ⟨⟨zs,o,es,_,_,_,ho,hx,_⟩,_⟩:=(show dY X.prog X.w H s.heap p (.ext (DO p cs as xs ep)) from I.dD p _ h)
 exact ⟨o,ho,hx.1⟩
theorem Gb {pins:List (Addr × Obj)} {σ:St} {H:Hp} {s:Shared} {p:Addr} {ks:List Int} {xs:List V} {ep:Nat} (I:Inv X pins σ H s) (h:H p = some (.ext (IO p ks xs ep))):∃ o,s.heap.get? p = some o /\ o.cls = .type "dict":=by
 obtain ⟨⟨zs,o,es,_,_,ho,hx,_⟩,_⟩:=(show dY X.prog X.w H s.heap p (.ext (IO p ks xs ep)) from I.dD p _ h)
 exact ⟨o,ho,hx.1⟩
theorem J6 (L:Lk X S k Φ) (t:Ty):gI X (.builtin "isinstance") (fun xs H Q=>∃ (x:V) (d:D) (N:iU) (k:aH),xs = [x,.ty (tyName t)] /\ Rep (aG X.K H) N k x d /\ (∀ q p xs f,N q p (.l xs) f -> du X.K H p xs) /\ (∀ q p cs as xs ep f,N q p (.d cs as xs ep) f -> H p = some (.ext (DO p cs as xs ep))) /\ (∀ q p ks xs ep f,N q p (.ei ks xs ep) f -> H p = some (.ext (IO p ks xs ep))) /\ Q (.bl (dZ t d)) H):=by
 intro pins s σ H xs us Q I r h
 obtain ⟨x,d,N,k,rfl,rp,hN,hND,hNI,q⟩:=h
 obtain ⟨u,w',rfl,ru,qX⟩:=vals2 r
 cases (show w' = Value.type (tyName t) from qX)
 have kt:=FU X.K t
 have fin:∀ b:Bool,b = dZ t d -> ∀ tk,EP X pins σ Q (.bool b) { s with toks:=tk }:=fun b e tk=>⟨.bl b,H,I.tok tk,rfl,by rw [e];exact q⟩
 cases rp with
 | bE=>cases ru;exact PySem.W.kia_one PySem.W.kitx_none I.An True.intro (kt "NoneType" (by simp [kinds])) (fun z=>nomatch z) (fin _ (by cases t <;> rfl))
 | bl b=>cases ru;exact PySem.W.kia_one PySem.W.kitx_bool I.An True.intro (kt "bool" (by simp [kinds])) (fun z=>nomatch z) (fin _ (by cases t <;> rfl))
 | int i=>obtain ⟨t',rfl⟩:=ru;exact PySem.W.kia_one PySem.W.kitx_int I.An True.intro (kt "int" (by simp [kinds])) (fun z=>nomatch z) (fin _ (by cases t <;> rfl))
 | tup h _ =>
  cases ru
  obtain ⟨aj,_,⟨o,h1,h2,_⟩,_⟩:=I.tuple h
  exact PySem.W.kia_one PySem.W.kitx_tuple I.An ⟨o,h1,h2⟩ (kt "tuple" (by simp [kinds])) (fun z=>nomatch z) (fin _ (by cases t <;> rfl))
 | lst h _ =>
  cases ru
  obtain ⟨aj,_,⟨o,n,h1,h2,_⟩,_⟩:=I.list (hN _ _ _ _ h)
  exact PySem.W.kia_one PySem.W.kitx_list I.An ⟨o,h1,h2⟩ (kt "list" (by simp [kinds])) (fun z=>nomatch z) (fin _ (by cases t <;> rfl))
 | jG h _ _ =>
  cases ru
  obtain ⟨o,h1,h2⟩:∃ o,s.heap.get? _ = some o /\ o.cls = .type "dict":=dictAt I (hND _ _ _ _ _ _ _ h)
  exact PySem.W.kia_one PySem.W.kitx_dict I.An ⟨o,h1,h2⟩ (kt "dict" (by simp [kinds])) (fun z=>nomatch z) (fin _ (by cases t <;> rfl))
 | kM h _ =>
  cases ru
  obtain ⟨o,h1,h2⟩:∃ o,s.heap.get? _ = some o /\ o.cls = .type "dict":=Gb I (hNI _ _ _ _ _ _ h)
  exact PySem.W.kia_one PySem.W.kitx_dict I.An ⟨o,h1,h2⟩ (kt "dict" (by simp [kinds])) (fun z=>nomatch z) (fin _ (by cases t <;> rfl))
theorem GW (t:Ty):bootBuiltins (tyName t:Str) = some (.type (tyName t)):=by
 cases t <;> decide +kernel
theorem qR (t:Ty):(tyName t:Str) ≠ "__name__" /\ ((tyName t:Str) == ("__debug__" : Str)) = false:=by
 cases t <;> decide +kernel
theorem IY (L:Lk X S k Φ) {a:CE} {t:Ty} {e:Expr} {p p' pos:Pos} (hf:iV S.sc ("isinstance" : Str) = true) (XA:("isinstance" : Str) ∈ S.bl) (hg:iV S.sc (tyName t:Str) = true) (Xx:(tyName t:Str) ∈ S.bl)
  (ha:PE X e (tD X F Φ a)) (pZ:∀ es,starEach (e :: es) X.env = (false,eval e X.env) :: starEach es X.env):PE X (.Call (.Name ("isinstance" : Str) p) [e,.Name (tyName t:Str) p'] [] pos) (tD X F Φ (.pY a t)):=by
 have hT:PE X (.Name (tyName t:Str) p') (tC (.ty (tyName t))):=Ft (L.gl hg) (L.bl _ Xx) (GW t) rfl (qR t).1 (qR t).2
 refine PE.imp (fW (J6 L t) (L.gl hf) (L.bl _ XA) PyProof.Rows.boot_isinstance (dB ha (dB hT gK) (pZ _)) (he:=pZ _)) fun σ H Q hq=>?_
 obtain ⟨R,τ,ρ,d,Si,ev,hq⟩:=hq
 obtain ⟨x,ex,ev⟩:=ah ev
 cases ev
 refine tD.intro Si ex fun v H1 e1 r1=>?_
 obtain ⟨τ1,f1,p1⟩:=r1
 exact ⟨v,x,_,_,rfl,p1,fun q p xs f h=>h.sq,fun q p cs as xs ep f h=>h.dat,fun q p ks xs ep f h=>h.iat,hq _ H1 e1 .bl⟩
theorem Kd:@DI.Ao = @L2.Ao:=rfl
theorem Nr (L:Lk X S k Φ) {a b:CE} {e i:Expr} {pos:Pos} (ha:PE X e (tD X F Φ a)) (hb:PE X i (tD X F Φ b)) (hp:nY i):PE X (.Subscript e i pos) (tD X F Φ (.ix a b)):=by
 refine PE.imp (NP (FW.or Kc) ha hb hp) fun σ H Q hq=>?_
 obtain ⟨R,τ,ρ,d,Si,ev,hq⟩:=hq
 obtain ⟨x,ex,ev⟩:=ah ev
 obtain ⟨y,ey,ev⟩:=ah ev
 refine tD.intro Si ex fun v H1 e1 r1=>tD.intro (Si.go e1) ey fun u H2 e2 r2=>?_
 have ee:=e1.trans e2
 have rv:=(r1.go e2).mono (fv':=iQ (.ix a b)) fun j hj=>List.mem_append_left _ hj
 have item:∀ {q:aH} {xs:List V} {ds:List D} {τt:Addr -> Option aH} {j:Int},(∀ p q,τt p = some q -> H p = none) -> ag (aG X.K H2) (nd X.K R (kN (gP X F) τ (iQ (.ix a b))) τt H2) q 0 xs ds -> wD ds j = ok d -> ∃ w,L2.MF xs j = some w /\ Q w H2:=by
  intro q xs ds τt j fr rs h
  unfold wD at h
  split at h
  ·rename_i d' hd
   cases h
   cases hx:DI.Ao ds.length j with
   | none=>rw [hx] at hd;cases hd
   | some m =>
    rw [hx] at hd
    obtain ⟨w,hw,qX⟩:=rs.get (show ds[m]? = some d' from hd)
    refine ⟨w,?_,hq w H2 ee ⟨fun _=>none,fun _ _ h=>by simp at h,qX.fw Si fr⟩⟩
    unfold L2.MF
    rw [<- Kd,rs.length,hx];exact hw
  ·cases h
 cases y with
 | int j =>
  obtain ⟨τt,fr,rp⟩:=rv
  cases r2.isInt
  cases x with
  | tup ds =>
   cases rp with
   | @tup _ p xs _ h rs=>obtain ⟨w,h1,h2⟩:=item fr rs ev;exact .inr ⟨p,xs,j,w,rfl,rfl,h,h1,h2⟩
  | lst f ds =>
   cases rp with
   | @lst _ p xs _ _ h rs=>obtain ⟨w,h1,h2⟩:=item fr rs ev;exact .inl ⟨p,xs,j,w,rfl,rfl,h.sq,h1,h2⟩
  | _=>cases ev
 | _=>cases x <;> cases ev
theorem pf:∀ (cs:List CE) {ρ:aC} {ds:List D},cM Φ cs ρ = ok ds -> ds.length = cs.length
 | [],_,_,h=>by cases h;rfl
 | c :: cs,_,_,h=>by
  obtain ⟨x,_,h⟩:=ah h
  obtain ⟨xs,hx,h⟩:=ah h
  cases h
  simp [pf cs hx]
theorem IS {cs:List CE} {es:List Expr} {n:Nat} {pos:Pos} (h:PA X es (uR X F Φ cs)) (hl:cs.length <= 1000):PE X (.Tuple es n pos) (tD X F Φ (.tup cs)):=by
 refine PE.imp (Jt h) fun σ H Q hq=>?_
 obtain ⟨R,τ,ρ,d,Si,ev,hq⟩:=hq
 obtain ⟨ds,Lw,ev⟩:=ah ev
 cases ev
 refine ⟨R,τ,ρ,ds,Si,Lw,fun vs H1 e1 r1=>?_⟩
 obtain ⟨τt,fr,rs⟩:=r1
 have hz:sizeLine = 16777216:=sizeLine_eq
 refine ⟨by rw [rs.length,pf cs Lw];omega,fun p hp=>?_⟩
 have es:ao H1 (upd H1 p (.tup vs)):=ao.upd hp
 exact hq _ _ (e1.trans es) ⟨τt,fr,.tup (aG.of aM) (rs.imp (fun _ _ h=>aG.same es h) fun _ _ _ _ h=>nd.same es h)⟩
theorem IV {cs:List CE} {es:List Expr} {pos:Pos} (h:PA X es (uR X F Φ cs)) (hl:cs.length <= 1000):PE X (.List es pos) (tD X F Φ (.lst cs)):=by
 refine PE.imp (Jw h) fun σ H Q hq=>?_
 obtain ⟨R,τ,ρ,d,Si,ev,hq⟩:=hq
 obtain ⟨ds,Lw,ev⟩:=ah ev
 cases ev
 refine ⟨R,τ,ρ,ds,Si,Lw,fun vs H1 e1 r1=>?_⟩
 obtain ⟨τt,fr,rs⟩:=r1
 have hz:sizeLine = 16777216:=sizeLine_eq
 refine ⟨by rw [rs.length,pf cs Lw];omega,fun p hp=>?_⟩
 have es:ao H1 (upd H1 p (.lst vs)):=ao.upd hp
 refine hq _ _ (e1.trans es) ⟨fun q=>if q = p then some [] else τt q,fun q z hq=>?_,.lst ⟨aM,by simp⟩ (rs.imp (fun _ _ h=>aG.same es h) fun c q xs f h=>?_)⟩
 ·by_cases Be:q = p
  ·subst Be;exact e1.free hp
  ·simp only [Be,if_false] at hq;exact fr q z hq
 ·have h':=nd.same es h
  cases f with
  | ow =>
   have Be:q ≠ p:=by
    intro z;subst z
    exact h.1.ne hp
   exact ⟨h'.1,by simp only [Be,if_false];exact h'.2⟩
  | fz=>exact h'
  | al=>exact h'
  | sc=>exact h'
theorem ES (L:Lk X S k Φ) {f:Nat} {x:Str} {cs:List CE} {y:Expr} {ys:List Expr} {p pos:Pos} (hf:S.fn f = some x) (hg:iV S.sc x = true) (hn:oH x = true) (ha:PA X (y :: ys) (uR X F Φ cs))
  (pZ:∀ es,starEach (y :: es) X.env = (false,eval y X.env) :: starEach es X.env) (hpl:∀ pos,(backTo pos (starEach ys X.env)).any (·.1) = false):PE X (.Call (.Name x p) (y :: ys) [] pos) (tD X F Φ (.call f cs)):=by
 obtain ⟨a,fd,ps,Fo,hm,hk,hb,hl⟩:=(L.fn f x hf).ex
 unfold oH at hn
 simp only [Bool.and_eq_true,Bool.not_eq_true'] at hn
 refine PE.imp (Fs Fo L.room (L.gl hg) hm hk hb .nil (NR (X:=X)) ha hn.1.1 (pZ _) (hpl _)) fun σ H Q hq=>?_
 obtain ⟨R,τ,ρ,d,Si,ev,hq⟩:=hq
 obtain ⟨xs,dk,ev⟩:=ah ev
 obtain ⟨r,er,ev⟩:=ah ev
 cases ev
 refine ⟨R,τ,ρ,xs,Si,dk,fun vs H1 e1 r1=>?_⟩
 obtain ⟨τt,fr,rs⟩:=r1
 have fresh:∀ p,H p = none -> kN (gP X F) τ (dw cs) p:=fun p hp=>⟨.inr (Si.same.free hp),fun c i e=>absurd hp (Si.th p _ e)⟩
 have hR:∀ p,R p -> kN (gP X F) τ (dw cs) p:=fun p hp=>⟨Si.rf p hp,fun c i e=>by rw [Si.rt p hp] at e;cases e⟩
 rw [List.append_nil]
 refine ⟨kN (gP X F) τ (dw cs),ai aL xs,r,by rw [rs.length,<- hl _ _ er,aw,List.length_map],ag.ja (fun _ _ h=>h) (fun k k' p xs f h=>?_) rs _ _,er,fun v H2 e2 rr=>?_⟩
 ·cases f with
  | ow=>exact ⟨h.1,fresh p (fr p _ h.2)⟩
  | fz=>exact ⟨h.1,hR p h.2⟩
  | al=>exact h
  | sc=>exact h
 ·obtain ⟨τ2,Mz,rp⟩:=rr
  refine hq v H2 (e1.trans e2) ⟨τ2,fun p q h=>e1.free (Mz p q h),Rep.map (q:=[]) (q':=[]) (fun _ _ h=>h) (fun c p xs f h=>?_) rp [] rfl⟩
  cases f with
  | ow=>exact h
  | fz=>exact ⟨h.1,h.2.elim id fun z=>fresh p (e1.free z)⟩
  | al=>exact h.2.elim
  | sc=>exact h
noncomputable def rBf (K:PySem.W.Frag) (f:Bf):List V -> Hp -> VK -> Prop:=match f with
 | .len=>fun xs H Q=>∃ p ys,xs = [.ref p] /\ (du K H p ys \/ aG K H p ys) /\ Q (.int ys.length) H
 | .abs=>fun xs H Q=>∃ i,xs = [.int i] /\ Q (.int (if i < 0 then -i else i)) H
 | .C0=>fun xs H Q=>(∃ i,xs = [.int i] /\ Q (.int i) H) \/ ∃ k,xs = [.bl k] /\ Q (.int (if k then 1 else 0)) H
 | .list1=>fun xs H Q=>∃ p ys,xs = [.ref p] /\ (du K H p ys \/ aG K H p ys) /\ ∀ l,H l = none -> Q (.ref l) (upd H l (.lst ys))
 | .tuple1=>fun xs H Q=>∃ p ys,xs = [.ref p] /\ ((du K H p ys /\ ∀ l,H l = none -> Q (.ref l) (upd H l (.tup ys))) \/ (aG K H p ys /\ Q (.ref p) H))
 | .kU=>fun xs H Q=>∃ (p:Addr) (ns:List Int),xs = [.ref p] /\ du K H p (ns.map V.int) /\ Q (.int ns.sum) H
 | .all1=>fun xs H Q=>∃ (p:Addr) (bs:List Bool),xs = [.ref p] /\ du K H p (bs.map V.bl) /\ Q (.bl (bs.all id)) H
 | .ig=>fun xs H Q=>∃ (p:Addr) (ns:List Int),xs = [.ref p] /\ (du K H p (ns.map V.int) \/ aG K H p (ns.map V.int)) /\ ns.length < 64 /\ ∀ l,H l = none -> Q (.ref l) (upd H l (.lst ((sortI ns).map V.int)))
theorem ag.one {T:kO} {N:iU} {k:aH} {n:Nat} {vs:List V} {d:D} (h:ag T N k n vs [d]):∃ v,vs = [v] /\ Rep T N (n :: k) v d:=by
 cases h with
 | cons h t=>cases t;exact ⟨_,rfl,h⟩
theorem ag.two {T:kO} {N:iU} {k:aH} {n:Nat} {vs:List V} {d e:D} (h:ag T N k n vs [d,e]):∃ v w,vs = [v,w] /\ Rep T N (n :: k) v d /\ Rep T N ((n + 1) :: k) w e:=by
 cases h with
 | cons h t=>obtain ⟨w,rfl,h'⟩:=t.one;exact ⟨_,_,rfl,h,h'⟩
theorem ag.ints1 {T:kO} {N:iU} {k:aH} {n:Nat} {vs:List V} {i:Int} (h:ag T N k n vs [.int i]):vs = [.int i]:=by
 obtain ⟨v,rfl,z⟩:=h.one;cases z;rfl
theorem ag.ints2 {T:kO} {N:iU} {k:aH} {n:Nat} {vs:List V} {i j:Int} (h:ag T N k n vs [.int i,.int j]):vs = [.int i,.int j]:=by
 obtain ⟨v,w,rfl,z,z'⟩:=h.two;cases z;cases z';rfl
noncomputable def Bf.one:Bf -> Bool
 | _=>true
theorem Ie {f:Bf} {xs:List D} {d:D} (hf:f.one = true) (h:uj f xs = ok d):∃ x,xs = [x]:=by
 cases xs with
 | nil=>cases f <;> cases h
 | cons x xs=>cases xs with
  | nil=>exact ⟨x,rfl⟩
  | cons y ys=>cases f <;> first | (cases hf;done) | (cases x <;> cases h)
theorem ag.ofInts {T:kO} {N:iU} {k:aH}:∀ {ns:List Int} {n:Nat} {vs:List V},ag T N k n vs (ns.map D.int) -> vs = ns.map V.int
 | [],_,_,h=>by cases h;rfl
 | i :: ns,_,_,h=>by
  cases h with
  | cons h t=>cases h;rw [ag.ofInts t];rfl
theorem ag.HC {T:kO} {N:iU} {k:aH}:∀ {ns:List Bool} {n:Nat} {vs:List V},ag T N k n vs (ns.map D.bl) -> vs = ns.map V.bl
 | [],_,_,h=>by cases h;rfl
 | i :: ns,_,_,h=>by
  cases h with
  | cons h t=>cases h;rw [ag.HC t];rfl
theorem jF {T:kO} {N:iU} {k:aH}:∀ (ns:List Int) {n:Nat},ag T N k n (ns.map V.int) (ns.map D.int)
 | [],_=>.nil
 | i :: ns,_=>.cons (.int i) (jF ns)
theorem GX {f:Bf} {cs:List CE} {σ:St} {H:Hp} {Q:VK} (hq:tD X F Φ (.bf f cs) σ H Q):L5 (rBf X.K f) (uR X F Φ cs) σ H Q:=by
 obtain ⟨R,τ,ρ,d,Si,ev,hq⟩:=hq
 obtain ⟨xs,dk,ev⟩:=ah ev
 refine ⟨R,τ,ρ,xs,Si,dk,fun vs H1 e1 r1=>?_⟩
 obtain ⟨τt,fr,rs⟩:=r1
 cases f with
 | len =>
  obtain ⟨x,rfl⟩:=Ie rfl ev
  obtain ⟨v,rfl,rv⟩:=rs.one
  cases x with
  | tup ds=>cases ev;cases rv with | tup h r=>exact ⟨_,_,rfl,.inr h,by rw [r.length];exact hq _ H1 e1 .int⟩
  | lst f ds=>cases ev;cases rv with | lst h r=>exact ⟨_,_,rfl,.inl h.sq,by rw [r.length];exact hq _ H1 e1 .int⟩
  | _=>cases ev
 | abs =>
  obtain ⟨x,rfl⟩:=Ie rfl ev
  cases x with
  | int i=>cases ev;cases rs.ints1;exact ⟨_,rfl,hq _ H1 e1 .int⟩
  | _=>cases ev
 | C0 =>
  obtain ⟨x,rfl⟩:=Ie rfl ev
  obtain ⟨v,rfl,rv⟩:=rs.one
  cases x with
  | int i=>cases ev;cases rv;exact .inl ⟨_,rfl,hq _ H1 e1 .int⟩
  | bl i=>cases ev;cases rv;exact .inr ⟨_,rfl,hq _ H1 e1 .int⟩
  | _=>cases ev
 | list1 =>
  obtain ⟨x,rfl⟩:=Ie rfl ev
  obtain ⟨v,rfl,rv⟩:=rs.one
  cases x with
  | tup ds =>
   cases ev
   cases rv with
   | tup h r =>
    refine ⟨_,_,rfl,.inr h,fun l hl=>?_⟩
    exact hq _ _ (e1.trans (ao.upd hl)) (cc.vx (e1.free hl) (e1.trans (ao.upd hl)) aM ((r.fw Si fr).imp (fun _ _ h=>aG.same (ao.upd hl) h) fun _ _ _ _ h=>nd.same (ao.upd hl) h))
  | lst f ds =>
   cases ev
   cases rv with
   | lst h r =>
    refine ⟨_,_,rfl,.inl h.sq,fun l hl=>?_⟩
    exact hq _ _ (e1.trans (ao.upd hl)) (cc.vx (e1.free hl) (e1.trans (ao.upd hl)) aM ((r.fw Si fr).imp (fun _ _ h=>aG.same (ao.upd hl) h) fun _ _ _ _ h=>nd.same (ao.upd hl) h))
  | _=>cases ev
 | tuple1 =>
  obtain ⟨x,rfl⟩:=Ie rfl ev
  obtain ⟨v,rfl,rv⟩:=rs.one
  cases x with
  | tup ds =>
   cases ev
   cases rv with
   | tup h r =>
    exact ⟨_,_,rfl,.inr ⟨h,hq _ H1 e1 ⟨fun _=>none,fun _ _ h=>by simp at h,.tup h (r.fw Si fr)⟩⟩⟩
  | lst f ds =>
   cases ev
   cases rv with
   | lst h r =>
    refine ⟨_,_,rfl,.inl ⟨h.sq,fun l hl=>?_⟩⟩
    exact hq _ _ (e1.trans (ao.upd hl)) ⟨fun _=>none,fun _ _ h=>by simp at h,.tup (aG.of aM) ((r.fw Si fr).imp (fun _ _ h=>aG.same (ao.upd hl) h) fun _ _ _ _ h=>nd.same (ao.upd hl) h)⟩
  | _=>cases ev
 | kU =>
  obtain ⟨x,rfl⟩:=Ie rfl ev
  obtain ⟨v,rfl,rv⟩:=rs.one
  cases x with
  | lst f ds =>
   have ev:(match intsOf ds with | some ns=>ok (.int ns.sum) | none=>none) = ok d:=ev
   cases hn:intsOf ds with
   | none=>rw [hn] at ev;cases ev
   | some ns =>
    rw [hn] at ev
    cases ev
    cases dW hn
    cases rv with
    | lst h r=>cases r.ofInts;exact ⟨_,ns,rfl,h.sq,hq _ H1 e1 .int⟩
  | _=>cases ev
 | all1 =>
  obtain ⟨x,rfl⟩:=Ie rfl ev
  obtain ⟨v,rfl,rv⟩:=rs.one
  cases x with
  | lst f ds =>
   have ev:(match jm ds with | some bs=>ok (.bl (bs.all id)) | none=>none) = ok d:=ev
   cases hn:jm ds with
   | none=>rw [hn] at ev;cases ev
   | some ns =>
    rw [hn] at ev
    cases ev
    cases wB hn
    cases rv with
    | lst h r=>cases r.HC;exact ⟨_,ns,rfl,h.sq,hq _ H1 e1 .bl⟩
  | _=>cases ev
 | ig =>
  obtain ⟨x,rfl⟩:=Ie rfl ev
  obtain ⟨v,rfl,rv⟩:=rs.one
  have fin:∀ ds,qV ds = ok d -> ∃ ns:List Int,ds = ns.map D.int /\ ns.length < 64 /\ ∀ l,H1 l = none -> Q (.ref l) (upd H1 l (.lst ((sortI ns).map V.int))):=by
   intro ds e
   unfold qV at e
   split at e
   ·rename_i ns hn
    split at e
    ·rename_i vM
     cases e
     refine ⟨ns,dW hn,vM,fun l hl=>hq _ _ (e1.trans (ao.upd hl)) (cc.vx (e1.free hl) (e1.trans (ao.upd hl)) aM (jF _))⟩
    ·cases e
   ·cases e
  cases x with
  | tup ds =>
   obtain ⟨ns,rfl,vM,q⟩:=fin ds ev
   cases rv with
   | tup h r=>cases r.ofInts;exact ⟨_,ns,rfl,.inr h,vM,q⟩
  | lst f ds =>
   obtain ⟨ns,rfl,vM,q⟩:=fin ds ev
   cases rv with
   | lst h r=>cases r.ofInts;exact ⟨_,ns,rfl,.inl h.sq,vM,q⟩
  | _=>cases ev
theorem Nt (L:Lk X S k Φ) {f:Bf} {cs:List CE} {y:Expr} {ys:List Expr} {p pos:Pos} (hg:iV S.sc (ui f:Str) = true) (hb:(ui f:Str) ∈ S.bl) (ha:PA X (y :: ys) (uR X F Φ cs))
  (pZ:∀ es,starEach (y :: es) X.env = (false,eval y X.env) :: starEach es X.env) (hpl:∀ pos,(backTo pos (starEach ys X.env)).any (·.1) = false):PE X (.Call (.Name (ui f:Str) p) (y :: ys) [] pos) (tD X F Φ (.bf f cs)):=by
 refine PE.imp (t:=L5 (rBf X.K f) (uR X F Φ cs)) ?_ fun σ H Q hq=>GX hq
 cases f with
 | len=>exact fW ub (L.gl hg) (L.bl _ hb) PySem.boot_len ha (he:=pZ _) (hpl:=hpl _)
 | abs=>exact fW DJ (L.gl hg) (L.bl _ hb) (by decide +kernel) ha (he:=pZ _) (hpl:=hpl _)
 | C0=>exact mi A0 (L.gl hg) (L.bl _ hb) (by decide +kernel) ha (he:=pZ _) (hpl:=hpl _)
 | list1=>exact mi ua (L.gl hg) (L.bl _ hb) (by decide +kernel) ha (he:=pZ _) (hpl:=hpl _)
 | tuple1=>exact mi qL (L.gl hg) (L.bl _ hb) (by decide +kernel) ha (he:=pZ _) (hpl:=hpl _)
 | kU=>exact fW (AZ L.calm) (L.gl hg) (L.bl _ hb) (by decide +kernel) ha (he:=pZ _) (hpl:=hpl _)
 | ig=>exact fW t_ (L.gl hg) (L.bl _ hb) (by decide +kernel) ha (he:=pZ _) (hpl:=hpl _)
 | all1=>exact fW (A1 L.calm) (L.gl hg) (L.bl _ hb) (by decide +kernel) ha (he:=pZ _) (hpl:=hpl _)
theorem EO (L:Lk X S k Φ) {a:CE} {e:Expr} {p p' pos pos':Pos} (hf:iV S.sc ("len" : Str) = true) (XA:("len" : Str) ∈ S.bl) (hg:iV S.sc ("set" : Str) = true) (Xx:("set" : Str) ∈ S.bl)
  (ha:PE X e (tD X F Φ a)) (pZ:∀ es,starEach (e :: es) X.env = (false,eval e X.env) :: starEach es X.env):PE X (.Call (.Name ("len" : Str) p) [.Call (.Name ("set" : Str) p') [e] [] pos'] [] pos) (tD X F Φ (.ml a)):=by
 refine PE.imp (Fq L.calm (L.gl hf) (L.bl _ XA) (L.gl hg) (L.bl _ Xx) (dB ha gK (pZ _)) pZ) fun σ H Q hq=>?_
 obtain ⟨R,τ,ρ,d,Si,ev,hq⟩:=hq
 obtain ⟨x,ex,ev⟩:=ah ev
 refine tD.intro Si ex fun v H1 e1 r1=>?_
 obtain ⟨τ1,f1,rv⟩:=r1
 cases x with
 | tup ds =>
  simp only [yE] at ev
  split at ev
  ·rename_i ns hn
   split at ev
   ·rename_i hl
    cases ev
    cases dW hn
    cases rv with
    | tup h r=>cases r.ofInts;exact ⟨_,ns,rfl,h,hl,hq _ H1 e1 .int⟩
   ·cases ev
  ·cases ev
 | _=>cases ev
theorem IT {a:CE} {e:Expr} {pos:Pos} (h:PE X e (tD X F Φ a)):PE X (.UnaryOp .Not e pos) (tD X F Φ (.not a)):=by
 refine PE.imp (Ju h) fun σ H Q hq=>?_
 obtain ⟨R,τ,ρ,d,Si,ev,hq⟩:=hq
 obtain ⟨b,eb,ev⟩:=ah ev
 obtain ⟨x,ex,eb⟩:=ah eb
 cases ev
 refine tD.intro Si ex fun v H1 e1 r1=>?_
 cases x <;> simp [ic] at eb
 cases eb
 exact ⟨_,r1.Au,hq _ H1 e1 .bl⟩
theorem IE {a:CE} {e:Expr} {pos:Pos} (h:PT X e (ie X F Φ a)):PT X (.UnaryOp .Not e pos) (ie X F Φ (.not a)):=by
 refine PT.imp (Jn h) fun σ H Q hq=>?_
 obtain ⟨R,τ,ρ,b,Si,ev,hq⟩:=hq
 unfold wL at ev
 obtain ⟨d,ed,ev⟩:=ah ev
 obtain ⟨c,ec,ed⟩:=ah ed
 cases ed
 have YT:b = !c:=by
  have e2:ok (!c) = ok b:=ev
  exact (Except.ok.inj (Option.some.inj e2)).symm
 subst YT
 exact ⟨R,τ,ρ,c,Si,ec,fun H' e=>hq H' e⟩
theorem IW {c a b:CE} {t x y:Expr} {pos:Pos} (hc:PT X t (ie X F Φ c)) (ha:PE X x (tD X F Φ a)) (hb:PE X y (tD X F Φ b)):PE X (.IfExp t x y pos) (tD X F Φ (.ite c a b)):=by
 refine PE.imp (Cj hc ha hb) fun σ H Q hq=>?_
 obtain ⟨R,τ,ρ,d,Si,ev,hq⟩:=hq
 obtain ⟨w,ew,ev⟩:=ah ev
 refine ⟨R,τ,ρ,w,Si,ew,fun H1 e1=>?_⟩
 cases w with
 | true=>exact tD.intro (Si.go e1) ev fun v H' e r=>hq v H' (e1.trans e) ((r.old e1).mono fun i hi=>by simp [iQ,hi])
 | false=>exact tD.intro (Si.go e1) ev fun v H' e r=>hq v H' (e1.trans e) ((r.old e1).mono fun i hi=>by simp [iQ,hi])
theorem IF {c a b:CE} {t x y:Expr} {pos:Pos} (hc:PT X t (ie X F Φ c)) (ha:PT X x (ie X F Φ a)) (hb:PT X y (ie X F Φ b)):PT X (.IfExp t x y pos) (ie X F Φ (.ite c a b)):=by
 intro pins s σ H Q I hq
 obtain ⟨R,τ,ρ,d,Si,ev,hq⟩:=hq
 unfold wL at ev
 obtain ⟨x',Pk,et⟩:=ah ev
 obtain ⟨w,ew,ev⟩:=ah Pk
 refine isTrue_IfExp (dS (hc pins s σ H (fun w' H1=>w' = w /\ ao H H1) I ⟨R,τ,ρ,w,Si,ew,fun H1 e1=>⟨rfl,e1⟩⟩) fun w' s1 ⟨H1,I1,hw,e1⟩=>?_)
 subst hw
 cases w' with
 | true=>exact ha pins s1 σ H1 Q I1 ⟨R,τ,ρ,d,Si.go e1,by unfold wL;rw [show aN Φ a ρ = ok x' from ev];exact et,fun H' e=>hq H' (e1.trans e)⟩
 | false=>exact hb pins s1 σ H1 Q I1 ⟨R,τ,ρ,d,Si.go e1,by unfold wL;rw [show aN Φ b ρ = ok x' from ev];exact et,fun H' e=>hq H' (e1.trans e)⟩
theorem IU {a:CE} {e:Expr} {pos:Pos} (h:PE X e (tD X F Φ a)):PE X (.UnaryOp .USub e pos) (tD X F Φ (.neg a)):=by
 refine PE.imp (NN Iw h) fun σ H Q hq=>?_
 obtain ⟨R,τ,ρ,d,Si,ev,hq⟩:=hq
 obtain ⟨x,ex,ev⟩:=ah ev
 refine tD.intro Si ex fun v H1 e1 r1=>?_
 cases x <;> simp [FH] at ev
 cases ev
 exact ⟨_,r1.isInt,hq _ H1 e1 .int⟩
theorem G1 {c:CE} {σ:St} {H:Hp} {Q:VK} (hq:tD X F Φ (.and [c]) σ H Q):tD X F Φ c σ H Q:=by
 obtain ⟨R,τ,ρ,d,Si,ev,hq⟩:=hq
 obtain ⟨b,eb,ev⟩:=ah ev
 obtain ⟨x,ex,eb⟩:=ah eb
 cases ev
 refine tD.intro Si ex fun v H1 e1 r1=>?_
 cases x <;> simp [ic] at eb
 cases eb
 rw [r1.Au];exact hq _ H1 e1 .bl
theorem JE {c:CE} {σ:St} {H:Hp} {Q:VK} (hq:tD X F Φ (.or [c]) σ H Q):tD X F Φ c σ H Q:=by
 obtain ⟨R,τ,ρ,d,Si,ev,hq⟩:=hq
 obtain ⟨b,eb,ev⟩:=ah ev
 obtain ⟨x,ex,eb⟩:=ah eb
 cases ev
 refine tD.intro Si ex fun v H1 e1 r1=>?_
 cases x <;> simp [ic] at eb
 cases eb
 rw [r1.Au];exact hq _ H1 e1 .bl
theorem DR {c:CE} {σ:St} {H:Hp} {Q:Bool -> Hp -> Prop} (hq:ie X F Φ (.and [c]) σ H Q):ie X F Φ c σ H Q:=by
 obtain ⟨R,τ,ρ,d,Si,ev,hq⟩:=hq
 unfold wL at ev
 obtain ⟨b,eb,ev⟩:=ah ev
 obtain ⟨x,ex,eb⟩:=ah eb
 cases eb;cases ev
 exact ⟨R,τ,ρ,_,Si,ex,hq⟩
theorem Fv {c:CE} {σ:St} {H:Hp} {Q:Bool -> Hp -> Prop} (hq:ie X F Φ (.or [c]) σ H Q):ie X F Φ c σ H Q:=by
 obtain ⟨R,τ,ρ,d,Si,ev,hq⟩:=hq
 unfold wL at ev
 obtain ⟨b,eb,ev⟩:=ah ev
 obtain ⟨x,ex,eb⟩:=ah eb
 cases eb;cases ev
 exact ⟨R,τ,ρ,_,Si,ex,hq⟩
theorem DS {c c':CE} {cs:List CE} {σ:St} {H:Hp} {Q:VK} (hq:tD X F Φ (.and (c :: c' :: cs)) σ H Q):Hj (tD X F Φ c) (tD X F Φ (.and (c' :: cs))) σ H Q:=by
 obtain ⟨R,τ,ρ,d,Si,ev,hq⟩:=hq
 obtain ⟨b,eb,ev⟩:=ah ev
 obtain ⟨x,ex,eb⟩:=ah eb
 refine tD.intro Si ex fun v H1 e1 r1=>?_
 cases x <;> simp [ic] at eb
 cases eb
 refine ⟨_,r1.Au,?_⟩
 cases b with
 | true =>
  rw [if_pos rfl] at ev ⊢
  exact tD.intro (Si.go e1) ev fun v H' e r=>hq v H' (e1.trans e) ((r.old e1).mono fun i hi=>List.mem_append_right _ hi)
 | false =>
  rw [if_neg (by simp)] at ev ⊢
  cases ev
  exact hq _ H1 e1 .bl
theorem Fw {c c':CE} {cs:List CE} {σ:St} {H:Hp} {Q:VK} (hq:tD X F Φ (.or (c :: c' :: cs)) σ H Q):M4 (tD X F Φ c) (tD X F Φ (.or (c' :: cs))) σ H Q:=by
 obtain ⟨R,τ,ρ,d,Si,ev,hq⟩:=hq
 obtain ⟨b,eb,ev⟩:=ah ev
 obtain ⟨x,ex,eb⟩:=ah eb
 refine tD.intro Si ex fun v H1 e1 r1=>?_
 cases x <;> simp [ic] at eb
 cases eb
 refine ⟨_,r1.Au,?_⟩
 cases b with
 | false =>
  rw [if_neg (by simp)] at ev ⊢
  exact tD.intro (Si.go e1) ev fun v H' e r=>hq v H' (e1.trans e) ((r.old e1).mono fun i hi=>List.mem_append_right _ hi)
 | true =>
  rw [if_pos rfl] at ev ⊢
  cases ev
  exact hq _ H1 e1 .bl
theorem A4 {c c':CE} {cs:List CE} {σ:St} {H:Hp} {Q:Bool -> Hp -> Prop} (hq:ie X F Φ (.and (c :: c' :: cs)) σ H Q):M_ (ie X F Φ c) (ie X F Φ (.and (c' :: cs))) σ H Q:=by
 obtain ⟨R,τ,ρ,d,Si,ev,hq⟩:=hq
 unfold wL at ev
 obtain ⟨x,ex,et⟩:=ah ev
 obtain ⟨b,eb,ev⟩:=ah ex
 refine ⟨R,τ,ρ,b,Si,eb,fun H1 e1=>?_⟩
 cases b with
 | true =>
  rw [if_pos rfl] at ev ⊢
  exact ⟨R,τ,ρ,d,Si.go e1,by unfold wL;rw [show aN Φ (.and (c' :: cs)) ρ = ok x from ev];exact et,fun H' e=>hq H' (e1.trans e)⟩
 | false =>
  rw [if_neg (by simp)] at ev ⊢
  cases ev;cases et
  exact hq H1 e1
theorem Cr {c c':CE} {cs:List CE} {σ:St} {H:Hp} {Q:Bool -> Hp -> Prop} (hq:ie X F Φ (.or (c :: c' :: cs)) σ H Q):tOr (ie X F Φ c) (ie X F Φ (.or (c' :: cs))) σ H Q:=by
 obtain ⟨R,τ,ρ,d,Si,ev,hq⟩:=hq
 unfold wL at ev
 obtain ⟨x,ex,et⟩:=ah ev
 obtain ⟨b,eb,ev⟩:=ah ex
 refine ⟨R,τ,ρ,b,Si,eb,fun H1 e1=>?_⟩
 cases b with
 | false =>
  rw [if_neg (by simp)] at ev ⊢
  exact ⟨R,τ,ρ,d,Si.go e1,by unfold wL;rw [show aN Φ (.or (c' :: cs)) ρ = ok x from ev];exact et,fun H' e=>hq H' (e1.trans e)⟩
 | true =>
  rw [if_pos rfl] at ev ⊢
  cases ev;cases et
  exact hq H1 e1
theorem kT {σ:St} {H:Hp} {Q:List V -> Hp -> Prop} (hq:uR X F Φ [] σ H Q):M6 σ H Q:=by
 obtain ⟨R,τ,ρ,d,Si,ev,hq⟩:=hq
 cases ev
 exact hq _ H (ao.refl H) .nil
theorem g_ {c:CE} {cs:List CE} {σ:St} {H:Hp} {Q:List V -> Hp -> Prop} (hq:uR X F Φ (c :: cs) σ H Q):Hi (tD X F Φ c) (uR X F Φ cs) σ H Q:=by
 obtain ⟨R,τ,ρ,d,Si,ev,hq⟩:=hq
 obtain ⟨x,ex,ev⟩:=ah ev
 obtain ⟨xs,dk,ev⟩:=ah ev
 cases ev
 refine tD.intro Si ex fun v H1 e1 r1=>⟨R,τ,ρ,xs,Si.go e1,dk,fun vs H2 e2 r2=>hq _ H2 (e1.trans e2) (cj.cons e1 e2 (r1.mono fun i hi=>List.mem_append_left _ hi) (r2.mono fun i hi=>List.mem_append_right _ hi))⟩
theorem cg {c:CE} {e:Expr} (h:bT S c e = true) (es:List Expr) (env:Env):starEach (e :: es) env = (false,eval e env) :: starEach es env:=by
 cases e <;> first | rfl | (cases c <;> exact (Bool.false_ne_true h).elim)
theorem xR:∀ {cs:List CE} {es:List Expr},bL S cs es = true -> ∀ (pos:Pos) (env:Env),(backTo pos (starEach es env)).any (·.1) = false
 | [],[],_,_,_=>rfl
 | [],_ :: _,h,_,_=>by exact (Bool.false_ne_true h).elim
 | _ :: _,[],h,_,_=>by exact (Bool.false_ne_true h).elim
 | c :: cs,e :: es,h,pos,env=>by
  replace h:=av h
  rw [cg h.1]
  have:=xR h.2 pos env
  unfold backTo at this ⊢
  simp only [List.map_cons,List.any_cons,Bool.false_or]
  exact this
theorem rO {c:CE} {e:Expr} (h:bT S c e = true):nY e:=by
 intro o i
 cases e <;> first | rfl | (cases c <;> exact (Bool.false_ne_true h).elim)
theorem BU {j:Nat} {pos:Pos}:PE X (.Constant .none j pos) (tD X F Φ .bE):=PE.imp Jv fun σ H Q ⟨R,τ,ρ,d,Si,ev,hq⟩=>by cases ev;exact hq _ H (ao.refl H) .bE
theorem Hn {b:Bool} {j:Nat} {pos:Pos}:PE X (.Constant (.bool b) j pos) (tD X F Φ (.bl b)):=PE.imp NQ fun σ H Q ⟨R,τ,ρ,d,Si,ev,hq⟩=>by cases ev;exact hq _ H (ao.refl H) .bl
theorem BV {i:Int} {j:Nat} {pos:Pos}:PE X (.Constant (.int i) j pos) (tD X F Φ (.int i)):=PE.imp Jx fun σ H Q ⟨R,τ,ρ,d,Si,ev,hq⟩=>by cases ev;exact hq _ H (ao.refl H) .int
theorem Kk (L:Lk X S k Φ) {es:List CE} {y target:Expr} {caps:List Nat} {p Ko:Pos} (g1:iV S.sc ("range" : Str) = true) (g2:("range" : Str) ∈ S.bl) (pa:PA X [y] (uR X F Φ es)) (Az:bL S es [y] = true)
  (pins:List (Addr × Obj)) (s:Shared) (σ:St) (H:Hp) (R:Addr -> Prop) (τ:Addr -> Option aH) (ρ:aC) (xs items:List D) (I:Inv X pins σ H s) (Si:SI X F R τ ρ σ H) (dk:cM Φ es ρ = ok xs) (xI:fc Φ .mP xs = ok items) (Rr:It -> Hp -> Prop)
  (hR:∀ J H2,ao H H2 -> Yl X.K J (l_ X F τ (caps ++ dw es) H2) H2 items -> Rr J H2) :
  wpAny (model X.prog X.w) X.A (eval (.Call (.Name ("range" : Str) p) [y] [] Ko) X.env) (fun v s1=>wpAny (model X.prog X.w) X.A (pyIter v) (DX X pins σ target Rr) X.xe s1) X.xe s:=by
 match es,Az with
 | [c],Az =>
  replace Az:=av Az
  refine rg (L.gl g1) (L.bl _ g2) pa (cg Az.1 _ _) pins s σ H Rr I ⟨R,τ,ρ,xs,Si,dk,fun vs H1 e1 rv=>?_⟩
  obtain ⟨τt,fr,rs⟩:=rv
  obtain ⟨n,rfl⟩:∃ n,xs = [.int n]:=by
   cases xs with
   | nil=>cases xI
   | cons x t=>cases x <;> first | (cases xI;done) | (cases t with | nil=>exact ⟨_,rfl⟩ | cons _ _=>cases xI)
  cases rs.ints1
  ·obtain ⟨⟨c1,c2⟩,xI⟩:=qp xI
   subst xI
   have m9:(eN:Int) = 1000000:=rfl
   refine ⟨n,rfl,by omega,by omega,hR _ H1 e1 ?_⟩
   have:=Io (X:=X) (lo:=0) (n:=n.toNat) (R:=l_ X F τ (caps ++ dw [c]) H1) (H1:=H1)
   simpa using this
 | [],Az=>exact (Bool.false_ne_true Az).elim
 | _ :: _ :: _,Az=>exact (Bool.false_ne_true (av Az).2).elim
theorem Kj (L:Lk X S k Φ) {c:CE} {y target:Expr} {caps:List Nat} (pe:PE X y (tD X F Φ c))
  (pins:List (Addr × Obj)) (s:Shared) (σ:St) (H:Hp) (R:Addr -> Prop) (τ:Addr -> Option aH) (ρ:aC) (xs items:List D) (I:Inv X pins σ H s) (Si:SI X F R τ ρ σ H) (dk:cM Φ [c] ρ = ok xs) (xI:fc Φ .seq xs = ok items) (Rr:It -> Hp -> Prop)
  (hR:∀ J H2,ao H H2 -> Yl X.K J (l_ X F τ (caps ++ dw [c]) H2) H2 items -> Rr J H2) :
  wpAny (model X.prog X.w) X.A (eval y X.env) (fun v s1=>wpAny (model X.prog X.w) X.A (pyIter v) (DX X pins σ target Rr) X.xe s1) X.xe s:=by
 obtain ⟨x,ex,dk⟩:=ah dk
 obtain ⟨Ej,YQ,dk⟩:=ah dk
 cases YQ
 cases dk
 have hfv:∀ i ∈ iQ c,i ∈ caps ++ dw [c]:=fun i hi=>List.mem_append_right _ (List.mem_append_left _ hi)
 cases x with
 | tup ds =>
  cases xI
  refine Ca pe pins s σ H Rr I (tD.intro Si ex fun v H1 e1 rv=>?_)
  obtain ⟨τt,fr,rp⟩:=rv
  cases rp with
  | @tup _ p ys _ hp rs=>exact ⟨p,rfl,⟨ys,hp⟩,hR _ H1 e1 (Im (q:=[]) hp (ag.ja (fun _ _ h=>h) (w8 Si fr hfv) rs _ _))⟩
 | lst f ds =>
  cases xI
  refine yt pe pins s σ H Rr I (tD.intro Si ex fun v H1 e1 rv=>?_)
  obtain ⟨τt,fr,rp⟩:=rv
  cases rp with
  | @lst _ p ys _ _ hp rs=>exact ⟨p,rfl,⟨ys,hp.sq⟩,hR _ H1 e1 (Ei (q:=[]) hp.sq (ag.ja (fun _ _ h=>h) (w8 Si fr hfv) rs _ _))⟩
 | _=>cases xI
theorem MK {fv fv':List Nat} {R:Addr -> Prop} {τ:Addr -> Option aH} {ρ:aC} {σ:St} {H H2:Hp} {vs:List V} {xs items:List D} {J:It} (Si:SI X F R τ ρ σ H) (hs:∀ i ∈ fv,i ∈ fv') (r:cj X.K (gP X F) R τ fv H H2 vs xs) (y:LU X.K J H2 vs xs items) :
  Yl X.K J (l_ X F τ fv' H2) H2 items:=by
 obtain ⟨τt,fr,rs⟩:=r
 have at':∀ H',ao H2 H' -> ag (aG X.K H') (nd X.K (l_ X F τ fv' H2) (fun _=>False) (fun _=>none) H') [] 0 vs (ai aL xs):=fun H' e =>
  (ag.ja (T':=aG X.K H2) (fun _ _ h=>h) (w8 Si fr hs) rs [] 0).imp (fun _ _ h=>aG.same e h) fun _ _ _ _ h=>nd.same e h
 have st:∀ H',ao H2 H' -> wI X.K H2 vs xs H':=fun H' e=>⟨⟨_,at' H2 (ao.refl H2),fun p o _ h=>e p o h⟩,fun _ _ h=>aG.same e h⟩
 exact ⟨fun i H' e hi=>y.go i H' _ (st H' e) (at' H' e) hi,fun i H' x nA e hi hy=>y.wJ i H' _ x nA (st H' e) (at' H' e) hi hy,fun i H' e hi=>y.stop i H' _ (st H' e) (at' H' e) hi⟩
theorem Kl (L:Lk X S k Φ) {p:Nat} {es:List CE} {args:List Expr} {y target:Expr} {caps:List Nat} (hp:S.px.pi p S.sc S.bl y = some args) (ht:(decide (1100 <= p) || ip target) = true) (hs:qM X F Φ es args)
  (pins:List (Addr × Obj)) (s:Shared) (σ:St) (H:Hp) (R:Addr -> Prop) (τ:Addr -> Option aH) (ρ:aC) (xs items:List D) (I:Inv X pins σ H s) (Si:SI X F R τ ρ σ H) (dk:cM Φ es ρ = ok xs) (xI:fc Φ (.eE p) xs = ok items) (Rr:It -> Hp -> Prop)
  (hR:∀ J H2,ao H H2 -> Yl X.K J (l_ X F τ (caps ++ dw es) H2) H2 items -> Rr J H2) :
  wpAny (model X.prog X.w) X.A (eval y X.env) (fun v s1=>wpAny (model X.prog X.w) X.A (pyIter v) (DX X pins σ target Rr) X.xe s1) X.xe s:=by
 obtain ⟨d,ed,ei⟩:=ah (show bd (Φ p xs) qc = ok items from xI)
 exact L.pr.i X _ _ k L.pX p y args hp F es target ht hs pins s σ H R τ ρ xs d items I Si dk ed ei Rr fun J H2 vs e2 r yz=>hR J H2 e2 (MK Si (fun i hi=>by simp [hi]) r yz)
theorem wd {S':Sx} {a_:List CE} {ifs:List Expr} (h3:a_.length <= 1) (h4:bL S' a_ ifs = true)
  (Bi:∀ (X':Cx) (F':Addr -> Prop),Lk X' S' k Φ -> ∀ (j:Nat) (c:CE) (e:Expr),a_[j]? = some c -> ifs[j]? = some e -> PE X' e (tD X' F' Φ c) /\ PT X' e (ie X' F' Φ c)) :
  (a_ = [] /\ ifs = []) \/ ∃ c e,a_ = [c] /\ ifs = [e] /\ ∀ (X':Cx) (F':Addr -> Prop),Lk X' S' k Φ -> PT X' e (ie X' F' Φ c):=by
 cases a_ with
 | nil=>cases ifs with
  | nil=>exact .inl ⟨rfl,rfl⟩
  | cons _ _=>exact (Bool.false_ne_true h4).elim
 | cons c cs=>cases cs with
  | cons _ _=>simp at h3
  | nil=>cases ifs with
   | nil=>exact (Bool.false_ne_true h4).elim
   | cons e ifs=>cases ifs with
    | cons _ _=>exact (Bool.false_ne_true (av h4).2).elim
    | nil=>exact .inr ⟨c,e,rfl,rfl,fun X' F' L'=>(Bi X' F' L' 0 c e rfl rfl).2⟩
noncomputable def PD (S:Sx) (ik:IK) (es:List CE) (target iter:Expr):Bool:=match ik with
 | .mP=>aR (ft iter) fun w=>decide (w.1 = ("range" : Str)) && iV S.sc w.1 && decide (w.1 ∈ S.bl) && aR (one w.2) fun y=>bL S es [y]
 | .seq=>bL S es [iter]
 | .eE p=>Q_ iter && (decide (1100 <= p) || ip target) && aR (S.px.pi p S.sc S.bl iter) fun xs=>bL S es xs
theorem CU (L:Lk X S k Φ) {ik:IK} {es:List CE} {target iter:Expr} {caps:List Nat} (Az:∀ l,bL S es l = true -> PA X l (uR X F Φ es))
  (Bi:∀ l,bL S es l = true -> ∀ (j:Nat) (c:CE) (e:Expr),es[j]? = some c -> l[j]? = some e -> PE X e (tD X F Φ c) /\ PT X e (ie X F Φ c)) (hpe:∀ l,bL S es l = true -> qM X F Φ es l) (h6:PD S ik es target iter = true) :
  ∀ (pins:List (Addr × Obj)) (s:Shared) (σ:St) (H:Hp) (R:Addr -> Prop) (τ:Addr -> Option aH) (ρ:aC) (xs items:List D),Inv X pins σ H s -> SI X F R τ ρ σ H -> cM Φ es ρ = ok xs -> fc Φ ik xs = ok items -> ∀ (Rr:It -> Hp -> Prop),
   (∀ J H2,ao H H2 -> Yl X.K J (l_ X F τ (caps ++ dw es) H2) H2 items -> Rr J H2) ->
   wpAny (model X.prog X.w) X.A (eval iter X.env) (fun v s1=>wpAny (model X.prog X.w) X.A (pyIter v) (DX X pins σ target Rr) X.xe s1) X.xe s:=by
 cases ik with
 | mP =>
  obtain ⟨⟨x,as⟩,hv,h6⟩:=aS h6
  obtain ⟨p,Ko,rfl⟩:=dv hv
  obtain ⟨KW,g3⟩:=av h6
  obtain ⟨KU,g2⟩:=av KW
  obtain ⟨KS,g1⟩:=av KU
  obtain rfl:x = _:=of_decide_eq_true KS
  obtain ⟨y,hu,Gu⟩:=aS g3
  obtain rfl:as = [y]:=cB hu
  exact Kk L g1 (of_decide_eq_true g2) (Az _ Gu) Gu
 | seq =>
  have Xl:=Bi _ h6
  cases es with
  | nil=>exact (Bool.false_ne_true h6).elim
  | cons c cs=>cases cs with
   | cons _ _=>exact (Bool.false_ne_true (av h6).2).elim
   | nil=>exact Kj L (Xl 0 c _ rfl rfl).1
 | eE p =>
  obtain ⟨h6,g3⟩:=av h6
  obtain ⟨xs,ha,Gu⟩:=aS g3
  exact Kl L ha (av h6).2 (hpe _ Gu)
mutual
theorem aJ:∀ (c:CE) (X:Cx) (S:Sx) (F:Addr -> Prop) (L:Lk X S k Φ) (e:Expr),bT S c e = true -> PE X e (tD X F Φ c) /\ PT X e (ie X F Φ c)
 | .eE p cs,X,S,F,L,e,h=>by
  obtain ⟨args,ha,hb⟩:=aS (av h).2
  exact L.pr.e X _ _ k L.pX p e args ha F cs (jD cs X S F L args hb)
 | .bE,X,S,F,L,e,h=>by
  obtain ⟨c,hv,ir⟩:=aS h
  obtain ⟨j,p,rfl⟩:=Bv hv
  obtain rfl:=Aq ir
  exact ⟨BU,dj BU fun _=>rfl⟩
 | .bl b,X,S,F,L,e,h=>by
  obtain ⟨c,hv,ir⟩:=aS h
  obtain ⟨j,p,rfl⟩:=Bv hv
  obtain rfl:=CY ir
  exact ⟨Hn,dj Hn fun _=>rfl⟩
 | .int i,X,S,F,L,e,h=>by
  obtain ⟨c,hv,ir⟩:=aS h
  obtain ⟨j,p,rfl⟩:=Bv hv
  obtain rfl:=Ar ir
  exact ⟨BV,dj BV fun _=>rfl⟩
 | .v i,X,S,F,L,e,h=>by
  obtain ⟨x,hv,h'⟩:=aS h
  obtain ⟨p,rfl⟩:=lV hv
  have:=Tz (F:=F) L h
  exact ⟨this,dj this fun _=>rfl⟩
 | .glo x i,X,S,F,L,e,h=>by
  obtain ⟨y,hv,ir⟩:=aS h
  obtain ⟨pos,rfl⟩:=lV hv
  obtain ⟨mn,h3⟩:=av ir
  obtain ⟨qq,h2⟩:=av mn
  obtain ⟨De,h1⟩:=av qq
  obtain rfl:=of_decide_eq_true De
  obtain ⟨u,hm,r⟩:=L.cs _ _ (of_decide_eq_true h2)
  have this:PE X (.Name y pos) (tD X F Φ (.glo y i)):=PE.imp (yw (v:=.int i) (L.gl h1) hm r (oF h3)) fun σ H Q ⟨R,τ,ρ,d,Si,ev,hq⟩=>by cases ev;exact hq _ H (ao.refl H) .int
  exact ⟨this,dj this fun _=>rfl⟩
 | .glt x zs,X,S,F,L,e,h=>by
  obtain ⟨y,hv,ir⟩:=aS h
  obtain ⟨pos,rfl⟩:=lV hv
  obtain ⟨mn,h3⟩:=av ir
  obtain ⟨qq,h2⟩:=av mn
  obtain ⟨De,h1⟩:=av qq
  obtain rfl:=of_decide_eq_true De
  obtain ⟨u,hm,a,o,aj,n,rfl,q1,q2,q3,q4,q5⟩:=L.cs _ _ (of_decide_eq_true h2)
  have this:PE X (.Name y pos) (tD X F Φ (.glt y zs)):=PE.imp (yw (v:=.ref a) (L.gl h1) hm rfl (oF h3)) fun σ H Q ⟨R,τ,ρ,d,Si,ev,hq⟩=>by
   cases ev
   exact hq _ H (ao.refl H) ⟨fun _=>none,fun _ _ h=>by simp at h,.tup (.inr ⟨o,aj,n,q1,q2,q3,q4,q5⟩) (jF zs)⟩
  exact ⟨this,dj this fun _=>rfl⟩
 | .bin op a b,X,S,F,L,e,h=>by
  obtain ⟨⟨l,o,r⟩,hv,ir⟩:=aS h
  obtain ⟨pos,rfl⟩:=Eu hv
  obtain ⟨mn,h2⟩:=av ir
  obtain ⟨qq,h1⟩:=av mn
  obtain rfl:o = NX op:=of_decide_eq_true qq
  have:=IZ (F:=F) (pos:=pos) L (op:=op) (aJ a X S F L _ h1).1 (aJ b X S F L _ h2).1
  exact ⟨this,dj this fun _=>rfl⟩
 | .neg a,X,S,F,L,e,h=>by
  obtain ⟨⟨o,x⟩,hv,ir⟩:=aS h
  obtain ⟨pos,rfl⟩:=Bs hv
  obtain ⟨mn,h1⟩:=av ir
  obtain rfl:o = .USub:=of_decide_eq_true mn
  have:=IU (F:=F) (Φ:=Φ) (pos:=pos) (aJ a X S F L _ h1).1
  exact ⟨this,dj this fun _=>rfl⟩
 | .not a,X,S,F,L,e,h=>by
  obtain ⟨⟨o,x⟩,hv,ir⟩:=aS h
  obtain ⟨pos,rfl⟩:=Bs hv
  obtain ⟨mn,h1⟩:=av ir
  obtain rfl:o = .Not:=of_decide_eq_true mn
  exact ⟨IT (aJ a X S F L _ h1).1,IE (aJ a X S F L _ h1).2⟩
 | .and cs,X,S,F,L,e,h=>by
  obtain ⟨⟨o,vs⟩,hv,ir⟩:=aS h
  obtain ⟨pos,rfl⟩:=uL hv
  obtain ⟨mn,h1⟩:=av ir
  obtain rfl:o = .And:=of_decide_eq_true mn
  exact ⟨(lY cs X S F L vs h1 pos).1,(lY cs X S F L vs h1 pos).2.pt⟩
 | .or cs,X,S,F,L,e,h=>by
  obtain ⟨⟨o,vs⟩,hv,ir⟩:=aS h
  obtain ⟨pos,rfl⟩:=uL hv
  obtain ⟨mn,h1⟩:=av ir
  obtain rfl:o = .Or:=of_decide_eq_true mn
  exact ⟨(og cs X S F L vs h1 pos).1,(og cs X S F L vs h1 pos).2.pt⟩
 | .ite c a b,X,S,F,L,e,h=>by
  obtain ⟨⟨t,x,y⟩,hv,ir⟩:=aS h
  obtain ⟨pos,rfl⟩:=Iv hv
  obtain ⟨mn,h2⟩:=av ir
  obtain ⟨h0,h1⟩:=av mn
  exact ⟨IW (aJ c X S F L _ h0).2 (aJ a X S F L _ h1).1 (aJ b X S F L _ h2).1,IF (aJ c X S F L _ h0).2 (aJ a X S F L _ h1).2 (aJ b X S F L _ h2).2⟩
 | .cmp op a b,X,S,F,L,e,h=>by
  obtain ⟨⟨l,os,rs⟩,hv,ir⟩:=aS h
  obtain ⟨pos,rfl⟩:=r6 hv
  obtain ⟨mn,h2⟩:=av ir
  obtain ⟨qq,h1⟩:=av mn
  obtain ⟨r,hr,XZ⟩:=aS h2
  obtain ⟨Pa,h3⟩:=av XZ
  obtain rfl:os = [UL op]:=of_decide_eq_true qq
  obtain rfl:rs = [r]:=cB hr
  exact ⟨PE.imp (sS (Ct L op) (aJ a X S F L _ h1).1 (aJ b X S F L _ Pa).1 (sU h3)) fun _ _ _ qq=>wj qq,PT.imp (sM (Ct L op) (aJ a X S F L _ h1).1 (aJ b X S F L _ Pa).1 (sU h3)) fun _ _ _ qq=>zR qq⟩
 | .pY a t,X,S,F,L,e,h=>by
  obtain ⟨⟨f,as⟩,hv,ir⟩:=aS h
  obtain ⟨p,pos,rfl⟩:=dv hv
  obtain ⟨mn,h5⟩:=av ir
  obtain ⟨qq,h2⟩:=av mn
  obtain ⟨De,h1⟩:=av qq
  obtain rfl:f = _:=of_decide_eq_true De
  obtain ⟨⟨e,g⟩,hw,Gq⟩:=aS h5
  obtain rfl:as = [e,g]:=n9 hw
  obtain ⟨O8,h6⟩:=av Gq
  obtain ⟨x,hn,KW⟩:=aS h6
  obtain ⟨p',rfl⟩:∃ p,g = .Name x p:=lV hn
  obtain ⟨KU,h4⟩:=av KW
  obtain ⟨KS,h3⟩:=av KU
  obtain rfl:=of_decide_eq_true KS
  have:=IY (F:=F) (p:=p) (p':=p') (pos:=pos) L h1 (of_decide_eq_true h2) h3 (of_decide_eq_true h4) (aJ a X S F L _ O8).1 (fun es=>cg O8 es _)
  exact ⟨this,dj this fun _=>rfl⟩
 | .call f cs,X,S,F,L,e,h=>by
  obtain ⟨⟨x,as⟩,hv,ir⟩:=aS h
  obtain ⟨p,pos,rfl⟩:=dv hv
  obtain ⟨mn,h4⟩:=av ir
  obtain ⟨qq,h3⟩:=av mn
  obtain ⟨h1,h2⟩:=av qq
  obtain ⟨⟨y,ys⟩,hu,tu⟩:=aS h4
  obtain rfl:as = y :: ys:=Bw hu
  cases cs with
  | nil=>exact (Bool.false_ne_true tu).elim
  | cons c cs' =>
   have O9:=av tu
   have:=ES (F:=F) (p:=p) (pos:=pos) L (of_decide_eq_true h1) h2 h3 (fS (c :: cs') X S F L (y :: ys) tu) (fun es=>cg O9.1 es _) (fun pos=>xR O9.2 pos _)
   exact ⟨this,dj this fun _=>rfl⟩
 | .bf f cs,X,S,F,L,e,h=>by
  obtain ⟨⟨x,as⟩,hv,ir⟩:=aS h
  obtain ⟨p,pos,rfl⟩:=dv hv
  obtain ⟨mn,h4⟩:=av ir
  obtain ⟨qq,h3⟩:=av mn
  obtain ⟨De,h2⟩:=av qq
  obtain rfl:x = _:=of_decide_eq_true De
  obtain ⟨⟨y,ys⟩,hu,tu⟩:=aS h4
  obtain rfl:as = y :: ys:=Bw hu
  cases cs with
  | nil=>exact (Bool.false_ne_true tu).elim
  | cons c cs' =>
   have O9:=av tu
   have:=Nt (F:=F) (p:=p) (pos:=pos) L h2 (of_decide_eq_true h3) (fS (c :: cs') X S F L (y :: ys) tu) (fun es=>cg O9.1 es _) (fun pos=>xR O9.2 pos _)
   exact ⟨this,dj this fun _=>rfl⟩
 | .ml a,X,S,F,L,e,h=>by
  obtain ⟨⟨x,as⟩,hv,ir⟩:=aS h
  obtain ⟨p,pos,rfl⟩:=dv hv
  obtain ⟨mn,h4⟩:=av ir
  obtain ⟨qq,h2⟩:=av mn
  obtain ⟨De,h1⟩:=av qq
  obtain rfl:x = _:=of_decide_eq_true De
  obtain ⟨y,hu,tu⟩:=aS h4
  obtain rfl:as = [y]:=cB hu
  obtain ⟨⟨z,bs⟩,hw,h4_3⟩:=aS tu
  obtain ⟨p',pos',rfl⟩:=dv hw
  obtain ⟨XU,h5⟩:=av h4_3
  obtain ⟨XT,h6⟩:=av XU
  obtain ⟨XS,h3⟩:=av XT
  obtain rfl:z = _:=of_decide_eq_true XS
  obtain ⟨u,Xa,Gq⟩:=aS h5
  obtain rfl:bs = [u]:=cB Xa
  have:=EO (F:=F) (p:=p) (p':=p') (pos:=pos) (pos':=pos') L h1 (of_decide_eq_true h2) h3 (of_decide_eq_true h6) (aJ a X S F L _ Gq).1 (fun es=>cg Gq es _)
  exact ⟨this,dj this fun _=>rfl⟩
 | .ix a b,X,S,F,L,e,h=>by
  obtain ⟨⟨l,r⟩,hv,ir⟩:=aS h
  obtain ⟨pos,rfl⟩:=rZ hv
  obtain ⟨h1,h2⟩:=av ir
  have:=Nr (F:=F) (pos:=pos) L (aJ a X S F L _ h1).1 (aJ b X S F L _ h2).1 (rO h2)
  exact ⟨this,dj this fun _=>rfl⟩
 | .tup cs,X,S,F,L,e,h=>by
  obtain ⟨es,hv,ir⟩:=aS h
  obtain ⟨n,pos,rfl⟩:=kR hv
  obtain ⟨h1,h2⟩:=av ir
  have:=IS (F:=F) (n:=n) (pos:=pos) (fS cs X S F L es h1) (of_decide_eq_true h2)
  exact ⟨this,dj this fun _=>rfl⟩
 | .lst cs,X,S,F,L,e,h=>by
  obtain ⟨es,hv,ir⟩:=aS h
  obtain ⟨pos,rfl⟩:=Eo hv
  obtain ⟨h1,h2⟩:=av ir
  have:=IV (F:=F) (pos:=pos) (fS cs X S F L es h1) (of_decide_eq_true h2)
  exact ⟨this,dj this fun _=>rfl⟩
 | .comp n t caps ik es a_ elt,X,S,F,L,e,h=>by
  obtain ⟨⟨iW,gens,sc⟩,hv,ir⟩:=aS h
  obtain ⟨pos,rfl⟩:=Bu hv
  obtain ⟨⟨target,iter,ifs,a⟩,hg,mn⟩:=aS ir
  obtain rfl:gens = _:=cB hg
  obtain ⟨qq,h6⟩:=av mn
  obtain ⟨De,h5⟩:=av qq
  obtain ⟨h_5,h4⟩:=av De
  obtain ⟨h_6,h3⟩:=av h_5
  obtain ⟨h_7,h2⟩:=av h_6
  obtain ⟨h_8,h1⟩:=av h_7
  obtain rfl:a = 0:=of_decide_eq_true h_8
  have Bi:=fun (X':Cx) (F':Addr -> Prop) (L':Lk X' (S.inner target caps sc) k Φ)=>i0 a_ X' _ F' L' ifs h4
  have this:PE X (.ListComp iW [⟨target,iter,ifs,0⟩] sc pos) (tD X F Φ (.comp n t caps ik es a_ elt)) :=
   ER L (rN h1) h2 (fun X' F' L'=>(aJ elt X' _ F' L' iW h5).1) (wd (of_decide_eq_true h3) h4 Bi) (CU L (fun l=>fS es X S F L l) (fun l=>i0 es X S F L l) (fun l=>jD es X S F L l) h6)
  exact ⟨this,dj this fun _=>rfl⟩
theorem i0:∀ (cs:List CE) (X:Cx) (S:Sx) (F:Addr -> Prop) (L:Lk X S k Φ) (es:List Expr),bL S cs es = true -> ∀ (j:Nat) (c:CE) (e:Expr),cs[j]? = some c -> es[j]? = some e -> PE X e (tD X F Φ c) /\ PT X e (ie X F Φ c)
 | [],X,S,F,L,_,_=>fun j c e h _=>by simp at h
 | _ :: _,X,S,F,L,[],h=>by exact (Bool.false_ne_true h).elim
 | c :: cs,X,S,F,L,e :: es,h=>fun j c' e' hc he=>by
  replace h:=av h
  cases j with
  | zero=>simp at hc he;subst hc he;exact aJ c X S F L e h.1
  | succ j=>exact i0 cs X S F L es h.2 j c' e' (by simpa using hc) (by simpa using he)
theorem jD:∀ (cs:List CE) (X:Cx) (S:Sx) (F:Addr -> Prop) (L:Lk X S k Φ) (es:List Expr),bL S cs es = true -> qM X F Φ cs es
 | [],X,S,F,L,[],_=>trivial
 | [],X,S,F,L,_ :: _,h=>by exact (Bool.false_ne_true h).elim
 | _ :: _,X,S,F,L,[],h=>by exact (Bool.false_ne_true h).elim
 | c :: cs,X,S,F,L,e :: es,h=>by
  replace h:=av h
  exact ⟨(aJ c X S F L e h.1).1,fun l=>cg h.1 l _,rO h.1,jD cs X S F L es h.2⟩
theorem fS:∀ (cs:List CE) (X:Cx) (S:Sx) (F:Addr -> Prop) (L:Lk X S k Φ) (es:List Expr),bL S cs es = true -> PA X es (uR X F Φ cs)
 | [],X,S,F,L,[],_=>PA.imp gK fun _ _ _ h=>kT h
 | [],X,S,F,L,_ :: _,h=>by exact (Bool.false_ne_true h).elim
 | _ :: _,X,S,F,L,[],h=>by exact (Bool.false_ne_true h).elim
 | c :: cs,X,S,F,L,e :: es,h=>by
  replace h:=av h
  exact PA.imp (dB (aJ c X S F L e h.1).1 (fS cs X S F L es h.2) (cg h.1 es _)) fun _ _ _ h=>g_ h
theorem lY:∀ (cs:List CE) (X:Cx) (S:Sx) (F:Addr -> Prop) (L:Lk X S k Φ) (es:List Expr),bL S cs es = true -> ∀ pos,PE X (.BoolOp .And es pos) (tD X F Φ (.and cs)) /\ PW X (.BoolOp .And es pos) (ie X F Φ (.and cs))
 | [],X,S,F,L,_,_,pos=>⟨fun _ _ _ _ _ _ ⟨_,_,_,_,_,ev,_⟩=>(by cases ev),fun _ _ _ _ _ _ _ ⟨_,_,_,_,_,ev,_⟩=>by cases ev⟩
 | [c],X,S,F,L,[e],h,pos=>by
  replace h:=av h
  exact ⟨PE.imp (Cg (aJ c X S F L e h.1).1) fun _ _ _ h=>G1 h,PW.imp (Fm (aJ c X S F L e h.1).2) fun _ _ _ h=>DR h⟩
 | [_],X,S,F,L,[],h,_=>by exact (Bool.false_ne_true h).elim
 | [_],X,S,F,L,_ :: _ :: _,h,_=>by exact (Bool.false_ne_true (av h).2).elim
 | _ :: _ :: _,X,S,F,L,[],h,_=>by exact (Bool.false_ne_true h).elim
 | _ :: _ :: _,X,S,F,L,[_],h,_=>by exact (Bool.false_ne_true (av h).2).elim
 | c :: c' :: cs,X,S,F,L,e :: e' :: es,h,pos=>by
  replace h:=av h
  have r:=lY (c' :: cs) X S F L (e' :: es) h.2 pos
  exact ⟨PE.imp (Jy (aJ c X S F L e h.1).1 r.1) fun _ _ _ h=>DS h,PW.imp (Jl (aJ c X S F L e h.1).2 r.2) fun _ _ _ h=>A4 h⟩
theorem og:∀ (cs:List CE) (X:Cx) (S:Sx) (F:Addr -> Prop) (L:Lk X S k Φ) (es:List Expr),bL S cs es = true -> ∀ pos,PE X (.BoolOp .Or es pos) (tD X F Φ (.or cs)) /\ PW X (.BoolOp .Or es pos) (ie X F Φ (.or cs))
 | [],X,S,F,L,_,_,pos=>⟨fun _ _ _ _ _ _ ⟨_,_,_,_,_,ev,_⟩=>(by cases ev),fun _ _ _ _ _ _ _ ⟨_,_,_,_,_,ev,_⟩=>by cases ev⟩
 | [c],X,S,F,L,[e],h,pos=>by
  replace h:=av h
  exact ⟨PE.imp (Cg (aJ c X S F L e h.1).1) fun _ _ _ h=>JE h,PW.imp (Jk (aJ c X S F L e h.1).2) fun _ _ _ h=>Fv h⟩
 | [_],X,S,F,L,[],h,_=>by exact (Bool.false_ne_true h).elim
 | [_],X,S,F,L,_ :: _ :: _,h,_=>by exact (Bool.false_ne_true (av h).2).elim
 | _ :: _ :: _,X,S,F,L,[],h,_=>by exact (Bool.false_ne_true h).elim
 | _ :: _ :: _,X,S,F,L,[_],h,_=>by exact (Bool.false_ne_true (av h).2).elim
 | c :: c' :: cs,X,S,F,L,e :: e' :: es,h,pos=>by
  replace h:=av h
  have r:=og (c' :: cs) X S F L (e' :: es) h.2 pos
  exact ⟨PE.imp (NO (aJ c X S F L e h.1).1 r.1) fun _ _ _ h=>Fw h,PW.imp (NI (aJ c X S F L e h.1).2 r.2) fun _ _ _ h=>Cr h⟩
end
theorem iZ (L:Lk X S k Φ) (c:CE) (e:Expr) (h:bT S c e = true):PE X e (tD X F Φ c) /\ PT X e (ie X F Φ c):=aJ c X S F L e h
theorem oe (L:Lk X S k Φ) (cs:List CE) (es:List Expr) (h:bL S cs es = true):qM X F Φ cs es:=jD cs X S F L es h
theorem yg (L:Lk X S k Φ) (cs:List CE) (es:List Expr) (h:bL S cs es = true):PA X es (uR X F Φ cs):=fS cs X S F L es h
end
end DI
end
section
namespace DI
open PySem PySem.Spec PyProof.Rows L2
section
variable {X:Cx} {S:Sx} {k:Nat} {F:Addr -> Prop} {Φ:aA}
theorem sr (L:Lk X S k Φ) (c:CE) (e:Expr) (h:bT S c e = true):PE X e (tK X F Φ c):=by
 by_cases hv:∃ i,c = .v i
 ·obtain ⟨i,rfl⟩:=hv
  obtain ⟨x,hx,ha⟩:=aS h
  obtain ⟨p,rfl⟩:=lV hx
  obtain ⟨hb,h3⟩:=av ha
  obtain ⟨h1,h2⟩:=av hb
  unfold oH at h3
  simp only [Bool.and_eq_true,Bool.not_eq_true'] at h3
  refine PE.imp (xg (i:=i) (by rw [L.N];exact of_decide_eq_true h1) (L.QO h2) h3.1.1 h3.1.2) fun σ H Q hq=>?_
  obtain ⟨R,τ,ρ,r,Si,ev,hq⟩:=hq
  simp only [jX] at ev
  split at ev
  ·rename_i d hd
   split at ev
   ·cases ev
    obtain ⟨v,τ',hv,ia,rk⟩:=Si.move hd
    exact ⟨v,hv,hq v H R τ' (ao.refl H) (fun _ h=>h) ia rk⟩
   ·rename_i ho
    cases ev
    obtain ⟨v,hv,rp⟩:=Si.rep i d hd
    exact ⟨v,hv,hq v H R τ (ao.refl H) (fun _ h=>h) Si (AA rp (by simpa using ho))⟩
  ·cases ev
 ·refine PE.imp (iZ (F:=F) L c e h).1 fun σ H Q hq=>?_
  obtain ⟨R,τ,ρ,r,Si,ev,hq⟩:=hq
  have YT:bd (aN Φ c ρ) (fun d=>ok (keep c d ρ)) = ok r:=by
   cases c <;> first | exact ev | exact absurd ⟨_,rfl⟩ hv
  obtain ⟨d,ed,er⟩:=ah YT
  cases er
  refine tD.intro Si ed fun v H' e' r'=>?_
  obtain ⟨R',τ',h1,h2,h3⟩:=HG Si e' r'
  exact hq v H' R' τ' e' h1 h2 h3
end
structure Kp (R:Addr -> Prop) (H:Hp) (R':Addr -> Prop) (H':Hp):Prop where
 r:∀ p,R p -> R' p
 l:∀ p (o:HO),R p -> H p = some o -> H' p = some o
 t:∀ p xs,H p = some (.tup xs) -> H' p = some (.tup xs)
 z:∀ p o u,H p = some (.je o u) -> H' p = some (.je o u)
theorem Kp.refl (R:Addr -> Prop) (H:Hp):Kp R H R H:=⟨fun _ h=>h,fun _ _ _ h=>h,fun _ _ h=>h,fun _ _ _ h=>h⟩
theorem Kp.of {R R':Addr -> Prop} {H H':Hp} (e:ao H H') (h:∀ p,R p -> R' p):Kp R H R' H':=⟨h,fun p xs _ h=>e _ _ h,fun p xs h=>e _ _ h,fun p o u h=>e _ _ h⟩
theorem Kp.trans {R R1 R2:Addr -> Prop} {H H1 H2:Hp} (a:Kp R H R1 H1) (b:Kp R1 H1 R2 H2):Kp R H R2 H2 :=
 ⟨fun p h=>b.r p (a.r p h),fun p xs h e=>b.l p xs (a.r p h) (a.l p xs h e),fun p xs h=>b.t p xs (a.t p xs h),fun p o u h=>b.z p o u (a.z p o u h)⟩
theorem Kp.QV {K:PySem.W.Frag} {R R':Addr -> Prop} {H H':Hp} (a:Kp R H R' H') {p:Addr} {xs:List V} (h:aG K H p xs):aG K H' p xs:=by
 rcases h with (h | ⟨o,h⟩) | h
 ·exact .inl (.inl (a.t p xs h))
 ·exact .inl (.inr ⟨o,a.z p o _ h⟩)
 ·exact .inr h
theorem Kp.nd {K:PySem.W.Frag} {R R':Addr -> Prop} {H H':Hp} (a:Kp R H R' H') {q:aH} {p:Addr} {xs:Nd} {f:Fl} (h:DI.nd K R (fun _=>False) (fun _=>none) H q p xs f):DI.nd K R' (fun _=>False) (fun _=>none) H' q p xs f:=by
 cases f with
 | ow=>exact nomatch h.2
 | fz=>exact ⟨h.1.at fun o e=>a.l p o h.2 e,a.r p h.2⟩
 | al=>exact h.2.elim
 | sc =>
  obtain ⟨ys,rfl,h⟩:=h.Ho
  exact h.elim (fun ⟨o,h⟩=>.inl ⟨o,a.z p o _ h⟩) .inr
theorem Kp.rep {K:PySem.W.Frag} {R R':Addr -> Prop} {H H':Hp} (a:Kp R H R' H') {k:aH} {v:V} {d:D} (h:Rep (aG K H) (DI.nd K R (fun _=>False) (fun _=>none) H) k v d):Rep (aG K H') (DI.nd K R' (fun _=>False) (fun _=>none) H') k v d :=
 h.imp (fun _ _ h=>a.QV h) fun _ _ _ _ h=>a.nd h
theorem Kp.TJ {K:PySem.W.Frag} {R R':Addr -> Prop} {H H':Hp} (a:Kp R H R' H') {k:aH} {n:Nat} {v:List V} {d:List D} (h:ag (aG K H) (DI.nd K R (fun _=>False) (fun _=>none) H) k n v d):ag (aG K H') (DI.nd K R' (fun _=>False) (fun _=>none) H') k n v d :=
 h.imp (fun _ _ h=>a.QV h) fun _ _ _ _ h=>a.nd h
noncomputable def DW (X:Cx) (F:Addr -> Prop) (H':Hp) (v:V) (d:D):Prop:=∃ τt:Addr -> Option aH,(∀ p q,τt p = some q -> X.H₀ p = none) /\ Rep (aG X.K H') (nd X.K (gP X F) (fun _=>False) τt H') [] v d
theorem jZ.ret {X:Cx} {F R:Addr -> Prop} {τ:Addr -> Option aH} {ρ:aC} {σ:St} {H:Hp} {v:V} {d:D} (Si:SI X F R τ ρ σ H) (h:jZ X R τ H v d):DW X F H v d:=by
 obtain ⟨τt,ht,rp⟩:=h
 exact ⟨τt,fun p q e=>(ht p q e).2.2.1,rp.imp (fun _ _ h=>h) fun _ _ _ _ h=>h.mono (fun h=>Si.rf _ h) id id⟩
noncomputable def mW (X:Cx) (F:Addr -> Prop) (D:Ends) (R:Addr -> Prop) (H:Hp):Fo × aC -> Prop
 | (.nx,ρ')=>∀ σ' H' R' τ',SI X F R' τ' ρ' σ' H' -> Kp R H R' H' -> D.nx σ' H'
 | (.bk,ρ')=>∀ σ' H' R' τ',SI X F R' τ' ρ' σ' H' -> Kp R H R' H' -> D.bk σ' H'
 | (.ct,ρ')=>∀ σ' H' R' τ',SI X F R' τ' ρ' σ' H' -> Kp R H R' H' -> D.ct σ' H'
 | (.rt d,_)=>∀ v H',ao X.H₀ H' -> DW X F H' v d -> D.rt v H'
noncomputable def wZ (X:Cx) (F:Addr -> Prop) (Φ:aA) (c:CS):TS:=fun D σ H=>∃ R τ ρ r,SI X F R τ ρ σ H /\ uI Φ c ρ = ok r /\ mW X F D R H r
noncomputable def p6 (X:Cx) (F:Addr -> Prop) (Φ:aA) (cs:List CS):TS:=fun D σ H=>∃ R τ ρ r,SI X F R τ ρ σ H /\ bc Φ cs ρ = ok r /\ mW X F D R H r
noncomputable def J2 (sc:Scope) (x:Str):Bool:=decide (sc.names.lookup x = some .local) || decide (sc.names.lookup x = some .cell)
noncomputable def ny (S:Sx) (i:Nat):Expr -> Bool
 | .Name x _=>decide (S.N[i]? = some x) && J2 S.sc x
 | _=>false
noncomputable def V7:Expr -> Bool
 | .Name x _=>oH x
 | _=>true
noncomputable def DD (S:Sx):List Nat -> List Expr -> Bool
 | [],es=>match es with
  | []=>true
  | _ :: _=>false
 | i :: is,es=>match es with
  | []=>false
  | e :: es=>ny S i e && DD S is es
noncomputable def AW (S:Sx):Tg -> Expr -> Bool
 | .nm i,e=>ny S i e
 | .tp is,e=>aR (zN e) fun es=>DD S is es
noncomputable def iq:Expr -> Bool
 | .ListComp _ _ _ _=>true
 | _=>false
noncomputable def isTup:Expr -> Bool
 | .Tuple _ _ _=>true
 | _=>false
noncomputable def SH (S:Sx) (tg v:Expr):Bool:=match tg,v with
 | .Name x p,.ListComp _ _ sc pos=>(S.sc.names.lookup x == some .local) && (p.line == pos.line) && !(sc.names.any fun (n,k)=>n == x && (k == .local || k == .cell))
 | _,_=>false
noncomputable def Iu:Expr -> Option (Str × Pos)
 | .Name x p=>some (x,p)
 | _=>none
theorem x9 {e:Expr} {x:Str} {p:Pos} (h:Iu e = some (x,p)):e = .Name x p:=by
 cases e <;> first | (cases h;done) | (cases h;rfl)
noncomputable def DC (S:Sx) (i j:Nat) (tg v:Expr):Bool :=
 aR (zN tg) fun ts=>aR (two ts) fun t=>aR (Iu t.1) fun x=>aR (Iu t.2) fun y=>aR (zN v) fun vs=>aR (two vs) fun w =>
  decide (S.N[i]? = some x.1) && decide (S.N[j]? = some y.1) && decide (i ≠ j) && decide (S.sc.names.lookup x.1 = some .local) && decide (S.sc.names.lookup y.1 = some .local) && decide (x.1 ≠ y.1) &&
   decide (x.2.line = y.2.line) && !([w.1,w.2].all (foldedForSure 8)) && !([w.1,w.2].all (constantsAlone 8)) && decide (([w.1,w.2].any fun e=>match e with | .Starred ..=>true | _=>false) = false)
noncomputable def PF (S:Sx) (it:CI) (e:Expr):Bool:=match it with
 | .mP a=>aR (ft e) fun w=>decide (w.1 = ("range" : Str)) && iV S.sc w.1 && decide (w.1 ∈ S.bl) && aR (one w.2) fun y=>bT S a y
 | .seq a=>bT S a e && i8 e
 | .D1 p es=>Q_ e && aR (S.px.pi p S.sc S.bl e) fun xs=>bL S es xs
noncomputable def Cv:CI -> Bool
 | .D1 p _=>decide (1100 <= p)
 | _=>true
noncomputable def Ew:Stmt -> Option (List Expr × Expr)
 | .Assign ts v _=>some (ts,v)
 | _=>none
theorem se {s:Stmt} {ts:List Expr} {v:Expr} (h:Ew s = some (ts,v)):∃ p,s = .Assign ts v p:=by
 cases s <;> first | (cases h;done) | (cases h;exact ⟨_,rfl⟩)
noncomputable def MO:Stmt -> Option (Option Expr)
 | .Return v _=>some v
 | _=>none
theorem Em {s:Stmt} {v:Option Expr} (h:MO s = some v):∃ p,s = .Return v p:=by
 cases s <;> first | (cases h;done) | (cases h;exact ⟨_,rfl⟩)
noncomputable def MS:Stmt -> Option Expr
 | .Expr v _=>some v
 | _=>none
theorem wO {s:Stmt} {v:Expr} (h:MS s = some v):∃ p,s = .Expr v p:=by
 cases s <;> first | (cases h;done) | (cases h;exact ⟨_,rfl⟩)
noncomputable def Sd:Stmt -> Option (Expr × Operator × Expr)
 | .AugAssign o p v _=>some (o,p,v)
 | _=>none
theorem QP {s:Stmt} {o v:Expr} {p:Operator} (h:Sd s = some (o,p,v)):∃ q,s = .AugAssign o p v q:=by
 cases s <;> first | (cases h;done) | (cases h;exact ⟨_,rfl⟩)
noncomputable def MQ:Stmt -> Option (Expr × List Stmt × List Stmt)
 | .If t x y _=>some (t,x,y)
 | _=>none
theorem Ep {s:Stmt} {t:Expr} {x y:List Stmt} (h:MQ s = some (t,x,y)):∃ q,s = .If t x y q:=by
 cases s <;> first | (cases h;done) | (cases h;exact ⟨_,rfl⟩)
noncomputable def MN:Stmt -> Option (Expr × List Stmt × List Stmt)
 | .While t x y _=>some (t,x,y)
 | _=>none
theorem El {s:Stmt} {t:Expr} {x y:List Stmt} (h:MN s = some (t,x,y)):∃ q,s = .While t x y q:=by
 cases s <;> first | (cases h;done) | (cases h;exact ⟨_,rfl⟩)
noncomputable def MR:Stmt -> Option (Expr × Expr × List Stmt × List Stmt)
 | .For tg it x y _=>some (tg,it,x,y)
 | _=>none
theorem Er {s:Stmt} {tg it:Expr} {x y:List Stmt} (h:MR s = some (tg,it,x,y)):∃ q,s = .For tg it x y q:=by
 cases s <;> first | (cases h;done) | (cases h;exact ⟨_,rfl⟩)
noncomputable def x_:Expr -> Option (Expr × Str × Pos)
 | .Attribute o a p=>some (o,a,p)
 | _=>none
theorem uM {e o:Expr} {a:Str} {p:Pos} (h:x_ e = some (o,a,p)):e = .Attribute o a p:=by
 cases e <;> first | (cases h;done) | (cases h;rfl)
noncomputable def r_:Expr -> Option (Expr × List Expr × List Keyword × Pos)
 | .Call f as ks p=>some (f,as,ks,p)
 | _=>none
theorem qQ {e f:Expr} {as:List Expr} {ks:List Keyword} {p:Pos} (h:r_ e = some (f,as,ks,p)):e = .Call f as ks p:=by
 cases e <;> first | (cases h;done) | (cases h;rfl)
noncomputable def isNil {α:Type}:List α -> Bool
 | []=>true
 | _ :: _=>false
theorem oP {α:Type} {l:List α} (h:isNil l = true):l = []:=by cases l <;> first | rfl | cases h
noncomputable def FY:Stmt -> Bool
 | .Raise _ _ _=>true
 | _=>false
noncomputable def Kn:Stmt -> Bool
 | .Pass _=>true
 | _=>false
theorem Mi {s:Stmt} (h:Kn s = true):∃ p,s = .Pass p:=by cases s <;> first | (cases h;done) | exact ⟨_,rfl⟩
noncomputable def Ou:Stmt -> Bool
 | .Break _=>true
 | _=>false
theorem Ot {s:Stmt} (h:Ou s = true):∃ p,s = .Break p:=by cases s <;> first | (cases h;done) | exact ⟨_,rfl⟩
noncomputable def W3:Stmt -> Bool
 | .Continue _=>true
 | _=>false
theorem Rj {s:Stmt} (h:W3 s = true):∃ p,s = .Continue p:=by cases s <;> first | (cases h;done) | exact ⟨_,rfl⟩
theorem zt {S:Sx} {i:Nat} {e:Expr} (h:ny S i e = true):∃ x p,e = .Name x p:=by
 cases e <;> first | exact ⟨_,_,rfl⟩ | exact (Bool.false_ne_true h).elim
theorem FZ {e:Expr} (h:isNm e = true):∃ x p,e = .Name x p:=by cases e <;> first | (cases h;done) | exact ⟨_,_,rfl⟩
theorem As {e:Expr} (h:iq e = true):∃ x g sc p,e = .ListComp x g sc p:=by cases e <;> first | (cases h;done) | exact ⟨_,_,_,_,rfl⟩
mutual
noncomputable def PC (S:Sx):CS -> Stmt -> Bool
 | .asg t e,s0=>aR (Ew s0) fun z=>aR (one z.1) fun tg=>bT S e z.2 && AW S t tg && !(isTup z.2 && isTup tg) && (!iq z.2 || isNm tg)
 | .par i j a b,s0=>aR (Ew s0) fun z=>aR (one z.1) fun tg=>bT S (.tup [a,b]) z.2 && DC S i j tg z.2
 | .ret e,s0=>aR (MO s0) fun z=>aR z fun v=>bT S e v
 | .rs _,s0=>FY s0
 | .mut p i es,s0=>aR (S.px.pm p S.sc S.bl s0) fun z=>ny S i z.1 && V7 z.1 && bL S es z.2
 | .app i e,s0=>aR (MS s0) fun c=>aR (r_ c) fun z=>isNil z.2.2.1 && aR (x_ z.1) fun a=>decide (a.2.1 = ("append" : Str)) && ny S i a.1 && V7 a.1 && (a.2.2.endLine == z.2.2.2.line) && aR (one z.2.1) fun v=>bT S e v
 | .setI i k e,s0=>aR (Ew s0) fun z=>aR (one z.1) fun tg=>aR (Bt tg) fun w=>ny S i w.1 && V7 w.1 && bT S k w.2 && bT S e z.2 && !iq z.2
 | .ex e,s0=>aR (MS s0) fun v=>bT S e v && !iq v
 | .ifs c a b,s0=>aR (MQ s0) fun z=>bT S c z.1 && aI S a z.2.1 && aI S b z.2.2
 | .Iq c b,s0=>aR (MN s0) fun z=>isNil z.2.2 && bT S c z.1 && aI S b z.2.1
 | .fr t it b,s0=>aR (MR s0) fun z=>isNil z.2.2.2 && AW S t z.1 && PF S it z.2.1 && (ip z.1 || Cv it) && aI S b z.2.2.1
noncomputable def aI (S:Sx):List CS -> List Stmt -> Bool
 | [],ss=>match ss with
  | []=>true
  | _ :: _=>false
 | c :: cs,ss=>match ss with
  | []=>false
  | s :: ss=>PC S c s && aI S cs ss
end
structure R4 (px:Px) (Φ:aA):Prop where
 m:∀ (X:Cx) (sc:Scope) (bl:List Str) (k:Nat),PX X sc bl k -> X.N.Nodup -> (∀ x,X.fn x = true) -> ∀ (p:Nat) (st:Stmt) (x:Str) (pos:Pos) (args:List Expr),px.pm p sc bl st = some (.Name x pos,args) -> ∀ (i:Nat),X.N[i]? = some x -> L2.Loc X.env.scope x -> PE X (.Name x pos) (ED i) ->
  ∀ (F:Addr -> Prop) (cs:List CE),qM X F Φ cs args -> PS X st (wZ X F Φ (.mut p i cs))
structure qN (X:Cx) (S:Sx) (k:Nat) (Φ:aA):Prop extends Lk X S k Φ where
 Gw:∀ x,X.fn x = true
 px:PassesOwn (model X.prog X.w) X.A X.env X.xe
 fk:S.sc.kind = .function
 pm:R4 S.px Φ
section
variable {X:Cx} {S:Sx} {k:Nat} {F:Addr -> Prop} {Φ:aA}
theorem qN.loc (L:qN X S k Φ) {x:Str} (h:J2 S.sc x = true):L2.Loc X.env.scope x:=by
 unfold L2.Loc;rw [L.sc]
 unfold J2 at h
 rw [Bool.or_eq_true] at h
 exact h.imp of_decide_eq_true of_decide_eq_true
theorem Hk (L:qN X S k Φ) {x:Str} {p pos:Pos} {l:Nat} {elt:Expr} {gens:List Comprehension} {sc:Scope}:swapsWith (.ListComp elt gens sc pos) (some (.Name x p)) l X.env = pure (SH S (.Name x p) (.ListComp elt gens sc pos)):=by
 have hb:X.env.blockKind = .function:=by unfold Env.blockKind;rw [L.sc,L.fk];rfl
 have hk:(X.env.kindOf x == some .local) = (S.sc.names.lookup x == some .local):=by
  unfold Env.kindOf
  rw [L.sc]
 unfold swapsWith SH
 simp only [hb,hk]
 rfl
theorem pJ {c:CE} {e:Expr} (h:bT S c e = true) (hc:iq e = false) (t:Option Expr) (l:Nat) (env:Env):swapsWith e t l env = pure false:=by
 cases e <;> first | rfl | (cases hc;done) | (cases c <;> exact (Bool.false_ne_true h).elim)
noncomputable def X8:List Nat -> G7
 | []=>K1
 | i :: is=>Dp (rG i) (X8 is)
theorem Ce (L:qN X S k Φ) {i:Nat} {e:Expr} (h:ny S i e = true):PG X e (rG i):=by
 cases e <;> try (exact (Bool.false_ne_true h).elim;done)
 replace h:=av h
 exact sR L.nd (by rw [L.N];exact of_decide_eq_true h.1) (L.loc h.2) (.inl (L.Gw _))
theorem FG {i:Nat} {e:Expr} (h:ny S i e = true) (es:List Expr) (env:Env):assignEach (e :: es) env = (false,assign e env) :: assignEach es env:=by
 cases e <;> first | rfl | (exact (Bool.false_ne_true h).elim;done)
theorem Cd (L:qN X S k Φ):∀ {is:List Nat} {es:List Expr},DD S is es = true -> MG X es (X8 is) /\ (assignEach es X.env).length = is.length /\ (assignEach es X.env).findIdx? (·.1) = none
 | [],[],_=>⟨yu,rfl,rfl⟩
 | [],_ :: _,h=>by exact (Bool.false_ne_true h).elim
 | _ :: _,[],h=>by exact (Bool.false_ne_true h).elim
 | i :: is,e :: es,h=>by
  replace h:=av h
  obtain ⟨h1,h2,h3⟩:=Cd L h.2
  have he:=FG h.1 es X.env
  refine ⟨vm (Ce L h.1) h1 (by rw [he];rfl),by rw [he];simp [h2],?_⟩
  rw [he,List.findIdx?_cons]
  simp [h3]
theorem uT {H:Hp} {R:Addr -> Prop} {Q:St -> Hp -> Prop}:∀ {is:List Nat} {vs:List V} {ds:List D} {kp:aH} {n:Nat} {σ:St} {τ:Addr -> Option aH} {ρ ρ':aC},ag (aG X.K H) (nd X.K R (fun _=>False) (fun _=>none) H) kp n vs ds -> SI X F R τ ρ σ H -> iO is ds ρ = ok ρ' ->
  (∀ σ' τ',SI X F R τ' ρ' σ' H -> Q σ' H) -> X8 is vs σ H Q
 | [],_,_,_,_,σ,τ,_,_,.nil,Si,e,hq=>by
  cases e
  exact ⟨rfl,hq σ τ Si⟩
 | [],_,_,_,_,_,_,_,_,.cons _ _,_,e,_=>by cases e
 | _ :: _,_,_,_,_,_,_,_,_,.nil,_,e,_=>by cases e
 | i :: is,_,_,_,_,σ,τ,ρ,_,.cons (v:=v) (d:=d) h t,Si,e,hq=>by
  change (if _ then _ else _) = _ at e
  split at e
  ·rename_i hi
   obtain ⟨τ',ia⟩:=Si.set (i:=i) (nE (τ':=τ) (Rep.sX h)) hi
   exact ⟨_,_,rfl,uT t ia e hq⟩
  ·cases e
theorem BC (L:qN X S k Φ) {t:Tg} {tg:Expr} (h:AW S t tg = true):∃ g,PG X tg g /\ ∀ (v:V) (σ:St) (H:Hp) (Q:St -> Hp -> Prop) (R:Addr -> Prop) (τ:Addr -> Option aH) (ρ ρ':aC) (d:D),SI X F R τ ρ σ H -> jZ X R τ H v d -> bU t d ρ = ok ρ' ->
  (∀ σ' τ',SI X F R τ' ρ' σ' H -> Q σ' H) -> g v σ H Q:=by
 cases t with
 | nm i =>
  refine ⟨rG i,Ce L h,fun v σ H Q R τ ρ ρ' d Si rk e hq=>?_⟩
  simp only [bU] at e
  split at e
  ·rename_i hi
   cases e
   obtain ⟨τ',ia⟩:=Si.set rk hi
   exact hq _ τ' ia
  ·cases e
 | tp is =>
  obtain ⟨es,hx,ha⟩:=aS h
  obtain ⟨nn,pp,rfl⟩:=kR hx
  obtain ⟨h1,h2,h3⟩:=Cd L ha
  refine ⟨_,Cc L.calm h1 h2 h3,fun v σ H Q R τ ρ ρ' d Si rk e hq=>?_⟩
  cases d <;> try (simp [bU] at e;done)
  rename_i ds
  simp only [bU] at e
  split at e
  ·cases e
  ·rename_i ho
   obtain ⟨τt,ht,rp⟩:=rk
   cases rp with
   | @tup _ p xs _ hp rs =>
    have yn:ag (aG X.K H) (nd X.K R (fun _=>False) (fun _=>none) H) [] 0 xs ds:=ag.without (P:=fe) (fun _ _ h=>h) (fun k k' p xs f hf h=>by
     cases f with
     | ow=>cases hf
     | fz=>exact h
     | al=>exact h.2.elim
     | sc=>exact h) rs (by simpa using ho) _ _
    refine ⟨p,xs,rfl,hp,?_,uT yn Si e hq⟩
    rw [rs.length]
    have:∀ (is:List Nat) (ds:List D) (ρ ρ':aC),iO is ds ρ = ok ρ' -> ds.length = is.length:=by
     intro is
     induction is with
     | nil=>intro ds ρ ρ' e;cases ds with | nil=>rfl | cons _ _=>cases e
     | cons i is ih=>intro ds ρ ρ' e;cases ds with
      | nil=>cases e
      | cons d ds =>
       change (if _ then _ else _) = _ at e
       split at e
       ·simp [ih ds _ _ e]
       ·cases e
    exact this _ _ _ _ e
end
end DI
end
section
namespace DI
open PySem PySem.Spec PyProof.Rows L2
section
variable {X:Cx} {S:Sx} {k:Nat} {F:Addr -> Prop} {Φ:aA}
theorem BI (L:qN X S k Φ) {t:Tg} {e:CE} {tg v:Expr} {pos:Pos} (he:bT S e v = true) (ht:AW S t tg = true) (hp:(isTup v && isTup tg) = false) (Xc:swapsWithSole [tg] v pos.line X.env = pure false):PS X (.Assign [tg] v pos) (wZ X F Φ (.asg t e)):=by
 obtain ⟨g,hg,C8⟩:=BC (F:=F) L ht
 have He:(∃ x p,tg = .Name x p) \/ ∃ es n p,tg = .Tuple es n p:=by
  cases t with
  | nm i=>cases tg <;> first | exact .inl ⟨_,_,rfl⟩ | exact (Bool.false_ne_true ht).elim
  | tp is=>cases tg <;> first | exact .inr ⟨_,_,_,rfl⟩ | exact (Bool.false_ne_true ht).elim
 have each:(assignEach [tg] X.env).map (·.2) = [assign tg X.env]:=by
  rcases He with ⟨x,p,rfl⟩ | ⟨es,n,p,rfl⟩ <;> rfl
 have hw:swappedStores [tg] v X.env = pure none:=by
  rcases He with ⟨x,p,rfl⟩ | ⟨es,n,p,rfl⟩
  ·first | rfl | (cases v <;> rfl)
  ·cases v <;> first | rfl | exact absurd hp (by simp [isTup])
 refine PS.imp (B9 (sr (F:=F) L.toLk e v he) hg Xc hw each) fun D σ H hq=>?_
 obtain ⟨R,τ,ρ,r,Si,ev,hq⟩:=hq
 obtain ⟨r1,xG,ev⟩:=ah ev
 obtain ⟨ρ',eρ,ev⟩:=ah ev
 cases ev
 exact ⟨R,τ,ρ,r1,Si,xG,fun v H' R' τ' es hR ia rk=>C8 v σ H' _ R' τ' r1.2 ρ' r1.1 ia rk eρ fun σ' Bo LX=>hq σ' H' R' Bo LX (Kp.of es hR)⟩
theorem EK (L:qN X S k Φ) {i n:Nat} {t:Tg} {caps:List Nat} {ik:IK} {es a_:List CE} {elt:CE} {x:Str} {p Nl pos:Pos} {iW:Expr} {gens:List Comprehension} {sc:Scope}
  (he:bT S (.comp n t caps ik es a_ elt) (.ListComp iW gens sc pos) = true) (hn:ny S i (.Name x p) = true) (Xc:swapsWith (.ListComp iW gens sc pos) (some (.Name x p)) Nl.line X.env = pure true) :
  PS X (.Assign [.Name x p] (.ListComp iW gens sc pos) Nl) (wZ X F Φ (.asg (.nm i) (.comp n t caps ik es a_ elt))):=by
 intro pins s σ H D I hq
 obtain ⟨R,τ,ρ,r,Si,ev,hq⟩:=hq
 obtain ⟨r1,xG,ev⟩:=ah ev
 obtain ⟨ρ',eρ,ev⟩:=ah ev
 cases ev
 have xG:bd (aN Φ (.comp n t caps ik es a_ elt) ρ) (fun d=>ok (keep (.comp n t caps ik es a_ elt) d ρ)) = ok r1:=xG
 obtain ⟨d,ed,xG⟩:=ah xG
 cases xG
 have hg:=Ce L hn
 rw [exec_Assign_Name_used _ _ _ _ Xc]
 refine wpAny_bind (wpAny_standAt (wpAny_bind ?_))
 obtain ⟨⟨e0,g0,s0⟩,hv0,Mm⟩:=aS he
 cases hv0
 obtain ⟨⟨target,iter,ifs,a⟩,OQ,hz⟩:=aS Mm
 obtain rfl:gens = _:=cB OQ
 obtain ⟨hz,h6⟩:=av hz
 obtain ⟨hz,h5⟩:=av hz
 obtain ⟨hz,h4⟩:=av hz
 obtain ⟨hz,h3⟩:=av hz
 obtain ⟨hz,h2⟩:=av hz
 obtain ⟨hz,h1⟩:=av hz
 obtain rfl:a = 0:=of_decide_eq_true hz
 have hC:=wd (of_decide_eq_true h3) h4 (fun (X':Cx) (F':Addr -> Prop) (L':Lk X' (S.inner target caps sc) k Φ)=>i0 a_ X' _ F' L' ifs h4)
 have run:wpAny (model X.prog X.w) X.A (comprehension (.ListComp iW [⟨target,iter,ifs,0⟩] sc pos) sc X.env (firstIterPos [⟨target,iter,ifs,0⟩] pos) (newList []) false (eval iter X.env) (some (assign (.Name x p) X.env))) (fun _ s'=>SP X pins D .next s') X.xe s:=by
  refine wg (F:=F) (k:=k) L.toLk (rN h1) h2 (fun X' F' L'=>(iZ (F:=F') L' elt iW h5).1) hC ?_ (use:=some (assign (.Name x p) X.env)) (Post:=fun _ s'=>SP X pins D .next s') I Si ed ?_
  ·exact CU L.toLk (fun l=>yg (F:=F) L.toLk es l) (fun l=>i0 es X S F L.toLk l) (fun l=>oe L.toLk es l) h6
  ·intro acc C H1 s1 m Bg hc IX sm rt
   obtain ⟨c1,c2,c3,c4,c5⟩:=hc
   obtain ⟨R',τ',hR,ia,rk⟩:=HG (e:=.comp n t caps ik es a_ elt) Si sm rt
   have I1:Inv X pins σ H1 s1:=IX s1.heap (.refl ..)
   obtain ⟨oC,esC,epC,hoC,hdC,hrC⟩:=Bg
   have cfs:C ∉ X.fs:=fun z=>by
    obtain ⟨_,o,ho,_⟩:=I1.ok.m_.mem z
    exact absurd (Nat.lt_of_lt_of_le (Heap.lt_size ho) c2) (Nat.lt_irrefl _)
   have I2:Inv X ((C,oC) :: pins) σ H1 s1:=I1.jE fun q hq=>by
    rcases List.mem_cons.mp hq with rfl | hq
    ·exact ⟨hoC,c5,c1,cfs,fun v z=>by rw [hdC] at z;cases z⟩
    ·exact I1.pin q (List.mem_append_right _ hq)
   simp only [bU] at eρ
   split at eρ
   ·rename_i hi
    cases eρ
    obtain ⟨τ2,A7⟩:=ia.set rk hi
    show wpAny _ _ (assign (.Name x p) X.env (.ref acc)) _ _ _
    refine wpAny_mono (hg ((C,oC) :: pins) s1 σ H1 (.ref acc) (.ref acc) (fun σ' H'=>σ' = σ.set i (some (.ref acc)) /\ H' = H1) I2 rfl ⟨rfl,rfl⟩) (fun _ s2 h2=>?_) fun _ _ z=>z
    obtain ⟨σ',H',I3,rfl,rfl⟩:=h2
    have hC3:=(I3.pin (C,oC) (List.mem_append_right _ List.mem_cons_self)).1
    refine ⟨m,⟨oC,esC,epC,hC3,hdC,hrC⟩,fun h' Gd=>?_⟩
    have I4:Inv X pins (σ.set i (some (.ref acc))) H' s2:=I3.jE fun q hq=>I3.pin q (List.mem_append_right _ (List.mem_cons_of_mem _ hq))
    have I5:=I4.turned (t':=s2.toks) (h':=h') (it:=C) (fun b o hb e=>(Gd.2 b hb).trans e) c5 c1 (.inr c2) c3 c4
    exact ⟨_,H',I5,hq _ H' R' τ2 A7 (Kp.of sm hR)⟩
   ·cases eρ
 exact wpAny_bind (wpAny_mono run (fun _ s' h=>wpAny_pure (wpAny_pure h)) fun _ _ z=>z)
theorem IH (L:qN X S k Φ) {e:CE} {v:Expr} {pos:Pos} (he:bT S e v = true):PS X (.Return (some v) pos) (wZ X F Φ (.ret e)):=by
 refine PS.imp (Jo (sr (F:=F) L.toLk e v he)) fun D σ H hq=>?_
 obtain ⟨R,τ,ρ,r,Si,ev,hq⟩:=hq
 obtain ⟨r1,xG,ev⟩:=ah ev
 cases ev
 exact ⟨R,τ,ρ,r1,Si,xG,fun v H' R' τ' es hR ia rk=>hq v H' ia.same (rk.ret ia)⟩
theorem Nk (L:qN X S k Φ) {e:CE} {v:Expr} {pos:Pos} (he:bT S e v = true) (Xu:iq v = false):PS X (.Expr v pos) (wZ X F Φ (.ex e)):=by
 refine PS.imp (sO (iZ (F:=F) L.toLk e v he).1 (pJ he Xu _ _ _)) fun D σ H hq=>?_
 obtain ⟨R,τ,ρ,r,Si,ev,hq⟩:=hq
 obtain ⟨d,ed,ev⟩:=ah ev
 cases ev
 exact tD.intro Si ed fun v H' es rv=>hq σ H' R τ (Si.go es) (Kp.of es fun _ h=>h)
theorem mW.from {D:Ends} {R R1:Addr -> Prop} {H H1:Hp} {r:Fo × aC} (h:mW X F D R H r) (kp:Kp R H R1 H1):mW X F D R1 H1 r:=by
 obtain ⟨fo,ρ'⟩:=r
 cases fo with
 | nx=>exact fun σ' H' R' τ' Si k2=>h σ' H' R' τ' Si (kp.trans k2)
 | bk=>exact fun σ' H' R' τ' Si k2=>h σ' H' R' τ' Si (kp.trans k2)
 | ct=>exact fun σ' H' R' τ' Si k2=>h σ' H' R' τ' Si (kp.trans k2)
 | rt d=>exact h
theorem Nj (L:qN X S k Φ) {c:CE} {a b:List CS} {t:Expr} {x y:List Stmt} {pos:Pos} (hc:bT S c t = true) (ha:nZ X x (p6 X F Φ a)) (hb:nZ X y (p6 X F Φ b)):PS X (.If t x y pos) (wZ X F Φ (.ifs c a b)):=by
 refine PS.imp (NJ (iZ (F:=F) L.toLk c t hc).2 ha hb) fun D σ H hq=>?_
 obtain ⟨R,τ,ρ,r,Si,ev,hq⟩:=hq
 obtain ⟨w,ew,ev⟩:=ah ev
 refine ⟨R,τ,ρ,w,Si,ew,fun H1 e1=>?_⟩
 cases w with
 | true=>rw [if_pos rfl] at ev ⊢;exact ⟨R,τ,ρ,r,Si.go e1,ev,hq.from (Kp.of e1 fun _ h=>h)⟩
 | false=>rw [if_neg (by simp)] at ev ⊢;exact ⟨R,τ,ρ,r,Si.go e1,ev,hq.from (Kp.of e1 fun _ h=>h)⟩
theorem BH (L:qN X S k Φ) {c:CE} {b:List CS} {t:Expr} {x:List Stmt} {pos:Pos} (hc:bT S c t = true) (hb:nZ X x (p6 X F Φ b)):PS X (.While t x [] pos) (wZ X F Φ (.Iq c b)):=by
 refine PS.imp (B8 L.px (iZ (F:=F) L.toLk c t hc).2 hb) fun D σ H hq=>?_
 obtain ⟨R,τ,ρ,r,Si,ev,hq⟩:=hq
 obtain ⟨n,hn⟩:=mj ev
 refine ⟨fun m σ' H'=>∃ R' τ' ρ',SI X F R' τ' ρ' σ' H' /\ Kp R H R' H' /\ c_ m _ ρ' = ok r,⟨n,R,τ,ρ,Si,Kp.refl R H,hn⟩,?_⟩
 rintro m σ1 H1 ⟨R1,τ1,ρ1,wM,k1,e1⟩
 cases m with
 | zero=>simp [c_] at e1
 | succ m =>
  rw [c_] at e1
  obtain ⟨st,es,e1⟩:=ah e1
  obtain ⟨w,ew,es⟩:=ah es
  refine ⟨R1,τ1,ρ1,w,wM,ew,fun H2 e2=>?_⟩
  cases w with
  | false =>
   rw [if_neg (by simp)] at es ⊢
   cases es
   cases e1
   exact hq σ1 H2 R1 τ1 (wM.go e2) (k1.trans (Kp.of e2 fun _ h=>h))
  | true =>
   rw [if_pos rfl] at es ⊢
   obtain ⟨⟨fo,ρ2⟩,eb,es⟩:=ah es
   refine ⟨fun σ' H'=>∃ R' τ' ρ',SI X F R' τ' ρ' σ' H' /\ Kp R H R' H' /\ c_ m _ ρ' = ok r,fun σ' H' h=>⟨m,Nat.lt_succ_self m,h⟩,R1,τ1,ρ1,(fo,ρ2),wM.go e2,eb,?_⟩
   have k2:Kp R H R1 H2:=k1.trans (Kp.of e2 fun _ h=>h)
   cases fo with
   | nx=>cases es;exact fun σ' H' R' τ' ia k3=>⟨R',τ',ρ2,ia,k2.trans k3,e1⟩
   | ct=>cases es;exact fun σ' H' R' τ' ia k3=>⟨R',τ',ρ2,ia,k2.trans k3,e1⟩
   | bk=>cases es;cases e1;exact fun σ' H' R' τ' ia k3=>hq σ' H' R' τ' ia (k2.trans k3)
   | rt d=>cases es;cases e1;exact hq
noncomputable def lR (X:Cx) (F:Addr -> Prop) (Φ:aA) (t:Tg) (b:List CS) (R1:Addr -> Prop) (H1:Hp) (r:Fo × aC) (items:List DI.D) (i:Nat) (σ:St) (H:Hp):Prop :=
 ∃ R' τ' ρ',SI X F R' τ' ρ' σ H /\ Kp R1 H1 R' H /\ d9 (fun d ρ=>bU t d ρ) (fun ρ=>bc Φ b ρ) (items.drop i) ρ' = ok r
theorem o_ {g:TG} {t:Tg} {b:List CS} {D:Ends} {R1:Addr -> Prop} {H1:Hp} {r:Fo × aC} {items:List DI.D} {xs:List V} {q:aH}
  (C8:∀ (v:V) (σ:St) (H:Hp) (Q:St -> Hp -> Prop) (R:Addr -> Prop) (τ:Addr -> Option aH) (ρ ρ':aC) (d:DI.D),SI X F R τ ρ σ H -> jZ X R τ H v d -> bU t d ρ = ok ρ' -> (∀ σ' τ',SI X F R τ' ρ' σ' H -> Q σ' H) -> g v σ H Q)
  (rs:ag (aG X.K H1) (nd X.K R1 (fun _=>False) (fun _=>none) H1) q 0 xs items) (hq:mW X F D R1 H1 r) (i:Nat) (x:V) (σ:St) (H:Hp) (hx:xs[i]? = some x) (h:lR X F Φ t b R1 H1 r items i σ H) :
  g x σ H fun σ2 H2=>p6 X F Φ b { D with nx:=lR X F Φ t b R1 H1 r items (i + 1),ct:=lR X F Φ t b R1 H1 r items (i + 1),bk:=D.nx } σ2 H2:=by
 obtain ⟨R',τ',ρ',Si,kp,ef⟩:=h
 obtain ⟨d,hd,rd⟩:=rs.vO hx
 have hi:i < items.length:=by
  by_cases hi:i < items.length
  ·exact hi
  ·rw [List.getElem?_eq_none (by omega)] at hd;cases hd
 have vL:items.drop i = d :: items.drop (i + 1):=by
  rw [List.drop_eq_getElem_cons hi]
  rw [List.getElem?_eq_getElem hi] at hd
  cases hd;rfl
 rw [vL,d9] at ef
 obtain ⟨ρ1,e1,ef⟩:=ah ef
 obtain ⟨⟨fo,ρ2⟩,e2,ef⟩:=ah ef
 refine C8 x σ H _ R' τ' ρ' ρ1 d Si (nE (Rep.sX (kp.rep rd))) e1 fun σ' Bo ia=>⟨R',Bo,ρ1,(fo,ρ2),ia,e2,?_⟩
 cases fo with
 | nx=>exact fun σ3 H3 R3 τ3 A6 k3=>⟨R3,τ3,ρ2,A6,kp.trans k3,ef⟩
 | ct=>exact fun σ3 H3 R3 τ3 A6 k3=>⟨R3,τ3,ρ2,A6,kp.trans k3,ef⟩
 | bk=>cases ef;exact fun σ3 H3 R3 τ3 A6 k3=>hq σ3 H3 R3 τ3 A6 (kp.trans k3)
 | rt d=>cases ef;exact hq
theorem nJ {t:Tg} {b:List CS} {D:Ends} {R1:Addr -> Prop} {H1:Hp} {r:Fo × aC} {items:List DI.D} {n:Nat} (hn:n = items.length) (hq:mW X F D R1 H1 r) (σ:St) (H:Hp) (h:lR X F Φ t b R1 H1 r items n σ H):D.nx σ H:=by
 obtain ⟨R',τ',ρ',Si,kp,ef⟩:=h
 subst hn
 rw [List.drop_length,d9] at ef
 cases ef
 exact hq σ H R' τ' Si kp
theorem za (ρ:aC):je [] ρ = ρ:=by
 unfold je
 apply List.ext_getElem?
 intro i
 rw [List.getElem?_mapIdx]
 cases ρ[i]? with
 | none=>rfl
 | some o=>simp
theorem ze {R:Addr -> Prop} {τ:Addr -> Option aH} {ρ:aC} {σ:St} {H H':Hp} {fv:List Nat} {v:V} {d:DI.D} (Si:SI X F R τ ρ σ H) (es:ao H H') (r:cc X.K (gP X F) R τ fv H H' v d) :
  ∃ R' τ',(∀ p,R p -> R' p) /\ SI X F R' τ' (if aT cn d then je fv ρ else ρ) σ H' /\ Rep (aG X.K H') (nd X.K R' (fun _=>False) (fun _=>none) H') [] v (aD aL d):=by
 by_cases ha:aT cn d = true
 ·rw [if_pos ha];exact tL Si es r
 ·rw [if_neg ha]
  have r':cc X.K (gP X F) R τ [] H H' v d:=by
   obtain ⟨τt,fr,rp⟩:=r
   exact ⟨τt,fr,Rep.kP (P:=cn) (fun _ _ h=>h) (fun k p xs f hf h=>by
    cases f with
    | ow=>exact h
    | fz=>exact h
    | al=>cases hf
    | sc=>exact h) rp (by simpa using ha)⟩
  have:=tL Si es r'
  rw [za] at this;exact this
theorem Dq {R:Addr -> Prop} {τ:Addr -> Option aH} {ρ:aC} {σ:St} {H H':Hp} {fv:List Nat} {vs:List V} {ds:List DI.D} (Si:SI X F R τ ρ σ H) (es:ao H H') (r:cj X.K (gP X F) R τ fv H H' vs ds) :
  ∃ R' τ',(∀ p,R p -> R' p) /\ SI X F R' τ' (if az cn ds then je fv ρ else ρ) σ H' /\ ag (aG X.K H') (nd X.K R' (fun _=>False) (fun _=>none) H') [] 0 vs (ai aL ds):=by
 by_cases ha:az cn ds = true
 ·rw [if_pos ha];exact vY Si es r
 ·rw [if_neg ha]
  have r':cj X.K (gP X F) R τ [] H H' vs ds:=by
   obtain ⟨τt,fr,rp⟩:=r
   exact ⟨τt,fr,ag.kP (P:=cn) (fun _ _ h=>h) (fun k p xs f hf h=>by
    cases f with
    | ow=>exact h
    | fz=>exact h
    | al=>cases hf
    | sc=>exact h) rp (by simpa using ha)⟩
  have:=vY Si es r'
  rw [za] at this;exact this
noncomputable def wiP (X:Cx) (F:Addr -> Prop) (Φ:aA) (p:Nat) (cs:List CE):TI:=fun σ H Rr=>∃ R τ ρ xs d items,SI X F R τ ρ σ H /\ cM Φ cs ρ = ok xs /\ Φ p xs = ok d /\ qc d = ok items /\
 ∀ J H2 vs,ao H H2 -> cj X.K (gP X F) R τ (dw cs) H H2 vs xs -> LU X.K J H2 vs xs items -> Rr J H2
theorem EJ (L:qN X S k Φ) {t:Tg} {p:Nat} {cs:List CE} {b:List CS} {tg iter:Expr} {x:List Stmt} {pos:Pos} {args:List Expr} (ht:AW S t tg = true) (hi:S.px.pi p S.sc S.bl iter = some args) (hc:bL S cs args = true) (Kv:Q_ iter = true) (htu:(decide (1100 <= p) || ip tg) = true) (hb:nZ X x (p6 X F Φ b)):PS X (.For tg iter x [] pos) (wZ X F Φ (.fr t (.D1 p cs) b)):=by
 obtain ⟨g,hg,C8⟩:=BC (F:=F) L ht
 have oU:∀ y,foldedSetIterable iter X.env y = pure y:=by
  intro y
  cases iter <;> first | rfl | (cases Kv;done)
 have pi:PI X tg iter (wiP X F Φ p cs):=fun pins s σ H Rr I ⟨R,τ,ρ,xs,d,items,Si,dk,ed,ei,hR⟩ =>
  L.pr.i X _ _ k L.toLk.pX p iter args hi F cs tg htu (oe L.toLk cs args hc) pins s σ H R τ ρ xs d items I Si dk ed ei Rr hR
 refine PS.imp (sN L.px L.calm pi hg hb oU) fun D σ H hq=>?_
 obtain ⟨R,τ,ρ,r,Si,ev,hq⟩:=hq
 obtain ⟨⟨items,ρ1⟩,ei,ef⟩:=ah ev
 obtain ⟨xs,dk,ei⟩:=ah ei
 obtain ⟨d,ed,ei⟩:=ah ei
 obtain ⟨WY,ei',ei⟩:=ah ei
 cases ei
 refine ⟨R,τ,ρ,xs,d,items,Si,dk,ed,ei',fun J H2 vs e2 E_ yz=>?_⟩
 obtain ⟨R',τ',hR,ia,rs⟩:=Dq Si e2 E_
 have yP:=hq.from (Kp.of e2 hR)
 refine ⟨fun i m σ' H'=>m = items.length - i /\ i <= items.length /\ lR X F Φ t b R' H2 r items i σ' H',⟨_,rfl,Nat.zero_le _,R',τ',_,ia,Kp.refl R' H2,by rw [List.drop_zero];exact ef⟩,?_⟩
 rintro i m σ1 H1 ⟨rfl,HN,hf⟩
 obtain ⟨R1,τ1,ρ2,wM,k1,e1⟩:=id hf
 have Jg:=k1.TJ rs
 have SK:wI X.K H2 vs xs H1:=⟨⟨R',rs,k1.l⟩,fun a ys h=>k1.QV h⟩
 by_cases iX:i < items.length
 ·refine .inr ⟨yz.go i H1 R1 SK Jg iX,fun σ' H'=>lR X F Φ t b R' H2 r items (i + 1) σ' H',fun σ' H' h=>⟨items.length - (i + 1),by omega,rfl,iX,h⟩,fun v H3 hy=>?_⟩
  obtain ⟨e3,dd,hd,rd⟩:=yz.wJ i H1 R1 v H3 SK Jg iX hy
  have vL:items.drop i = dd :: items.drop (i + 1):=by
   rw [List.drop_eq_getElem_cons iX]
   rw [List.getElem?_eq_getElem iX] at hd
   cases hd;rfl
  rw [vL,d9] at e1
  obtain ⟨ρ3,eb,e1⟩:=ah e1
  obtain ⟨⟨fo,ρ4⟩,e4,e1⟩:=ah e1
  have k3:Kp R' H2 R1 H3:=k1.trans (Kp.of e3 fun _ h=>h)
  refine C8 v σ1 H3 _ R1 τ1 ρ2 ρ3 dd (wM.go e3) (nE rd) eb fun σ' Bo LX=>⟨R1,Bo,ρ3,(fo,ρ4),LX,e4,?_⟩
  cases fo with
  | nx=>exact fun σ3 H4 R3 τ3 A6 k4=>⟨R3,τ3,ρ4,A6,k3.trans k4,e1⟩
  | ct=>exact fun σ3 H4 R3 τ3 A6 k4=>⟨R3,τ3,ρ4,A6,k3.trans k4,e1⟩
  | bk=>cases e1;exact fun σ3 H4 R3 τ3 A6 k4=>yP σ3 H4 R3 τ3 A6 (k3.trans k4)
  | rt d=>cases e1;exact yP
 ·exact .inl ⟨yz.stop i H1 R1 SK Jg (by omega),nJ (n:=i) (by omega) yP σ1 H1 hf⟩
theorem ag.ints {T:kO} {N:iU}:∀ (is:List Int) {k:aH} {n:Nat},ag T N k n (is.map V.int) (is.map DI.D.int)
 | [],_,_=>.nil
 | i :: is,_,_=>.cons (.int i) (ag.ints is)
theorem IJ (L:qN X S k Φ) {t:Tg} {it:CI} {b:List CS} {tg iter:Expr} {x:List Stmt} {pos:Pos} (ht:AW S t tg = true) (hi:PF S it iter = true) (hnp:(ip tg || Cv it) = true) (hb:nZ X x (p6 X F Φ b)):PS X (.For tg iter x [] pos) (wZ X F Φ (.fr t it b)):=by
 obtain ⟨g,hg,C8⟩:=BC (F:=F) L ht
 have oU:∀ y,foldedSetIterable iter X.env y = pure y:=by
  intro y
  cases iter <;> first | rfl | (cases it <;> first | exact (Bool.false_ne_true hi).elim | exact (Bool.false_ne_true (av hi).2).elim)
 have mP:∀ {lo:Int} {n:Nat} {D:Ends} {R:Addr -> Prop} {τ:Addr -> Option aH} {ρ:aC} {σ:St} {H H1:Hp} {r:Fo × aC},SI X F R τ ρ σ H -> ao H H1 -> mW X F D R H r ->
   d9 (fun d ρ=>bU t d ρ) (fun ρ=>bc Φ b ρ) ((List.range n).map fun (k:Nat)=>DI.D.int (lo + (k:Int))) ρ = ok r ->
   ∃ W:Nat -> Nat -> L2.St -> Hp -> Prop,(∃ m,W 0 m σ H1) /\ ∀ i m σ H,W i m σ H ->
    ((A9 lo n).stop i H /\ D.nx σ H) \/ ((A9 lo n).go i H /\ ∃ N:L2.St -> Hp -> Prop,(∀ σ' H',N σ' H' -> ∃ m',m' < m /\ W (i + 1) m' σ' H') /\ ∀ x H',(A9 lo n).wJ i H x H' -> g x σ H' fun σ2 H2=>p6 X F Φ b { D with nx:=N,ct:=N,bk:=D.nx } σ2 H2):=by
  intro lo n D R τ ρ σ H H1 r Si e1 hq ef
  have rs:ag (aG X.K H1) (nd X.K R (fun _=>False) (fun _=>none) H1) [] 0 ((List.range n).map fun (k:Nat)=>V.int (lo + (k:Int))) ((List.range n).map fun (k:Nat)=>DI.D.int (lo + (k:Int))):=by
   have:=ag.ints (T:=aG X.K H1) (N:=nd X.K R (fun _=>False) (fun _=>none) H1) ((List.range n).map fun (k:Nat)=>lo + (k:Int)) (k:=[]) (n:=0)
   rw [List.map_map,List.map_map] at this;exact this
  have yP:=hq.from (Kp.of e1 (R':=R) fun _ h=>h)
  refine AL (lR X F Φ t b R H1 r _) ⟨R,τ,ρ,Si.go e1,Kp.refl R H1,by rw [List.drop_zero];exact ef⟩ (fun i σ' H' hin h=>?_) (fun σ' H' h=>nJ (by simp) yP σ' H' h)
  exact o_ C8 rs yP i (.int (lo + i)) σ' H' (by rw [List.getElem?_map,List.getElem?_range hin];rfl) h
 intro pins s σ H D I Xg
 cases it with
 | D1 p cs =>
  obtain ⟨Kv,hz⟩:=av hi
  obtain ⟨args,ha,Oy⟩:=aS hz
  exact EJ L ht ha Oy Kv (by rw [Bool.or_comm];exact hnp) hb pins s σ H D I Xg
 | mP a =>
  obtain ⟨R,τ,ρ,r,Si,ev,hq⟩:=Xg
  obtain ⟨⟨items,ρ1⟩,ei,ef⟩:=ah ev
  obtain ⟨⟨y,as⟩,hv,hz⟩:=aS hi
  obtain ⟨p,Ko,rfl⟩:=dv hv
  obtain ⟨hz1,Oy⟩:=av hz
  obtain ⟨hz3,h2⟩:=av hz1
  obtain ⟨hz4,h1⟩:=av hz3
  obtain rfl:y = _:=of_decide_eq_true hz4
  obtain ⟨e,hu,h3⟩:=aS Oy
  obtain rfl:as = [e]:=cB hu
  have pa:PA X [e] (uR X F Φ [a]):=PA.imp (dB (iZ (F:=F) L.toLk a e h3).1 gK (cg h3 _ _)) fun _ _ _ h=>by
   have:=g_ h
   obtain ⟨R,τ,ρ,d,Si,ev,hq⟩:=this
   exact ⟨R,τ,ρ,d,Si,ev,fun v H' e r=>kT (hq v H' e r)⟩
  refine sN L.px L.calm (rg (L.gl h1) (L.bl _ (of_decide_eq_true h2)) pa (cg h3 _ _)) hg hb oU pins s σ H D I ?_
  obtain ⟨d,ed,ei⟩:=ah ei
  cases d <;> try (simp at ei;done)
  rename_i n
  simp at ei
  obtain ⟨⟨c1,c2⟩,rfl,rfl⟩:=ei
  have m9:(eN:Int) = 1000000:=rfl
  refine ⟨R,τ,ρ,[.int n],Si,by show bd (aN Φ a ρ) _ = _;rw [ed];rfl,fun vs H1 e1 rv=>?_⟩
  obtain ⟨τt,fr,rs⟩:=rv
  cases rs.ints1
  ·refine ⟨n,rfl,by omega,by omega,?_⟩
   refine mP (lo:=0) Si e1 hq ?_
   simpa using ef
 | seq a =>
  obtain ⟨R,τ,ρ,r,Si,ev,hq⟩:=Xg
  obtain ⟨⟨items,ρ1⟩,ei,ef⟩:=ah ev
  replace hi:=av hi
  obtain ⟨d,ed,ei⟩:=ah ei
  have pe:=(iZ (F:=F) L.toLk a iter hi.1).1
  cases d <;> try (simp at ei;done)
  ·rename_i ds
   simp at ei
   obtain ⟨rfl,rfl⟩:=ei
   refine sN L.px L.calm (Ca pe) hg hb oU pins s σ H D I (tD.intro Si ed fun v H1 e1 rv=>?_)
   obtain ⟨R',τ',hR,ia,rp⟩:=ze Si e1 rv
   rw [aD] at rp
   cases rp with
   | @tup _ p xs _ hp rs =>
    have yP:=hq.from (Kp.of e1 hR)
    refine ⟨p,rfl,⟨xs,hp⟩,Gv (xs:=xs) (lR X F Φ t b R' H1 r (ai aL ds)) ⟨R',τ',_,ia,Kp.refl R' H1,by rw [List.drop_zero];exact ef⟩ (fun i σ' H' _ h=>?_) (fun i x σ' H' hx h=>o_ C8 rs yP i x σ' H' hx h) (fun σ' H' h=>nJ (rs.length) yP σ' H' h)⟩
    obtain ⟨R2,τ2,ρ2,_,kp,_⟩:=h
    exact kp.QV hp
  ·rename_i f ds
   simp at ei
   obtain ⟨rfl,rfl⟩:=ei
   refine sN L.px L.calm (yt pe) hg hb oU pins s σ H D I (tD.intro Si ed fun v H1 e1 rv=>?_)
   obtain ⟨R',τ',hR,ia,rp⟩:=ze Si e1 rv
   rw [aD] at rp
   cases rp with
   | @lst _ p xs _ _ hp rs =>
    have yP:=hq.from (Kp.of e1 hR)
    refine ⟨p,rfl,⟨xs,hp.sq⟩,Dt (xs:=xs) (lR X F Φ t b R' H1 r (ai aL ds)) ⟨R',τ',_,ia,Kp.refl R' H1,by rw [List.drop_zero];exact ef⟩ (fun i σ' H' _ h=>?_) (fun i x σ' H' hx h=>o_ C8 rs yP i x σ' H' hx h) (fun σ' H' h=>nJ (rs.length) yP σ' H' h)⟩
    obtain ⟨R2,τ2,ρ2,_,kp,_⟩:=h
    exact (kp.nd hp).sq
theorem xp {R R':Addr -> Prop} {τ':Addr -> Option aH} {ρ':aC} {σ:St} {H H1:Hp} {p:Addr} {q:aH} {n:Nd} {o:HO} (Si:SI X F R' τ' ρ' σ H1) (es:ao H H1) (hR:∀ p,R p -> R' p) (hp:h_ H1 p n) (ht:τ' p = some q):Kp R H R' (upd H1 p o):=by
 obtain ⟨o0,Rn,Xh,Rm⟩:=h_.some hp
 exact ⟨hR,fun a u ha e=>by
  have ne:a ≠ p:=fun z=>by subst z;rw [Si.rt _ (hR _ ha)] at ht;cases ht
  rw [aK ne];exact es _ _ e,fun a zs e=>by
  have e1:=es _ _ e
  have ne:a ≠ p:=fun z=>by subst z;rw [Rn] at e1;cases e1;exact Xh _ rfl
  rw [aK ne];exact e1,fun a o u e=>by
  have e1:=es _ _ e
  have ne:a ≠ p:=fun z=>by subst z;rw [Rn] at e1;cases e1;exact Rm _ _ rfl
  rw [aK ne];exact e1⟩
theorem jZ.go {R:Addr -> Prop} {τ:Addr -> Option aH} {H H':Hp} {v:V} {d:DI.D} (h:jZ X R τ H v d) (e:ao H H'):jZ X R τ H' v d :=
 let ⟨τt,h1,h2⟩:=h;⟨τt,fun p q z=>let ⟨a,b,c,d⟩:=h1 p q z;⟨a,b,c,ao.ne e d⟩,h2.imp (fun _ _ h=>aG.same e h) fun _ _ _ _ h=>nd.same e h⟩
theorem V6 (L:qN X S k Φ) {i:Nat} {o:Expr} (h:ny S i o = true) (hv:∀ x p,o = .Name x p -> oH x = true):∃ x p,o = .Name x p /\ X.N[i]? = some x /\ L2.Loc X.env.scope x /\ PE X o (ED i):=by
 cases o <;> try (exact (Bool.false_ne_true h).elim;done)
 rename_i x p
 have hn:=hv x p rfl
 replace h:=av h
 unfold oH at hn
 simp only [Bool.and_eq_true,Bool.not_eq_true'] at hn
 have hN:X.N[i]? = some x:=by rw [L.N];exact of_decide_eq_true h.1
 have hl:=L.loc h.2
 exact ⟨x,p,rfl,hN,hl,xg hN (hl.imp id .inl) hn.1.1 hn.1.2⟩
theorem zh {e:CE} {ρ:aC} {r:DI.D × aC} {i:Nat} {ds:List DI.D} (h:jX Φ e ρ = ok r) (ho:r.2[i]? = some (some (.lst .ow ds))):ρ[i]? = some (some (.lst .ow ds)):=by
 by_cases hv:∃ j,e = .v j
 ·obtain ⟨j,rfl⟩:=hv
  simp only [jX] at h
  split at h
  ·split at h
   ·cases h
    by_cases j6:i = j
    ·subst j6
     rw [List.getElem?_set] at ho
     simp at ho
    ·rw [List.getElem?_set_ne (Ne.symm j6)] at ho;exact ho
   ·cases h;exact ho
  ·cases h
 ·have h':bd (aN Φ e ρ) (fun d=>ok (keep e d ρ)) = ok r:=by
   cases e <;> first | exact h | exact absurd ⟨_,rfl⟩ hv
  obtain ⟨d,_,er⟩:=ah h'
  cases er
  unfold keep at ho
  split at ho
  ·obtain ⟨d',h1,h2⟩:=zc _ _ _ _ ho
   split at h2
   ·cases d' <;> simp [aD] at h2
    rename_i f kl
    cases f <;> simp [aL] at h2
   ·rw [h2];exact h1
  ·exact ho
theorem IL (L:qN X S k Φ) {i:Nat} {e:CE} {x:Str} {v:Expr} {p p1 p2 pos:Pos} (hn:ny S i (.Name x p) = true) (hx:oH x = true) (he:bT S e v = true) (Mq:(p1.endLine == p2.line) = true):PS X (.Expr (.Call (.Attribute (.Name x p) ("append" : Str) p1) [v] [] p2) pos) (wZ X F Φ (.app i e)):=by
 obtain ⟨_,_,z,hN,hl,pe⟩:=V6 L hn (fun y q e=>by cases e;exact hx)
 cases z
 refine PS.imp (sO (Ck PySem.F.plainAttrs_list PySem.F.slot_list_append PySem.F.type_list_append Ai pe (dB (sr (F:=F) L.toLk e v he) gK (cg he _ _)) (hfew:=by rw [cg he];rfl) (hline:=Mq) (hs:=cg he _ _))) fun D σ H hq=>?_
 obtain ⟨R,τ,ρ,r,Si,ev,hq⟩:=hq
 obtain ⟨r1,xG,ev⟩:=ah ev
 split at ev
 ·rename_i ds ho
  split at ev
  ·rename_i hc
   cases ev
   have ho:=yB ho
   obtain ⟨a,xs,hv,ha,hxl,hta,_⟩:=Si.own (zh xG ho)
   refine ⟨.ref a,hv,.inl ⟨rfl,_,du.of ha⟩,R,τ,ρ,r1,Si,xG,fun w H1 R1 τ1 es hR wM rk=>?_⟩
   obtain ⟨a1,R_,Ku,HS,W_,C1,Jg⟩:=wM.own ho
   rw [hv] at Ku
   cases Ku
   have hz:sizeLine = 16777216:=sizeLine_eq
   have m9:eN = 1000000:=rfl
   refine ⟨a,R_,w,rfl,rfl,HS,by omega,?_⟩
   obtain ⟨τ2,A7⟩:=wM.put (m:=ds.length) (g:=fun ys=>ys ++ [w]) ho hv HS C1 Jg rk fun rs r=>ag.Hm rs (by simpa using r)
   exact hq σ _ R1 τ2 A7 (xp (n:=.l _) wM es hR HS C1)
  ·cases ev
 ·cases ev
theorem EI (L:qN X S k Φ) {i:Nat} {c e:CE} {x:Str} {ke v:Expr} {p p1 pos:Pos} (hn:ny S i (.Name x p) = true) (hx:oH x = true) (hk:bT S c ke = true) (he:bT S e v = true) (Xu:iq v = false):PS X (.Assign [.Subscript (.Name x p) ke p1] v pos) (wZ X F Φ (.setI i c e)):=by
 obtain ⟨_,_,z,hN,hl,pe⟩:=V6 L hn (fun y q e=>by cases e;exact hx)
 cases z
 have hw:swappedStores [.Subscript (.Name x p) ke p1] v X.env = pure none:=by cases v <;> rfl
 have ha:∀ u,assign (.Subscript (.Name x p) ke p1) X.env u = (do
   let ov <- holding [u] (eval (.Name x p) X.env)
   let iv <- holding [u,ov] (eval ke X.env)
   standAt p1
   holding [u,ov,iv] (setItem ov iv u)
   release [u,ov,iv] []):=by
  intro u
  cases ke <;> first | rfl | (cases c <;> exact (Bool.false_ne_true hk).elim)
 refine PS.imp (B9 (sr (F:=F) L.toLk e v he) (Js pe (iZ (F:=F) L.toLk c ke hk).1 set_list ha) (by first | rfl | (cases v <;> rfl) | (unfold swapsWithSole;exact pJ he Xu _ _ _)) hw rfl) fun D σ H hq=>?_
 obtain ⟨R,τ,ρ,r,Si,ev,hq⟩:=hq
 obtain ⟨r1,xG,ev⟩:=ah ev
 obtain ⟨n,en,ev⟩:=ah ev
 obtain ⟨d,ed,en⟩:=ah en
 have en:=F_ en
 subst en
 split at ev
 ·rename_i ds ho
  split at ev
  ·rename_i j hj
   cases ev
   have ho:=yB ho
   obtain ⟨a,xs,hv,ha,hxl,hta,_⟩:=Si.own (zh xG ho)
   refine ⟨R,τ,ρ,r1,Si,xG,fun w H1 R1 τ1 es hR wM rk=>?_⟩
   refine ⟨.ref a,hv,tD.intro wM ed fun u H2 e2 ru=>?_⟩
   cases ru.isInt
   have A7:=wM.go e2
   obtain ⟨a2,Ip,Rl,XG,W9,OB,B1⟩:=A7.own ho
   rw [hv] at Rl
   cases Rl
   refine ⟨a,Ip,n,j,rfl,rfl,XG,by rw [W9];exact hj,?_⟩
   obtain ⟨τ3,A6⟩:=A7.put (m:=j) (g:=fun ys=>ys.set j w) ho hv XG OB B1 (rk.go e2) fun rs r=>ag.setAt (j:=j) rs (by simpa using r)
   exact hq σ _ R1 τ3 A6 (xp (n:=.l _) A7 (es.trans e2) hR XG OB)
  ·cases ev
 ·cases ev
end
end DI
end
section
namespace DI
open PySem PySem.Spec PyProof.Rows L2
section
variable {X:Cx} {S:Sx} {k:Nat} {F:Addr -> Prop} {Φ:aA}
theorem Jq (x:Str) (p:Pos):(Expr.Name x p).pos = p:=rfl
theorem w4 {env:Env} {x y:Str} {px py pt L8:Pos} {kt k2:Nat} {a b:Expr} (hk:env.scope.kind = .function) (hx:env.scope.names.lookup x = some .local) (hy:env.scope.names.lookup y = some .local) (hxy:x ≠ y) (hl:px.line = py.line)
  (h1:[a,b].all (foldedForSure 8) = false) (h2:[a,b].all (constantsAlone 8) = false) (h3:([a,b].any fun e=>match e with | .Starred ..=>true | _=>false) = false) :
  swappedStores [.Tuple [.Name x px,.Name y py] kt pt] (.Tuple [a,b] k2 L8) env = pure (some [x,y]):=by
 have hb:env.blockKind = .function:=by unfold Env.blockKind;rw [hk];rfl
 have kx:env.kindOf x = some .local:=hx
 have ky:env.kindOf y = some .local:=hy
 have e1:([x,y].eraseDups.length != [x,y].length) = false:=by
  have:¬ (y == x) = true:=by simp;exact fun z=>hxy z.symm
  have h':(y == x) = false:=by simpa using this
  simp [List.eraseDups_cons,List.filter,h',hxy]
 unfold swappedStores
 simp only [hb,h3,List.filterMap_cons,List.filterMap_nil,kx,ky,hl,Jq,List.head?_cons,Option.map_some,Option.getD_some,h1,h2]
 simp only [beq_self_eq_true,Bool.and_self,if_true]
 rw [if_neg (by simp)]
 refine (if_neg ?_).trans ?_
 ·intro z;exact Bool.false_ne_true (h3.symm.trans z)
 rw [if_neg (by
  rw [e1]
  simp),if_neg Bool.false_ne_true,if_neg Bool.false_ne_true]
theorem vi {R R':Addr -> Prop} {A:Addr -> Prop} {τ τ':Addr -> Option aH} {H:Hp} {kp:aH} {v:V} {d:DI.D} (h:Rep (aG X.K H) (nd X.K R A τ H) kp v d) (hf:aT anyF d = false):jZ X R' τ' H v d :=
 ⟨fun _=>none,fun _ _ h=>by simp at h,Rep.without (P:=anyF) (fun _ _ h=>h) (fun k k' p xs f hf h=>by cases hf) h hf _⟩
theorem II (L:qN X S k Φ) {i j:Nat} {a b:CE} {tg v:Expr} {pos:Pos} (he:bT S (.tup [a,b]) v = true) (hp:DC S i j tg v = true):PS X (.Assign [tg] v pos) (wZ X F Φ (.par i j a b)):=by
 obtain ⟨ts,Ku,q1⟩:=aS hp
 obtain ⟨kt,pt,rfl⟩:=kR Ku
 obtain ⟨⟨t1,t2⟩,Rl,q2⟩:=aS q1
 obtain rfl:ts = [t1,t2]:=n9 Rl
 obtain ⟨⟨x,px⟩,hv3,q3⟩:=aS q2
 obtain rfl:t1 = _:=x9 hv3
 obtain ⟨⟨y,py⟩,hv4,q4⟩:=aS q3
 obtain rfl:t2 = _:=x9 hv4
 obtain ⟨vs,hv5,q5⟩:=aS q4
 obtain ⟨k2,L8,rfl⟩:=kR hv5
 obtain ⟨⟨ea,eb⟩,hv6,q6⟩:=aS q5
 obtain rfl:vs = [ea,eb]:=n9 hv6
 ·obtain ⟨q7,Gr⟩:=av q6
  obtain ⟨q8,h9⟩:=av q7
  obtain ⟨q9,h8⟩:=av q8
  obtain ⟨TZ,h7⟩:=av q9
  obtain ⟨q11,h6⟩:=av TZ
  obtain ⟨q12,h5⟩:=av q11
  obtain ⟨q13,h4⟩:=av q12
  obtain ⟨q14,h3⟩:=av q13
  obtain ⟨h1,h2⟩:=av q14
  replace h1:S.N[i]? = some x:=of_decide_eq_true h1
  replace h2:S.N[j]? = some y:=of_decide_eq_true h2
  replace h3:=of_decide_eq_true h3
  replace h4:=of_decide_eq_true h4
  replace h5:=of_decide_eq_true h5
  replace h6:=of_decide_eq_true h6
  replace h7:=of_decide_eq_true h7
  replace h8:=oF h8
  replace h9:=oF h9
  replace Gr:=of_decide_eq_true Gr
  replace he:=av he
  have pa:=yg (F:=F) L.toLk [a,b] [ea,eb] he.1
  refine PS.imp (Jp L.calm L.nd (by rw [L.N];exact h1) (by rw [L.N];exact h2) h3 (by rw [L.sc];exact h4) (by rw [L.sc];exact h5) pa (w4 (by rw [L.sc];exact L.fk) (by rw [L.sc];exact h4) (by rw [L.sc];exact h5) h6 h7 h8 h9 Gr)) fun D σ H hq=>?_
  obtain ⟨R,τ,ρ,r,Si,ev,hq⟩:=hq
  obtain ⟨d1,ed1,ev⟩:=ah ev
  obtain ⟨d2,ed2,ev⟩:=ah ev
  simp only [HJ] at ev
  obtain ⟨⟨f1,f2,l1,l2⟩,rfl⟩:=ev
  refine ⟨R,τ,ρ,[d1,d2],Si,by show bd (aN Φ a ρ) _ = _;rw [ed1];show bd (bd (aN Φ b ρ) _) _ = _;rw [ed2];rfl,fun vs H1 e1 rv=>?_⟩
  obtain ⟨τt,fr,rs⟩:=rv
  obtain ⟨v1,v2,rfl,r1,r2⟩:=rs.two
  ·obtain ⟨τ1,S1⟩:=(Si.go e1).set (i:=i) (vi r1 f1) l1
   obtain ⟨τ2,S2⟩:=S1.set (i:=j) (vi r2 f2) (by simpa using l2)
   exact ⟨v1,v2,rfl,hq _ H1 R τ2 S2 (Kp.of e1 fun _ h=>h)⟩
mutual
theorem IM (L:qN X S k Φ):∀ (c:CS) (st:Stmt),PC S c st = true -> PS X st (wZ X F Φ c)
 | .asg t e,st,h=>by
  obtain ⟨⟨He,v⟩,v1,q1⟩:=aS h
  obtain ⟨pos,rfl⟩:=se v1
  obtain ⟨tg,v2,q2⟩:=aS q1
  obtain rfl:He = [tg]:=cB v2
  obtain ⟨q3,h4⟩:=av q2
  obtain ⟨q4,h3⟩:=av q3
  obtain ⟨h1,h2⟩:=av q4
  have h1:bT S e v = true:=h1
  replace h3:(isTup v && isTup tg) = false:=oF h3
  cases hc:iq v with
  | false=>exact BI L h1 h2 h3 (pJ h1 hc _ _ _)
  | true =>
   have h4:(!iq v || isNm tg) = true:=h4
   rw [hc] at h4
   obtain ⟨x,p,rfl⟩:=FZ h4
   obtain ⟨iW,gens,sc,MM,rfl⟩:=As hc
   cases e <;> try (exact (Bool.false_ne_true h1).elim)
   cases t with
   | tp is=>exact (Bool.false_ne_true h2).elim
   | nm i =>
    cases hb:SH S (.Name x p) (.ListComp iW gens sc MM) with
    | true=>exact EK L h1 h2 (by rw [Hk L,hb])
    | false=>exact BI L h1 h2 h3 (by
      show swapsWith (.ListComp iW gens sc MM) (some (.Name x p)) pos.line X.env = _
      rw [Hk L,hb])
 | .par i j a b,st,h=>by
  obtain ⟨⟨He,v⟩,v1,q1⟩:=aS h
  obtain ⟨pos,rfl⟩:=se v1
  obtain ⟨tg,v2,q2⟩:=aS q1
  obtain rfl:He = [tg]:=cB v2
  exact II L (av q2).1 (av q2).2
 | .ret e,st,h=>by
  obtain ⟨z,v1,q1⟩:=aS h
  obtain ⟨pos,rfl⟩:=Em v1
  obtain ⟨v,v2,q2⟩:=aS q1
  obtain rfl:z = some v:=v2
  exact IH L q2
 | .rs c,st,h=>fun _ _ _ _ _ _ ⟨R,τ,ρ,r,Si,ev,hq⟩=>by cases ev
 | .ex e,st,h=>by
  obtain ⟨v,v1,q1⟩:=aS h
  obtain ⟨pos,rfl⟩:=wO v1
  exact Nk L (av q1).1 (oF (av q1).2)
 | .mut p i es,st,h=>by
  obtain ⟨⟨o,args⟩,ha,q1⟩:=aS h
  obtain ⟨q2,h3⟩:=av q1
  obtain ⟨h1,h2⟩:=av q2
  obtain ⟨x,pp,rfl,hN,hl,pe⟩:=V6 L h1 (fun y q e=>by cases e;exact h2)
  exact L.pm.m X _ _ k L.toLk.pX L.nd L.Gw p st x pp args ha i hN hl pe F es (oe L.toLk es args h3)
 | .app i e,st,h=>by
  obtain ⟨c,v1,q1⟩:=aS h
  obtain ⟨pos,rfl⟩:=wO v1
  obtain ⟨⟨fn,as,ks,p2⟩,v2,q2⟩:=aS q1
  obtain rfl:c = _:=qQ v2
  obtain ⟨q3,q4⟩:=av q2
  obtain rfl:ks = []:=oP q3
  obtain ⟨⟨o,a,p1⟩,v3,q5⟩:=aS q4
  obtain rfl:fn = _:=uM v3
  obtain ⟨q6,q7⟩:=av q5
  obtain ⟨v,v4,h4⟩:=aS q7
  obtain rfl:as = [v]:=cB v4
  obtain ⟨q8,h5⟩:=av q6
  obtain ⟨q9,h2⟩:=av q8
  obtain ⟨TZ,h1⟩:=av q9
  obtain rfl:a = _:=of_decide_eq_true TZ
  obtain ⟨x,p,rfl⟩:∃ x p,o = .Name x p:=zt h1
  exact IL L h1 h2 h4 h5
 | .setI i k e,st,h=>by
  obtain ⟨⟨He,v⟩,v1,q1⟩:=aS h
  obtain ⟨pos,rfl⟩:=se v1
  obtain ⟨tg,v2,q2⟩:=aS q1
  obtain rfl:He = [tg]:=cB v2
  obtain ⟨⟨o,ke⟩,v3,q3⟩:=aS q2
  obtain ⟨p1,rfl⟩:=rZ v3
  obtain ⟨q4,h5⟩:=av q3
  obtain ⟨q5,h4⟩:=av q4
  obtain ⟨q6,h3⟩:=av q5
  obtain ⟨h1,h2⟩:=av q6
  obtain ⟨x,p,rfl⟩:∃ x p,o = .Name x p:=zt h1
  exact EI L h1 h2 h3 h4 (oF h5)
 | .ifs c a b,st,h=>by
  obtain ⟨⟨t,x,y⟩,v1,q1⟩:=aS h
  obtain ⟨pos,rfl⟩:=Ep v1
  obtain ⟨q2,h3⟩:=av q1
  obtain ⟨h1,h2⟩:=av q2
  exact Nj L h1 (jC L a _ h2) (jC L b _ h3)
 | .Iq c b,st,h=>by
  obtain ⟨⟨t,x,y⟩,v1,q1⟩:=aS h
  obtain ⟨pos,rfl⟩:=El v1
  obtain ⟨q2,h3⟩:=av q1
  obtain ⟨h1,h2⟩:=av q2
  obtain rfl:y = []:=oP h1
  exact BH L h2 (jC L b _ h3)
 | .fr t it b,st,h=>by
  obtain ⟨⟨tg,iter,x,y⟩,v1,q1⟩:=aS h
  obtain ⟨pos,rfl⟩:=Er v1
  obtain ⟨q2,h5⟩:=av q1
  obtain ⟨q3,h4⟩:=av q2
  obtain ⟨q4,h3⟩:=av q3
  obtain ⟨h1,h2⟩:=av q4
  obtain rfl:y = []:=oP h1
  exact IJ L h2 h3 h4 (jC L b _ h5)
theorem jC (L:qN X S k Φ):∀ (cs:List CS) (Nh:List Stmt),aI S cs Nh = true -> nZ X Nh (p6 X F Φ cs)
 | [],[],_=>nZ.imp Fn fun D σ H ⟨R,τ,ρ,r,Si,ev,hq⟩=>by cases ev;exact hq σ H R τ Si (Kp.refl R H)
 | [],_ :: _,h=>by exact (Bool.false_ne_true h).elim
 | _ :: _,[],h=>by exact (Bool.false_ne_true h).elim
 | c :: cs,st :: Nh,h=>by
  replace h:=av h
  have h1:PS X st (wZ X F Φ c):=IM L c st h.1
  have h2:nZ X Nh (p6 X F Φ cs):=jC L cs Nh h.2
  refine nZ.imp (B7 h1 h2) fun D σ H hq=>?_
  obtain ⟨R,τ,ρ,r,Si,ev,hq⟩:=hq
  obtain ⟨⟨fo,ρ1⟩,e1,ev⟩:=ah ev
  refine ⟨R,τ,ρ,(fo,ρ1),Si,e1,?_⟩
  cases fo with
  | nx=>exact fun σ' H' R' τ' ia kp=>⟨R',τ',ρ1,r,ia,ev,hq.from kp⟩
  | bk=>cases ev;exact hq
  | ct=>cases ev;exact hq
  | rt d=>cases ev;exact hq
end
end
theorem vZ {P:Program} {w:World} {K:PySem.W.Frag} {mg:Str -> Option Value} {base:Heap} {x qual:Str} {st:Stmt} {f:Addr} {fd:FuncData} {ps:List Str} {k:Nat} {N bl:List Str} {cs:List (Str × GK)} {px:Px} {Gw:Nat -> Option Str} {Φ:aA} {m:List D -> O D} {body:List CS}
  (Fu:L0 K x qual st f fd) (Sc:au N ps (aa st)) (KD:aI ⟨aa st,N,Gw,bl,cs,px⟩ body (ae st) = true) (Kv:G8 px Φ) (Xj:R4 px Φ)
  (XE:∀ y ∈ bl,mg y = none) (Bi:∀ y i,(y,i) ∈ cs -> ∃ u,mg y = some u /\ R6 K i u)
  (D7:∀ g y,Gw g = some y -> ∃ (f:Addr) (fd:FuncData) (ps:List Str),kC P w K mg base DZ k f fd ps (Hl K ps.length (Φ g)) /\ mg y = some (.ref f) /\ PySem.W.keepIn K (.ref f) = true /\ Binds K fd ps [] /\ ∀ ds r,Φ g ds = ok r -> ds.length = ps.length)
  (hm:∀ ds r,m ds = ok r -> ds.length = ps.length /\ xc Φ N.length body ds = ok r):kC P w K mg base DZ (k + 1) f fd ps (Hl K ps.length m):=by
 refine Fu.ok (N:=N) Sc (fun vs H Q E ⟨_,_,_,h,_⟩=>h) fun mU A outer s H vs Q E hr D3=>?_
 obtain ⟨F,ds,r,hl,rs,er,hq⟩:=D3
 obtain ⟨Rv,xw⟩:=hm ds r er
 let X:=(xJ DZ P w K mg base N qual (aa st) f mU A outer s H E).N0
 have L:qN X ⟨aa st,N,Gw,bl,cs,px⟩ k Φ:=⟨⟨rfl,rfl,Sc.nd,rfl,hr,XE,fun g y h=>⟨D7 g y h⟩,Bi,Kv⟩,fun _=>rfl,PassesOwn.never,Sc.kind,Xj⟩
 refine ⟨p6 X F Φ body,jC L body _ KD,?_⟩
 unfold xc at xw
 obtain ⟨⟨fo,ρ'⟩,eb,xw⟩:=ah xw
 have hpl:ps.length <= N.length:=by have:=congrArg List.length Sc.pre;rw [List.length_take] at this;omega
 have hvl:vs.length = ds.length:=rs.length
 refine ⟨fun p=>F p /\ H p ≠ none,fun _=>none,_,(fo,ρ'),⟨?_,fun i d hi=>?_,fun _ _=>rfl,fun p h=>h.2,fun p h=>.inl h.1,fun _ _ h=>by simp at h,fun _ _ h=>by simp at h,ao.refl H⟩,eb,?_⟩
 ·unfold L2.start
  simp [hvl]
 ·have hid:i < ds.length:=by
   by_cases mm:i < ds.length
   ·exact mm
   ·rw [List.getElem?_append_right (by simpa using mm)] at hi
    rw [List.getElem?_replicate] at hi
    split at hi <;> simp at hi
  rw [List.getElem?_append_left (by simpa using hid),List.getElem?_map] at hi
  have hd:ds[i]? = some d:=by
   cases q:ds[i]? with
   | none=>rw [q] at hi;cases hi
   | some z=>rw [q] at hi;simp at hi;rw [hi]
  obtain ⟨v,hv,rv⟩:=rs.get hd
  refine ⟨v,?_,rv.imp (q:=[0 + i]) (q':=[i]) (fun _ _ h=>h) fun c p xs f h=>?_⟩
  ·unfold L2.start
   rw [List.getElem?_append_left (by rw [List.length_map,hvl];exact hid),List.getElem?_map,hv];rfl
  ·cases f with
   | ow=>exact nomatch h.2
   | fz=>exact ⟨h.1,h.2,h.1.ne⟩
   | al=>exact h.2.elim
   | sc=>exact h
 ·cases fo with
  | nx =>
   cases xw
   exact fun σ' H' R' τ' ia kp=>hq .bE H' ia.same ⟨fun _=>none,fun _ _ h=>by simp at h,.bE⟩
  | bk=>simp at xw
  | ct=>simp at xw
  | rt d =>
   cases xw
   exact fun v H' es rr=>hq v H' es rr
structure Ent (P:Program) (w:World) (K:PySem.W.Frag) (mg:Str -> Option Value) (base:Heap) (k:Nat) (y:Str) (m:List D -> O D):Prop where
 ex:∃ (f:Addr) (fd:FuncData) (ps:List Str),kC P w K mg base DZ k f fd ps (Hl K ps.length m) /\ mg y = some (.ref f) /\ PySem.W.keepIn K (.ref f) = true /\ Binds K fd ps [] /\ ∀ ds r,m ds = ok r -> ds.length = ps.length
theorem Ent.up {P:Program} {w:World} {K:PySem.W.Frag} {mg:Str -> Option Value} {base:Heap} {k k':Nat} {y:Str} {m:List D -> O D} (h:Ent P w K mg base k y m) (hk:k <= k'):Ent P w K mg base k' y m:=by
 obtain ⟨f,fd,ps,h1,h2⟩:=h.ex
 exact ⟨f,fd,ps,h1.mono hk,h2⟩
theorem ent {P:Program} {w:World} {K:PySem.W.Frag} {mg:Str -> Option Value} {base:Heap} {x qual:Str} {st:Stmt} {f:Addr} {fd:FuncData} {ps:List Str} {k:Nat} {N bl:List Str} {cs:List (Str × GK)} {px:Px} {Gw:Nat -> Option Str} {Φ:aA} {m:List D -> O D} {body:List CS}
  (Fu:L0 K x qual st f fd) (hmg:mg x = some (.ref f)) (hb:Binds K fd ps []) (Sc:au N ps (aa st)) (KD:aI ⟨aa st,N,Gw,bl,cs,px⟩ body (ae st) = true) (Kv:G8 px Φ) (Xj:R4 px Φ) (XE:∀ y ∈ bl,mg y = none) (Bi:∀ y i,(y,i) ∈ cs -> ∃ u,mg y = some u /\ R6 K i u)
  (D7:∀ g y,Gw g = some y -> Ent P w K mg base k y (Φ g)) (hm:∀ ds r,m ds = ok r -> ds.length = ps.length /\ xc Φ N.length body ds = ok r):Ent P w K mg base (k + 1) x m :=
 ⟨f,fd,ps,vZ Fu Sc KD Kv Xj XE Bi (fun g y h=>(D7 g y h).ex) hm,hmg,Fu.kp,hb,fun ds r h=>(hm ds r h).1⟩
noncomputable def ak {α:Type} (P:α -> Prop):List α -> Prop
 | []=>True
 | a :: l=>P a /\ ak P l
theorem ak.mem {α:Type} {P:α -> Prop}:∀ {l:List α},ak P l -> ∀ a ∈ l,P a
 | [],_,_,h=>by cases h
 | _ :: _,h,_,hm=>(List.mem_cons.mp hm).elim (fun e=>e ▸ h.1) (ak.mem h.2 _)
theorem ak.tab {β:Type} {P:Nat -> β -> Prop}:∀ {l:List (Nat × β)},ak (fun p=>P p.1 p.2) l -> ∀ g y,l.lookup g = some y -> P g y
 | [],_,_,_,h=>by cases h
 | (k,b) :: l,h,g,y,e=>by
  rw [List.lookup_cons] at e
  cases hg:g == k with
  | true=>rw [hg] at e;cases e;rw [eq_of_beq hg];exact h.1
  | false=>rw [hg] at e;exact ak.tab h.2 g y e
theorem ak.two {β γ:Type} {P:β -> γ -> Prop} {l:List (β × γ)} (h:ak (fun p=>P p.1 p.2) l) (y:β) (i:γ) (hm:(y,i) ∈ l):P y i:=ak.mem h _ hm
theorem gL {α:Type} {l:List α} (h:l.length = 1):∃ a,l = [a]:=List.length_eq_one_iff.mp h
theorem fD {α:Type} {l:List α} (h:l.length = 2):∃ a b,l = [a,b]:=by
 cases l with
 | nil=>cases h
 | cons a l=>obtain ⟨b,rfl⟩:=gL (Nat.succ.inj h);exact ⟨a,b,rfl⟩
theorem FT {α:Type} {l:List α} (h:l.length = 3):∃ a b c,l = [a,b,c]:=by
 cases l with
 | nil=>cases h
 | cons a l=>obtain ⟨b,c,rfl⟩:=fD (Nat.succ.inj h);exact ⟨a,b,c,rfl⟩
theorem Of {α:Type} {l:List α} (h:l.length = 4):∃ a b c d,l = [a,b,c,d]:=by
 cases l with
 | nil=>cases h
 | cons a l=>obtain ⟨b,c,d,rfl⟩:=FT (Nat.succ.inj h);exact ⟨a,b,c,d,rfl⟩
noncomputable def oR:List D -> Option (List Int)
 | []=>some []
 | .int i :: ds=>(oR ds).map (i :: ·)
 | _ :: _=>none
theorem oQ:∀ ns:List Int,oR (ns.map D.int) = some ns
 | []=>rfl
 | n :: ns=>by simp [oR,oQ ns]
theorem vt:∀ {ds:List D} {ns:List Int},oR ds = some ns -> ds = ns.map D.int
 | [],ns,h=>by simp [oR] at h;subst h;rfl
 | d :: ds,ns,h=>by
  cases d <;> simp [oR] at h
  obtain ⟨ms,h1,rfl⟩:=h
  rw [vt h1];rfl
noncomputable def vz:List D -> O D
 | [.lst .sc ds]=>match oR ds with
  | some ns=>if ns.length <= 63 then ok (.bl true) else none
  | none=>none
 | _=>none
theorem FP {ns:List Int} (h:ns.length <= 63):vz [.lst .sc (ns.map D.int)] = ok (.bl true):=by
 simp [vz,oQ,h]
theorem CL {Φ:aA} {n:Nat} {b:List CS} (h:∀ ns:List Int,ns.length <= 63 -> xc Φ n b [.lst .sc (ns.map D.int)] = ok (.bl true)):∀ ds r,vz ds = ok r -> ds.length = 1 /\ xc Φ n b ds = ok r:=by
 intro ds r e
 match ds,e with
 | [.lst .sc ds],e =>
  simp only [vz] at e
  split at e
  ·rename_i ns Bg
   split at e
   ·rename_i hl
    cases e
    obtain rfl:=vt Bg
    exact ⟨rfl,h ns hl⟩
   ·cases e
  ·cases e
theorem J5 (K:PySem.W.Frag) (H:Hp) (a:Addr) (ns:List Int) (m:List D -> O D) (hm:m [.lst .sc (ns.map D.int)] = ok (.bl true)) (hO:G9 H) (hS:du K H a (ns.map V.int)):Hl K 1 m [.ref a] H (fun v _=>v = .bl true) fun _ _ _=>False:=by
 refine ⟨fun _=>True,_,.bl true,rfl,.cons (.lst ?_ (ag.ints ns)) .nil,hm,fun v H' _ ⟨τt,_,rp⟩=>by cases rp;rfl⟩
 rcases hS with (h | h) | h
 ·rcases hO a with z | ⟨o,xs,z⟩
  ·rw [h] at z;cases z
  ·rw [h] at z;cases z
 ·exact .inl h
 ·exact .inr h
end DI
end
section
namespace DI
open PySem PySem.Spec PyProof.Rows L2
section
variable {X:Cx} {pins:List (Addr × Obj)} {σ:St} {H:Hp} {s:Shared} {h':Heap}
theorem ya {t':Nat} {ch:List Addr} (I:Inv X pins σ H s) (hf:∀ b ∈ ch,pR X pins H b) (k:∀ b u,b ∉ ch -> s.heap.get? b = some u -> h'.get? b = some u):Inv X pins σ H { s with heap:=h',toks:=t' }:=by
 have HD:∀ b u,H b = some u -> b ∉ ch:=fun b u e z=>by rw [(hf b z).1] at e;cases e
 refine I.step (g':=s.gens) (d':=s.drawn) (ch:=ch) (fun b hb=>⟨(hf b hb).2.2.2.1,(hf b hb).2.1,(hf b hb).2.2.2.2.1,(hf b hb).2.2.2.2.2⟩) (fun b o _ _ hc e _=>k b o hc e) (fun b o _ _ hc e _=>⟨o.slots,k b o hc e⟩) (fun _ _ _ _ n=>n)
  (fun b o hc e=>⟨o,k b o hc e⟩) (fun _ _ e=>e) (fun _ _ _ e=>e) (fun b ps e=>⟨#[],by rw [e];simp⟩) (fun m hm=>?_) (fun b u e=>?_) I.bare
 ·obtain ⟨o,es,ep,ho,r⟩:=hm
  exact ⟨o,es,ep,k _ o (fun z=>(hf _ z).2.1 rfl) ho,r⟩
 ·refine (I.dD b u e).p8 (fun c v hc q=>k c v ?_ q) (fun _ q=>q) fun _ _ q=>q
  rcases hc with z | z
  ·rw [z];exact HD b u e
  ·exact HD c _ z
theorem yb {t':Nat} {ch:List Addr} {T:Addr} {o:HO} (I:Inv X pins σ H s) (hf:∀ b ∈ ch,pR X pins H b) (k:∀ b u,b ∉ ch -> s.heap.get? b = some u -> h'.get? b = some u) (hT:s.heap.objs.size <= T) (new:dY X.prog X.w (upd H T o) h' T o) :
  Inv X pins σ (upd H T o) { s with heap:=h',toks:=t' }:=by
 have HD:∀ b u,H b = some u -> b ∉ ch:=fun b u e z=>by rw [(hf b z).1] at e;cases e
 have hn:H T = none:=I.dD.fresh hT
 have ne:∀ b (u:Obj),s.heap.get? b = some u -> b ≠ T:=fun b u e z=>absurd (Heap.lt_size e) (by rw [z];exact Nat.not_lt.mpr hT)
 have up:∀ b u,H b = some u -> upd H T o b = some u:=fun b u e=>by rw [aK (cC e hn)];exact e
 refine I.step (g':=s.gens) (d':=s.drawn) (ch:=ch) (fun b hb=>⟨(hf b hb).2.2.2.1,(hf b hb).2.1,(hf b hb).2.2.2.2.1,(hf b hb).2.2.2.2.2⟩) (fun b o _ _ hc e _=>k b o hc e) (fun b o _ _ hc e _=>⟨o.slots,k b o hc e⟩) (fun b u _ e n=>by rw [aK (ne b u e)];exact n)
  (fun b o hc e=>⟨o,k b o hc e⟩) (fun _ _ e=>up _ _ e) (fun _ _ _ e=>up _ _ e) (fun b ps e=>⟨#[],by rw [up _ _ e];simp⟩) (fun m hm=>?_) (yQ (fun b u e=>?_) hn new) I.bare
 ·obtain ⟨o,es,ep,ho,r⟩:=hm
  exact ⟨o,es,ep,k _ o (fun z=>(hf _ z).2.1 rfl) ho,r⟩
 ·refine (I.dD b u e).p8 (fun c v hc q=>k c v ?_ q) (fun _ q=>q) fun _ _ q=>q
  rcases hc with z | z
  ·rw [z];exact HD b u e
  ·exact HD c _ z
end
noncomputable def Itz (K:PySem.W.Frag) (a b:Addr):It :=
  ⟨fun i H=>∃ xs ys x y,du K H a xs /\ du K H b ys /\ xs[i]? = some x /\ ys[i]? = some y,
   fun i H v H'=>∃ T x y,(∀ xs,du K H a xs -> xs[i]? = some x) /\ (∀ ys,du K H b ys -> ys[i]? = some y) /\ H T = none /\ v = .ref T /\ H' = upd H T (.tup [x,y]),
   fun i H=>∃ xs ys,du K H a xs /\ du K H b ys /\ (xs.length <= i \/ ys.length <= i)⟩
theorem si {P:Program} {w:World} {H:Hp} {h:Heap} {T:Addr} {x y:V} {u v:Value} (rx:RelV x u) (ry:RelV y v) (e:h.get? T = some { cls:=.type "tuple",data:=.seq #[u,v] }):dY P w H h T (.tup [x,y]) :=
 ⟨by rw [sizeLine_eq];simp,[u,v],.cons rx (.cons ry .nil),⟨_,e,rfl,_,rfl⟩⟩
theorem cF {h:Heap} {a b:Addr} {o u:Obj} (ha:h.get? a = some o) (hb:h.get? b = some u) (hc:o.cls ≠ u.cls):a ≠ b:=fun z=>by
 subst z;rw [ha] at hb;cases hb;exact hc rfl
theorem Bx {P:Program} {w:World} {K:PySem.W.Frag} {elts:List Expr} {n1:Nat} {tp:Pos} {a b z TI TO i1 i2:Addr} (hTT:TI ≠ TO) (Mw:i1 ≠ i2) :
  Turn P w K (.Tuple elts n1 tp) (Itz K a b) [z,TI,TO,i1,i2] z (fun i h=>IsZip h z TI TO .none /\ IsPair h TI (.ref i1) (.ref i2) /\ (∃ x y,IsPair h TO x y) /\ h.IsListIter i1 a i /\ h.IsListIter i2 b i):=by
 have apart:∀ {h:Heap} {x y:Value} {xs ys:Array Value} {i:Nat},IsZip h z TI TO .none -> IsPair h TI (.ref i1) (.ref i2) -> IsPair h TO x y -> h.IsListIter i1 a i -> h.IsListIter i2 b i -> h.IsList a xs -> h.IsList b ys -> ZipApart z TI TO i1 i2 a b:=by
  intro h x y xs ys i hz hI hO l1 l2 ha hb
  obtain ⟨o1,e1,c1,_⟩:=l1
  obtain ⟨o2,e2,c2,_⟩:=l2
  obtain ⟨oa,ea,ca,_⟩:=ha
  obtain ⟨ob,eb,cb,_⟩:=hb
  exact ⟨cF hI hz (by simp),cF hO hz (by simp),cF e1 hz (by rw [c1];simp),cF e2 hz (by rw [c2];simp),hTT,cF hI e1 (by rw [c1];simp),cF hI e2 (by rw [c2];simp),cF hO e1 (by rw [c1];simp),cF hO e2 (by rw [c2];simp),Mw,
   cF ea hz (by rw [ca];simp),cF ea hO (by rw [ca];simp),cF ea e1 (by rw [ca,c1];simp),cF ea e2 (by rw [ca,c2];simp),cF eb hz (by rw [cb];simp),cF eb hO (by rw [cb];simp),cF eb e1 (by rw [cb,c1];simp),cF eb e2 (by rw [cb,c2];simp)⟩
 refine ⟨by simp,fun i h st c hc=>?_,fun i h h' st k=>?_,?_,?_,fun A i s Q E st hQ=>wpAny_pyIter_zip st.1 hQ⟩
 ·obtain ⟨hz,hI,⟨x,y,hO⟩,⟨o1,e1,_,d1⟩,⟨o2,e2,_,d2⟩⟩:=st
  simp only [List.mem_cons,List.not_mem_nil,or_false] at hc
  rcases hc with rfl | rfl | rfl | rfl | rfl
  ·exact ⟨_,hz,fun v q=>by cases q⟩
  ·exact ⟨_,hI,fun v q=>by cases q⟩
  ·exact ⟨_,hO,fun v q=>by cases q⟩
  ·exact ⟨o1,e1,fun v q=>by rw [d1] at q;cases q⟩
  ·exact ⟨o2,e2,fun v q=>by rw [d2] at q;cases q⟩
 ·obtain ⟨hz,hI,⟨x,y,hO⟩,l1,l2⟩:=st
  exact ⟨k z (by simp) _ hz,k TI (by simp) _ hI,⟨x,y,k TO (by simp) _ hO⟩,l1.at fun o e=>k i1 (by simp) o e,l2.at fun o e=>k i2 (by simp) o e⟩
 ·intro X hP hw hK hc i pins s σ H E I hf st hg
  subst hP hw hK
  obtain ⟨xs,ys,x,y,q1,q2,ex,ey⟩:=hg
  obtain ⟨hz,hI,⟨x0,y0,hO⟩,l1,l2⟩:=st
  obtain ⟨aj,rv,p,_⟩:=I.list q1
  obtain ⟨its',Ba,p',_⟩:=I.list q2
  obtain ⟨u,hu,ru⟩:=rv.get ex
  obtain ⟨u',hu',ru'⟩:=Ba.get ey
  have D:=apart hz hI hO l1 l2 p.isList p'.isList
  refine wpAny_pyNext_zip_item D hz hI hO l1 l2 p.isList p'.isList (x:=u) (y:=u') (by simpa using hu) (by simpa using hu') fun h1 z1 o1 a1 b1 t1 Nf k1=>⟨_,rfl,?_⟩
  refine wpAny_letOwnedTupleGo_zip z1 fun h2 z2 D0=>?_
  have zne:s.heap.objs.size ≠ z:=Nat.ne_of_gt (Heap.lt_size hz)
  have kk:∀ c o,c ∉ [z,TI,TO,i1,i2] -> s.heap.get? c = some o -> h2.get? c = some o:=fun c o hc e=>by
   simp only [List.mem_cons,List.not_mem_nil,or_false,not_or] at hc
   exact D0.extBut c o hc.1 (k1 c o hc.1 hc.2.2.1 hc.2.2.2.1 hc.2.2.2.2 e)
  have hT:h2.get? s.heap.objs.size = some { cls:=.type "tuple",data:=.seq #[u,u'] }:=D0.extBut _ _ zne t1
  have hn:H s.heap.objs.size = none:=I.dD.fresh (Nat.le_refl _)
  refine ⟨.ref s.heap.objs.size,upd H s.heap.objs.size (.tup [x,y]),yb (s:=s) (h':=h2) (t':=s.toks) I hf kk (Nat.le_refl _) (si ru ru' hT),rfl,⟨_,x,y,fun zs hz=>by rw [I.lg hz q1];exact ex,fun zs hz=>by rw [I.lg hz q2];exact ey,hn,rfl,rfl⟩,⟨z2,D0.extBut _ _ D.TIz (k1 _ _ D.TIz D.TITO D.TIi1 D.TIi2 hI),⟨_,_,D0.extBut _ _ D.TOz o1⟩,a1.extBut D0.extBut D.i1z,b1.extBut D0.extBut D.i2z⟩,fun c hc=>?_⟩
  rw [aK]
  ·exact (hf c hc).1
  ·intro z
   subst z
   simp only [List.mem_cons,List.not_mem_nil,or_false] at hc
   rcases hc with e | e | e | e | e
   ·exact absurd (Heap.lt_size hz) (by rw [<- e];exact Nat.lt_irrefl _)
   ·exact absurd (Heap.lt_size hI) (by rw [<- e];exact Nat.lt_irrefl _)
   ·exact absurd (Heap.lt_size hO) (by rw [<- e];exact Nat.lt_irrefl _)
   ·obtain ⟨_,w,_⟩:=l1;exact absurd (Heap.lt_size w) (by rw [<- e];exact Nat.lt_irrefl _)
   ·obtain ⟨_,w,_⟩:=l2;exact absurd (Heap.lt_size w) (by rw [<- e];exact Nat.lt_irrefl _)
 ·intro X hP hw hK hc i pins s σ H E I hf st hg
  subst hP hw hK
  obtain ⟨xs,ys,q1,q2,hl⟩:=hg
  obtain ⟨hz,hI,⟨x0,y0,hO⟩,l1,l2⟩:=st
  obtain ⟨aj,rv,p,_⟩:=I.list q1
  obtain ⟨its',Ba,p',_⟩:=I.list q2
  have e1:=rv.length
  have e2:=Ba.length
  refine wpAny_pyNext_zip_end (I.ok.hd hc) (apart hz hI hO l1 l2 p.isList p'.isList) hz hI hO l1 l2 p.isList p'.isList (by simp;omega) fun h1 k1=>⟨rfl,ya (t':=s.toks) I hf fun c o hc e=>?_⟩
  simp only [List.mem_cons,List.not_mem_nil,or_false,not_or] at hc
  exact k1 c o hc.1 hc.2.2.1 hc.2.2.2.1 hc.2.2.2.2 e
theorem Jr {X:Cx} {e1 e2:Expr} {ta:TA} {elts:List Expr} {n1:Nat} {tp p pos:Pos} (hg:Gl X "zip") (hm:X.mg "zip" = none) (ha:PA X [e1,e2] ta) (hs:∀ es,starEach (e1 :: es) X.env = (false,eval e1 X.env) :: starEach es X.env) (Mo:∀ es,starEach (e2 :: es) X.env = (false,eval e2 X.env) :: starEach es X.env) :
  PI X (.Tuple elts n1 tp) (.Call (.Name "zip" p) [e1,e2] [] pos) (fun σ H R=>ta σ H fun vs H1=>∃ a b,vs = [.ref a,.ref b] /\ (∃ xs,du X.K H1 a xs) /\ (∃ ys,du X.K H1 b ys) /\ R (Itz X.K a b) H1):=by
 intro pins s σ H R I h
 refine Call_ (eK I hg hm boot_zip (PyProof.Rows.callWith_type1 (dS (ha pos pins s σ H _ I h) fun us s1 ⟨vs,H1,I1,r1,q1⟩=>?_) (hs _) (by rw [Mo];rfl)))
 obtain ⟨a,b,e,⟨xs,q1⟩,⟨ys,q2⟩,q⟩:=q1
 subst e
 obtain ⟨u,v,rfl,ru,rv⟩:=vals2 r1
 cases ru
 cases rv
 obtain ⟨aj,_,p1,_⟩:=I1.list q1
 obtain ⟨its',_,p2,_⟩:=I1.list q2
 refine call_zip_2 p1.isList p2.isList fun h' z t o l1 l2 sz k=>wpAny_pyIter_zip z ?_
 refine ⟨s1.heap.objs.size + 4,[s1.heap.objs.size + 4,s1.heap.objs.size + 2,s1.heap.objs.size + 3,s1.heap.objs.size,s1.heap.objs.size + 1],_,_,H1,rfl,I1.kept (t':=s1.toks) k,Bx (Nat.ne_of_lt (Nat.lt_succ_self _)) (Nat.ne_of_lt (Nat.lt_succ_self _)),⟨z,t,⟨_,_,o⟩,l1,l2⟩,fun b hb=>?_,q⟩
 have jU:s1.heap.objs.size <= b:=by
  simp only [List.mem_cons,List.not_mem_nil,or_false] at hb
  rcases hb with rfl | rfl | rfl | rfl | rfl <;> first | exact Nat.le_add_right .. | exact Nat.le_refl _
 exact I1.Ds jU (I1.dD.fresh jU)
noncomputable def jl (sc:Scope) (bl:List Str) (e:Expr):Option (List Expr):=match ft e with
 | some z=>match two z.2 with
  | some _=>if z.1 = ("zip" : Str) /\ iV sc z.1 = true /\ z.1 ∈ bl then some z.2 else none
  | none=>none
 | none=>none
theorem rP {sc:Scope} {bl:List Str} {e:Expr} {args:List Expr} (h:jl sc bl e = some args):∃ p pos a b,e = .Call (.Name ("zip" : Str) p) [a,b] [] pos /\ args = [a,b] /\ iV sc ("zip" : Str) = true /\ ("zip" : Str) ∈ bl:=by
 unfold jl at h
 cases hv:ft e with
 | none=>rw [hv] at h;cases h
 | some z =>
  obtain ⟨x,as⟩:=z
  rw [hv] at h
  obtain ⟨p,pos,rfl⟩:=dv hv
  have h:(match two as with | some _=>if x = ("zip" : Str) /\ iV sc x = true /\ x ∈ bl then some as else none | none=>none) = some args:=h
  cases hw:two as with
  | none=>rw [hw] at h;cases h
  | some w =>
   obtain ⟨a,b⟩:=w
   rw [hw] at h
   have h:(if x = ("zip" : Str) /\ iV sc x = true /\ x ∈ bl then some as else none) = some args:=h
   obtain rfl:=n9 hw
   by_cases hc:x = ("zip" : Str) /\ iV sc x = true /\ x ∈ bl
   ·rw [if_pos hc] at h
    cases h
    obtain ⟨rfl,h1,h2⟩:=hc
    exact ⟨_,_,_,_,rfl,rfl,h1,h2⟩
   ·rw [if_neg hc] at h;cases h
theorem Cm {X:Cx} {F:Addr -> Prop} {Φ:aA} {cs:List CE} {a b:Expr} (h:qM X F Φ cs [a,b]):(∃ c d,cs = [c,d] /\ PE X a (tD X F Φ c) /\ PE X b (tD X F Φ d)) /\ PA X [a,b] (uR X F Φ cs) /\ (∀ es,starEach (a :: es) X.env = (false,eval a X.env) :: starEach es X.env) /\ (∀ es,starEach (b :: es) X.env = (false,eval b X.env) :: starEach es X.env):=by
 match cs,h with
 | [c,d],h =>
  obtain ⟨h1,h2,_,h3,h4,_,_⟩:=h
  exact ⟨⟨c,d,rfl,h1,h3⟩,PA.imp (dB h1 (PA.imp (dB h3 (PA.imp gK fun _ _ _ h=>kT h) (h4 _)) fun _ _ _ h=>g_ h) (h2 _)) fun _ _ _ h=>g_ h,h2,h4⟩
 | [],h=>exact h.elim
 | [_],h=>exact h.2.2.2.elim
 | _ :: _ :: _ :: _,h=>exact h.2.2.2.2.2.2.elim
theorem Rep.Sg {K:PySem.W.Frag} {R:Addr -> Prop} {H H':Hp} {k:aH} {v:V} {d:D} (e:ao H H') (h:Rep (aG K H) (nd K R (fun _=>False) (fun _=>none) H) k v d) {k':aH}:Rep (aG K H') (nd K R (fun _=>False) (fun _=>none) H') k' v d :=
 (Rep.sX h (k':=k')).imp (fun _ _ h=>aG.same e h) fun _ _ _ _ h=>nd.same e h
theorem Eh {K:PySem.W.Frag} {p q:Addr} {f g:Fl} {a b:List D} {H2:Hp}:LU K (Itz K p q) H2 [.ref p,.ref q] [.lst f a,.lst g b] (ai aL (List.zipWith (fun x y=>.tup [x,y]) a b)):=by
 have len:(ai aL (List.zipWith (fun x y=>D.tup [x,y]) a b)).length = min a.length b.length:=by rw [aw];simp
 have two:∀ {H':Hp} {R':Addr -> Prop},ag (aG K H') (nd K R' (fun _=>False) (fun _=>none) H') [] 0 [.ref p,.ref q] (ai aL [.lst f a,.lst g b]) ->
   ∃ xs ys,du K H' p xs /\ du K H' q ys /\ ag (aG K H') (nd K R' (fun _=>False) (fun _=>none) H') [0] 0 xs (ai aL a) /\ ag (aG K H') (nd K R' (fun _=>False) (fun _=>none) H') [1] 0 ys (ai aL b):=by
  intro H' R' h
  rw [ai,aD,ai,aD,ai] at h
  cases h with
  | cons h t=>cases t with
   | cons h' t=>cases h with
    | lst h r=>cases h' with
     | lst h' r'=>exact ⟨_,_,h.sq,h'.sq,r,r'⟩
 refine ⟨fun i H' R' _ h hi=>?_,fun i H' R' x nA _ h hi hy=>?_,fun i H' R' _ h hi=>?_⟩
 ·obtain ⟨xs,ys,h1,h2,r1,r2⟩:=two h
  rw [len] at hi
  have l1:=r1.length
  have l2:=r2.length
  rw [aw,List.length_map] at l1 l2
  exact ⟨xs,ys,xs[i]'(by omega),ys[i]'(by omega),h1,h2,List.getElem?_eq_getElem _,List.getElem?_eq_getElem _⟩
 ·obtain ⟨xs,ys,h1,h2,r1,r2⟩:=two h
  obtain ⟨T,u,v,g1,g2,hn,rfl,rfl⟩:=hy
  obtain ⟨d1,e1,p1⟩:=r1.vO (g1 xs h1)
  obtain ⟨d2,e2,p2⟩:=r2.vO (g2 ys h2)
  have es:ao H' (upd H' T (.tup [u,v])):=ao.upd hn
  refine ⟨es,.tup [d1,d2],?_,.tup (aG.of aM) (.cons (p1.Sg es) (.cons (p2.Sg es) .nil))⟩
  rw [aw,List.getElem?_map] at e1 e2 ⊢
  obtain ⟨c1,q1,rfl⟩:=Option.map_eq_some_iff.mp e1
  obtain ⟨c2,q2,rfl⟩:=Option.map_eq_some_iff.mp e2
  rw [List.getElem?_zipWith,q1,q2]
  simp [aD,ai]
 ·obtain ⟨xs,ys,h1,h2,r1,r2⟩:=two h
  rw [len] at hi
  have l1:=r1.length
  have l2:=r2.length
  rw [aw,List.length_map] at l1 l2
  exact ⟨xs,ys,h1,h2,by omega⟩
theorem Il {Φ:aA} {n:Nat} (hΦ:Φ n = zK) {X:Cx} {sc:Scope} {bl:List Str} {k:Nat} (L:PX X sc bl k) {e:Expr} {args:List Expr} (he:jl sc bl e = some args) {F:Addr -> Prop} {cs:List CE} {tg:Expr} (ht:ip tg = true) (hs:qM X F Φ cs args)
  {pins:List (Addr × Obj)} {s:Shared} {σ:St} {H:Hp} {R:Addr -> Prop} {τ:Addr -> Option aH} {ρ:aC} {xs:List D} {d:D} {items:List D} (I:Inv X pins σ H s) (Si:SI X F R τ ρ σ H) (dk:cM Φ cs ρ = ok xs) (ed:Φ n xs = ok d) (ei:qc d = ok items) (Rr:It -> Hp -> Prop)
  (hR:∀ J H2 vs,ao H H2 -> cj X.K (gP X F) R τ (dw cs) H H2 vs xs -> LU X.K J H2 vs xs items -> Rr J H2) :
  wpAny (model X.prog X.w) X.A (eval e X.env) (fun v s1=>wpAny (model X.prog X.w) X.A (pyIter v) (DX X pins σ tg Rr) X.xe s1) X.xe s:=by
 obtain ⟨p,pos,a,b,rfl,rfl,h1,h2⟩:=rP he
 cases tg <;> try (cases ht;done)
 obtain ⟨_,pa,s1,s2⟩:=Cm hs
 refine Jr (L.gl h1) (L.bl _ h2) pa s1 s2 pins s σ H Rr I ⟨R,τ,ρ,xs,Si,dk,fun vs H1 e1 rv=>?_⟩
 have TF:=rv
 obtain ⟨τt,fr,rs⟩:=rv
 rw [hΦ] at ed
 unfold zK at ed
 split at ed
 ·cases ed
  cases ei
  obtain ⟨v,w,rfl,rx,ry⟩:=rs.two
  cases rx with
  | lst hx _=>cases ry with
   | lst hy _=>exact ⟨_,_,rfl,⟨_,hx.sq⟩,⟨_,hy.sq⟩,hR _ H1 _ e1 TF Eh⟩
 ·cases ed
end DI
end
section
namespace DI
open PySem PySem.Spec PyProof.Rows L2
end DI
end
section
namespace DI
open PySem PySem.Spec PyProof.Rows L2
section
variable {X:Cx}
end
noncomputable def gQ (f:Str) (sc:Scope) (bl:List Str) (e:Expr):Option (List Expr):=match ft e with
 | some z=>match one z.2 with
  | some _=>if z.1 = f /\ iV sc z.1 = true /\ z.1 ∈ bl then some z.2 else none
  | none=>none
 | none=>none
theorem jH {f:Str} {sc:Scope} {bl:List Str} {e:Expr} {args:List Expr} (h:gQ f sc bl e = some args):∃ p pos a,e = .Call (.Name f p) [a] [] pos /\ args = [a] /\ iV sc f = true /\ f ∈ bl:=by
 unfold gQ at h
 cases hv:ft e with
 | none=>rw [hv] at h;cases h
 | some z =>
  obtain ⟨x,as⟩:=z
  rw [hv] at h
  obtain ⟨p,pos,rfl⟩:=dv hv
  have h:(match one as with | some _=>if x = f /\ iV sc x = true /\ x ∈ bl then some as else none | none=>none) = some args:=h
  cases hw:one as with
  | none=>rw [hw] at h;cases h
  | some a =>
   rw [hw] at h
   have h:(if x = f /\ iV sc x = true /\ x ∈ bl then some as else none) = some args:=h
   obtain rfl:=cB hw
   by_cases hc:x = f /\ iV sc x = true /\ x ∈ bl
   ·rw [if_pos hc] at h
    cases h
    obtain ⟨rfl,h1,h2⟩:=hc
    exact ⟨_,_,_,rfl,rfl,h1,h2⟩
   ·rw [if_neg hc] at h;cases h
end DI
end
section
namespace DI
open PySem PySem.Spec PyProof.Rows L2
theorem A3:bootBuiltins "enumerate" = some (.type "enumerate"):=by decide +kernel
noncomputable def bj (k:Nat):List D -> List D
 | []=>[]
 | x :: xs=>.tup [.int k,x] :: bj (k + 1) xs
theorem lB:∀ (a:List D) (k i:Nat),(bj k a)[i]? = (a[i]?).map fun x=>.tup [.int ((k + i:Nat):Int),x]
 | [],k,i=>by simp [bj]
 | x :: xs,k,0=>by simp [bj]
 | x :: xs,k,i + 1=>by
  rw [bj,List.getElem?_cons_succ,List.getElem?_cons_succ,lB xs (k + 1) i,show k + 1 + i = k + (i + 1) by omega]
theorem lA:∀ (a:List D) (k:Nat),(bj k a).length = a.length
 | [],k=>rfl
 | x :: xs,k=>by rw [bj,List.length_cons,List.length_cons,lA xs]
theorem yx {X:Cx} {F:Addr -> Prop} {Φ:aA} {cs:List CE} {a:Expr} (h:qM X F Φ cs [a]):PA X [a] (uR X F Φ cs) /\ (∀ es,starEach (a :: es) X.env = (false,eval a X.env) :: starEach es X.env):=by
 match cs,h with
 | [c],h =>
  obtain ⟨h1,h2,_,_⟩:=h
  exact ⟨PA.imp (dB h1 (PA.imp gK fun _ _ _ h=>kT h) (h2 _)) fun _ _ _ h=>g_ h,h2⟩
 | [],h=>exact h.elim
 | _ :: _ :: _,h=>exact h.2.2.2.elim
end DI
end
section
namespace DI
open PySem PySem.Spec PyProof.Rows L2
section
variable {prog:Program} {w:World} {A:Around} {E:Value -> Shared -> Prop} {s:Shared}
noncomputable def ux (h:Heap) (vs:List Value) (nss:List (List Int)):Prop:=vs.length = nss.length /\ ∀ (i:Nat) (ns:List Int),nss[i]? = some ns -> ∃ t aj,vs[i]? = some (.ref t) /\ IsTup h t aj.toArray /\ IntsAre aj ns /\ ns ≠ []
theorem vA {fin:Bool} {Q:Bool -> Shared -> Prop}:∀ {aj FV:List Value} {ns ms:List Int} (i:Nat),IntsAre aj ns -> IntsAre FV ms -> fin = decide (aj.length < FV.length) -> Q (HT.lexLt ns ms) s -> PySem.W.KatLex prog w A true fin Q (aj.zip FV) i s
 | _,_,_,_,i,.nil,.nil,hf,h=>by subst hf;exact h
 | _,_,_,_,i,.nil,.cons _ _ _,hf,h=>by subst hf;exact h
 | _,_,_,_,i,.cons _ _ _,.nil,hf,h=>by subst hf;exact h
 | _,_,_,_,i,.cons (ns:=ns) a t h1,.cons (ns:=ms) b u h2,hf,h=>by
  rw [HT.dP] at h
  refine PySem.W.kat_cons (wpAny_eqBool_int (PySem.W.kat_go (fun e=>?_) fun e=>?_))
  ·have e:a = b:=by simpa using e
   rw [if_pos e] at h
   exact PySem.W.kat_yes (vA (i + 1) h1 h2 (by rw [hf];simp) h)
  ·have e:¬ a = b:=by simpa using e
   rw [if_neg e] at h
   refine PySem.W.kat_no ?_
   rw [Bool.true_and]
   cases i == 0 with
   | true=>exact oneLt_int h
   | false=>exact PySem.W.kat_one _ _ (lt_int h)
theorem ux.mono {h h':Heap} {vs:List Value} {nss:List (List Int)} (k:∀ b o,h.get? b = some o -> h'.get? b = some o) (t:ux h vs nss):ux h' vs nss :=
 ⟨t.1,fun i ns e=>let ⟨a,aj,e1,⟨o,ho,r⟩,e3⟩:=t.2 i ns e;⟨a,aj,e1,⟨o,k _ _ ho,r⟩,e3⟩⟩
end
end DI
end
section
namespace DI
open PySem PySem.Spec PyProof.Rows L2
noncomputable def fV (ns:List Int):D:=.tup (ns.map D.int)
end DI
end
section
namespace DI
open PySem PySem.Spec PyProof.Rows L2
theorem ag.QE {T:kO} {N:iU} {q:aH}:∀ {n:Nat} {vs ws:List V} {ds es:List D},ag T N q n vs ds -> ag T N q (n + ds.length) ws es -> ag T N q n (vs ++ ws) (ds ++ es)
 | _,_,_,_,_,.nil,h=>h
 | n,_,_,_,_,.cons (ds:=ds) h t,h'=>.cons h (ag.QE t (by
   rw [List.length_cons,Nat.add_comm ds.length 1,<- Nat.add_assoc] at h';exact h'))
theorem EL {K:PySem.W.Frag} {H:Hp} {p a:Addr} {xs ys:List V} {o:HO} (hp:H p = some (.lst xs)) (h:aG K H a ys):aG K (upd H p o) a ys:=by
 rcases h with (h | ⟨o',h⟩) | h
 ·exact .inl (.inl (by rw [aK (fun z=>by subst z;rw [hp] at h;cases h)];exact h))
 ·exact .inl (.inr ⟨o',by rw [aK (fun z=>by subst z;rw [hp] at h;cases h)];exact h⟩)
 ·exact .inr h
theorem FI {Φ:aA} {n i:Nat} {cs:List CE} {xs:List D} {ρ:aC} {r:Fo × aC} (ev:xh Φ n i (oO cs xs ρ) = ok r) (ha:az cn xs = false):∃ d d',ρ[i]? = some (some d) /\ Φ n (d :: xs) = ok d' /\ r = (.nx,ρ.set i (some d')):=by
 unfold oO at ev
 rw [if_neg (by rw [ha];exact Bool.false_ne_true)] at ev
 unfold xh at ev
 split at ev
 ·rename_i d hd
  obtain ⟨d',h1,h2⟩:=ah ev
  cases h2
  exact ⟨d,d',hd,h1,rfl⟩
 ·cases ev
theorem JS {Φ:aA} {n i:Nat} {cs:List CE} {xs:List D} {ρ:aC} {r:Fo × aC} (ev:xh Φ n i (oO cs xs ρ) = ok r) (ha:az cn xs = true):∃ d d',Φ n (d :: ai aL xs) = ok d':=by
 unfold oO at ev
 rw [if_pos ha] at ev
 unfold xh at ev
 split at ev
 ·rename_i d hd
  obtain ⟨d',h1,h2⟩:=ah ev
  exact ⟨d,d',h1⟩
 ·cases ev
noncomputable def JC:D -> Option (List D)
 | .lst f ds=>if fe f then some ds else none
 | _=>none
theorem Cq {d:D} {ds:List D} (h:JC d = some ds):d = .lst .ow ds:=by
 cases d <;> first | (cases h;done) | skip
 rename_i f es
 have h:(if fe f then some es else none) = some ds:=h
 cases f <;> first | (cases h;rfl) | (cases h;done)
noncomputable def tN (xs:List D):O D:=match two xs with
 | some z=>match JC z.1 with
  | some ds=>match JC z.2 with
   | some es=>if az anyF es = false /\ ds.length + es.length <= eN then ok (.lst .ow (ds ++ es)) else none
   | none=>none
  | none=>none
 | none=>none
theorem zg {x y d:D} (h:tN [x,y] = ok d):∃ ds es,x = .lst .ow ds /\ y = .lst .ow es /\ az anyF es = false /\ ds.length + es.length <= eN /\ d = .lst .ow (ds ++ es):=by
 have h:(match JC x with | some ds=>(match JC y with | some es=>if az anyF es = false /\ ds.length + es.length <= eN then ok (.lst .ow (ds ++ es)) else none | none=>none) | none=>none) = ok d:=h
 cases h1:JC x with
 | none=>rw [h1] at h;cases h
 | some ds=>cases h2:JC y with
  | none=>rw [h1,h2] at h;cases h
  | some es =>
   rw [h1,h2] at h
   obtain ⟨⟨h3,h4⟩,h5⟩:=qp h
   exact ⟨ds,es,Cq h1,Cq h2,h3,h4,h5.symm⟩
noncomputable def qP (m:Str) (st:Stmt):Option (Expr × List Expr):=match MS st with
 | some c=>match r_ c with
  | some z=>match x_ z.1 with
   | some y=>if y.2.1 = m /\ z.2.2.1 = [] /\ (y.2.2.endLine == z.2.2.2.line) = true then some (y.1,z.2.1) else none
   | none=>none
  | none=>none
 | none=>none
theorem uK {m:Str} {st:Stmt} {o:Expr} {as:List Expr} (h:qP m st = some (o,as)):∃ p1 p2 pos,st = .Expr (.Call (.Attribute o m p1) as [] p2) pos /\ (p1.endLine == p2.line) = true:=by
 unfold qP at h
 cases h1:MS st with
 | none=>rw [h1] at h;cases h
 | some c =>
  obtain ⟨pos,rfl⟩:=wO h1
  rw [h1] at h
  cases h2:r_ c with
  | none=>simp only [h2] at h;cases h
  | some z =>
   obtain ⟨f,as',ks,p2⟩:=z
   obtain rfl:=qQ h2
   simp only [h2] at h
   cases h3:x_ f with
   | none=>simp only [h3] at h;cases h
   | some y =>
    obtain ⟨o',a,p1⟩:=y
    obtain rfl:=uM h3
    simp only [h3] at h
    by_cases hc:a = m /\ ks = [] /\ (p1.endLine == p2.line) = true
    ·rw [if_pos hc] at h
     cases h
     obtain ⟨rfl,rfl,hl⟩:=hc
     exact ⟨p1,p2,pos,rfl,hl⟩
    ·rw [if_neg hc] at h;cases h
noncomputable def xS (_:Scope) (_:List Str) (st:Stmt):Option (Expr × List Expr):=match qP ("extend" : Str) st with
 | some z=>match one z.2 with
  | some _=>some z
  | none=>none
 | none=>none
theorem Ls {Φ:aA} {n:Nat} (hΦ:Φ n = tN) {X:Cx} {sc:Scope} {bl:List Str} {k:Nat} (L:PX X sc bl k) (hN:X.N.Nodup) (D7:∀ x,X.fn x = true) {st:Stmt} {x:Str} {pos:Pos} {args:List Expr} (he:xS sc bl st = some (.Name x pos,args))
  {i:Nat} (hi:X.N[i]? = some x) (hl:L2.Loc X.env.scope x) (pe:PE X (.Name x pos) (ED i)) {F:Addr -> Prop} {cs:List CE} (hs:qM X F Φ cs args):PS X st (wZ X F Φ (.mut n i cs)):=by
 unfold xS at he
 cases h1:qP ("extend" : Str) st with
 | none=>rw [h1] at he;cases he
 | some z =>
  rw [h1] at he
  obtain ⟨o,as⟩:=z
  cases h2:one as with
  | none=>simp only [h2] at he;cases he
  | some v =>
   simp only [h2] at he
   cases he
   obtain rfl:=cB h2
   obtain ⟨p1,p2,pos',rfl,Mq⟩:=uK h1
   cases cs with
   | nil=>exact hs.elim
   | cons c cs=>cases cs with
    | cons _ _=>exact hs.2.2.2.elim
    | nil =>
     refine PS.imp (sO (Ck PySem.F.plainAttrs_list PySem.F.slot_list_extend PySem.F.type_list_extend Ah pe (dB hs.1 gK (hs.2.1 _)) (hfew:=by rw [hs.2.1];rfl) (hline:=Mq) (hs:=hs.2.1 _))) fun D σ H hq=>?_
     obtain ⟨R,τ,ρ,r,Si,ev,hq⟩:=hq
     obtain ⟨xs,dk,ev⟩:=ah ev
     obtain ⟨y,ey,dk⟩:=ah dk
     cases dk
     have key:∃ ds es,y = .lst .ow es /\ ρ[i]? = some (some (.lst .ow ds)) /\ az anyF es = false /\ ds.length + es.length <= eN /\ r = (.nx,ρ.set i (some (.lst .ow (ds ++ es)))):=by
      cases hz:az cn [y] with
      | true =>
       obtain ⟨d,d',h⟩:=JS ev hz
       rw [hΦ] at h
       obtain ⟨ds,es,_,h3,_⟩:=zg h
       cases y <;> first | (cases h3;done) | skip
       rename_i f RL
       cases f <;> cases h3
      | false =>
       obtain ⟨d,d',h,h',rfl⟩:=FI ev hz
       rw [hΦ] at h'
       obtain ⟨ds,es,rfl,rfl,h3,h4,rfl⟩:=zg h'
       exact ⟨ds,es,rfl,h,h3,h4,rfl⟩
     obtain ⟨ds,es,rfl,ho,hf,hc,rfl⟩:=key
     obtain ⟨a,xs,hv,ha,hxl,hta,_⟩:=Si.own ho
     refine ⟨.ref a,hv,.inl ⟨rfl,_,du.of ha⟩,tD.intro Si ey fun u H1 e1 ru=>?_⟩
     have wM:=Si.go e1
     obtain ⟨a1,R_,Ku,HS,W_,C1,Jg⟩:=wM.own ho
     rw [hv] at Ku
     cases Ku
     obtain ⟨τt,fr,rp⟩:=ru
     cases rp with
     | @lst _ b zs _ _ hb rz =>
      have hz:sizeLine = 16777216:=sizeLine_eq
      have m9:eN = 1000000:=rfl
      have hzl:=rz.length
      refine ⟨a,b,R_,zs,rfl,rfl,HS,hb.1,by omega,?_⟩
      obtain ⟨τ2,A7⟩:=wM.put (m:=0) (g:=fun ys=>ys ++ zs) (v:=.int 0) (d:=.int 0) ho hv HS C1 Jg ⟨fun _=>none,fun _ _ h=>by simp at h,.int 0⟩ fun rs _=>ag.QE rs (rz.without (P:=anyF) (fun _ _ h=>EL HS h) (fun _ _ _ _ _ h=>by cases h) hf _ _)
      exact hq σ _ R τ2 A7 (xp (n:=.l _) wM e1 (fun _ h=>h) HS C1)
end DI
end
section
namespace DI
open PySem PySem.Spec PyProof.Rows L2
section
variable {X:Cx} {F R:Addr -> Prop} {τ:Addr -> Option aH} {ρ:aC} {σ:St} {H:Hp}
end
end DI
end
section
namespace DI
open PySem PySem.Spec PyProof.Rows L2
section
variable {prog:Program} {w:World} {A:Around} {E:Value -> Shared -> Prop} {s:Shared}
theorem uN {it l:Addr}:∀ {s:Shared} {i:Nat} {Q E:Value -> Shared -> Prop},s.heap.IsTupleIter it l i -> (∀ o,s.heap.get? it = some o -> o.cls = .type "tuple_iterator" -> o.data = .fields #[.ref l,.int i 0] -> wpAny (model prog w) A.in1 (Builtin.«tuple_iterator.__next__» ⟨[.ref it],[]⟩) (fun fin s'=>∃ v,fin = .done (.ret v) /\ Q v s') E s) -> wpAny (model prog w) A (Builtin.SmallTypes.nextOf (.ref it)) Q E s:=by
 intro s i Q E hit h
 obtain ⟨o,ho,hc,hd⟩:=id hit
 unfold Builtin.SmallTypes.nextOf
 exact wpAny_bind (wpAny_callSpecial?_slot (name:=Str.ofString "__next__") hit.typeIs F.slot_tuple_iterator_next (wpAny_call_entry F.slot_tuple_iterator_next hit.typeIs F.entry_tuple_iterator_next (wpAny_mono (h o ho hc hd) (fun fin s' ⟨v,e,q⟩=>⟨v,e,wpAny_pure q⟩) fun _ _ e=>e) (F.args_tuple_iterator_next_1 _)))
noncomputable def Ends (prog:Program) (w:World) (A:Around) (it:Addr) (S:Heap -> Prop):Prop:=∀ (s:Shared) (Q E:Value -> Shared -> Prop),S s.heap -> (∀ h' e,Heap.ExtBut it s.heap h' -> (∃ o,h'.get? e = some o /\ o.cls = .type "StopIteration") -> E (.ref e) { s with heap:=h' }) -> wpAny (model prog w) A (Builtin.SmallTypes.nextOf (.ref it)) Q E s
theorem qS (hh:A.handled = none) {it l:Addr} {items:Array Value} {i:Nat} (hi:items[i]? = none):Ends prog w A it (fun h=>h.IsTupleIter it l i /\ h.IsTuple l items):=by
 intro s Q E st hE
 refine uN st.1 fun o ho hc hd=>?_
 obtain ⟨ol,Xm,_,nl,Rv⟩:=id st.2
 show wpAny _ _ (field (.ref it) 0 >>= _) _ _ _
 refine wpAny_bind (wpAny_field ho hd (x:=.ref l) rfl ?_)
 rw [if_neg (show ¬ (Value.ref l == Value.none) = true from Bool.false_ne_true)]
 refine wpAny_bind (wpAny_field ho hd (x:=.int i 0) rfl (wpAny_bind (wpAny_seqItems Xm Rv ?_)))
 simp only [Int.toNat_natCast,hi]
 refine wpAny_bind (wpAny_rule (wpAny_bind (wpAny_setField ho hd (by simp) ?_)))
 show wpAny _ _ (newExc (.type "StopIteration") [] >>= _) _ _ _
 refine wpAny_bind ?_
 simp only [newExc,newTuple]
 refine wpAny_bind (wpAny_newObj_type (wpAny_bind (m:=firstArgMember _ _) (wpAny_of_eq (a:=Value.none) (by first | rfl | (simp only [firstArgMember];rfl)) (wpAny_newObj_type ?_ (by size_fits)))) (by size_fits))
 simp only [raiseNew]
 refine wpAny_bind (wpAny_handled ?_)
 rw [show A.in1.in1.handled = none from hh]
 exact wpAny_bind (wpAny_pure (wpAny_throw (hE _ _ (((Heap.SameBut.update ..).extBut.push _).push _) ⟨_,Heap.get?_push_size _ rfl,rfl⟩)))
theorem v9 (hh:A.handled = none) (it l:Addr) (Gf:l ≠ it) (items:Array Value):Draws prog w A it [it,l] items.size (fun i v=>items[i]? = some v) (fun i h=>h.IsTupleIter it l i /\ h.IsTuple l items):=by
 refine ⟨fun _ _ st=>let ⟨o,ho,_⟩:=st.1;⟨o,ho⟩,fun _ _ _ st hk=>?_,fun i s Q E hi st hQ=>?_,fun s Q E st hE=>?_⟩
 ·obtain ⟨⟨o,ho,r⟩,o',e9,r'⟩:=st
  exact ⟨⟨o,hk it (by simp) o ho,r⟩,o',hk l (by simp) o' e9,r'⟩
 ·refine uN st.1 fun o ho hc hd=>?_
  obtain ⟨ol,Xm,_,nl,Rv⟩:=id st.2
  show wpAny _ _ (field (.ref it) 0 >>= _) _ _ _
  refine wpAny_bind (wpAny_field ho hd (x:=.ref l) rfl ?_)
  rw [if_neg (show ¬ (Value.ref l == Value.none) = true from Bool.false_ne_true)]
  refine wpAny_bind (wpAny_field ho hd (x:=.int i 0) rfl (wpAny_bind (wpAny_seqItems Xm Rv ?_)))
  simp only [Int.toNat_natCast,show items[i]? = some items[i] by simp [hi]]
  refine wpAny_bind (wpAny_setField ho hd (by simp) (wpAny_pure ⟨_,rfl,hQ _ _ s.toks (by simp [hi]) ⟨?_,st.2.extBut (Heap.SameBut.update ..).extBut Gf⟩ (Heap.SameBut.update ..)⟩))
  exact ⟨_,Heap.get?_update_self _ ho (Obj.isFreed_of_fields (Obj.data_mapFields hd _)),(Obj.cls_mapFields ..).trans hc,by rw [Obj.data_mapFields hd];simp [rawInt]⟩
 ·exact qS hh (by simp) s Q E st hE
structure abc (z TI TO i1 i2:Addr) (f1 f2:List Addr):Prop where
 n1:TI ≠ z /\ TO ≠ z /\ i1 ≠ z /\ i2 ≠ z
 n2:TI ≠ TO /\ TI ≠ i1 /\ TI ≠ i2 /\ TO ≠ i1 /\ TO ≠ i2 /\ i1 ≠ i2
 f1:z ∉ f1 /\ TO ∉ f1 /\ i2 ∉ f1
 f2:z ∉ f2 /\ TO ∉ f2 /\ i1 ∉ f2
section
variable {z TI TO i1 i2:Addr} {f1 f2:List Addr} {n1 n2 k:Nat} {P1 P2:Nat -> Value -> Prop} {S1 S2:Nat -> Heap -> Prop} {a b:Value}
end
end
end DI
end
section
namespace DI
open PySem PySem.Spec PyProof.Rows L2
end DI
end
section
namespace DI
open PySem PySem.Spec PyProof.Rows L2
noncomputable abbrev uw (h:Heap) (z TI TO a:Addr) (f:Bool):Prop :=
 h.get? z = some { cls:=.type "zip",dict:=none,data:=.fields #[rawInt a,.bool f,.bool false,.ref TI,.ref TO],slots:=#[] }
section
variable {prog:Program} {w:World} {A:Around} {E:Value -> Shared -> Prop} {s:Shared}
theorem Bp {a:Addr} {o:Obj} {Q:Option Obj -> Shared -> Prop} (ho:s.heap.get? a = some o) (h:Q (some o) s):wpAny (model prog w) A (loadIfAlive a) Q E s:=by
 have h':Q (s.heap.get? a) s:=by rw [ho];exact h
 exact fun _ _ _=>h'
theorem x6 {z TI TO a:Addr} {f:Bool} {oa:Obj} {Q:Bool -> Shared -> Prop} (hz:uw s.heap z TI TO a f) (ha:s.heap.get? a = some oa) (hQ:∀ h',uw h' z TI TO a true -> Heap.SameBut z s.heap h' -> Q false { s with heap:=h' }) :
  wpAny (model prog w) A (Builtin.SmallTypes.ownedTupleIsFree (.ref z)) Q E s:=by
 unfold Builtin.SmallTypes.ownedTupleIsFree
 refine wpAny_bind (wpAny_field hz rfl (x:=rawInt a) rfl ?_)
 show wpAny _ _ (loadIfAlive ((a:Int).toNat) >>= _) _ _ _
 rw [Int.toNat_natCast]
 refine wpAny_bind (Bp ha ?_)
 simp only [Option.isNone_some,Bool.false_eq_true,if_false]
 refine wpAny_bind (wpAny_field hz rfl (x:=.bool f) rfl ?_)
 cases f with
 | true =>
  rw [if_neg (show ¬ ((Value.bool true != Value.bool true) = true) from Bool.false_ne_true)]
  exact wpAny_pure (hQ s.heap hz (Heap.SameBut.refl _ _))
 | false =>
  rw [if_pos (show (Value.bool false != Value.bool true) = true from rfl)]
  exact wpAny_bind (wpAny_setField_rec hz (by simp) fun h₃ OS mR=>wpAny_pure (hQ h₃ OS mR))
theorem uJ {z TI TO i1 i2 l1 l2 a:Addr} {f:Bool} {oa:Obj} {k1 k2:Nat} {xs ys:Array Value} {x y:Value} {Q:Value -> Shared -> Prop} (D:ZipApart z TI TO i1 i2 l1 l2)
  (hz:uw s.heap z TI TO a f) (ha:s.heap.get? a = some oa) (D9:IsPair s.heap TI (.ref i1) (.ref i2))
  (h1:s.heap.IsListIter i1 l1 k1) (h2:s.heap.IsListIter i2 l2 k2) (D5:s.heap.IsList l1 xs) (Ax:s.heap.IsList l2 ys) (hx:xs[k1]? = some x) (hy:ys[k2]? = some y)
  (hQ:∀ h',uw h' z TI TO a true -> h'.IsListIter i1 l1 (k1 + 1) -> h'.IsListIter i2 l2 (k2 + 1) -> IsPair h' s.heap.objs.size x y -> h'.objs.size = s.heap.objs.size + 1 ->
   (∀ c o,c ≠ z -> c ≠ i1 -> c ≠ i2 -> s.heap.get? c = some o -> h'.get? c = some o) -> Q (.ref s.heap.objs.size) { s with heap:=h' }) :
  wpAny (model prog w) A (Builtin.«zip.__next__» ⟨[.ref z],[]⟩) (fun fin s'=>∃ v,fin = .done (.ret v) /\ Q v s') E s:=by
 show wpAny _ _ (field (.ref z) 2 >>= _) _ _ _
 refine wpAny_bind (wpAny_field hz rfl (x:=.bool false) rfl ?_)
 show wpAny _ _ (field (.ref z) 3 >>= _) _ _ _
 refine wpAny_bind (wpAny_field hz rfl (x:=.ref TI) rfl ?_)
 refine wpAny_bind (wpAny_seqItems D9 rfl ?_)
 show wpAny _ _ (Builtin.SmallTypes.ownedTupleIsFree (.ref z) >>= _) _ _ _
 refine wpAny_bind (x6 hz ha fun h₁ HK fZ=>?_)
 simp only [Bool.false_eq_true,if_false]
 refine wpAny_bind ?_
 rw [<- Array.forIn_toList]
 simp only [List.forIn_cons,List.forIn_nil]
 refine wpAny_bind (wpAny_bind (wpAny_holding ?_))
 show wpAny _ _ (Builtin.SmallTypes.nextOf (.ref i1) >>= _) _ _ _
 refine wpAny_bind (wpAny_nextOf_list_item (h1.extBut fZ.extBut D.i1z) (D5.extBut fZ.extBut D.l1z) hx fun h₂ HU jd=>wpAny_pure ?_)
 refine wpAny_pure ?_
 refine wpAny_bind (wpAny_bind (wpAny_holding ?_))
 show wpAny _ _ (Builtin.SmallTypes.nextOf (.ref i2) >>= _) _ _ _
 refine wpAny_bind (wpAny_nextOf_list_item ((h2.extBut fZ.extBut D.i2z).extBut jd.extBut D.i12.symm) ((Ax.extBut fZ.extBut D.l2z).extBut jd.extBut D.l2i1) hy fun h₃ O_ mR=>wpAny_pure ?_)
 refine wpAny_pure ?_
 refine wpAny_pure ?_
 have td:h₃.objs.size = s.heap.objs.size:=by rw [mR.1,jd.1,fZ.1]
 refine wpAny_bind (wpAny_newTuple ?_ (by show 2 <= _;rw [sizeLine_eq];decide))
 refine wpAny_pure ⟨_,rfl,?_⟩
 show Q (.ref h₃.objs.size) _
 have iX:∀ {c o},h₃.get? c = some o -> c ≠ h₃.objs.size:=fun e=>Nat.ne_of_lt (Heap.lt_size e)
 have hk:∀ c o,c ≠ z -> c ≠ i1 -> c ≠ i2 -> s.heap.get? c = some o -> (h₃.push { cls:=.type "tuple",data:=.seq #[x,y] }).get? c = some o:=fun c o c1 c2 c3 e=>Heap.get?_push_of_some _ (mR.extBut _ _ c3 (jd.extBut _ _ c2 (fZ.extBut _ _ c1 e)))
 rw [td]
 refine hQ _ (Heap.get?_push_of_some _ (mR.extBut _ _ D.i2z.symm (jd.extBut _ _ D.i1z.symm HK))) ((HU.extBut mR.extBut D.i12).at fun o e=>Heap.get?_push_of_some _ e) (O_.at fun o e=>Heap.get?_push_of_some _ e) ?_ (by rw [Heap.size_push,td]) hk
 rw [<- td]
 exact Heap.get?_push_size _ rfl
theorem wN {z TI TO i1 i2 l1 l2 a:Addr} {f:Bool} {oa:Obj} {k1 k2:Nat} {xs ys:Array Value} {Q:Fin -> Shared -> Prop} (hh:A.handled = none) (D:ZipApart z TI TO i1 i2 l1 l2)
  (hz:uw s.heap z TI TO a f) (ha:s.heap.get? a = some oa) (D9:IsPair s.heap TI (.ref i1) (.ref i2))
  (h1:s.heap.IsListIter i1 l1 k1) (h2:s.heap.IsListIter i2 l2 k2) (D5:s.heap.IsList l1 xs) (Ax:s.heap.IsList l2 ys) (vK:xs[k1]? = none \/ ys[k2]? = none)
  (hE:∀ h' e,(∀ c o,c ≠ z -> c ≠ i1 -> c ≠ i2 -> s.heap.get? c = some o -> h'.get? c = some o) -> (∃ o,h'.get? e = some o /\ o.cls = .type "StopIteration") -> E (.ref e) { s with heap:=h' }) :
  wpAny (model prog w) A (Builtin.«zip.__next__» ⟨[.ref z],[]⟩) Q E s:=by
 show wpAny _ _ (field (.ref z) 2 >>= _) _ _ _
 refine wpAny_bind (wpAny_field hz rfl (x:=.bool false) rfl ?_)
 show wpAny _ _ (field (.ref z) 3 >>= _) _ _ _
 refine wpAny_bind (wpAny_field hz rfl (x:=.ref TI) rfl ?_)
 refine wpAny_bind (wpAny_seqItems D9 rfl ?_)
 show wpAny _ _ (Builtin.SmallTypes.ownedTupleIsFree (.ref z) >>= _) _ _ _
 refine wpAny_bind (x6 hz ha fun h₁ HK fZ=>?_)
 simp only [Bool.false_eq_true,if_false]
 refine wpAny_bind ?_
 rw [<- Array.forIn_toList]
 simp only [List.forIn_cons,List.forIn_nil]
 refine wpAny_bind (wpAny_bind (wpAny_holding ?_))
 show wpAny _ _ (Builtin.SmallTypes.nextOf (.ref i1) >>= _) _ _ _
 cases hx:xs[k1]? with
 | none =>
  refine wpAny_bind (wpAny_nextOf_list_end hh (h1.extBut fZ.extBut D.i1z) (D5.extBut fZ.extBut D.l1z) hx fun h₂ e jd he=>?_)
  exact hE h₂ e (fun c o c1 c2 c3 x=>jd _ _ c2 (fZ.extBut _ _ c1 x)) he
 | some x =>
  have hy:ys[k2]? = none:=by rcases vK with h | h;rw [hx] at h;cases h;exact h
  refine wpAny_bind (wpAny_nextOf_list_item (h1.extBut fZ.extBut D.i1z) (D5.extBut fZ.extBut D.l1z) hx fun h₂ HU jd=>wpAny_pure ?_)
  refine wpAny_pure ?_
  refine wpAny_bind (wpAny_bind (wpAny_holding ?_))
  show wpAny _ _ (Builtin.SmallTypes.nextOf (.ref i2) >>= _) _ _ _
  refine wpAny_bind (wpAny_nextOf_list_end hh ((h2.extBut fZ.extBut D.i2z).extBut jd.extBut D.i12.symm) ((Ax.extBut fZ.extBut D.l2z).extBut jd.extBut D.l2i1) hy fun h₃ e mR he=>?_)
  exact hE h₃ e (fun c o c1 c2 c3 x=>mR _ _ c3 (jd.extBut _ _ c2 (fZ.extBut _ _ c1 x))) he
theorem n4 {z TI TO i1 i2 l1 l2 a:Addr} {f:Bool} {oa:Obj} {k1 k2:Nat} {xs ys:Array Value} {x y:Value} {Q:Option Value -> Shared -> Prop} (D:ZipApart z TI TO i1 i2 l1 l2)
  (hz:uw s.heap z TI TO a f) (ha:s.heap.get? a = some oa) (D9:IsPair s.heap TI (.ref i1) (.ref i2))
  (h1:s.heap.IsListIter i1 l1 k1) (h2:s.heap.IsListIter i2 l2 k2) (D5:s.heap.IsList l1 xs) (Ax:s.heap.IsList l2 ys) (hx:xs[k1]? = some x) (hy:ys[k2]? = some y)
  (hQ:∀ h',uw h' z TI TO a true -> h'.IsListIter i1 l1 (k1 + 1) -> h'.IsListIter i2 l2 (k2 + 1) -> IsPair h' s.heap.objs.size x y -> h'.objs.size = s.heap.objs.size + 1 ->
   (∀ c o,c ≠ z -> c ≠ i1 -> c ≠ i2 -> s.heap.get? c = some o -> h'.get? c = some o) -> Q (some (.ref s.heap.objs.size)) { s with heap:=h' }) :
  wpAny (model prog w) A (pyNext (.ref z)) Q E s:=by
 have hT:s.TypeIs (.ref z) "zip":=⟨_,hz,rfl⟩
 unfold pyNext
 exact wpAny_bind (wpAny_attempt (wpAny_callSpecial?_slot (name:=Str.ofString "__next__") hT PySem.F.slot_zip_next
  (wpAny_call_entry PySem.F.slot_zip_next hT PySem.F.entry_zip_next
   (uJ D hz ha D9 h1 h2 D5 Ax hx hy fun h' a1 a2 a3 a4 a5 a6=>wpAny_pure (hQ h' a1 a2 a3 a4 a5 a6)) (PySem.F.args_zip_next_1 _))))
theorem p3 {z TI TO i1 i2 l1 l2 a:Addr} {f:Bool} {oa:Obj} {k1 k2:Nat} {xs ys:Array Value} {Q:Option Value -> Shared -> Prop} (hh:A.handled = none) (D:ZipApart z TI TO i1 i2 l1 l2)
  (hz:uw s.heap z TI TO a f) (ha:s.heap.get? a = some oa) (D9:IsPair s.heap TI (.ref i1) (.ref i2))
  (h1:s.heap.IsListIter i1 l1 k1) (h2:s.heap.IsListIter i2 l2 k2) (D5:s.heap.IsList l1 xs) (Ax:s.heap.IsList l2 ys) (vK:xs[k1]? = none \/ ys[k2]? = none)
  (hQ:∀ h',(∀ c o,c ≠ z -> c ≠ i1 -> c ≠ i2 -> s.heap.get? c = some o -> h'.get? c = some o) -> Q none { s with heap:=h' }):wpAny (model prog w) A (pyNext (.ref z)) Q E s:=by
 have hT:s.TypeIs (.ref z) "zip":=⟨_,hz,rfl⟩
 unfold pyNext
 refine wpAny_bind (wpAny_attempt (wpAny_callSpecial?_slot (name:=Str.ofString "__next__") hT PySem.F.slot_zip_next
  (wpAny_call_entry PySem.F.slot_zip_next hT PySem.F.entry_zip_next (wN hh D hz ha D9 h1 h2 D5 Ax vK fun h' e hk he=>?_) (PySem.F.args_zip_next_1 _))))
 obtain ⟨o,ho,hc⟩:=he
 refine wpAny_bind (wpAny_isInstance (T:="StopIteration") (b:=true) ⟨o,ho,hc⟩ isSubtype_stop ?_)
 exact wpAny_pure (hQ _ hk)
end
end DI
end
section
namespace DI
open PySem PySem.Spec PyProof.Rows L2
theorem Ik:typeLookup (.type "zip") "__len__" = pure none:=by rw [typeLookup_type,builtinLookup_eq_fast];kernel_rfl
theorem MJ:typeLookup (.type "zip") "__length_hint__" = pure none:=by rw [typeLookup_type,builtinLookup_eq_fast];kernel_rfl
section
variable {prog:Program} {w:World} {A:Around} {E:Value -> Shared -> Prop} {s:Shared}
theorem Ee {z:Addr} (hT:s.TypeIs (.ref z) "zip") {Q:Bool -> Shared -> Prop} (h:Q true s):wpAny (model prog w) A (Builtin.List.listLengthHint (.ref z)) Q E s:=by
 unfold Builtin.List.listLengthHint
 refine wpAny_bind (wpAny_specialOf hT Ik ?_)
 refine wpAny_ite_split (fun rE=>absurd rE (by decide)) (fun _=>?_)
 refine wpAny_ite_split (fun rE=>absurd rE (by decide)) (fun _=>?_)
 refine wpAny_bind (wpAny_specialOf hT MJ ?_)
 exact wpAny_pure h
end
structure Zl (h:Heap) (z TI TO i1 i2 l1 l2 S:Addr) (xs ys:Array Value) (i:Nat):Prop where
 st:(IsZip h z TI TO .none /\ ∃ a b,IsPair h TO a b) \/ ∃ a f oa,uw h z TI TO a f /\ h.get? a = some oa /\ S < a
 ti:IsPair h TI (.ref i1) (.ref i2)
 w1:h.IsListIter i1 l1 i
 w2:h.IsListIter i2 l2 i
 q1:h.IsList l1 xs
 q2:h.IsList l2 ys
structure Below (z TI TO i1 i2 l1 l2 S:Addr):Prop where
 D:ZipApart z TI TO i1 i2 l1 l2
 z:z < S
 TI:TI < S
 TO:TO < S
 i1:i1 < S
 i2:i2 < S
 l1:l1 < S
 l2:l2 < S
section
variable {prog:Program} {w:World} {A:Around} {E:Value -> Shared -> Prop} {s:Shared} {z TI TO i1 i2 l1 l2 S:Addr} {xs ys:Array Value} {i:Nat}
theorem Zl.keep {h h':Heap} (B:Below z TI TO i1 i2 l1 l2 S) (Z:Zl h z TI TO i1 i2 l1 l2 S xs ys i) (hk:∀ b o,b ≠ S -> h.get? b = some o -> h'.get? b = some o):Zl h' z TI TO i1 i2 l1 l2 S xs ys i:=by
 have n:∀ {b},b < S -> b ≠ S:=fun h=>Nat.ne_of_lt h
 refine ⟨?_,hk _ _ (n B.TI) Z.ti,Z.w1.at fun o e=>hk _ o (n B.i1) e,Z.w2.at fun o e=>hk _ o (n B.i2) e,Z.q1.at fun o e=>hk _ o (n B.l1) e,Z.q2.at fun o e=>hk _ o (n B.l2) e⟩
 rcases Z.st with ⟨h1,a,b,h2⟩ | ⟨a,f,oa,h1,h2,h3⟩
 ·exact .inl ⟨hk _ _ (n B.z) h1,a,b,hk _ _ (n B.TO) h2⟩
 ·exact .inr ⟨a,f,oa,hk _ _ (n B.z) h1,hk _ _ (Nat.ne_of_gt h3) h2,h3⟩
theorem Ec {x y:Value} {Q:Option Value -> Shared -> Prop} (B:Below z TI TO i1 i2 l1 l2 S) (Z:Zl s.heap z TI TO i1 i2 l1 l2 S xs ys i) (hS:S < s.heap.objs.size) (hx:xs[i]? = some x) (hy:ys[i]? = some y)
  (hQ:∀ h',Zl h' z TI TO i1 i2 l1 l2 S xs ys (i + 1) -> IsPair h' s.heap.objs.size x y -> h'.objs.size = s.heap.objs.size + 1 -> (∀ c o,c ≠ z -> c ≠ TO -> c ≠ i1 -> c ≠ i2 -> s.heap.get? c = some o -> h'.get? c = some o) -> Q (some (.ref s.heap.objs.size)) { s with heap:=h' }) :
  wpAny (model prog w) A (pyNext (.ref z)) Q E s:=by
 have D:=B.D
 rcases Z.st with ⟨hz,a,b,Mv⟩ | ⟨a,f,oa,hz,ha,hSa⟩
 ·refine wpAny_pyNext_zip_item D hz Z.ti Mv Z.w1 Z.w2 Z.q1 Z.q2 hx hy fun h' z1 o1 a1 b1 t1 Nf k1=>hQ h' ?_ t1 Nf k1
  exact ⟨.inr ⟨s.heap.objs.size,false,_,z1,t1,hS⟩,k1 _ _ D.TIz D.TITO D.TIi1 D.TIi2 Z.ti,a1,b1,Z.q1.at fun o e=>k1 _ o D.l1z D.l1TO D.l1i1 D.l1i2 e,Z.q2.at fun o e=>k1 _ o D.l2z D.l2TO D.l2i1 D.l2i2 e⟩
 ·refine n4 D hz ha Z.ti Z.w1 Z.w2 Z.q1 Z.q2 hx hy fun h' z1 a1 b1 t1 Nf k1=>hQ h' ?_ t1 Nf fun c o c1 _ c3 c4 e=>k1 c o c1 c3 c4 e
  have n:∀ {b},b < S -> a ≠ b:=fun h=>Nat.ne_of_gt (Nat.lt_trans h hSa)
  exact ⟨.inr ⟨a,true,oa,z1,k1 _ _ (n B.z) (n B.i1) (n B.i2) ha,hSa⟩,k1 _ _ D.TIz D.TIi1 D.TIi2 Z.ti,a1,b1,Z.q1.at fun o e=>k1 _ o D.l1z D.l1i1 D.l1i2 e,Z.q2.at fun o e=>k1 _ o D.l2z D.l2i1 D.l2i2 e⟩
theorem Ef {Q:Option Value -> Shared -> Prop} (hh:A.handled = none) (B:Below z TI TO i1 i2 l1 l2 S) (Z:Zl s.heap z TI TO i1 i2 l1 l2 S xs ys i) (vK:xs[i]? = none \/ ys[i]? = none)
  (hQ:∀ h',(∀ c o,c ≠ z -> c ≠ TO -> c ≠ i1 -> c ≠ i2 -> s.heap.get? c = some o -> h'.get? c = some o) -> Q none { s with heap:=h' }):wpAny (model prog w) A (pyNext (.ref z)) Q E s:=by
 have D:=B.D
 rcases Z.st with ⟨hz,a,b,Mv⟩ | ⟨a,f,oa,hz,ha,hSa⟩
 ·exact wpAny_pyNext_zip_end hh D hz Z.ti Mv Z.w1 Z.w2 Z.q1 Z.q2 vK hQ
 ·exact p3 hh D hz ha Z.ti Z.w1 Z.w2 Z.q1 Z.q2 vK fun h' k=>hQ h' fun c o c1 _ c3 c4 e=>k c o c1 c3 c4 e
end
structure QG (xs ys:Array Value) (lo:Addr) (h:Heap) (as:List Addr):Prop where
 above:∀ a ∈ as,lo < a
 nd:as.Nodup
 pairs:∀ (j:Nat) (a:Addr),as[j]? = some a -> ∃ x y,xs[j]? = some x /\ ys[j]? = some y /\ IsPair h a x y
section
variable {prog:Program} {w:World} {A:Around} {s:Shared} {R:Result -> Shared -> Prop} {z TI TO i1 i2 l1 l2 S:Addr} {xs ys:Array Value}
theorem Eb (hh:A.handled = none) (B:Below z TI TO i1 i2 l1 l2 S) (hn:min xs.size ys.size <= sizeLine) (res:Value) {h₁:Heap}
  (hR:∀ h' tk acc c as,(∀ b o,b ≠ S -> b ≠ z -> b ≠ TO -> b ≠ i1 -> b ≠ i2 -> h₁.get? b = some o -> h'.get? b = some o) -> h'.get? S = some { cls:=.type "list",dict:=none,data:=.seq acc c,slots:=#[] } -> as.length = min xs.size ys.size -> QG xs ys S h' as ->
   acc.toList = as.map Value.ref -> R (.ok (.ret res)) { s with heap:=h',toks:=tk }) :
  ∀ (k i:Nat) (h:Heap) (tk c:Nat) (acc:Array Value) (as:List Addr),min xs.size ys.size - i = k -> i <= min xs.size ys.size -> Zl h z TI TO i1 i2 l1 l2 S xs ys i -> (∀ b o,b ≠ S -> b ≠ z -> b ≠ TO -> b ≠ i1 -> b ≠ i2 -> h₁.get? b = some o -> h.get? b = some o) ->
   h.get? S = some { cls:=.type "list",dict:=none,data:=.seq acc c,slots:=#[] } -> acc.toList = as.map Value.ref -> as.length = i -> QG xs ys S h as ->
   codeAny (model prog w) A (.builtin "list.extend.loop" ⟨[.ref S,.ref z,res],[]⟩) R { s with heap:=h,toks:=tk }:=by
 have nz:S ≠ z:=Nat.ne_of_gt B.z
 have nO:S ≠ TO:=Nat.ne_of_gt B.TO
 have n1:S ≠ i1:=Nat.ne_of_gt B.i1
 have n2:S ≠ i2:=Nat.ne_of_gt B.i2
 have lW:∀ {a:Addr},S < a -> a ≠ z /\ a ≠ TO /\ a ≠ i1 /\ a ≠ i2:=fun h=>⟨Nat.ne_of_gt (Nat.lt_trans B.z h),Nat.ne_of_gt (Nat.lt_trans B.TO h),Nat.ne_of_gt (Nat.lt_trans B.i1 h),Nat.ne_of_gt (Nat.lt_trans B.i2 h)⟩
 intro k
 induction k with
 | zero =>
  intro i h tk c acc as hk hi Z C5 hS kf KQ hG
  refine codeAny_builtin PySem.F.entry_extend_loop ?_
  rw [Around.under_plainId PySem.F.plain_extend_loop _]
  show wpAny _ A.in1 (pyNext (.ref z) >>= _) _ _ _
  have vK:xs[i]? = none \/ ys[i]? = none:=by
   rcases Nat.le_total xs.size ys.size with q | q
   ·exact .inl (Array.getElem?_eq_none (by omega))
   ·exact .inr (Array.getElem?_eq_none (by omega))
  refine wpAny_bind (Ef (s:={ s with heap:=h,toks:=tk }) (A:=A.in1) hh B Z vK fun h' he=>?_)
  refine wpAny_pure (hR h' tk acc c as (fun b o h1 h2 h3 h4 h5 e=>he b o h2 h3 h4 h5 (C5 b o h1 h2 h3 h4 h5 e)) (he S _ nz nO n1 n2 hS) (by omega) ⟨hG.above,hG.nd,fun j a hj=>?_⟩ kf)
  obtain ⟨x,y,e1,e2,e3⟩:=hG.pairs j a hj
  obtain ⟨a1,a2,a3,a4⟩:=lW (hG.above a (List.mem_of_getElem? hj))
  exact ⟨x,y,e1,e2,he a _ a1 a2 a3 a4 e3⟩
 | succ k ih =>
  intro i h tk c acc as hk hi Z C5 hS kf KQ hG
  have iX:i < min xs.size ys.size:=by omega
  have hx:xs[i]? = some (xs[i]'(by omega)):=Array.getElem?_eq_getElem _
  have hy:ys[i]? = some (ys[i]'(by omega)):=Array.getElem?_eq_getElem _
  have td:acc.size = i:=by rw [<- Array.length_toList,kf,List.length_map,KQ]
  have XI:S < h.objs.size:=Heap.lt_size hS
  refine codeAny_builtin PySem.F.entry_extend_loop ?_
  rw [Around.under_plainId PySem.F.plain_extend_loop _]
  show wpAny _ A.in1 (pyNext (.ref z) >>= _) _ _ _
  refine wpAny_bind (Ec (s:={ s with heap:=h,toks:=tk }) B Z XI hx hy fun h' Z' ht hz Ro=>?_)
  dsimp only at ht hz Ro ⊢
  have AE:=Ro S _ nz nO n1 n2 hS
  have up:∀ b o,b ≠ S -> h'.get? b = some o -> (h'.update S (Obj.mapSeq (·.push (Value.ref h.objs.size)))).get? b = some o:=fun b o hb e=>(Heap.get?_update_other _ _ (Ne.symm hb)).trans e
  show wpAny _ A.in1 (updateSeq S (·.push (Value.ref h.objs.size)) >>= _) _ _ _
  refine wpAny_bind ?_
  refine wpAny_updateSeq AE rfl (wpAny_pure ⟨plainId_quiet PySem.F.plain_extend_loop _,ih (i + 1) _ tk _ (acc.push (Value.ref h.objs.size)) (as ++ [h.objs.size]) (by omega) iX (Z'.keep B up)
   (fun b o h1 h2 h3 h4 h5 e=>up b o h1 (Ro b o h2 h3 h4 h5 (C5 b o h1 h2 h3 h4 h5 e))) (Heap.get?_update_self _ AE rfl) (by rw [Array.toList_push,kf,List.map_append];rfl) (by rw [List.length_append,KQ];rfl) ⟨?_,?_,?_⟩⟩) (by rw [td];omega) (by show (acc.push (Value.ref h.objs.size)).size <= sizeLine + 1;rw [Array.size_push,td];omega)
  ·intro a ha
   rcases List.mem_append.mp ha with ha | ha
   ·exact hG.above a ha
   ·rw [List.mem_singleton.mp ha];exact XI
  ·refine List.nodup_append.mpr ⟨hG.nd,List.nodup_cons.mpr ⟨List.not_mem_nil,List.nodup_nil⟩,fun a ha b hb e=>?_⟩
   rw [List.mem_singleton.mp hb] at e
   subst e
   obtain ⟨j,hj⟩:=List.mem_iff_getElem?.mp ha
   obtain ⟨_,_,_,_,e⟩:=hG.pairs j _ hj
   exact absurd (Heap.lt_size e) (Nat.lt_irrefl _)
  ·intro j b hj
   rcases Nat.lt_trichotomy j as.length with q | q | q
   ·rw [List.getElem?_append_left q] at hj
    obtain ⟨x',y',e1,e2,e3⟩:=hG.pairs j b hj
    have hb:=hG.above b (List.mem_of_getElem? hj)
    obtain ⟨a1,a2,a3,a4⟩:=lW hb
    exact ⟨x',y',e1,e2,up b _ (Nat.ne_of_gt hb) (Ro b _ a1 a2 a3 a4 e3)⟩
   ·subst q
    have hb:h.objs.size = b:=by simpa using hj
    subst hb
    exact ⟨_,_,by rw [KQ];exact hx,by rw [KQ];exact hy,up _ _ (Nat.ne_of_gt XI) ht⟩
   ·have OI:(as ++ [h.objs.size])[j]? = none:=List.getElem?_eq_none (by rw [List.length_append,List.length_singleton];omega)
    rw [OI] at hj;cases hj
theorem zJ (hh:A.handled = none) (B:Below z TI TO i1 i2 l1 l2 S) (hn:min xs.size ys.size <= sizeLine) (Z:Zl s.heap z TI TO i1 i2 l1 l2 S xs ys 0) (Mm:IsZip s.heap z TI TO .none) (res:Value) (c₀:Nat) (hS:s.heap.get? S = some { cls:=.type "list",data:=.seq #[] c₀ })
  (hR:∀ h' tk acc c as,(∀ b o,b ≠ S -> b ≠ z -> b ≠ TO -> b ≠ i1 -> b ≠ i2 -> s.heap.get? b = some o -> h'.get? b = some o) -> h'.get? S = some { cls:=.type "list",dict:=none,data:=.seq acc c,slots:=#[] } -> as.length = min xs.size ys.size -> QG xs ys S h' as ->
   acc.toList = as.map Value.ref -> R (.ok (.ret res)) { s with heap:=h',toks:=tk }) :
  wpAny (model prog w) A.in1 (Builtin.List.listExtendWith (.ref S) (.ref z) res)
   (fun fin s'=>match fin with | .done f=>R (.ok f) s' | .again c'=>c'.quiet = true /\ codeAny (model prog w) A c' R s') (fun e s'=>R (.error e) s') s:=by
 have hSz:S ≠ z:=Nat.ne_of_gt B.z
 have hT:s.TypeIs (.ref z) "zip":=⟨_,Mm,rfl⟩
 unfold Builtin.List.listExtendWith
 refine wpAny_bind (wpAny_typeOf (T:="zip") hT ?_)
 have h1:Builtin.List.listSameRef (.ref S) (.ref z) = false:=by simp [Builtin.List.listSameRef,hSz]
 have h2:(Value.type "zip" == Value.type "list") = false:=by decide
 have h3:(Value.type "zip" == Value.type "tuple") = false:=by decide
 simp only [h1,h2,h3,Bool.or_false,Bool.false_eq_true,if_false]
 refine wpAny_bind (wpAny_pyIter_zip Mm ?_)
 refine wpAny_bind (wpAny_holding (Ee hT ?_))
 refine wpAny_ite_split (fun _=>?_) (fun rE=>absurd rfl rE)
 refine wpAny_bind (wpAny_rule ?_)
 refine wpAny_bind ?_
 show wpAny _ _ (updateSeq S (·.push .none) >>= fun _=>updateSeq S (·.pop)) _ _ _
 refine wpAny_bind (wpAny_updateSeq hS rfl ?_)
 have yR:=Heap.get?_update_self (Obj.mapSeq (·.push Value.none)) hS rfl
 refine wpAny_updateSeq (hz:=by seq_fits) yR rfl ?_
 have O7:=Heap.get?_update_self (Obj.mapSeq (·.pop)) yR rfl
 have L_:∀ b o,b ≠ S -> s.heap.get? b = some o -> ((s.heap.update S (Obj.mapSeq (·.push Value.none))).update S (Obj.mapSeq (·.pop))).get? b = some o:=fun b o hb e=>(Heap.get?_update_other _ _ (Ne.symm hb)).trans ((Heap.get?_update_other _ _ (Ne.symm hb)).trans e)
 refine wpAny_pure ⟨plainId_quiet PySem.F.plain_extend_loop _,?_⟩
 exact Eb hh B hn res (s:=s) (h₁:=s.heap) hR (min xs.size ys.size) 0 _ s.toks _ #[] [] (Nat.sub_zero _) (Nat.zero_le _) (Z.keep B L_) (fun b o h1 _ _ _ _ e=>L_ b o h1 e) O7 rfl rfl ⟨(fun _ ha=>nomatch ha),List.nodup_nil,fun j a hj=>by simp at hj⟩
theorem Ed (hh:A.handled = none) (B:Below z TI TO i1 i2 l1 l2 S) (hn:min xs.size ys.size <= sizeLine) (Z:Zl s.heap z TI TO i1 i2 l1 l2 S xs ys 0) (Mm:IsZip s.heap z TI TO .none) (hS:s.heap.get? S = some { cls:=.type "list",data:=.seq #[] })
  (hR:∀ h' tk acc c as,(∀ b o,b ≠ S -> b ≠ z -> b ≠ TO -> b ≠ i1 -> b ≠ i2 -> s.heap.get? b = some o -> h'.get? b = some o) -> h'.get? S = some { cls:=.type "list",dict:=none,data:=.seq acc c,slots:=#[] } -> as.length = min xs.size ys.size -> QG xs ys S h' as ->
   acc.toList = as.map Value.ref -> R (.ok (.ret .none)) { s with heap:=h',toks:=tk }) :
  wpAny (model prog w) A.in1 (Builtin.«list.__init__» ⟨[.ref S,.ref z],[]⟩)
   (fun fin s'=>match fin with | .done f=>R (.ok f) s' | .again c'=>c'.quiet = true /\ codeAny (model prog w) A c' R s') (fun e s'=>R (.error e) s') s:=by
 show wpAny _ _ (do let old <- Builtin.List.listItems (.ref S);Builtin.List.listUpdate (.ref S) (fun _=>#[]);letGo old.toList.reverse;Builtin.List.listExtendWith (.ref S) (.ref z) .none) _ _ s
 refine wpAny_bind ?_
 unfold Builtin.List.listItems
 refine wpAny_bind (wpAny_seqItems hS rfl (wpAny_pure ?_))
 show wpAny _ _ (updateSeq S (fun _=>#[]) >>= fun _=>letGo (#[]:Array Value).toList.reverse >>= fun _=>Builtin.List.listExtendWith (.ref S) (.ref z) .none) _ _ s
 refine wpAny_bind (wpAny_updateSeq hS rfl ?_)
 have yR:=Heap.get?_update_self (Obj.mapSeq (fun _=>(#[]:Array Value))) hS rfl
 have L_:∀ b o,b ≠ S -> s.heap.get? b = some o -> (s.heap.update S (Obj.mapSeq (fun _=>(#[]:Array Value)))).get? b = some o :=
  fun b o hb e=>(Heap.get?_update_other _ _ (Ne.symm hb)).trans e
 refine wpAny_bind (wpAny_letGo ?_)
 refine zJ hh B hn (Z.keep B L_) (L_ _ _ (Nat.ne_of_lt B.z) Mm) .none _ yR fun h' tk acc c as hk AE hl hG kf=>?_
 exact hR h' tk acc c as (fun b o h1 h2 h3 h4 h5 e=>hk b o h1 h2 h3 h4 h5 (L_ b o h1 e)) AE hl hG kf
end
section
variable {prog:Program} {w:World} {A:Around} {E:Value -> Shared -> Prop} {s:Shared} {z TI TO i1 i2 l1 l2:Addr} {xs ys:Array Value}
theorem Eg {Q:Value -> Shared -> Prop} (hh:A.handled = none) (D:ZipApart z TI TO i1 i2 l1 l2) (hn:min xs.size ys.size <= sizeLine) (hz:IsZip s.heap z TI TO .none) (D9:IsPair s.heap TI (.ref i1) (.ref i2)) {a b:Value} (Mv:IsPair s.heap TO a b) (h1:s.heap.IsListIter i1 l1 0) (h2:s.heap.IsListIter i2 l2 0) (q1:s.heap.IsList l1 xs) (q2:s.heap.IsList l2 ys)
  (hQ:∀ h' tk acc c as,(∀ b o,b ≠ z -> b ≠ TO -> b ≠ i1 -> b ≠ i2 -> s.heap.get? b = some o -> h'.get? b = some o) -> h'.get? s.heap.objs.size = some { cls:=.type "list",dict:=none,data:=.seq acc c,slots:=#[] } -> as.length = min xs.size ys.size -> QG xs ys s.heap.objs.size h' as ->
   acc.toList = as.map Value.ref -> Q (.ref s.heap.objs.size) { s with heap:=h',toks:=tk }) :
  wpAny (model prog w) A (call (.type "list") [.ref z]) Q E s:=by
 refine callType_codes (Q₁:=fun obj s₁=>obj = .ref s.heap.objs.size /\ s₁ = { s with heap:=s.heap.push { cls:=.type "list",data:=.seq #[] } }) PySem.F.called_list (PySem.F.typeCall_list_1 _) PySem.F.entry_list_init
  (code_list_new _ ⟨rfl,rfl⟩) fun obj s₁ h₁=>?_
 obtain ⟨rfl,rfl⟩:=h₁
 have hS:(s.heap.push { cls:=.type "list",data:=.seq #[] }).get? s.heap.objs.size = some { cls:=.type "list",data:=.seq #[] }:=Heap.get?_push_size _ rfl
 have up:∀ b o,s.heap.get? b = some o -> (s.heap.push { cls:=.type "list",data:=.seq #[] }).get? b = some o:=fun b o e=>Heap.get?_push_of_some _ e
 have B:Below z TI TO i1 i2 l1 l2 s.heap.objs.size:=⟨D,Heap.lt_size hz,Heap.lt_size D9,Heap.lt_size Mv,(by obtain ⟨_,e,_⟩:=h1;exact Heap.lt_size e),(by obtain ⟨_,e,_⟩:=h2;exact Heap.lt_size e),(by obtain ⟨_,e,_⟩:=q1;exact Heap.lt_size e),(by obtain ⟨_,e,_⟩:=q2;exact Heap.lt_size e)⟩
 refine ⟨⟨_,hS,rfl⟩,PySem.F.args_list_init_2 _ _,Ed (A:=A.in1) hh B hn ⟨.inl ⟨up _ _ hz,a,b,up _ _ Mv⟩,up _ _ D9,h1.at fun o e=>up _ o e,h2.at fun o e=>up _ o e,q1.at fun o e=>up _ o e,q2.at fun o e=>up _ o e⟩ (up _ _ hz) hS fun h' tk acc c as hk AE hl hG kf=>?_⟩
 exact ⟨rfl,hQ h' tk acc c as (fun b o h2 h3 h4 h5 e=>hk b o (Nat.ne_of_lt (Heap.lt_size e)) h2 h3 h4 h5 (up b o e)) AE hl hG kf⟩
end
end DI
end
section
namespace DI
open PySem PySem.Spec PyProof.Rows L2
theorem Inv.Oi {X:Cx} {pins:List (Addr × Obj)} {σ:St} {H H':Hp} {s:Shared} {h':Heap} {t':Nat} (I:Inv X pins σ H s) (k:∀ b u,s.heap.get? b = some u -> h'.get? b = some u) (up:∀ b u,H b = some u -> H' b = some u)
  (nw:∀ b u,H' b = some u -> H b = some u \/ (s.heap.objs.size <= b /\ dY X.prog X.w H' h' b u)):Inv X pins σ H' { s with heap:=h',toks:=t' }:=by
 refine I.step (g':=s.gens) (d':=s.drawn) (ch:=[]) (fun b hb=>nomatch hb) (fun b o _ _ _ e _=>k b o e) (fun b o _ _ _ e _=>⟨o.slots,k b o e⟩) (fun b u _ e n=>?_)
  (fun b o _ e=>⟨o,k b o e⟩) (fun _ _ e=>up _ _ e) (fun _ _ _ e=>up _ _ e) (fun b ps e=>⟨#[],by rw [up _ _ e];simp⟩) (fun m hm=>?_) (fun b u e=>?_) I.bare
 ·cases q:H' b with
  | none=>rfl
  | some v =>
   rcases nw b v q with z | ⟨z,_⟩
   ·rw [n] at z;cases z
   ·exact absurd (Heap.lt_size e) (Nat.not_lt.mpr z)
 ·obtain ⟨o,es,ep,ho,r⟩:=hm
  exact ⟨o,es,ep,k _ o ho,r⟩
 ·rcases nw b u e with e | ⟨_,e⟩
  ·exact (I.dD b u e).p8 (fun c v _ q=>k c v q) (fun _ q=>up _ _ q) fun _ _ q=>up _ _ q
  ·exact e
noncomputable def qm (H:Hp):List (Addr × V × V) -> Hp
 | []=>H
 | q :: r=>upd (qm H r) q.1 (.tup [q.2.1,q.2.2])
theorem lh {H:Hp} {b:Addr} {u:HO} (e:H b = some u):∀ {r:List (Addr × V × V)},(∀ q ∈ r,H q.1 = none) -> qm H r b = some u
 | [],_=>e
 | q :: r,h=>by
  have hn:b ≠ q.1:=fun z=>by rw [z,h q List.mem_cons_self] at e;cases e
  show upd (qm H r) q.1 _ b = _
  rw [aK hn]
  exact lh e fun q hq=>h q (List.mem_cons_of_mem _ hq)
theorem yK {H:Hp}:∀ {r:List (Addr × V × V)},(r.map (·.1)).Nodup -> ∀ q ∈ r,qm H r q.1 = some (.tup [q.2.1,q.2.2])
 | [],_,_,h=>nomatch h
 | q' :: r,hn,q,h=>by
  show upd (qm H r) q'.1 _ q.1 = _
  have Bh:=List.nodup_cons.mp hn
  rcases List.mem_cons.mp h with rfl | h
  ·exact aM
  ·have:q.1 ≠ q'.1:=fun z=>Bh.1 (by show q'.1 ∈ _;rw [<- z];exact List.mem_map_of_mem h)
   rw [aK this]
   exact yK Bh.2 q h
theorem vB {H:Hp} {b:Addr} {u:HO}:∀ {r:List (Addr × V × V)},qm H r b = some u -> H b = some u \/ ∃ q ∈ r,q.1 = b /\ u = .tup [q.2.1,q.2.2]
 | [],e=>.inl e
 | q :: r,e=>by
  replace e:upd (qm H r) q.1 (.tup [q.2.1,q.2.2]) b = some u:=e
  by_cases z:b = q.1
  ·subst z
   rw [aM] at e
   cases e
   exact .inr ⟨q,List.mem_cons_self,rfl,rfl⟩
  ·rw [aK z] at e
   rcases vB e with h | ⟨q',h1,h2⟩
   ·exact .inl h
   ·exact .inr ⟨q',List.mem_cons_of_mem _ h1,h2⟩
noncomputable def tLZ (K:PySem.W.Frag) (ta:TA):TE:=fun σ H Q=>ta σ H fun vs H1=>∃ a b xs ys,vs = [.ref a,.ref b] /\ du K H1 a xs /\ du K H1 b ys /\
 ∀ (l:Addr) (r:List (Addr × V × V)),H1 l = none -> (∀ q ∈ r,H1 q.1 = none) -> (r.map (·.1)).Nodup -> l ∉ r.map (·.1) -> r.map (·.2) = xs.zip ys -> Q (.ref l) (upd (qm H1 r) l (.lst (r.map fun q=>V.ref q.1)))
theorem Fp {X:Cx} {e1 e2:Expr} {ta:TA} {p pos p' pos':Pos} (hc:X.calm = true) (Rq:Gl X "list") (hml:X.mg "list" = none) (hg:Gl X "zip") (hm:X.mg "zip" = none) (ha:PA X [e1,e2] ta) (hs:∀ es,starEach (e1 :: es) X.env = (false,eval e1 X.env) :: starEach es X.env) (Mo:∀ es,starEach (e2 :: es) X.env = (false,eval e2 X.env) :: starEach es X.env) :
  PE X (.Call (.Name "list" p') [.Call (.Name "zip" p) [e1,e2] [] pos] [] pos') (tLZ X.K ta):=by
 intro pins s σ H Q I h
 refine wpAny_Call_Name_kw (eK I Rq hml boot_list ?_)
 refine PyProof.Rows.callWith_type1 ?_
 show wpAny _ _ (spliced ((false,eval (.Call (.Name "zip" p) [e1,e2] [] pos) X.env) :: backTo pos' (starEach [] X.env))) _ _ s
 refine Calls.spliced_cons ?_
 refine Call_ (eK I hg hm boot_zip (PyProof.Rows.callWith_type1 (dS (ha pos pins s σ H _ I h) fun us s1 ⟨vs,H1,I1,r1,q1⟩=>?_) (hs _) (by rw [Mo];rfl)))
 obtain ⟨a,b,xs,ys,e,q1,q2,hq⟩:=q1
 subst e
 obtain ⟨u,v,rfl,ru,rv⟩:=vals2 r1
 cases ru
 cases rv
 obtain ⟨aj,rx,p1,hz1⟩:=I1.list q1
 obtain ⟨its',ry,p2,Oy⟩:=I1.list q2
 refine call_zip_2 p1.isList p2.isList fun h' z t o l1 l2 sz k=>Calls.spliced_nil ?_
 have D5:h'.IsList a aj.toArray:=p1.isList.at fun o e=>k _ o e
 have Ax:h'.IsList b its'.toArray:=p2.isList.at fun o e=>k _ o e
 have cls:∀ {x y:Addr} {o u:Obj},h'.get? x = some o -> h'.get? y = some u -> o.cls ≠ u.cls -> x ≠ y:=fun h1 h2 h3=>cF h1 h2 h3
 have al:@LT.lt Nat _ a s1.heap.objs.size:=by obtain ⟨_,e,_⟩:=p1.isList;exact Heap.lt_size e
 have bl:@LT.lt Nat _ b s1.heap.objs.size:=by obtain ⟨_,e,_⟩:=p2.isList;exact Heap.lt_size e
 have D:ZipApart (s1.heap.objs.size + 4) (s1.heap.objs.size + 2) (s1.heap.objs.size + 3) s1.heap.objs.size (s1.heap.objs.size + 1) a b:=by
  constructor <;> first | exact Nat.ne_of_lt (by omega) | exact Nat.ne_of_gt (by omega)
 have lx:=rx.length
 have ly:=ry.length
 have hn:min aj.toArray.size its'.toArray.size <= sizeLine:=by simp;omega
 refine Eg (s:={ s1 with heap:=h' }) (I1.ok.hd hc) D hn z t o l1 l2 D5 Ax fun h'' tk acc c as hk hS hl hG kf=>?_
 dsimp only at hk hS hG ⊢
 have hlen:as.length = (xs.zip ys).length:=by rw [hl,List.length_zip];simp;omega
 have keep:∀ b o,s1.heap.get? b = some o -> h''.get? b = some o:=fun b o e=>by
  have:@LT.lt Nat _ b s1.heap.objs.size:=Heap.lt_size e
  exact hk b o (Nat.ne_of_lt (by omega)) (Nat.ne_of_lt (by omega)) (Nat.ne_of_lt (by omega)) (Nat.ne_of_lt (by omega)) (k b o e)
 have fresh:∀ c,s1.heap.objs.size <= c -> H1 c = none:=fun c h=>I1.dD.fresh h
 have hS5:h'.objs.size = s1.heap.objs.size + 5:=sz
 let r:List (Addr × V × V):=as.zip (xs.zip ys)
 have r1:r.map (·.1) = as:=List.map_fst_zip (by omega)
 have r2:r.map (·.2) = xs.zip ys:=List.map_snd_zip (by omega)
 have rE:∀ c ∈ as,@LT.lt Nat _ h'.objs.size c:=hG.above
 have Xe:∀ q ∈ r,H1 q.1 = none:=fun q hq=>fresh _ (by have:=rE q.1 (by rw [<- r1];exact List.mem_map_of_mem hq);omega)
 have Mq:H1 h'.objs.size = none:=fresh _ (by omega)
 have Kz:h'.objs.size ∉ r.map (·.1):=by rw [r1];exact fun z=>absurd (rE _ z) (Nat.lt_irrefl _)
 have D4:(r.map (·.1)).Nodup:=by rw [r1];exact hG.nd
 have C4:(as.map V.ref) = r.map fun q=>V.ref q.1:=by rw [<- r1,List.map_map];rfl
 refine ⟨.ref h'.objs.size,upd (qm H1 r) h'.objs.size (.lst (r.map fun q=>V.ref q.1)),?_,rfl,hq _ r Mq Xe D4 Kz r2⟩
 refine Inv.Oi (s:=s1) (t':=tk) I1 keep (fun b u e=>?_) fun b u e=>?_
 ·rw [aK fun z=>by rw [z,Mq] at e;cases e]
  exact lh e Xe
 ·by_cases zb:b = h'.objs.size
  ·subst zb
   rw [aM] at e
   cases e
   refine .inr ⟨by omega,?_,acc.toList,c,?_,by rw [Array.toArray_toList];exact hS⟩
   ·rw [<- C4,List.length_map,hlen,List.length_zip];omega
   ·rw [<- C4,kf]
    clear kf C4 hG hl hlen r1 rE D4 r r2 Xe Kz hS hk keep
    induction as with
    | nil=>exact .nil
    | cons a as ih=>exact .cons rfl ih
  ·rw [aK zb] at e
   rcases vB e with e | ⟨q,hq,rfl,rfl⟩
   ·exact .inl e
   ·have hm:q.1 ∈ as:=by rw [<- r1];exact List.mem_map_of_mem hq
    refine .inr ⟨by have:=rE _ hm;omega,?_⟩
    obtain ⟨j,hj⟩:=List.mem_iff_getElem?.mp hq
    have HM:as[j]? = some q.1 /\ (xs.zip ys)[j]? = some q.2:=by
     have:=List.getElem?_zip_eq_some.mp hj
     exact this
    obtain ⟨x,y,ex,ey,hp⟩:=hG.pairs j q.1 HM.1
    obtain ⟨e1,e2⟩:xs[j]? = some q.2.1 /\ ys[j]? = some q.2.2:=List.getElem?_zip_eq_some.mp HM.2
    obtain ⟨u1,Xb,ru1⟩:=rx.get e1
    obtain ⟨u2,hu2,ru2⟩:=ry.get e2
    rw [List.getElem?_toArray,Xb] at ex
    rw [List.getElem?_toArray,hu2] at ey
    cases ex
    cases ey
    exact si ru1 ru2 hp
end DI
end
section
namespace DI
open PySem PySem.Spec PyProof.Rows L2
noncomputable def pairD (x y:D):D:=.tup [x,y]
noncomputable def JY (xs:List D):O D:=match two xs with
 | some z=>match z.1 with
  | .lst _ a=>match z.2 with
   | .lst _ b=>ok (.lst .ow (ai bo (List.zipWith pairD a b)))
   | _=>none
  | _=>none
 | none=>none
theorem JX {x y d:D} (h:JY [x,y] = ok d):∃ f a g b,x = .lst f a /\ y = .lst g b /\ d = .lst .ow (ai bo (List.zipWith pairD a b)):=by
 cases x <;> first | (cases h;done) | skip
 cases y <;> first | (cases h;done) | skip
 cases h
 exact ⟨_,_,_,_,rfl,rfl,rfl⟩
noncomputable def zu (sc:Scope) (bl:List Str) (e:Expr):Option (List Expr):=match ft e with
 | some z=>match one z.2 with
  | some i=>if z.1 = ("list" : Str) /\ iV sc z.1 = true /\ z.1 ∈ bl then jl sc bl i else none
  | none=>none
 | none=>none
theorem DF {sc:Scope} {bl:List Str} {e:Expr} {args:List Expr} (h:zu sc bl e = some args):∃ p pos i,e = .Call (.Name ("list" : Str) p) [i] [] pos /\ iV sc ("list" : Str) = true /\ ("list" : Str) ∈ bl /\ jl sc bl i = some args:=by
 unfold zu at h
 cases hv:ft e with
 | none=>rw [hv] at h;cases h
 | some z =>
  obtain ⟨x,as⟩:=z
  rw [hv] at h
  obtain ⟨p,pos,rfl⟩:=dv hv
  have h2:(match one as with | some i=>if x = ("list" : Str) /\ iV sc x = true /\ x ∈ bl then jl sc bl i else none | none=>none) = some args:=h
  clear h
  cases hw:one as with
  | none=>rw [hw] at h2;cases h2
  | some a =>
   rw [hw] at h2
   have h3:(if x = ("list" : Str) /\ iV sc x = true /\ x ∈ bl then jl sc bl a else none) = some args:=h2
   clear h2
   obtain rfl:=cB hw
   by_cases hc:x = ("list" : Str) /\ iV sc x = true /\ x ∈ bl
   ·rw [if_pos hc] at h3
    obtain ⟨rfl,h1,h2⟩:=hc
    exact ⟨_,_,_,rfl,h1,h2,h3⟩
   ·rw [if_neg hc] at h3;cases h3
theorem vg {T:kO} {N:iU} (hN:∀ k k' p xs f,N k p xs f -> N k' p xs f):∀ {r:List (Addr × V × V)} {xs ys:List V} {a b:List D} {k1 k2 k:aH} {n1 n2 n:Nat},ag T N k1 n1 xs a -> ag T N k2 n2 ys b -> r.map (·.2) = xs.zip ys -> (∀ q ∈ r,T q.1 [q.2.1,q.2.2]) -> ag T N k n (r.map fun q=>V.ref q.1) (List.zipWith pairD a b)
 | [],xs,ys,a,b,_,_,_,_,_,_,r1,r2,e,_=>by
  have l1:=r1.length
  have l2:=r2.length
  have e':=congrArg List.length e
  rw [List.length_zip] at e'
  have:List.zipWith pairD a b = []:=List.eq_nil_of_length_eq_zero (by rw [List.length_zipWith];simp at e';omega)
  rw [this]
  exact .nil
 | q :: r,xs,ys,a,b,k1,k2,k,n1,n2,n,r1,r2,e,ht=>by
  cases r1 with
  | nil=>cases e
  | cons h1 t1=>cases r2 with
   | nil=>cases e
   | cons h2 t2 =>
    have e1:q.2 = (_,_):=(List.cons.inj e).1
    have e2:=(List.cons.inj e).2
    refine .cons (.tup (ht q List.mem_cons_self) ?_) (vg hN t1 t2 e2 fun q hq=>ht q (List.mem_cons_of_mem _ hq))
    rw [e1]
    have m1:=Rep.ja (T':=T) (N':=N) (g:=id) (fun _ _ h=>h) hN h1 (0 :: n :: k)
    have m2:=Rep.ja (T':=T) (N':=N) (g:=id) (fun _ _ h=>h) hN h2 (1 :: n :: k)
    rw [eU] at m1 m2
    exact .cons m1 (.cons m2 .nil)
theorem gx (g:Fl -> Fl):∀ a b:List D,ai g (List.zipWith pairD a b) = List.zipWith pairD (ai g a) (ai g b)
 | [],_=>by cases ‹List D› <;> rfl
 | _ :: _,[]=>rfl
 | x :: a,y :: b=>by
  show aD g (pairD x y) :: ai g (List.zipWith pairD a b) = _
  rw [gx g a b];rfl
theorem Od {Φ:aA} {n:Nat} (hΦ:Φ n = JY) {X:Cx} {sc:Scope} {bl:List Str} {k:Nat} (L:PX X sc bl k) {e:Expr} {args:List Expr} (he:zu sc bl e = some args) {F:Addr -> Prop} {cs:List CE} (hs:qM X F Φ cs args):PE X e (tD X F Φ (.eE n cs)) /\ PT X e (ie X F Φ (.eE n cs)):=by
 obtain ⟨p,pos,i,rfl,h1,h2,hz⟩:=DF he
 obtain ⟨p',pos',a,b,rfl,rfl,h3,h4⟩:=rP hz
 obtain ⟨⟨c,d,rfl,_,_⟩,pa,s1,s2⟩:=Cm hs
 have this:PE X (.Call (.Name ("list" : Str) p) [.Call (.Name ("zip" : Str) p') [a,b] [] pos'] [] pos) (tD X F Φ (.eE n [c,d])):=by
  refine PE.imp (Fp L.calm (L.gl h1) (L.bl _ h2) (L.gl h3) (L.bl _ h4) pa s1 s2) fun σ H Q hq=>?_
  obtain ⟨R,τ,ρ,d',Si,ev,hq⟩:=hq
  obtain ⟨xs,dk,ev⟩:=ah ev
  rw [hΦ] at ev
  refine ⟨R,τ,ρ,xs,Si,dk,fun vs H1 e1 r1=>?_⟩
  obtain ⟨τt,fr,rs⟩:=r1
  have hl:∃ x y,xs = [x,y]:=by
   unfold JY at ev
   cases hw:two xs with
   | none=>rw [hw] at ev;cases ev
   | some z=>exact ⟨z.1,z.2,n9 hw⟩
  obtain ⟨x,y,rfl⟩:=hl
  obtain ⟨f,da,g,db,rfl,rfl,rfl⟩:=JX ev
  obtain ⟨v,w,rfl,rx,ry⟩:=rs.two
  cases rx with
  | lst hx ax=>cases ry with
   | lst hy ay =>
    refine ⟨_,_,_,_,rfl,hx.sq,hy.sq,fun l r hl hr hn Kz hz=>hq _ _ ?_ ?_⟩
    ·intro b o e
     have e':=e1 b o e
     rw [aK fun z=>by rw [z,hl] at e';cases e']
     exact lh e' hr
    ·have sm:ao H1 (upd (qm H1 r) l (.lst (r.map fun q=>V.ref q.1))):=fun b o e=>by
      rw [aK fun z=>by rw [z,hl] at e;cases e]
      exact lh e hr
     refine cc.vx (e1.free hl) (e1.trans sm) aM ?_
     rw [gx]
     refine vg nd.o9 ((ax.fw Si fr (k':=[]) (n':=0)).imp (fun _ _ h=>aG.same sm h) fun _ _ _ _ h=>nd.same sm h) ((ay.fw Si fr (k':=[]) (n':=0)).imp (fun _ _ h=>aG.same sm h) fun _ _ _ _ h=>nd.same sm h) hz fun q hq=>?_
     have yP:q.1 ≠ l:=fun z=>Kz (by rw [<- z];exact List.mem_map_of_mem hq)
     exact aG.of (by rw [aK yP];exact yK hn q hq)
 exact ⟨this,dj this fun _=>rfl⟩
end DI
end
section
namespace DI
open PySem PySem.Spec PyProof.Rows L2
end DI
end
section
namespace DI
open PySem PySem.Spec PyProof.Rows L2
theorem ag.Dz {T:kO} {N:iU} {k:aH}:∀ (j:Nat) {n:Nat} {vs:List V} {ds:List D},ag T N k n vs ds -> ag T N k (n + j) (vs.drop j) (ds.drop j)
 | 0,_,_,_,h=>h
 | j + 1,_,_,_,.nil=>.nil
 | j + 1,n,_,_,.cons h t=>by
  rw [show n + (j + 1) = n + 1 + j by omega]
  exact ag.Dz j t
theorem ag.Hf {T:kO} {N:iU} {k:aH}:∀ (j:Nat) {n:Nat} {vs:List V} {ds:List D},ag T N k n vs ds -> ag T N k n (vs.take j) (ds.take j)
 | 0,_,_,_,_=>by rw [List.take_zero,List.take_zero];exact .nil
 | j + 1,_,_,_,.nil=>.nil
 | j + 1,n,_,_,.cons h t=>.cons h (ag.Hf j t)
noncomputable def qC {α:Type} (b:Bool) (k:Nat) (xs:List α):List α:=if b then xs.drop k else xs.take k
noncomputable def NB (K:PySem.W.Frag) (b:Bool):V -> Option Int -> Option Int -> Hp -> VK -> Prop:=fun x lo hi H Q=>∃ (a:Addr) (xs:List V) (k:Nat),x = .ref a /\ du K H a xs /\ lo = (if b then some (k:Int) else none) /\ hi = (if b then none else some (k:Int)) /\ k <= xs.length /\ ∀ p,H p = none -> Q (.ref p) (upd H p (.lst (qC b k xs)))
theorem yj {X:Cx} (b:Bool):RZ X (NB X.K b):=by
 intro pins s σ H x v vl vu lo hi sl Q I rx hs pl pu h
 obtain ⟨a,xs,k,rfl,hx,rfl,rfl,hk,q⟩:=h
 cases rx
 obtain ⟨aj,r,Hx,hz⟩:=I.list hx
 have hl:=cI Hx
 have hlen:aj.length = xs.length:=r.length.symm
 refine ⟨"list",_,slot_list_getitem.lookup,hl.typeIs,wpAny_getItem_list_slice hl hs pl pu .none (by simp) ?_ (by rw [List.size_toArray,hlen];exact hz)⟩
 have e:slicePick aj.toArray (if b then some (k:Int) else none) (if b then none else some (k:Int)) none = (qC b k aj).toArray:=by
  cases b with
  | true=>exact slicePick_from aj.toArray k (by simp;omega)
  | false=>exact slicePick_upto aj.toArray k (by simp;omega)
 have rc:Vals (qC b k xs) (qC b k aj):=by
  cases b with
  | true=>exact r.drop k
  | false=>exact r.take k
 have lc:(qC b k xs).length <= xs.length:=by
  cases b with
  | true=>show (xs.drop k).length <= _;rw [List.length_drop];omega
  | false=>show (xs.take k).length <= _;rw [List.length_take];omega
 rw [e]
 exact ⟨.ref s.heap.objs.size,_,I.J3 (t':=s.toks) rc (Nat.le_trans lc hz),rfl,q _ I.fresh⟩
noncomputable def cutD (b:Bool) (xs:List D):O D:=match two xs with
 | some z=>match z.1 with
  | .lst _ ds=>match z.2 with
   | .int k=>if 0 <= k /\ k <= ds.length then ok (.lst .ow (ai bo (qC b k.toNat ds))) else none
   | _=>none
  | _=>none
 | none=>none
theorem GQ {b:Bool} {x y d:D} (h:cutD b [x,y] = ok d):∃ (f:Fl) (ds:List D) (k:Nat),x = .lst f ds /\ y = .int k /\ k <= ds.length /\ d = .lst .ow (ai bo (qC b k ds)):=by
 cases x <;> first | (cases h;done) | (cases y <;> first | (cases h;done) | skip)
 obtain ⟨⟨h1,h2⟩,h3⟩:=qp h
 rename_i f ds k
 exact ⟨f,ds,k.toNat,rfl,by rw [Int.toNat_of_nonneg h1],by omega,h3.symm⟩
noncomputable def Et (b:Bool) (e:Expr):Option Expr:=match e with
 | .Slice lo hi st _=>match st with
  | none=>match b with
   | true=>match hi with
    | none=>lo
    | some _=>none
   | false=>match lo with
    | none=>hi
    | some _=>none
  | some _=>none
 | _=>none
theorem Es {b:Bool} {e k:Expr} (h:Et b e = some k):∃ p,e = .Slice (if b then some k else none) (if b then none else some k) none p:=by
 cases e <;> first | (cases h;done) | skip
 rename_i lo hi st p
 cases st with
 | some _=>cases h
 | none=>cases b with
  | true=>cases hi with
   | some _=>cases h
   | none=>cases h;exact ⟨p,rfl⟩
  | false=>cases lo with
   | some _=>cases h
   | none=>cases h;exact ⟨p,rfl⟩
noncomputable def mE (b:Bool) (_:Scope) (_:List Str) (e:Expr):Option (List Expr):=match Bt e with
 | some z=>match Et b z.2 with
  | some k=>some [z.1,k]
  | none=>none
 | none=>none
theorem rQ {b:Bool} {sc:Scope} {bl:List Str} {e:Expr} {args:List Expr} (h:mE b sc bl e = some args):∃ a k p pos,e = .Subscript a (.Slice (if b then some k else none) (if b then none else some k) none p) pos /\ args = [a,k]:=by
 unfold mE at h
 cases hv:Bt e with
 | none=>rw [hv] at h;cases h
 | some z =>
  obtain ⟨a,s⟩:=z
  rw [hv] at h
  obtain ⟨pos,rfl⟩:=rZ hv
  have h:(match Et b s with | some k=>some [a,k] | none=>none) = some args:=h
  cases hw:Et b s with
  | none=>rw [hw] at h;cases h
  | some k =>
   rw [hw] at h
   cases h
   obtain ⟨p,rfl⟩:=Es hw
   exact ⟨a,k,p,pos,rfl,rfl⟩
theorem LH {b:Bool} {Φ:aA} {n:Nat} (hΦ:Φ n = cutD b) {X:Cx} {sc:Scope} {bl:List Str} {k:Nat} (L:PX X sc bl k) {e:Expr} {args:List Expr} (he:mE b sc bl e = some args) {F:Addr -> Prop} {cs:List CE} (hs:qM X F Φ cs args):PE X e (tD X F Φ (.eE n cs)) /\ PT X e (ie X F Φ (.eE n cs)):=by
 obtain ⟨a,ke,p,pos,rfl,rfl⟩:=rQ he
 cases cs with
 | nil=>exact hs.elim
 | cons c cs=>cases cs with
  | nil=>exact hs.2.2.2.elim
  | cons c' cs=>cases cs with
   | cons _ _=>exact hs.2.2.2.2.2.2.elim
   | nil =>
    obtain ⟨h1,_,_,h2,_,_,_⟩:=hs
    have this:PE X (.Subscript a (.Slice (if b then some ke else none) (if b then none else some ke) none p) pos) (tD X F Φ (.eE n [c,c'])):=by
     have go:∀ {tl th:TO},PO X (if b then some ke else none) tl -> PO X (if b then none else some ke) th -> (∀ (H1:Hp) (R:Addr -> Prop) (τ:Addr -> Option aH) (ρ:aC) (k:Nat) (σ:St) (Q:Option Int -> Option Int -> Hp -> Prop),SI X F R τ ρ σ H1 -> aN Φ c' ρ = ok (.int k) -> (∀ H2,ao H1 H2 -> Q (if b then some (k:Int) else none) (if b then none else some (k:Int)) H2) -> tl σ H1 fun l H2=>th σ H2 fun u H3=>Q l u H3) -> PE X (.Subscript a (.Slice (if b then some ke else none) (if b then none else some ke) none p) pos) (tD X F Φ (.eE n [c,c'])):=by
      intro tl th pl pu hh
      refine PE.imp (vo (yj b) h1 pl pu) fun σ H Q hq=>?_
      obtain ⟨R,τ,ρ,d,Si,ev,hq⟩:=hq
      obtain ⟨xs,dk,ev⟩:=ah ev
      obtain ⟨x,ex,dk⟩:=ah dk
      obtain ⟨ys,qB,dk⟩:=ah dk
      cases dk
      obtain ⟨y,ey,qB⟩:=ah qB
      cases qB
      rw [hΦ] at ev
      obtain ⟨f,ds,j,rfl,rfl,hj,rfl⟩:=GQ ev
      refine tD.intro Si ex fun v H1 e1 r1=>hh H1 R τ ρ j σ (fun l u H3=>NB X.K b v l u H3 Q) (Si.go e1) ey fun H2 e2=>?_
      have r2:=(r1.go e2).mono (fv':=iQ (.eE n [c,c'])) fun i hi=>List.mem_append_left _ hi
      obtain ⟨τt,fr,rp⟩:=r2
      cases rp with
      | @lst _ q xs _ _ hn rs =>
       have ee:=e1.trans e2
       refine ⟨q,xs,j,rfl,hn.sq,rfl,rfl,by rw [rs.length];exact hj,fun l hl=>hq _ _ (ee.trans (ao.upd hl)) (cc.vx (ee.free hl) (ee.trans (ao.upd hl)) aM ?_)⟩
       have rc:∃ n',ag (aG X.K H2) (nd X.K R (kN (gP X F) τ (iQ (.eE n [c,c']))) τt H2) [] n' (qC b j xs) (qC b j ds):=by
        cases b with
        | true=>exact ⟨_,rs.Dz j⟩
        | false=>exact ⟨_,rs.Hf j⟩
       obtain ⟨n',rc⟩:=rc
       exact (rc.fw Si fr).imp (fun _ _ h=>aG.same (ao.upd hl) h) fun _ _ _ _ h=>nd.same (ao.upd hl) h
     cases b with
     | true =>
      refine go (sP h2) sQ fun H1 R τ ρ k σ Q Si ek hk=>tD.intro Si ek fun v H2 e2 r2=>?_
      cases r2.isInt
      exact ⟨k,rfl,hk H2 e2⟩
     | false =>
      refine go sQ (sP h2) fun H1 R τ ρ k σ Q Si ek hk=>tD.intro Si ek fun v H2 e2 r2=>?_
      cases r2.isInt
      exact ⟨k,rfl,hk H2 e2⟩
    exact ⟨this,dj this fun _=>by cases b <;> rfl⟩
end DI
end
section
namespace DI
open PySem PySem.Spec PyProof.Rows L2
section
open PySem.SeqAt
open PySem.AutoSeq1 (wpAny_loadPart')
open PySem.MeetsSeq PySem.MeetsSeq2 PySem.MeetsSeq3
theorem B4 (A:Around) (s:Shared) (a:Int) (t:Tok) (c:Int) (u:Tok) (prog:Program) (w:World) (E:Value -> Shared -> Prop) (Q:Value -> Shared -> Prop) (h:Q (.bool (decide (a ≥ c))) s):wpAny (model prog w) A (richCompare .GtE (.int a t) (.int c u)) Q E s :=
 (PyProof.Rows.ge_int h:wpAny (model prog w) A (compareOp .GtE (.int a t) (.int c u)) Q E s)
theorem FR {vs ws:List Value} {ns ms:List Int} {m n:Nat} (h1:IntsAre vs ns) (h2:IntsAre ws ms) (hz:vs.zip ws = []) (hl:ns.length + n = ms.length + m):(!HT.lexLt ns ms) = decide (m ≥ n):=by
 cases h1 with
 | nil=>cases h2 with
  | nil=>simp only [List.length_nil] at hl;exact (decide_eq_true (by omega)).symm
  | cons c u h=>simp only [List.length_nil,List.length_cons] at hl;exact (decide_eq_false (by omega)).symm
 | cons a t h=>cases h2 with
  | nil=>simp only [List.length_nil,List.length_cons] at hl;exact (decide_eq_true (by omega)).symm
  | cons c u h=>rw [List.zip_cons_cons] at hz;cases hz
theorem p5 (l b:Addr) (items dq:Array Value) (n n2:Nat) (dd zm:Option Addr) (sl wK:Array (Option Value)) (ns ms:List Int) (hi:IntsAre items.toList ns) (hj:IntsAre dq.toList ms) :
  Meets (Builtin.«tuple.__ge__» ⟨[.ref l,.ref b],[]⟩) (fun _ R s=>s.heap.get? l = some { cls:=.type "tuple",dict:=dd,data:=.seq items n,slots:=sl } /\ s.heap.get? b = some { cls:=.type "tuple",dict:=zm,data:=.seq dq n2,slots:=wK } /\ R (.ok (.ret (.bool (!HT.lexLt ns ms)))) s) :=
 .of_wp fun prog w A R s h=>by
  obtain ⟨hp,g,d,tk,os⟩:=s
  obtain ⟨hl,hb,h⟩:=h
  have f2:=AutoSeq1.sub_tuple_tuple
  have z1:items.size = ns.length:=by rw [<- hi.length];simp
  have z2:dq.size = ms.length:=by rw [<- hj.length];simp
  wp_walk using wpAny_loadPart' hl,wpAny_loadPart' hb,wpAny_forIn_list _ (fun rest b s'=>b.1 = none /\ s' = ⟨hp,g,d,tk,os⟩ /\ ∃ (vs ws:List Value) (lS Bc:List Int),rest = vs.zip ws /\ IntsAre vs lS /\ IntsAre ws Bc /\ lS.length + dq.size = Bc.length + items.size /\ R (.ok (.ret (.bool (!HT.lexLt lS Bc)))) ⟨hp,g,d,tk,os⟩) _
  case turn =>
   rintro ⟨y,x⟩ rest b s' ⟨jU,rfl,vs,ws,lS,Bc,hz,Kt,HL,hlen,hR⟩
   cases Kt with
   | nil=>rw [List.zip_nil_left] at hz;cases hz
   | cons a t hvi'=>cases HL with
    | nil=>rw [List.zip_nil_right] at hz;cases hz
    | cons c u hwi' =>
     rw [List.zip_cons_cons] at hz
     injection hz with W8 C2
     injection W8 with hy hx
     subst hy hx
     rw [HT.dP] at hR
     simp only [List.length_cons] at hlen
     obtain ⟨e,he,C6⟩:=HT.v7 A.in1 ⟨hp,g,d,tk,os⟩ a t c u
     refine wpAny_bind (he prog w _ _ ?_)
     cases e with
     | true =>
      rw [if_pos (C6.mp rfl)] at hR
      wp_walk
      exact ⟨rfl,rfl,_,_,_,_,C2,hvi',hwi',by omega,hR⟩
     | false =>
      have Gf:¬ a = c:=fun q=>absurd (C6.mpr q) Bool.false_ne_true
      rw [if_neg Gf,show (!decide (a < c)) = decide (a ≥ c) by by_cases q:a < c <;> simp [q] <;> omega] at hR
      have Xf:=B4 A.in1 ⟨hp,g,d,tk,os⟩ a t c u prog w
      wp_walk using Xf
      exact ⟨_,rfl,by simpa using hR⟩
  case fin =>
   rintro ⟨b1,b2⟩ s' ⟨jU,rfl,vs,ws,lS,Bc,hz,Kt,HL,hlen,hR⟩
   simp only at jU
   subst jU
   rw [FR Kt HL hz.symm hlen] at hR
   wp_walk
   exact ⟨_,rfl,by simpa [Builtin.Tuple.tupleCompareSizes] using hR⟩
  case h=>exact ⟨rfl,rfl,items.toList,dq.toList,ns,ms,rfl,hi,hj,by omega,h⟩
end
noncomputable def NA (K:PySem.W.Frag):R2:=fun x y H Q=>∃ a b ns ms,x = .ref a /\ y = .ref b /\ aG K H a (ns.map V.int) /\ aG K H b (ms.map V.int) /\ Q (.bl (!HT.lexLt ns ms)) H
theorem Cs {X:Cx} (hu:X.A.units < cLine):j_ X (compareOp .GtE) (NA X.K):=by
 intro pins s σ H x y v u Q I rx ry h
 obtain ⟨a,b,ns,ms,rfl,rfl,ha,hb,q⟩:=h
 cases rx
 cases ry
 obtain ⟨aj,r1,⟨⟨cls,dd,data,sl⟩,ho,hc,n,hd⟩,_⟩:=I.tuple ha
 obtain ⟨m6,r2,⟨⟨GS,zm,data2,wK⟩,tf,hc2,n2,hd2⟩,_⟩:=I.tuple hb
 simp only at hc hd hc2 hd2
 subst hc hd hc2 hd2
 exact richCompare_meets_room (op:=.GtE) ⟨_,ho,rfl⟩ ⟨_,tf,rfl⟩ PySem.F.slot_tuple_ge PySem.F.entry_tuple_ge (PySem.F.args_tuple_ge_2 _ _) (p5 a b aj.toArray m6.toArray n n2 dd zm sl wK ns ms (intsAre_of r1) (intsAre_of r2))
  ⟨ho,tf,show Value.bool (!HT.lexLt ns ms) ≠ Value.notImplemented /\ EP X pins σ Q (.bool (!HT.lexLt ns ms)) s from ⟨(fun x=>nomatch x),⟨.bl _,H,I,rfl,q⟩⟩⟩ hu
noncomputable def HW (xs:List D):O D:=match two xs with
 | some z=>match z.1 with
  | .tup a=>match z.2 with
   | .tup b=>match intsOf a with
    | some ns=>match intsOf b with
     | some ms=>ok (.bl (!HT.lexLt ns ms))
     | none=>none
    | none=>none
   | _=>none
  | _=>none
 | none=>none
theorem KZ {x y d:D} (h:HW [x,y] = ok d):∃ ns ms:List Int,x = .tup (ns.map D.int) /\ y = .tup (ms.map D.int) /\ d = .bl (!HT.lexLt ns ms):=by
 cases x <;> first | (cases h;done) | (cases y <;> first | (cases h;done) | skip)
 rename_i a b
 have h:(match intsOf a with | some ns=>(match intsOf b with | some ms=>ok (D.bl (!HT.lexLt ns ms)) | none=>none) | none=>none) = ok d:=h
 cases h1:intsOf a with
 | none=>rw [h1] at h;cases h
 | some ns=>cases h2:intsOf b with
  | none=>rw [h1,h2] at h;cases h
  | some ms =>
   rw [h1,h2] at h
   cases h
   exact ⟨ns,ms,by rw [dW h1],by rw [dW h2],rfl⟩
noncomputable def zw (_:Scope) (_:List Str) (e:Expr):Option (List Expr):=match zO e with
 | some z=>match one z.2.2 with
  | some r=>if z.2.1 = [.GtE] then some [z.1,r] else none
  | none=>none
 | none=>none
theorem DG {sc:Scope} {bl:List Str} {e:Expr} {args:List Expr} (h:zw sc bl e = some args):∃ l r p,e = .Compare l [.GtE] [r] p /\ args = [l,r]:=by
 unfold zw at h
 cases hv:zO e with
 | none=>rw [hv] at h;cases h
 | some z =>
  obtain ⟨l,os,rs⟩:=z
  rw [hv] at h
  obtain ⟨p,rfl⟩:=r6 hv
  replace h:(match one rs with | some r=>if os = [.GtE] then some [l,r] else none | none=>none) = some args:=h
  cases hw:one rs with
  | none=>rw [hw] at h;cases h
  | some r =>
   rw [hw] at h
   replace h:(if os = [.GtE] then some [l,r] else none) = some args:=h
   obtain rfl:=cB hw
   by_cases hc:os = [.GtE]
   ·rw [if_pos hc] at h;cases h;subst hc;exact ⟨l,r,p,rfl,rfl⟩
   ·rw [if_neg hc] at h;cases h
theorem Pc {Φ:aA} {n:Nat} (hΦ:Φ n = HW) {X:Cx} {sc:Scope} {bl:List Str} {k:Nat} (L:PX X sc bl k) {e:Expr} {args:List Expr} (he:zw sc bl e = some args) {F:Addr -> Prop} {cs:List CE} (hs:qM X F Φ cs args):PE X e (tD X F Φ (.eE n cs)) /\ PT X e (ie X F Φ (.eE n cs)):=by
 obtain ⟨l,r,p,rfl,rfl⟩:=DG he
 have hu:X.A.units < cLine:=by have:=L.room.units;omega
 cases cs with
 | nil=>exact hs.elim
 | cons c cs=>cases cs with
  | nil=>exact hs.2.2.2.elim
  | cons c' cs=>cases cs with
   | cons _ _=>exact hs.2.2.2.2.2.2.elim
   | nil =>
    obtain ⟨h1,_,_,h2,_,_,_⟩:=hs
    have key:∀ {σ:St} {H:Hp} {R:Addr -> Prop} {τ:Addr -> Option aH} {ρ:aC} {d:D} {Q:VK},SI X F R τ ρ σ H -> aN Φ (.eE n [c,c']) ρ = ok d -> (∀ b H2,d = .bl b -> ao H H2 -> Q (.bl b) H2) -> EE (NA X.K) (tD X F Φ c) (tD X F Φ c') σ H Q:=by
     intro σ H R τ ρ d Q Si ev hq
     obtain ⟨xs,dk,ev⟩:=ah ev
     obtain ⟨x,ex,dk⟩:=ah dk
     obtain ⟨ys,qB,dk⟩:=ah dk
     cases dk
     obtain ⟨y,ey,qB⟩:=ah qB
     cases qB
     rw [hΦ] at ev
     obtain ⟨ns,ms,rfl,rfl,rfl⟩:=KZ ev
     refine tD.intro Si ex fun v H1 e1 r1=>tD.intro (Si.go e1) ey fun u H2 e2 r2=>?_
     obtain ⟨_,_,p1⟩:=r1.go e2
     obtain ⟨_,_,p2⟩:=r2
     cases p1 with
     | tup t1 s1=>cases p2 with
      | tup t2 s2 =>
       cases s1.ofInts
       cases s2.ofInts
       exact ⟨_,_,ns,ms,rfl,rfl,t1,t2,hq _ H2 rfl (e1.trans e2)⟩
    refine ⟨PE.imp (sS (Cs hu) h1 h2 (Cy _)) fun σ H Q hq=>?_,PT.imp (sM (Cs hu) h1 h2 (Cy _)) fun σ H Q hq=>?_⟩
    ·obtain ⟨R,τ,ρ,d,Si,ev,hq⟩:=hq
     exact key Si ev fun b H2 e es=>hq _ H2 es (by subst e;exact .bl)
    ·obtain ⟨R,τ,ρ,b,Si,ev,hq⟩:=hq
     obtain ⟨d,ed,et⟩:=ah ev
     refine key Si ed fun b' H2 e es=>?_
     subst e
     cases et
     exact ⟨_,rfl,hq H2 es⟩
end DI
end
section
namespace DI
open PySem PySem.Spec PyProof.Rows L2
section
variable {X:Cx}
end
end DI
end
section
namespace DI
open PySem PySem.Spec PyProof.Rows L2 PySem.W
noncomputable def cP {α:Type} (lt:Nat -> Nat -> Bool):KasT α -> α
 | .ret a=>a
 | .ask i j k=>cP lt (k (lt i j))
theorem hJ {α β:Type} (lt:Nat -> Nat -> Bool) (f:α -> KasT β):∀ t:KasT α,cP lt (t.bind f) = cP lt (f (cP lt t))
 | .ret a=>rfl
 | .ask i j k=>hJ lt f (k (lt i j))
section
noncomputable def j0 {α:Type} (n:Nat) (lt:Nat -> Nat -> Bool):KasT α -> Prop
 | .ret _=>True
 | .ask i j k=>i < n /\ j < n /\ j0 n lt (k (lt i j))
end
theorem zF {α:Type} {cmp:Nat -> Nat -> (Bool -> Shared -> Prop) -> Shared -> Prop} {lt:Nat -> Nat -> Bool} {s:Shared} {n:Nat} (hc:∀ i j C,i < n -> j < n -> C (lt i j) s -> cmp i j C s) {Q:α -> Shared -> Prop} :
  ∀ (t:KasT α),j0 n lt t -> Q (cP lt t) s -> t.kasWp cmp Q s
 | .ret a,_,h=>h
 | .ask i j k,⟨h1,h2,h3⟩,h=>hc i j _ h1 h2 (zF hc (k (lt i j)) h3 h)
theorem fQ {α β:Type} {lt:Nat -> Nat -> Bool} {n:Nat} {f:α -> KasT β}:∀ {t:KasT α},j0 n lt t -> j0 n lt (f (cP lt t)) -> j0 n lt (t.bind f)
 | .ret _,_,h=>h
 | .ask i j k,⟨h1,h2,h3⟩,h=>⟨h1,h2,fQ h3 h⟩
structure Ord (lt:Nat -> Nat -> Bool) (n:Nat):Prop where
 tr:∀ a b c,a < n -> b < n -> c < n -> lt a b = true -> lt b c = true -> lt a c = true
 as:∀ a b,a < n -> b < n -> lt a b = true -> lt b a = false
 QR:∀ a b,a < n -> b < n -> a ≠ b -> lt a b = true \/ lt b a = true
structure Arr (p:Array Nat) (n:Nat):Prop where
 sz:p.size = n
 pm:p.toList.Perm (List.range n)
section
variable {lt:Nat -> Nat -> Bool} {n:Nat} {p:Array Nat}
theorem Arr.bd (h:Arr p n) {i:Nat} (hi:i < n):p.getD i 0 < n:=by
 have mm:i < p.size:=by rw [h.sz];exact hi
 have:p.getD i 0 = p[i]:=by simp [Array.getD,mm]
 rw [this]
 have hm:p[i] ∈ p.toList:=Array.getElem_mem_toList mm
 exact List.mem_range.mp (h.pm.mem_iff.mp hm)
theorem Arr.inj (h:Arr p n) {i j:Nat} (hi:i < n) (hj:j < n) (e:p.getD i 0 = p.getD j 0):i = j:=by
 have mm:i < p.toList.length:=by rw [Array.length_toList,h.sz];exact hi
 have HM:j < p.toList.length:=by rw [Array.length_toList,h.sz];exact hj
 have nd:p.toList.Nodup:=h.pm.nodup_iff.mpr List.nodup_range
 have e1:p.getD i 0 = p.toList[i]:=by simp [Array.getD,show i < p.size by rw [h.sz];exact hi]
 have e2:p.getD j 0 = p.toList[j]:=by simp [Array.getD,show j < p.size by rw [h.sz];exact hj]
 rw [e1,e2] at e
 exact (List.getElem_inj nd).mp e
noncomputable def Up (lt:Nat -> Nat -> Bool) (p:Array Nat) (k:Nat):Prop:=∀ i j,i < j -> j < k -> lt (p.getD i 0) (p.getD j 0) = true
noncomputable def Dn (lt:Nat -> Nat -> Bool) (p:Array Nat) (k:Nat):Prop:=∀ i j,i < j -> j < k -> lt (p.getD j 0) (p.getD i 0) = true
theorem Up.snoc (O:Ord lt n) (h:Arr p n) {k:Nat} (hk:k < n) (h1:1 <= k) (u:Up lt p k) (hl:lt (p.getD (k - 1) 0) (p.getD k 0) = true):Up lt p (k + 1):=fun i j j6 hj=>by
 by_cases e:j = k
 ·subst e
  by_cases e2:i = j - 1
  ·subst e2;exact hl
  ·exact O.tr _ _ _ (h.bd (by omega)) (h.bd (by omega)) (h.bd hk) (u i (j - 1) (by omega) (by omega)) hl
 ·exact u i j j6 (by omega)
theorem Dn.snoc (O:Ord lt n) (h:Arr p n) {k:Nat} (hk:k < n) (h1:1 <= k) (u:Dn lt p k) (hl:lt (p.getD k 0) (p.getD (k - 1) 0) = true):Dn lt p (k + 1):=fun i j j6 hj=>by
 by_cases e:j = k
 ·subst e
  by_cases e2:i = j - 1
  ·subst e2;exact hl
  ·exact O.tr _ _ _ (h.bd hk) (h.bd (by omega)) (h.bd (by omega)) hl (u i (j - 1) (by omega) (by omega))
 ·exact u i j j6 (by omega)
theorem uv (O:Ord lt n) (h:Arr p n):∀ (f k:Nat),1 <= k -> k + f <= n -> Up lt p k -> j0 n lt (kas_asc p f k) /\ k <= cP lt (kas_asc p f k) /\ cP lt (kas_asc p f k) <= k + f /\ Up lt p (cP lt (kas_asc p f k))
 | 0,k,_,_,u=>⟨trivial,Nat.le_refl _,Nat.le_refl _,u⟩
 | f + 1,k,h1,hf,u=>by
  have a1:p.getD k 0 < n:=h.bd (by omega)
  have a2:p.getD (k - 1) 0 < n:=h.bd (by omega)
  cases c:lt (p.getD k 0) (p.getD (k - 1) 0) with
  | true =>
   have e:cP lt (kas_asc p (f + 1) k) = k:=by
    show cP lt (if lt (p.getD k 0) (p.getD (k - 1) 0) = true then .ret k else kas_asc p f (k + 1)) = k
    rw [c];rfl
   refine ⟨⟨a1,a2,?_⟩,by rw [e];exact Nat.le_refl _,by rw [e];omega,by rw [e];exact u⟩
   show j0 n lt (if lt (p.getD k 0) (p.getD (k - 1) 0) = true then .ret k else kas_asc p f (k + 1))
   rw [c];trivial
  | false =>
   have e:cP lt (kas_asc p (f + 1) k) = cP lt (kas_asc p f (k + 1)):=by
    show cP lt (if lt (p.getD k 0) (p.getD (k - 1) 0) = true then .ret k else kas_asc p f (k + 1)) = _
    rw [c];rfl
   have hl:lt (p.getD (k - 1) 0) (p.getD k 0) = true:=by
    rcases O.QR _ _ a2 a1 (fun z=>absurd (h.inj (by omega) (by omega) z) (by omega)) with z | z
    ·exact z
    ·rw [c] at z;cases z
   obtain ⟨b1,b2,b3,b4⟩:=uv O h f (k + 1) (by omega) (by omega) (u.snoc O h (by omega) h1 hl)
   refine ⟨⟨a1,a2,?_⟩,by rw [e];omega,by rw [e];omega,by rw [e];exact b4⟩
   show j0 n lt (if lt (p.getD k 0) (p.getD (k - 1) 0) = true then .ret k else kas_asc p f (k + 1))
   rw [c];exact b1
theorem zk (O:Ord lt n) (h:Arr p n):∀ (f k:Nat),1 <= k -> k + f <= n -> Dn lt p k -> j0 n lt (kas_desc f p k 0) /\ ∃ m,cP lt (kas_desc f p k 0) = (p,m,0) /\ k <= m /\ m <= k + f /\ Dn lt p m
 | 0,k,_,_,u=>⟨trivial,k,rfl,Nat.le_refl _,Nat.le_refl _,u⟩
 | f + 1,k,h1,hf,u=>by
  have a1:p.getD k 0 < n:=h.bd (by omega)
  have a2:p.getD (k - 1) 0 < n:=h.bd (by omega)
  cases c:lt (p.getD k 0) (p.getD (k - 1) 0) with
  | true =>
   obtain ⟨b1,m,b2,b3,b4,b5⟩:=zk O h f (k + 1) (by omega) (by omega) (u.snoc O h (by omega) h1 c)
   have e:kas_desc (f + 1) p k 0 = .ask (p.getD k 0) (p.getD (k - 1) 0) fun c=>if c = true then (if (0:Nat) > 0 then kas_desc f (kas_rev p (k - (0 + 1)) k) (k + 1) 0 else kas_desc f p (k + 1) 0) else .ask (p.getD (k - 1) 0) (p.getD k 0) fun d=>if d = true then .ret (p,k,0) else kas_desc f p (k + 1) (0 + 1):=rfl
   rw [e]
   refine ⟨⟨a1,a2,?_⟩,m,?_,by omega,by omega,b5⟩
   ·rw [c];exact b1
   ·show cP lt (if lt (p.getD k 0) (p.getD (k - 1) 0) = true then _ else _) = _
    rw [c];exact b2
  | false =>
   have hl:lt (p.getD (k - 1) 0) (p.getD k 0) = true:=by
    rcases O.QR _ _ a2 a1 (fun z=>absurd (h.inj (by omega) (by omega) z) (by omega)) with z | z
    ·exact z
    ·rw [c] at z;cases z
   have e:kas_desc (f + 1) p k 0 = .ask (p.getD k 0) (p.getD (k - 1) 0) fun c=>if c = true then (if (0:Nat) > 0 then kas_desc f (kas_rev p (k - (0 + 1)) k) (k + 1) 0 else kas_desc f p (k + 1) 0) else .ask (p.getD (k - 1) 0) (p.getD k 0) fun d=>if d = true then .ret (p,k,0) else kas_desc f p (k + 1) (0 + 1):=rfl
   rw [e]
   refine ⟨⟨a1,a2,?_⟩,k,?_,Nat.le_refl _,by omega,u⟩
   ·rw [c];exact ⟨a2,a1,by rw [hl];trivial⟩
   ·show cP lt (if lt (p.getD k 0) (p.getD (k - 1) 0) = true then _ else _) = _
    rw [c]
    show cP lt (if lt (p.getD (k - 1) 0) (p.getD k 0) = true then _ else _) = _
    rw [hl];rfl
theorem nI {p q:Array Nat} {i j:Nat} (h:p[i]? = q[j]?):p.getD i 0 = q.getD j 0:=by
 rw [Array.getD_eq_getD_getElem?,Array.getD_eq_getD_getElem?,h]
theorem Jh (h:Arr p n) {m:Nat} (hm:m <= n):Arr (kas_rev p 0 m) n /\ (Dn lt p m -> Up lt (kas_rev p 0 m) m):=by
 have hs:(kas_rev p 0 m).size = p.size:=mirror_size _ _ _ _
 refine ⟨⟨by rw [hs];exact h.sz,?_⟩,fun u i j j6 hj=>?_⟩
 ·have:=(mirror_perm p 0 m ((m - 0) / 2)).toList
  exact this.trans h.pm
 ·have g:∀ k,k < m -> (kas_rev p 0 m).getD k 0 = p.getD (m - 1 - k) 0:=fun k hk=>by
   refine nI ?_
   rw [show kas_rev p 0 m = mirror p 0 m ((m - 0) / 2) from rfl,getElem?_mirror_all (by rw [h.sz];exact hm),if_pos ⟨Nat.zero_le _,hk⟩]
   congr 1;omega
  rw [g i (by omega),g j hj]
  exact u (m - 1 - j) (m - 1 - i) (by omega) (by omega)
theorem BD (O:Ord lt n) (h:Arr p n) {m:Nat} (h1:1 <= m) (hm:m <= n) (u:Dn lt p m):j0 n lt (kas_tail3 m n p) /\ ∃ r,cP lt (kas_tail3 m n p) = r /\ Arr r.2 n /\ 1 <= r.1 /\ r.1 <= n /\ Up lt r.2 r.1:=by
 obtain ⟨a1,a2⟩:=Jh (lt:=lt) h hm
 obtain ⟨b1,b2,b3,b4⟩:=uv O a1 (n - m) m h1 (by omega) (a2 u)
 unfold kas_tail3
 refine ⟨fQ b1 trivial,_,rfl,?_⟩
 rw [hJ]
 exact ⟨a1,Nat.le_trans h1 b2,by show cP lt _ <= n;omega,b4⟩
theorem DB (O:Ord lt n) (h:Arr p n) (hn:2 <= n):j0 n lt (kas_count n p) /\ ∃ r,cP lt (kas_count n p) = r /\ Arr r.2 n /\ 1 <= r.1 /\ r.1 <= n /\ Up lt r.2 r.1:=by
 obtain ⟨b1,b2,b3,b4⟩:=uv O h (n - 1) 1 (Nat.le_refl _) (by omega) (fun i j _ _=>by omega)
 generalize hk:cP lt (kas_asc p (n - 1) 1) = k at *
 have key:∀ t:KasT (Nat × Array Nat),t = (if (k == n) = true then .ret (k,p) else if k > 1 then .ask (p.getD 0 0) (p.getD (k - 1) 0) fun c=>if c = true then .ret (k,p) else kas_descPart k n (kas_rev p 0 k) else kas_descPart k n p) ->
   j0 n lt t /\ ∃ r,cP lt t = r /\ Arr r.2 n /\ 1 <= r.1 /\ r.1 <= n /\ Up lt r.2 r.1:=by
  intro t ht
  by_cases e:k = n
  ·rw [if_pos (by simpa using e)] at ht
   subst ht
   exact ⟨trivial,(k,p),rfl,h,b2,by show k <= n;omega,b4⟩
  ·rw [if_neg (by simpa using e)] at ht
   by_cases e1:k > 1
   ·rw [if_pos e1] at ht
    subst ht
    have hl:lt (p.getD 0 0) (p.getD (k - 1) 0) = true:=b4 0 (k - 1) (by omega) (by omega)
    refine ⟨⟨h.bd (by omega),h.bd (by omega),by rw [hl];trivial⟩,(k,p),?_,h,b2,by omega,b4⟩
    show cP lt (if lt (p.getD 0 0) (p.getD (k - 1) 0) = true then _ else _) = _
    rw [hl];rfl
   ·rw [if_neg e1] at ht
    have hk1:k = 1:=by omega
    subst hk1
    subst ht
    have hl:lt (p.getD 1 0) (p.getD 0 0) = true:=by
     have a1:p.getD 1 0 < n:=h.bd (by omega)
     have a0:p.getD 0 0 < n:=h.bd (by omega)
     cases c:lt (p.getD 1 0) (p.getD 0 0) with
     | true=>rfl
     | false =>
      exfalso
      obtain ⟨f,hf⟩:∃ f,n - 1 = f + 1:=⟨n - 2,by omega⟩
      rw [hf] at hk
      have e':cP lt (kas_asc p (f + 1) 1) = cP lt (kas_asc p f 2):=by
       show cP lt (if lt (p.getD 1 0) (p.getD (1 - 1) 0) = true then .ret 1 else kas_asc p f 2) = _
       rw [show (1 - 1:Nat) = 0 from rfl,c];rfl
      rw [e'] at hk
      have u2:Up lt p 2:=fun i j j6 hj=>by
       have:i = 0 /\ j = 1:=by omega
       obtain ⟨rfl,rfl⟩:=this
       rcases O.QR _ _ a0 a1 (fun z=>absurd (h.inj (by omega) (by omega) z) (by omega)) with z | z
       ·exact z
       ·rw [c] at z;cases z
      obtain ⟨_,c2,_,_⟩:=uv O h f 2 (by omega) (by omega) u2
      omega
    have d2:Dn lt p 2:=fun i j j6 hj=>by
     have:i = 0 /\ j = 1:=by omega
     obtain ⟨rfl,rfl⟩:=this
     exact hl
    obtain ⟨c1,m,c2,c3,c4,c5⟩:=zk O h (n - 2) 2 (by omega) (by omega) d2
    obtain ⟨t1,r,t2,t3⟩:=BD O h (m:=m) (by omega) (by omega) c5
    unfold kas_descPart
    refine ⟨fQ c1 ?_,r,?_,t3⟩
    ·rw [show (1 + 1:Nat) = 2 from rfl,show n - 2 = n - 2 from rfl,c2];exact t1
    ·rw [hJ,show (1 + 1:Nat) = 2 from rfl,c2];exact t2
 have e:=key _ rfl
 refine ⟨?_,?_⟩
 ·unfold kas_count
  exact fQ b1 (by rw [hk];exact e.1)
 ·unfold kas_count
  rw [hJ,hk]
  exact e.2
theorem Arr.or (O:Ord lt n) (h:Arr p n) {i j:Nat} (hi:i < n) (hj:j < n) (e:i ≠ j) (c:lt (p.getD i 0) (p.getD j 0) = false):lt (p.getD j 0) (p.getD i 0) = true:=by
 rcases O.QR _ _ (h.bd hi) (h.bd hj) (fun z=>e (h.inj hi hj z)) with z | z
 ·rw [c] at z;cases z
 ·exact z
theorem oB (O:Ord lt n) (h:Arr p n) {k:Nat} (hk:k < n) (u:Up lt p k):∀ (f l r:Nat),l <= r -> r <= k -> r - l <= f -> (∀ i,i < l -> lt (p.getD i 0) (p.getD k 0) = true) -> (∀ i,r <= i -> i < k -> lt (p.getD k 0) (p.getD i 0) = true) ->
  j0 n lt (kas_place p k f l r) /\ ∃ m,cP lt (kas_place p k f l r) = m /\ m <= k /\ (∀ i,i < m -> lt (p.getD i 0) (p.getD k 0) = true) /\ ∀ i,m <= i -> i < k -> lt (p.getD k 0) (p.getD i 0) = true
 | 0,l,r,hl,hr,hf,a,b=>by
  have:l = r:=by omega
  subst this
  exact ⟨trivial,l,rfl,hr,a,b⟩
 | f + 1,l,r,hl,hr,hf,a,b=>by
  have e:kas_place p k (f + 1) l r = if l ≥ r then .ret l else .ask (p.getD k 0) (p.getD ((l + r) / 2) 0) fun c=>if c = true then kas_place p k f l ((l + r) / 2) else kas_place p k f ((l + r) / 2 + 1) r:=rfl
  rw [e]
  by_cases Kz:l ≥ r
  ·rw [if_pos Kz]
   have:l = r:=by omega
   subst this
   exact ⟨trivial,l,rfl,hr,a,b⟩
  ·rw [if_neg Kz]
   have hm:l <= (l + r) / 2 /\ (l + r) / 2 < r:=by omega
   generalize (l + r) / 2 = m at *
   have b1:p.getD k 0 < n:=h.bd hk
   have b2:p.getD m 0 < n:=h.bd (by omega)
   cases c:lt (p.getD k 0) (p.getD m 0) with
   | true =>
    obtain ⟨c1,m',c2,c3⟩:=oB O h hk u f l m hm.1 (by omega) (by omega) a fun i h1 h2=>by
     by_cases e:i = m
     ·subst e;exact c
     ·exact O.tr _ _ _ b1 b2 (h.bd (by omega)) c (u m i (by omega) h2)
    refine ⟨⟨b1,b2,by rw [c];exact c1⟩,m',?_,c3⟩
    show cP lt (if lt (p.getD k 0) (p.getD m 0) = true then _ else _) = _
    rw [c];exact c2
   | false =>
    have uH:=h.or O hk (by omega) (by omega) c
    obtain ⟨c1,m',c2,c3⟩:=oB O h hk u f (m + 1) r (by omega) hr (by omega) (fun i hi=>by
     by_cases e:i = m
     ·subst e;exact uH
     ·exact O.tr _ _ _ (h.bd (by omega)) b2 b1 (u i m (by omega) (by omega)) uH) b
    refine ⟨⟨b1,b2,by rw [c];exact c1⟩,m',?_,c3⟩
    show cP lt (if lt (p.getD k 0) (p.getD m 0) = true then _ else _) = _
    rw [c];exact c2
theorem A2 (h:Arr p n) {k m:Nat} (hk:k < n) (hm:m <= k) (u:Up lt p k) (a:∀ i,i < m -> lt (p.getD i 0) (p.getD k 0) = true) (b:∀ i,m <= i -> i < k -> lt (p.getD k 0) (p.getD i 0) = true) :
  Arr (bubble p k (k - m)) n /\ Up lt (bubble p k (k - m)) (k + 1):=by
 have hs:(bubble p k (k - m)).size = p.size:=bubble_size _ _ _
 refine ⟨⟨by rw [hs];exact h.sz,(bubble_perm p k (k - m)).toList.trans h.pm⟩,fun i j j6 hj=>?_⟩
 have g:∀ t,(bubble p k (k - m)).getD t 0 = if t = m then p.getD k 0 else if m < t /\ t <= k then p.getD (t - 1) 0 else p.getD t 0:=fun t=>by
  have e:=getElem?_bubble (xs:=p) (src:=k) (by rw [h.sz];exact hk) (k - m) (Nat.sub_le _ _) t
  rw [show k - (k - m) = m by omega] at e
  by_cases h1:t = m
  ·rw [if_pos h1] at e ⊢;exact nI e
  ·rw [if_neg h1] at e ⊢
   by_cases h2:m < t /\ t <= k
   ·rw [if_pos h2] at e ⊢;exact nI e
   ·rw [if_neg h2] at e ⊢;exact nI e
 rw [g i,g j]
 by_cases i1:i = m
 ·rw [if_pos i1,if_neg (by omega),if_pos (by omega)]
  exact b (j - 1) (by omega) (by omega)
 ·rw [if_neg i1]
  by_cases i2:m < i /\ i <= k
  ·rw [if_pos i2,if_neg (by omega),if_pos (by omega)]
   exact u (i - 1) (j - 1) (by omega) (by omega)
  ·rw [if_neg i2]
   by_cases j1:j = m
   ·rw [if_pos j1];exact a i (by omega)
   ·rw [if_neg j1]
    by_cases j2:m < j /\ j <= k
    ·rw [if_pos j2]
     by_cases e:i = j - 1
     ·omega
     ·exact u i (j - 1) (by omega) (by omega)
    ·rw [if_neg j2];exact u i j j6 (by omega)
end
theorem DM {lt:Nat -> Nat -> Bool} {n:Nat} (O:Ord lt n):∀ (f:Nat) {p:Array Nat} {k:Nat},Arr p n -> k + f = n -> Up lt p k -> j0 n lt (kas_bin f p k) /\ Arr (cP lt (kas_bin f p k)) n /\ Up lt (cP lt (kas_bin f p k)) n
 | 0,p,k,h,hk,u=>⟨trivial,h,by rw [<- hk];exact u⟩
 | f + 1,p,k,h,hk,u=>by
  obtain ⟨a1,m,a2,a3,a4,a5⟩:=oB O h (k:=k) (by omega) u k 0 k (Nat.zero_le _) (Nat.le_refl _) (Nat.le_refl _) (fun i hi=>by omega) (fun i h1 h2=>by omega)
  obtain ⟨b1,b2⟩:=A2 h (by omega) a3 u a4 a5
  obtain ⟨c1,c2,c3⟩:=DM O f b1 (by omega) b2
  have e:kas_bin (f + 1) p k = (kas_place p k k 0 k).bind fun l=>kas_bin f (bubble p k (k - l)) (k + 1):=rfl
  rw [e]
  refine ⟨fQ a1 (by rw [a2];exact c1),?_⟩
  rw [hJ,a2]
  exact ⟨c2,c3⟩
theorem EM {lt:Nat -> Nat -> Bool} {n:Nat} (O:Ord lt n) (hn:2 <= n):j0 n lt (kas_sort n) /\ Arr (cP lt (kas_sort n)) n /\ Up lt (cP lt (kas_sort n)) n:=by
 have h0:Arr (List.toArray (List.range n)) n:=⟨by simp,by simp⟩
 obtain ⟨a1,r,a2,a3,a4,a5,a6⟩:=DB O h0 hn
 unfold kas_sort
 have key:∀ t,t = (if r.1 < n then kas_bin (n - max r.1 1) r.2 (max r.1 1) else .ret r.2) -> j0 n lt t /\ Arr (cP lt t) n /\ Up lt (cP lt t) n:=by
  intro t ht
  by_cases h:r.1 < n
  ·rw [if_pos h] at ht
   subst ht
   rw [show max r.1 1 = r.1 by omega]
   exact DM O _ a3 (by omega) a6
  ·rw [if_neg h] at ht
   subst ht
   have:r.1 = n:=by omega
   exact ⟨trivial,a3,by rw [this] at a6;exact a6⟩
 have e:=key _ rfl
 refine ⟨fQ a1 (by rw [a2];exact e.1),?_⟩
 rw [hJ,a2]
 exact e.2
end DI
end
section
namespace DI
open PySem PySem.Spec PyProof.Rows L2
noncomputable def uy (h:Heap) (vs:List Value) (nss:List (List Int)):Prop:=vs.length = nss.length /\ ∀ (i:Nat) (ns:List Int),nss[i]? = some ns -> ∃ t aj,vs[i]? = some (.ref t) /\ IsTup h t aj.toArray /\ IntsAre aj ns
theorem uy.mono {h h':Heap} {vs:List Value} {nss:List (List Int)} (k:∀ b o,h.get? b = some o -> h'.get? b = some o) (t:uy h vs nss):uy h' vs nss :=
 ⟨t.1,fun i ns e=>let ⟨a,aj,e1,⟨o,ho,r⟩,e3⟩:=t.2 i ns e;⟨a,aj,e1,⟨o,k _ _ ho,r⟩,e3⟩⟩
theorem uy.mem {h:Heap} {vs:List Value} {nss:List (List Int)} (t:uy h vs nss) {v:Value} (hv:v ∈ vs):∃ a aj ns,v = .ref a /\ IsTup h a aj.toArray /\ IntsAre aj ns:=by
 obtain ⟨i,hi⟩:=List.mem_iff_getElem?.mp hv
 have hl:i < nss.length:=by rw [<- t.1];exact (List.getElem?_eq_some_iff.mp hi).1
 obtain ⟨a,aj,e1,e2,e3⟩:=t.2 i _ (List.getElem?_eq_getElem hl)
 rw [hi] at e1
 cases e1
 exact ⟨a,aj,_,rfl,e2,e3⟩
section
variable {prog:Program} {w:World} {A:Around} {E:Value -> Shared -> Prop} {s:Shared}
theorem pd:∀ {vs:List Value} {nss:List (List Int)} {Q:List (Option Value) -> Shared -> Prop},uy s.heap vs nss -> (∀ fs:List (Option Value),fs.length = vs.length -> (∀ f ∈ fs,∀ v,f = some v -> ∃ n t,v = .int n t) -> Q fs s) -> wpAny (model prog w) A (vs.mapM firstOfTuple') Q E s
 | [],_,_,_,h=>by rw [List.mapM_nil];exact wpAny_pure (h [] rfl fun _ h=>nomatch h)
 | v :: vs,[],_,t,_=>by have:=t.1;simp at this
 | v :: vs,ns :: nss,Q,t,h=>by
  obtain ⟨a,aj,e,⟨o,ho,hc,n,hd⟩,hi⟩:=t.2 0 ns rfl
  cases e
  rw [List.mapM_cons]
  refine wpAny_bind ?_
  rw [PySem.W.kas_first_eq]
  refine wpAny_bind (PySem.W.Looks.here (show PySem.W.Looks (model prog w) s.heap (typeOf (.ref a)) o.cls from (PySem.W.Looks.ld ho).andThen .now) ?_)
  rw [hc,if_neg (by first | decide | simp)]
  refine wpAny_bind (listItems_at ho hd (wpAny_pure ?_))
  refine wpAny_bind (pd (vs:=vs) (nss:=nss) ⟨by simpa using t.1,fun i ms e=>t.2 (i + 1) ms e⟩ fun fs h1 h2=>wpAny_pure (h _ (by simp [h1]) fun f hf v hv=>?_))
  rcases List.mem_cons.mp hf with rfl | hf
  ·cases hi with
   | nil=>simp at hv
   | cons a' tk hi=>simp at hv;exact ⟨_,_,hv.symm⟩
  ·exact h2 f hf v hv
noncomputable def Ij (κ:SortKind):Prop:=κ = tuples' true \/ κ = general' \/ κ = oneType'
theorem kind_any {vs:List Value} {nss:List (List Int)} {Q:SortKind -> Shared -> Prop} (t:uy s.heap vs nss) (Gf:vs ≠ []) (h:∀ κ,Ij κ -> Q κ s):wpAny (model prog w) A (keyKind' vs.toArray) Q E s:=by
 obtain ⟨v0,vr,rfl⟩:∃ v0 vr,vs = v0 :: vr:=by
  cases vs with
  | nil=>exact absurd rfl Gf
  | cons v0 vr=>exact ⟨v0,vr,rfl⟩
 rw [kat_kind_eq,List.mapM_toArray,map_eq_pure_bind]
 refine wpAny_bind (wpAny_bind (pd t fun fs hl hf=>wpAny_pure ?_))
 by_cases ha:(fs.toArray.all fun x=>x.isSome) = true
 ·rw [if_pos ha]
  refine wpAny_bind (wpAny_rule ?_)
  obtain ⟨gs,hg,hgi⟩:∃ gs:List Value,fs = gs.map some /\ ∀ v ∈ gs,∃ n t,v = .int n t:=by
   clear h hl t
   induction fs with
   | nil=>exact ⟨[],rfl,fun _ h=>nomatch h⟩
   | cons f fs ih =>
    simp only [List.all_toArray,List.all_cons,Bool.and_eq_true] at ha
    obtain ⟨gs,e1,e2⟩:=ih (fun f hf'=>hf f (List.mem_cons_of_mem _ hf')) (by simpa using ha.2)
    cases f with
    | none=>simp at ha
    | some v =>
     exact ⟨v :: gs,by rw [e1];rfl,fun u hu=>by
      rcases List.mem_cons.mp hu with rfl | hu
      ·exact hf _ List.mem_cons_self _ rfl
      ·exact e2 u hu⟩
  subst hg
  obtain ⟨g0,gr,rfl⟩:∃ g0 gr,gs = g0 :: gr:=by
   cases gs with
   | nil=>simp at hl
   | cons a b=>exact ⟨a,b,rfl⟩
  have hfm:(((g0 :: gr).map some).toArray.filterMap id) = (g0 :: gr).toArray:=by simp
  rw [hfm,oneTypeOnly'_eq,List.mapM_toArray,map_eq_pure_bind]
  refine wpAny_bind (wpAny_bind (wpAny_bind (PySem.W.kas_mapM (r:=Value.type "int") _ (fun v hv Q' hq=>by
   obtain ⟨n,t,rfl⟩:=hgi v hv
   exact (PySem.W.Looks.of_pure (M:=model prog w) rfl).here hq) (wpAny_pure ?_))))
  have Dd:((List.map (fun _=>Value.type "int") (g0 :: gr)).toArray.all fun x=>x == Value.type "int") = true:=by
   simp only [List.all_toArray,List.all_map,List.all_eq_true]
   intro _ _
   show (Value.type "int" == Value.type "int") = true
   decide
  have h0:(List.map (fun _=>Value.type "int") (g0 :: gr)).toArray[0]? = some (Value.type "int"):=by simp
  rw [h0]
  simp only [Dd,if_true]
  exact wpAny_pure (wpAny_pure (h _ (.inl rfl)))
 ·rw [if_neg ha]
  by_cases hb:((fs.toArray[0]?.bind id).isSome) = true
  ·rw [if_pos hb]
   exact wpAny_pure (h _ (.inr (.inl rfl)))
  ·rw [if_neg hb]
   rw [oneTypeOnly'_eq,List.mapM_toArray,map_eq_pure_bind]
   refine wpAny_bind (wpAny_bind (wpAny_bind (PySem.W.kas_mapM (r:=Value.type "tuple") _ (fun v hv Q' hq=>by
    obtain ⟨a,aj,ns,rfl,⟨o,ho,hc,_⟩,_⟩:=t.mem hv
    refine PySem.W.Looks.here (show PySem.W.Looks (model prog w) s.heap (typeOf (.ref a)) o.cls from (PySem.W.Looks.ld ho).andThen .now) ?_
    rw [hc];exact hq) (wpAny_pure ?_))))
   have Dd:((List.map (fun _=>Value.type "tuple") (v0 :: vr)).toArray.all fun x=>x == Value.type "tuple") = true:=by
    simp only [List.all_toArray,List.all_map,List.all_eq_true]
    intro _ _
    show (Value.type "tuple" == Value.type "tuple") = true
    decide
   have h0:(List.map (fun _=>Value.type "tuple") (v0 :: vr)).toArray[0]? = some (Value.type "tuple"):=by simp
   rw [h0]
   simp only [Dd,if_true]
   exact wpAny_pure (wpAny_pure (h _ (.inr (.inr rfl))))
theorem JZ {κ:SortKind} (hk:Ij κ) (hu:A.units < cLine) {a b:Addr} {aj FV:List Value} {ns ms:List Int} {Q:Bool -> Shared -> Prop} (ha:IsTup s.heap a aj.toArray) (hb:IsTup s.heap b FV.toArray) (hi:IntsAre aj ns) (hj:IntsAre FV ms) (h:Q (HT.lexLt ns ms) s) :
  wpAny (model prog w) A (keyLt' κ (.ref a) (.ref b)) Q E s:=by
 rcases hk with rfl | rfl | rfl
 ·obtain ⟨o,ho,_,n,hd⟩:=ha
  obtain ⟨o',e9,_,n',OV⟩:=hb
  exact PySem.W.kat_lt ho hd e9 OV (vA 0 hi hj (by simp) h)
 ·exact PySem.W.kat_one _ _ (HT.xk ha hb (by simpa using hi) (by simpa using hj) hu h)
 ·show wpAny (model prog w) A (oneLt' true (.ref a) (.ref b)) Q E s
  rw [oneLt'_eq]
  simp only [if_true]
  refine wpAny_bind (wpAny_cRoomFor hu ?_)
  obtain ⟨⟨cls,dd,data,sl⟩,ho,hc,n,hd⟩:=id ha
  obtain ⟨⟨GS,zm,data2,wK⟩,tf,hc2,n2,hd2⟩:=id hb
  simp only at hc hd hc2 hd2
  subst hc hd hc2 hd2
  refine wpAny_bind (wpAny_callSpecialIfBound?_slot (name:=Str.ofString "__lt__") ⟨_,ho,rfl⟩ PySem.F.slot_tuple_lt (call_meets PySem.F.slot_tuple_lt ⟨_,ho,rfl⟩ PySem.F.entry_tuple_lt (PySem.F.args_tuple_lt_2 _ _) (HT.j3 a b _ _ n n2 dd zm sl wK ns ms (by simpa using hi) (by simpa using hj)) ⟨ho,tf,?_⟩))
  exact wpAny_truthy_bool h
end
end DI
end
section
namespace DI
open PySem PySem.Spec PyProof.Rows L2
noncomputable def QJ (h:Heap) (d:Addr) (es:Array DictEntry) (ep:Nat):Prop:=∃ o,h.get? d = some o /\ o.ExactDict /\ o.data = .dict es ep
section
variable {prog:Program} {w:World} {A:Around} {E:Value -> Shared -> Prop} {s:Shared} {d it:Addr} {es:Array DictEntry} {ep i:Nat}
theorem QJ.typeIs (h:QJ s.heap d es ep):s.TypeIs (.ref d) "dict":=let ⟨o,ho,hx,_⟩:=h;⟨o,ho,hx.1⟩
end
end DI
end
section
namespace DI
open PySem PySem.Spec PyProof.Rows L2
theorem xo:∀ a b c:List Int,HT.lexLt a b = true -> HT.lexLt b c = true -> HT.lexLt a c = true
 | [],[],_,h,_=>by rw [HT.j5] at h;cases h
 | [],_ :: _,[],_,h=>by rw [HT.cY] at h;cases h
 | [],_ :: _,_ :: _,_,_=>rfl
 | _ :: _,[],_,h,_=>by rw [HT.cY] at h;cases h
 | _ :: _,_ :: _,[],_,h=>by rw [HT.cY] at h;cases h
 | x :: a,y :: b,z :: c,h1,h2=>by
  rw [HT.dP] at *
  by_cases e1:x = y
  ·subst e1
   rw [if_pos rfl] at h1
   by_cases e2:x = z
   ·subst e2
    rw [if_pos rfl] at h2 ⊢
    exact xo a b c h1 h2
   ·rw [if_neg e2] at h2 ⊢;exact h2
  ·rw [if_neg e1] at h1
   have l1:x < y:=of_decide_eq_true h1
   by_cases e2:y = z
   ·subst e2
    rw [if_neg (by omega)]
    exact decide_eq_true l1
   ·rw [if_neg e2] at h2
    have l2:y < z:=of_decide_eq_true h2
    rw [if_neg (by omega)]
    exact decide_eq_true (by omega)
theorem s9:∀ a b:List Int,HT.lexLt a b = true -> HT.lexLt b a = false
 | [],[],_=>rfl
 | [],_ :: _,_=>rfl
 | _ :: _,[],h=>by rw [HT.cY] at h;cases h
 | x :: a,y :: b,h=>by
  rw [HT.dP] at *
  by_cases e:x = y
  ·subst e
   rw [if_pos rfl] at h ⊢
   exact s9 a b h
  ·rw [if_neg e] at h
   have l:x < y:=of_decide_eq_true h
   rw [if_neg (by omega)]
   exact decide_eq_false (by omega)
theorem nG:∀ a b:List Int,a ≠ b -> HT.lexLt a b = true \/ HT.lexLt b a = true
 | [],[],h=>absurd rfl h
 | [],_ :: _,_=>.inl rfl
 | _ :: _,[],_=>.inr rfl
 | x :: a,y :: b,h=>by
  rw [HT.dP,HT.dP]
  by_cases e:x = y
  ·subst e
   rw [if_pos rfl,if_pos rfl]
   exact nG a b fun z=>h (by rw [z])
  ·rw [if_neg e,if_neg (Ne.symm e)]
   rcases Int.lt_or_gt_of_ne e with l | l
   ·exact .inl (decide_eq_true l)
   ·exact .inr (decide_eq_true l)
noncomputable def bg (nss:List (List Int)):List (List Int):=nss.mergeSort fun a b=>!HT.lexLt b a
noncomputable def x5 (nss:List (List Int)):Prop:=nss.Pairwise fun a b=>HT.lexLt a b = true
theorem yq:∀ {l m:List (List Int)},x5 l -> x5 m -> l.Perm m -> l = m
 | [],m,_,_,p=>(List.perm_nil.mp p.symm).symm
 | a :: l,[],_,_,p=>by have:=p.length_eq;simp at this
 | a :: l,b :: m,h1,h2,p=>by
  have e:a = b:=by
   have ha:a ∈ b :: m:=p.mem_iff.mp List.mem_cons_self
   have hb:b ∈ a :: l:=p.mem_iff.mpr List.mem_cons_self
   rcases List.mem_cons.mp ha with e | ha
   ·exact e
   ·rcases List.mem_cons.mp hb with e | hb
    ·exact e.symm
    ·have l1:=(List.pairwise_cons.mp h2).1 a ha
     have l2:=(List.pairwise_cons.mp h1).1 b hb
     rw [s9 _ _ l1] at l2;cases l2
  subst e
  rw [yq (List.pairwise_cons.mp h1).2 (List.pairwise_cons.mp h2).2 (List.perm_cons a |>.mp p)]
theorem ka {nss:List (List Int)} (h:nss.Nodup):x5 (bg nss):=by
 have p:(bg nss).Perm nss:=List.mergeSort_perm _ _
 have nd:(bg nss).Nodup:=p.nodup_iff.mpr h
 have sd:(bg nss).Pairwise fun a b=>(!HT.lexLt b a) = true:=List.pairwise_mergeSort (fun a b c h1 h2=>by
  cases e:HT.lexLt c a with
  | false=>rfl
  | true =>
   exfalso
   by_cases rE:b = c
   ·subst rE;rw [e] at h1;cases h1
   ·rcases nG b c rE with l | l
    ·rw [xo _ _ _ l e] at h1;cases h1
    ·rw [l] at h2;cases h2) (fun a b=>by
  cases e:HT.lexLt b a with
  | false=>rfl
  | true=>rw [s9 _ _ e];rfl) nss
 exact (sd.and nd).imp fun {a b} ⟨h1,h2⟩=>by
  rcases nG a b h2 with l | l
  ·exact l
  ·rw [l] at h1;cases h1
theorem BK {nss l:List (List Int)} (h:nss.Nodup) (hr:x5 l) (p:l.Perm nss):l = bg nss:=yq hr (ka h) (p.trans (List.mergeSort_perm _ _).symm)
noncomputable def ltN (nss:List (List Int)) (i j:Nat):Bool:=HT.lexLt (nss.getD i []) (nss.getD j [])
theorem JD {nss:List (List Int)} (h:nss.Nodup):Ord (ltN nss) nss.length :=
 ⟨fun a b c _ _ _ h1 h2=>xo _ _ _ h1 h2,fun a b _ _ h=>s9 _ _ h,fun a b ha hb rE=>nG _ _ fun e=>rE (by
  have e1:nss.getD a [] = nss[a]:=by simp [ha]
  have e2:nss.getD b [] = nss[b]:=by simp [hb]
  rw [e1,e2] at e
  exact (List.getElem_inj h).mp e)⟩
theorem qU {nss:List (List Int)} (h:nss.Nodup) {p:Array Nat} (ha:Arr p nss.length) (hu:Up (ltN nss) p nss.length):(p.toList.map fun i=>nss.getD i []) = bg nss:=by
 refine BK h ?_ ?_
 ·refine List.pairwise_iff_getElem.mpr fun i j hi hj j6=>?_
  simp only [List.length_map,Array.length_toList] at hi hj
  have:=hu i j j6 (by rw [<- ha.sz];exact hj)
  unfold ltN at this
  have e:∀ k (hk:k < p.size),p.getD k 0 = p[k]:=fun k hk=>by simp [Array.getD,hk]
  rw [e i hi,e j hj] at this
  simpa using this
 ·have e:nss = (List.range nss.length).map fun i=>nss.getD i []:=by
   refine List.ext_getElem (by simp) fun i h1 h2=>?_
   simp [h1]
  refine (ha.pm.map fun i=>nss.getD i []).trans ?_
  rw [<- e]
end DI
end
section
namespace DI
open PySem PySem.Spec PyProof.Rows L2
section
variable {prog:Program} {w:World} {A:Around} {E:Value -> Shared -> Prop} {s:Shared}
theorem BJ {a:Addr} {vs:List Value} {nss:List (List Int)} {n:Nat} {P:PySem.Fin -> Shared -> Prop} (hu:A.units < cLine) (ho:s.heap.get? a = some (seqObj "list" vs.toArray n)) (vM:vs.length < 64) (D4:nss.Nodup)
  (ht:uy (((s.heap.update a (Obj.mapSeq fun _=>#[])).push (seqObj "tuple" vs.toArray 0)).push (seqObj "list" #[] 0)) vs nss)
  (h:∀ p:Array Nat,Arr p vs.length -> (p.toList.map fun i=>nss.getD i []) = bg nss -> P (.done (.ret .none)) { s with heap:=sortedHeap s.heap a vs (List.toArray (p.toList.map fun i=>vs.getD i Value.none)) }) :
  wpAny (model prog w) A (Builtin.«list.sort» ⟨[.ref a],[]⟩) P E s:=by
 rw [list_sort_plain]
 have ha:a < s.heap.objs.size:=Heap.lt_size ho
 have td:vs.toArray.size = vs.length:=by simp
 have hz:vs.length <= sizeLine:=by rw [sizeLine_eq];omega
 have hl:=ht.1
 refine wpAny_bind (listItems_at ho rfl (wpAny_bind (listUpdate_at ho rfl ?_ (by rw [td];exact hz) (Nat.zero_le _))))
 obtain ⟨e1,Mp⟩:∃ e1,(s.heap.update a (Obj.mapSeq fun _=>#[])).get? a = some (seqObj "list" #[] e1):=⟨_,get?_update_seq ho (fun _=>#[])⟩
 refine wpAny_bind (seqEpoch_at Mp rfl (wpAny_bind (wpAny_newTuple (wpAny_bind (wpAny_newList (wpAny_holding ?_) (Nat.zero_le _))) (by simpa using hz))))
 have ho6:(((s.heap.update a (Obj.mapSeq fun _=>#[])).push (seqObj "tuple" vs.toArray 0)).push (seqObj "list" #[] 0)).get? a = some (seqObj "list" #[] e1):=Heap.get?_push_of_some _ (Heap.get?_push_of_some _ Mp)
 show wpAny (model prog w) A _ P E ({ s with heap:=((s.heap.update a (Obj.mapSeq fun _=>#[])).push (seqObj "tuple" vs.toArray 0)).push (seqObj "list" #[] 0) }:Shared)
 dsimp only
 have fin:∀ (p9:SortSt) (p:Array Nat),Arr p vs.length -> (p.toList.map fun i=>nss.getD i []) = bg nss -> (arrOf p9).map (·.2) = List.toArray (p.toList.map fun i=>vs.getD i Value.none) -> failedOf p9 = none -> wpAny (model prog w) A (do
   let touched:=(<- seqEpoch a) != e1
   Builtin.List.listUpdate (.ref a) fun _=>(arrOf p9).map (·.2)
   if let some e:=failedOf p9 then rule "list.sort.comparison-raised";throw e
   if touched then rule "list.sort.modified";raiseError "ValueError" "list modified during sort"
   ret .none) P E ({ s with heap:=((s.heap.update a (Obj.mapSeq fun _=>#[])).push (seqObj "tuple" vs.toArray 0)).push (seqObj "list" #[] 0) }:Shared):=by
  intro p9 p hp hs hA hF
  refine wpAny_bind (seqEpoch_at ho6 rfl ?_)
  rw [hA]
  refine wpAny_bind (listUpdate_at ho6 rfl ?_ (Nat.zero_le _) (by rw [List.size_toArray,List.length_map,Array.length_toList,hp.sz];exact Nat.le_succ_of_le hz))
  rw [hF]
  simp only [bne_self_eq_false,Bool.false_eq_true,if_false]
  exact wpAny_pure (h p hp hs)
 by_cases h2:vs.toArray.size < 2
 ·rw [if_pos h2,if_pos h2]
  refine wpAny_bind (wpAny_pure ?_)
  rw [StateT.run_pure]
  refine wpAny_bind (wpAny_pure ?_)
  rw [td] at h2
  have XH:Arr (List.toArray (List.range vs.length)) vs.length:=⟨by simp,by simp⟩
  refine fin (SortSt.mk' general' (vs.toArray.zip vs.toArray) #[] 7 none) (List.toArray (List.range vs.length)) XH ?_ ?_ rfl
  ·rw [hl] at XH ⊢
   exact qU D4 XH fun i j j6 hj=>by omega
  ·apply Array.toList_inj.mp
   show (Array.map (·.2) (vs.toArray.zip vs.toArray)).toList = _
   rw [Array.toList_map,show (vs.toArray.zip vs.toArray) = pairsOf vs from rfl,pairsOf_toList,List.map_snd_zip (Nat.le_refl _)]
   refine List.ext_getElem (by simp) fun i h1 h2=>?_
   simp [h1]
 ·rw [if_neg h2,if_neg h2]
  rw [td] at h2
  refine wpAny_bind (kind_any ht (fun z=>by rw [z] at h2;simp at h2) fun κ hk=>?_)
  have ok:=EM (JD D4) (by rw [<- hl];omega)
  refine wpAny_bind (wpAny_mono (PySem.W.kat_run (ks:=vs) (vs:=vs) (κ:=κ) (Q:=fun p9 s'=>s' = ({ s with heap:=((s.heap.update a (Obj.mapSeq fun _=>#[])).push (seqObj "tuple" vs.toArray 0)).push (seqObj "list" #[] 0) }:Shared) /\ ∃ p,Arr p vs.length /\ (p.toList.map fun i=>nss.getD i []) = bg nss /\ (arrOf p9).map (·.2) = List.toArray (p.toList.map fun i=>vs.getD i Value.none) /\ failedOf p9 = none)
   (G:=fun p s'=>s' = ({ s with heap:=((s.heap.update a (Obj.mapSeq fun _=>#[])).push (seqObj "tuple" vs.toArray 0)).push (seqObj "list" #[] 0) }:Shared) /\ Arr p vs.length /\ (p.toList.map fun i=>nss.getD i []) = bg nss) rfl (by omega) vM (fun p p9 s' hps har hf hG=>⟨hG.1,p,hG.2.1,hG.2.2,PySem.W.kat_snds rfl har,hf⟩) ?_) (fun r s' ⟨e,p,hp,hs,hA,hF⟩=>?_) fun _ _ e=>e)
  rotate_left
  ·subst e
   exact fin r.2 p hp hs hA hF
  ·rw [hl]
   refine zF (lt:=ltN nss) (n:=nss.length) (fun i j C hi hj hC=>?_) _ ok.1 ⟨rfl,ok.2.1,qU D4 ok.2.1 ok.2.2⟩
   obtain ⟨x,aj,e1,i1,i2⟩:=ht.2 i _ (List.getElem?_eq_getElem hi)
   obtain ⟨y,FV,e2,j1,j2⟩:=ht.2 j _ (List.getElem?_eq_getElem hj)
   unfold PySem.W.kas_ask
   rw [show vs.getD i Value.none = .ref x by simp [e1],show vs.getD j Value.none = .ref y by simp [e2]]
   refine JZ hk hu i1 j1 i2 j2 ?_
   have e3:nss.getD i [] = nss[i]:=by simp [hi]
   have e4:nss.getD j [] = nss[j]:=by simp [hj]
   have hC':C (HT.lexLt (nss.getD i []) (nss.getD j [])) _:=hC
   rw [e3,e4] at hC'
   exact hC'
end
end DI
end
section
namespace DI
open PySem PySem.Spec PyProof.Rows L2
section
variable {α β:Type}
noncomputable def oZ:List (List Int) -> List α -> List Int -> Option α
 | c' :: cs,v :: vs,c=>if c' = c then some v else oZ cs vs c
 | _,_,_=>none
noncomputable def setC:List (List Int) -> List α -> List Int -> α -> List α
 | c' :: cs,v' :: vs,c,v=>(if c' = c then v else v') :: setC cs vs c v
 | _,_,_,_=>[]
noncomputable def yL (cs:List (List Int)) (c:List Int):List (List Int):=if c ∈ cs then cs else cs ++ [c]
noncomputable def x8 (cs:List (List Int)) (vs:List α) (c:List Int) (v:α):List α:=if c ∈ cs then setC cs vs c v else vs ++ [v]
end
section
variable {zs:List (List Int × Addr × Value)} {c:List Int}
end
end DI
end
section
namespace DI
open PySem PySem.Spec PyProof.Rows L2
section
variable {X:Cx} {pins:List (Addr × Obj)} {σ:St} {H:Hp} {s:Shared} {p b:Addr} {cs:List (List Int)} {as:List Addr} {xs:List V} {ep:Nat} {c:List Int} {A:Around} {E:Value -> Shared -> Prop}
theorem items_int:∀ {c:List Int} {aj:List Value},Vals (c.map V.int) aj -> ItemsAre (intKind X.prog X.w) c aj
 | [],_,h=>by cases h;exact .nil
 | i :: c,_,h=>by
  cases h with
  | cons h t =>
   obtain ⟨t',rfl⟩:=h
   exact .cons (by simp [intKind,Value.isInt]) (items_int t)
end
end DI
end
section
namespace DI
open PySem PySem.Spec PyProof.Rows L2
theorem Fd {T:kO} {N N':iU} {k k':aH} {v:V} {d:D} (h:Rep T N k v d) (hf:aT anyF d = false):Rep T N' k' v d:=by
 have:=Rep.gen (T':=T) (N':=N') (g:=id) (P:=anyF) (C:=fun _ _=>True) (I:=fun _ _=>True) (fun _ _ h=>h) trivial (fun _ _ e=>e) (fun _ _ _ _ e _=>e) (fun k k' p xs f _ hz _=>nomatch hz) h (k':=k') trivial hf
 rw [eU] at this;exact this
noncomputable def Pt (xs:List D):O D:=match xs with
 | []=>ok (.jG .ow [] [])
 | _ :: _=>none
noncomputable def three {α:Type}:List α -> Option (α × α × α)
 | [a,b,c]=>some (a,b,c)
 | _=>none
noncomputable def zo:D -> Option (List (List Int) × List D)
 | .jG _ cs vs=>some (cs,vs)
 | _=>none
noncomputable def keyOf:D -> Option (List Int)
 | .tup ks=>intsOf ks
 | _=>none
theorem vD {d:D} {c:List Int} (h:keyOf d = some c):d = .tup (c.map D.int):=by
 cases d <;> first | (cases h;done) | skip
 rw [dW (show intsOf _ = some c from h)]
noncomputable def Y7 (xs:List D):O D:=match two xs with
 | some z=>match zo z.1 with
  | some d=>match keyOf z.2 with
   | some c=>match oZ d.1 d.2 c with
    | some v=>if aT anyF v = false then ok v else none
    | none=>none
   | none=>none
  | none=>none
 | none=>none
end DI
end
section
namespace DI
open PySem PySem.Spec PyProof.Rows L2
noncomputable def Pu (xs:List D):O D:=match three xs with
 | some z=>match zo z.1 with
  | some d=>match keyOf z.2.1 with
   | some c=>if az anyF d.2 = false /\ aT anyF z.2.2 = false then ok ((oZ d.1 d.2 c).getD z.2.2) else none
   | none=>none
  | none=>none
 | none=>none
noncomputable def Pr (xs:List D):O D:=match three xs with
 | some z=>match z.1 with
  | .jG f cs vs=>match keyOf z.2.2 with
   | some c=>if fe f = true /\ aT anyF z.2.1 = false /\ cs.length < eN then ok (.jG .ow (yL cs c) (x8 cs vs c z.2.1)) else none
   | none=>none
  | _=>none
 | none=>none
mutual
theorem any_map (g:Fl -> Fl):∀ d:D,aT anyF (aD g d) = aT anyF d
 | .bE=>rfl
 | .bl _=>rfl
 | .int _=>rfl
 | .tup ds=>wG g ds
 | .lst _ ds=>rfl
 | .jG _ _ ds=>rfl
 | .kM _ _ ds=>rfl
theorem wG (g:Fl -> Fl):∀ ds:List D,az anyF (ai g ds) = az anyF ds
 | []=>rfl
 | d :: ds=>by show (aT _ _ || az _ _) = (aT _ d || az _ ds);rw [any_map g d,wG g ds]
end
mutual
theorem LS:∀ d:D,aT anyF d = false -> aT cn d = false
 | .bE,_=>rfl
 | .bl _,_=>rfl
 | .int _,_=>rfl
 | .tup ds,h=>zH ds h
 | .lst _ ds,h=>nomatch h
 | .jG _ _ ds,h=>nomatch h
 | .kM _ _ ds,h=>nomatch h
theorem zH:∀ ds:List D,az anyF ds = false -> az cn ds = false
 | [],_=>rfl
 | d :: ds,h=>by
  have h:=Bb h
  show (aT _ d || az _ ds) = false
  rw [LS d h.1,zH ds h.2];rfl
end
end DI
end
section
namespace DI
open PySem PySem.Spec PyProof.Rows L2
section
variable {X:Cx} {pins:List (Addr × Obj)} {σ:St} {H:Hp} {s:Shared} {d:Addr} {cs:List (List Int)} {as:List Addr} {xs:List V} {ep:Nat}
end
end DI
end
section
namespace DI
open PySem PySem.Spec PyProof.Rows L2
noncomputable def LF (xs:List D):O D:=match one xs with
 | some d=>match zo d with
  | some z=>ok (.lst .ow (z.1.map fV))
  | none=>none
 | none=>none
theorem Fc {T:kO} {N:iU} {k:aH} {a:Addr} {c:List Int} (h:T a (c.map V.int)):Rep T N k (.ref a) (fV c):=.tup h (ag.ints c)
noncomputable def LD (xs:List D):O D:=match one xs with
 | some d=>match zo d with
  | some z=>if z.1.length < 64 then ok (.lst .ow ((bg z.1).map fV)) else none
  | none=>none
 | none=>none
theorem qZ {T:kO} {N:iU}:∀ {bs:List Addr} {cs:List (List Int)} {k:aH} {n:Nat},mX T bs cs -> ag T N k n (bs.map V.ref) (cs.map fV)
 | [],[],_,_,_=>.nil
 | [],_ :: _,_,_,h=>by have:=h.len;simp at this
 | _ :: _,[],_,_,h=>by have:=h.len;simp at this
 | b :: bs,c :: cs,_,_,h=>.cons (Fc (h.tup 0 b c rfl rfl)) (qZ ⟨by have:=h.len;simpa using this,fun j a c' h1 h2=>h.tup (j + 1) a c' h1 h2⟩)
end DI
end
section
namespace DI
open PySem PySem.Spec PyProof.Rows L2
noncomputable def zx (f g:Str) (sc:Scope) (bl:List Str) (e:Expr):Option (List Expr):=match gQ f sc bl e with
 | some z=>match one z with
  | some i=>gQ g sc bl i
  | none=>none
 | none=>none
theorem DH {f g:Str} {sc:Scope} {bl:List Str} {e:Expr} {args:List Expr} (h:zx f g sc bl e = some args):∃ p pos p' pos' a,e = .Call (.Name f p) [.Call (.Name g p') [a] [] pos'] [] pos /\ args = [a] /\ iV sc f = true /\ f ∈ bl /\ iV sc g = true /\ g ∈ bl:=by
 unfold zx at h
 cases h1:gQ f sc bl e with
 | none=>rw [h1] at h;cases h
 | some z =>
  rw [h1] at h
  obtain ⟨p,pos,i,rfl,rfl,g1,g2⟩:=jH h1
  have h:gQ g sc bl i = some args:=h
  obtain ⟨p',pos',a,rfl,rfl,g3,g4⟩:=jH h
  exact ⟨p,pos,p',pos',a,rfl,rfl,g1,g2,g3,g4⟩
noncomputable def xm (xs:List D):O D:=match one xs with
 | some x=>match x with
  | .lst _ ds=>match intsOf ds with
   | some ns=>if ns.length < 4000 then ok (.int (ji ns).length) else none
   | none=>none
  | _=>none
 | none=>none
theorem FQ {xs:List D} {d:D} (h:xm xs = ok d):∃ (f:Fl) (ns:List Int),xs = [.lst f (ns.map D.int)] /\ ns.length < 4000 /\ d = .int (ji ns).length:=by
 unfold xm at h
 cases hw:one xs with
 | none=>rw [hw] at h;cases h
 | some x =>
  obtain rfl:=cB hw
  rw [hw] at h
  cases x <;> first | (cases h;done) | skip
  rename_i f ds
  have h:(match intsOf ds with | some ns=>if ns.length < 4000 then ok (D.int (ji ns).length) else none | none=>none) = ok d:=h
  cases hn:intsOf ds with
  | none=>rw [hn] at h;cases h
  | some ns =>
   rw [hn] at h
   obtain ⟨h1,h2⟩:=qp h
   cases dW hn
   exact ⟨f,ns,rfl,h1,h2.symm⟩
noncomputable def rLl (K:PySem.W.Frag):List V -> Hp -> VK -> Prop:=fun xs H Q=>∃ (p:Addr) (ns:List Int),xs = [.ref p] /\ du K H p (ns.map V.int) /\ ns.length < 4000 /\ Q (.int (ji ns).length) H
theorem Ci {X:Cx} {e:Expr} {t:TA} {p p' pos pos':Pos} (hc:X.calm = true) (OQ:Gl X ("len" : Str)) (OL:X.mg ("len" : Str) = none) (Xy:Gl X ("set" : Str)) (OK:X.mg ("set" : Str) = none) (ha:PA X [e] t)
  (pZ:∀ es,starEach (e :: es) X.env = (false,eval e X.env) :: starEach es X.env):PE X (.Call (.Name ("len" : Str) p) [.Call (.Name ("set" : Str) p') [e] [] pos'] [] pos) (L5 (rLl X.K) t):=by
 intro pins s σ H Q I h
 refine wpAny_Call_Name_kw (eK I OQ OL PySem.boot_len ?_ (by decide) (by decide))
 refine PyProof.Rows.callWith_builtin1 ?_ rfl rfl
 show wpAny _ _ (spliced ((false,eval (.Call (.Name ("set" : Str) p') [e] [] pos') X.env) :: [])) _ _ s
 refine Calls.spliced_cons ?_
 refine wpAny_Call_Name_kw (eK I Xy OK boot_set ?_ (by decide) (by decide))
 refine PyProof.Rows.callWith_type1 (dS (ha pos' pins s σ H _ I h) fun us s1 ⟨vs,H1,I1,r1,q1⟩=>?_) (pZ _) rfl
 obtain ⟨a,ns,rfl,hq,hl,q⟩:=q1
 obtain ⟨u,rfl,ru⟩:=r1.one
 cases ru
 obtain ⟨aj,rv,pl,hz⟩:=I1.list hq
 have hle:aj.length = ns.length:=by rw [<- rv.length];simp
 refine call_set_list (I1.ok.hd hc) (cI pl) (ns:=ns) (by simpa using df rv) (by simp;unfold scanBound;omega) fun h' tk hS kp=>Calls.spliced_nil ?_
 have e1:aj.toArray.size = ns.length:=by rw [List.size_toArray,hle]
 rw [e1] at hS
 change h'.SetOf (intKind X.prog X.w) s1.heap.objs.size (fun k=>(dist ns).any (· == k)) (dist ns).length at hS
 rw [v_] at hS
 obtain ⟨o,es,ep,tb,g1,g2,g3,_,_,g6,g7,g8⟩:=hS
 refine call_len_set g1 g2 g3 g7 (by unfold scanBound at g6;omega) ?_
 exact ⟨.int (ji ns).length,H1,I1.kept (t':=tk + 1 + 1) fun b u z=>kp b u (Heap.lt_size z) z,⟨_,by rw [g8]⟩,q⟩
theorem J1 {Φ:aA} {n:Nat} (hΦ:Φ n = xm) {X:Cx} {sc:Scope} {bl:List Str} {k:Nat} (L:PX X sc bl k) {e:Expr} {args:List Expr} (he:zx ("len" : Str) ("set" : Str) sc bl e = some args) {F:Addr -> Prop} {cs:List CE} (hs:qM X F Φ cs args):PE X e (tD X F Φ (.eE n cs)) /\ PT X e (ie X F Φ (.eE n cs)):=by
 obtain ⟨p,pos,p',pos',a,rfl,rfl,h1,h2,h3,h4⟩:=DH he
 obtain ⟨pa,s1⟩:=yx hs
 cases cs with
 | nil=>exact hs.elim
 | cons c cs=>cases cs with
  | cons _ _=>exact hs.2.2.2.elim
  | nil =>
   have this:PE X (.Call (.Name ("len" : Str) p) [.Call (.Name ("set" : Str) p') [a] [] pos'] [] pos) (tD X F Φ (.eE n [c])):=by
    refine PE.imp (Ci L.calm (L.gl h1) (L.bl _ h2) (L.gl h3) (L.bl _ h4) pa s1) fun σ H Q hq=>?_
    obtain ⟨R,τ,ρ,d,Si,ev,hq⟩:=hq
    obtain ⟨xs,dk,ev⟩:=ah ev
    rw [hΦ] at ev
    obtain ⟨f,ns,rfl,hl,rfl⟩:=FQ ev
    refine ⟨R,τ,ρ,_,Si,dk,fun vs H1 e1 r1=>?_⟩
    obtain ⟨τt,fr,rs⟩:=r1
    obtain ⟨v,rfl,rv⟩:=rs.one
    cases rv with
    | lst h r=>cases r.ofInts;exact ⟨_,ns,rfl,h.sq,hl,hq _ H1 e1 .int⟩
   exact ⟨this,dj this fun _=>rfl⟩
end DI
end
section
namespace DI
open PySem PySem.Spec PyProof.Rows L2
noncomputable def pA (xs:List D):O D:=match two xs with
 | some z=>match z.1 with
  | .tup ds=>match z.2 with
   | .int k=>if 1 <= k /\ k <= ds.length /\ az anyF ds = false then ok (.tup (ds.drop k.toNat)) else none
   | _=>none
  | _=>none
 | none=>none
theorem DA {x y d:D} (h:pA [x,y] = ok d):∃ (ds:List D) (k:Nat),x = .tup ds /\ y = .int k /\ 1 <= k /\ k <= ds.length /\ az anyF ds = false /\ d = .tup (ds.drop k):=by
 cases x <;> first | (cases h;done) | (cases y <;> first | (cases h;done) | skip)
 obtain ⟨⟨h1,h2,h3⟩,h4⟩:=qp h
 rename_i ds k
 exact ⟨ds,k.toNat,rfl,by rw [Int.toNat_of_nonneg (by omega)],by omega,by omega,h3,h4.symm⟩
theorem q_ {T:kO} {N N':iU}:∀ {k k':aH} {n n':Nat} {vs:List V} {ds:List D},ag T N k n vs ds -> az anyF ds = false -> ag T N' k' n' vs ds
 | _,_,_,_,_,_,.nil,_=>.nil
 | _,_,_,_,_,_,.cons h t,hf=>.cons (Fd h (Bb hf).1) (q_ t (Bb hf).2)
theorem any_drop:∀ (k:Nat) {ds:List D},az anyF ds = false -> az anyF (ds.drop k) = false
 | 0,_,h=>h
 | k + 1,[],h=>h
 | k + 1,_ :: _,h=>any_drop k (Bb h).2
theorem vd {n k:Nat} (h:k <= n):HT.eD n 0 (some (k:Int)) = k:=by
 unfold HT.eD
 simp
 rw [if_neg (by omega)]
 omega
theorem oy (n m:Nat):HT.eD n m none = m:=by
 unfold HT.eD
 rfl
theorem GP {Φ:aA} {n:Nat} (hΦ:Φ n = pA) {X:Cx} {sc:Scope} {bl:List Str} {k:Nat} (L:PX X sc bl k) {e:Expr} {args:List Expr} (he:mE true sc bl e = some args) {F:Addr -> Prop} {cs:List CE} (hs:qM X F Φ cs args):PE X e (tD X F Φ (.eE n cs)) /\ PT X e (ie X F Φ (.eE n cs)):=by
 obtain ⟨a,ke,p,pos,rfl,rfl⟩:=rQ he
 cases cs with
 | nil=>exact hs.elim
 | cons c cs=>cases cs with
  | nil=>exact hs.2.2.2.elim
  | cons c' cs=>cases cs with
   | cons _ _=>exact hs.2.2.2.2.2.2.elim
   | nil =>
    obtain ⟨h1,_,_,h2,_,_,_⟩:=hs
    have this:PE X (.Subscript a (.Slice (some ke) none none p) pos) (tD X F Φ (.eE n [c,c'])):=by
     refine PE.imp (vo (IP) h1 (sP h2) sQ) fun σ H Q hq=>?_
     obtain ⟨R,τ,ρ,d,Si,ev,hq⟩:=hq
     obtain ⟨xs,dk,ev⟩:=ah ev
     obtain ⟨x,ex,dk⟩:=ah dk
     obtain ⟨ys,qB,dk⟩:=ah dk
     cases dk
     obtain ⟨y,ey,qB⟩:=ah qB
     cases qB
     rw [hΦ] at ev
     obtain ⟨ds,j,rfl,rfl,j1,j2,hf,rfl⟩:=DA ev
     refine tD.intro Si ex fun v H1 e1 r1=>tD.intro (Si.go e1) ey fun w H2 e2 r2=>?_
     cases r2.isInt
     refine ⟨j,rfl,?_⟩
     obtain ⟨τt,fr,rp⟩:=r1
     cases rp with
     | @tup _ q xs _ hT rs =>
      have hT2:aG X.K H2 q xs:=aG.same e2 hT
      have hlen:=rs.length
      have ee:=e1.trans e2
      refine ⟨q,xs,rfl,hT2,by rw [vd (by omega),oy];omega,fun l hl=>?_⟩
      have XB:wa xs (some (j:Int)) none = xs.drop j:=by
       unfold wa
       rw [vd (by omega),oy,<- List.length_drop,List.take_length]
      rw [XB]
      refine hq _ _ (ee.trans (ao.upd hl)) ⟨fun _=>none,fun _ _ h=>by simp at h,.tup (aG.of aM) ?_⟩
      have r3:=q_ (N':=nd X.K R (kN (gP X F) τ (iQ (.eE n [c,c']))) (fun _=>none) H1) (k':=[]) (n':=0) (rs.Dz j) (any_drop j hf)
      exact (r3.imp (fun _ _ h=>aG.same (e2.trans (ao.upd hl)) h) fun _ _ _ _ h=>nd.same (e2.trans (ao.upd hl)) h)
    exact ⟨this,dj this fun _=>rfl⟩
end DI
end
section
namespace DI
open PySem PySem.Spec PyProof.Rows L2
noncomputable def Ma (xs:List D):O D:=match two xs with
 | some z=>match z.2 with
  | .lst _ ds=>if b_ 8 z.1 = true /\ ds.all (b_ 8) = true then ok (.bl (!ds.any fun d=>gO d z.1)) else none
  | _=>none
 | none=>none
theorem JO {x y d:D} (h:Ma [x,y] = ok d):∃ f ds,y = .lst f ds /\ b_ 8 x = true /\ ds.all (b_ 8) = true /\ d = .bl (!ds.any fun d=>gO d x):=by
 cases y <;> first | (cases h;done) | skip
 rename_i f ds
 obtain ⟨⟨h1,h2⟩,h3⟩:=qp h
 exact ⟨f,ds,rfl,h1,h2,h3.symm⟩
structure Seen (K:PySem.W.Frag) (H:Hp) (x:V) (d:D):Prop where
 ex:∃ (N:iU) (k:aH),Rep (aG K H) N k x d /\ ∀ q p xs f,N q p (.l xs) f -> du K H p xs
structure QH (K:PySem.W.Frag) (H:Hp) (xs:List V) (ds:List D):Prop where
 ex:∃ (N:iU) (k:aH),ag (aG K H) N k 0 xs ds /\ ∀ q p xs f,N q p (.l xs) f -> du K H p xs
noncomputable def rNq (K:PySem.W.Frag):R2:=fun x y H Q=>∃ p xs ds d,y = .ref p /\ du K H p xs /\ QH K H xs ds /\ Seen K H x d /\ b_ 8 d = true /\ ds.all (b_ 8) = true /\ Q (.bl (!ds.any fun e=>gO e d)) H
section
variable {X:Cx}
open Classical in
theorem HA (hu:X.A.units + 1 + 8 < cLine):j_ X (compareOp .NotIn) (rNq X.K):=by
 intro pins s σ H x y v u Q I rx ry h
 obtain ⟨p,xs,ds,d,rfl,hq,⟨N,k,rs,hN⟩,⟨N',k',rp,Bj⟩,ho,Kx,q⟩:=h
 cases ry
 obtain ⟨aj,r,pl,hz⟩:=I.list hq
 have at_:∀ (j:Nat) (w:Value),aj[j]? = some w -> ∃ e,ds[j]? = some e /\ SeqAt.EqAt X.A.in1 s w v (gO e d):=fun j w hw=>by
  have OO:j < xs.length:=by rw [r.length];exact (List.getElem?_eq_some_iff.mp hw).1
  have yN:xs[j]? = some xs[j]:=List.getElem?_eq_getElem OO
  obtain ⟨w',hw',rx'⟩:=r.get yN
  rw [hw] at hw';cases hw'
  obtain ⟨e,he,re⟩:=rs.vO yN
  exact ⟨e,he,(alike I hN Bj 8 X.A.in1 re rp (List.all_eq_true.mp Kx e (List.mem_of_getElem? he)) ho rx' rx (by show X.A.units + 1 + 8 < cLine;exact hu)).eq⟩
 let e:Value -> Bool:=fun w=>decide (∃ (j:Nat) (c:D),aj[j]? = some w /\ ds[j]? = some c /\ gO c d = true)
 refine SeqAt.notIn_listAt e pl.isList (fun w hw=>?_) ⟨.bl _,H,I,rfl,?_⟩
 ·obtain ⟨j,hj⟩:=List.mem_iff_getElem?.mp (show w ∈ aj by simpa using hw)
  by_cases he:∃ (j:Nat) (c:D),aj[j]? = some w /\ ds[j]? = some c /\ gO c d = true
  ·have:e w = true:=decide_eq_true he
   rw [this]
   obtain ⟨j',c,h1,h2,h3⟩:=he
   obtain ⟨c',h4,h5⟩:=at_ j' w h1
   rw [h2] at h4;cases h4
   rw [h3] at h5;exact h5
  ·have:e w = false:=decide_eq_false he
   rw [this]
   obtain ⟨c,h4,h5⟩:=at_ j w hj
   have:gO c d = false:=by
    cases hb:gO c d with
    | false=>rfl
    | true=>exact absurd ⟨j,c,hj,h4,hb⟩ he
   rw [this] at h5;exact h5
 ·have:aj.toArray.any e = ds.any fun c=>gO c d:=by
   rw [show aj.toArray.any e = aj.any e by simp]
   apply Bool.eq_iff_iff.mpr
   rw [List.any_eq_true,List.any_eq_true]
   constructor
   ·rintro ⟨w,hw,he⟩
    obtain ⟨j,c,h1,h2,h3⟩:=of_decide_eq_true he
    exact ⟨c,List.mem_of_getElem? h2,h3⟩
   ·rintro ⟨c,hc,h3⟩
    obtain ⟨j,hj⟩:=List.mem_iff_getElem?.mp hc
    obtain ⟨x',yN,_⟩:=rs.get hj
    obtain ⟨w,hw,_⟩:=r.get yN
    exact ⟨w,List.mem_of_getElem? hw,decide_eq_true ⟨j,c,hw,hj,h3⟩⟩
  rw [this];exact q
end
noncomputable def zr (_:Scope) (_:List Str) (e:Expr):Option (List Expr):=match zO e with
 | some z=>match one z.2.2 with
  | some r=>if z.2.1 = [.NotIn] /\ i8 r = true then some [z.1,r] else none
  | none=>none
 | none=>none
theorem DE {sc:Scope} {bl:List Str} {e:Expr} {args:List Expr} (h:zr sc bl e = some args):∃ l r p,e = .Compare l [.NotIn] [r] p /\ args = [l,r] /\ i8 r = true:=by
 unfold zr at h
 cases hv:zO e with
 | none=>rw [hv] at h;cases h
 | some z =>
  obtain ⟨l,os,rs⟩:=z
  rw [hv] at h
  obtain ⟨p,rfl⟩:=r6 hv
  replace h:(match one rs with | some r=>if os = [.NotIn] /\ i8 r = true then some [l,r] else none | none=>none) = some args:=h
  cases hw:one rs with
  | none=>rw [hw] at h;cases h
  | some r =>
   rw [hw] at h
   replace h:(if os = [.NotIn] /\ i8 r = true then some [l,r] else none) = some args:=h
   obtain rfl:=cB hw
   by_cases hc:os = [.NotIn] /\ i8 r = true
   ·rw [if_pos hc] at h;cases h;obtain ⟨hc,hn⟩:=hc;subst hc;exact ⟨l,r,p,rfl,rfl,hn⟩
   ·rw [if_neg hc] at h;cases h
theorem NZ {Φ:aA} {n:Nat} (hΦ:Φ n = Ma) {X:Cx} {sc:Scope} {bl:List Str} {k:Nat} (L:PX X sc bl k) {e:Expr} {args:List Expr} (he:zr sc bl e = some args) {F:Addr -> Prop} {cs:List CE} (hs:qM X F Φ cs args):PE X e (tD X F Φ (.eE n cs)) /\ PT X e (ie X F Φ (.eE n cs)):=by
 obtain ⟨l,r,p,rfl,rfl,hn⟩:=DE he
 have hu:X.A.units + 1 + 8 < cLine:=by have:=L.room.units;omega
 cases cs with
 | nil=>exact hs.elim
 | cons c cs=>cases cs with
  | nil=>exact hs.2.2.2.elim
  | cons c' cs=>cases cs with
   | cons _ _=>exact hs.2.2.2.2.2.2.elim
   | nil =>
    obtain ⟨h1,_,_,h2,_,_,_⟩:=hs
    have key:∀ {σ:St} {H:Hp} {R:Addr -> Prop} {τ:Addr -> Option aH} {ρ:aC} {d:D} {Q:VK},SI X F R τ ρ σ H -> aN Φ (.eE n [c,c']) ρ = ok d -> (∀ b H2,d = .bl b -> ao H H2 -> Q (.bl b) H2) -> EE (rNq X.K) (tD X F Φ c) (tD X F Φ c') σ H Q:=by
     intro σ H R τ ρ d Q Si ev hq
     obtain ⟨xs,dk,ev⟩:=ah ev
     obtain ⟨x,ex,dk⟩:=ah dk
     obtain ⟨ys,qB,dk⟩:=ah dk
     cases dk
     obtain ⟨y,ey,qB⟩:=ah qB
     cases qB
     rw [hΦ] at ev
     obtain ⟨f,ds,rfl,ha,hb,rfl⟩:=JO ev
     refine tD.intro Si ex fun v H1 e1 r1=>tD.intro (Si.go e1) ey fun u H2 e2 r2=>?_
     obtain ⟨_,_,p1⟩:=r1.go e2
     obtain ⟨_,_,p2⟩:=r2
     cases p2 with
     | lst t2 s2 =>
      exact ⟨_,_,_,_,rfl,t2.sq,⟨_,_,s2,fun q p xs f h=>h.sq⟩,⟨_,_,p1,fun q p xs f h=>h.sq⟩,ha,hb,hq _ H2 rfl (e1.trans e2)⟩
    refine ⟨PE.imp (sS (HA hu) h1 h2 (sU hn)) fun σ H Q hq=>?_,PT.imp (sM (HA hu) h1 h2 (sU hn)) fun σ H Q hq=>?_⟩
    ·obtain ⟨R,τ,ρ,d,Si,ev,hq⟩:=hq
     exact key Si ev fun b H2 e es=>hq _ H2 es (by subst e;exact .bl)
    ·obtain ⟨R,τ,ρ,b,Si,ev,hq⟩:=hq
     obtain ⟨d,ed,et⟩:=ah ev
     refine key Si ed fun b' H2 e es=>?_
     subst e
     cases et
     exact ⟨_,rfl,hq H2 es⟩
end DI
end
section
namespace DI
open PySem PySem.Spec PyProof.Rows L2
noncomputable def gw:List D -> Option (List (List Int))
 | []=>some []
 | d :: ds=>match keyOf d with
  | some c=>(gw ds).map (c :: ·)
  | none=>none
theorem oz:∀ {ds:List D} {nss:List (List Int)},gw ds = some nss -> ds = nss.map fV
 | [],nss,h=>by cases h;rfl
 | d :: ds,nss,h=>by
  have h:(match keyOf d with | some c=>(gw ds).map (c :: ·) | none=>none) = some nss:=h
  cases hk:keyOf d with
  | none=>rw [hk] at h;cases h
  | some c =>
   rw [hk] at h
   obtain ⟨mss,h1,rfl⟩:=Option.map_eq_some_iff.mp (show (gw ds).map (c :: ·) = some nss from h)
   rw [oz h1,vD hk];rfl
theorem mh:∀ nss:List (List Int),gw (nss.map fV) = some nss
 | []=>rfl
 | c :: nss=>by
  show (match keyOf (fV c) with | some c=>(gw (nss.map fV)).map (c :: ·) | none=>none) = _
  have:keyOf (fV c) = some c:=bq c
  rw [this,mh nss];rfl
noncomputable def B5 (K:PySem.W.Frag) (H:Hp) (ys:List V) (nss:List (List Int)):Prop:=ys.length = nss.length /\ ∀ (i:Nat) (ns:List Int),nss[i]? = some ns -> ∃ t,ys[i]? = some (.ref t) /\ aG K H t (ns.map V.int)
theorem qY {K:PySem.W.Frag} {H:Hp} {N:iU} {k:aH} {n:Nat} {ys:List V} {nss:List (List Int)} (r:ag (aG K H) N k n ys (nss.map fV)):B5 K H ys nss:=by
 refine ⟨by rw [r.length,List.length_map],fun i ns e=>?_⟩
 obtain ⟨v,hv,rv⟩:=r.get (j:=i) (d:=fV ns) (by rw [List.getElem?_map,e];rfl)
 cases rv with
 | tup ht rs=>cases rs.ofInts;exact ⟨_,hv,ht⟩
section
variable {prog:Program} {w:World} {A:Around} {E:Value -> Shared -> Prop} {s:Shared}
theorem su {l:Addr} {vs:List Value} {nss:List (List Int)} {Q:Value -> Shared -> Prop} (hu:A.units + 2 < cLine) (hl:s.heap.IsList l vs.toArray) (vM:vs.length < 64) (D4:nss.Nodup) (ht:uy s.heap vs nss)
  (h:∀ p:Array Nat,Arr p vs.length -> (p.toList.map fun i=>nss.getD i []) = bg nss -> Q (.ref (s.heap.objs.size + 1)) { s with heap:=sortedAll s.heap vs (List.toArray (p.toList.map fun i=>vs.getD i Value.none)) }) :
  wpAny (model prog w) A (call (.builtin "sorted") [.ref l]) Q E s:=by
 refine Calls.call_function_entry kind_sorted plain_sorted entry_sorted (args_sorted1 _) ?_
 unfold Builtin.«sorted»
 have hz:vs.length <= sizeLine:=by rw [sizeLine_eq];omega
 refine wpAny_bind (m:=checkCount "sorted" 1 1 _) (wpAny_pure (wpAny_bind (collect_list hl (wpAny_bind (wpAny_newList ?_ hz)) hz)))
 have e1:((s.heap.push (seqObj "list" #[] 0)).update s.heap.objs.size (Obj.mapSeq (· ++ vs.toArray))).objs.size = s.heap.objs.size + 1:=by rw [Heap.size_update,size_push']
 have e2:(((s.heap.push (seqObj "list" #[] 0)).update s.heap.objs.size (Obj.mapSeq (· ++ vs.toArray))).push (seqObj "list" vs.toArray 0)).get? (s.heap.objs.size + 1) = some (seqObj "list" vs.toArray 0):=by
  rw [<- e1];exact Heap.get?_push_size _ rfl
 show wpAny _ _ _ _ _ ({ s with heap:=((s.heap.push (seqObj "list" #[] 0)).update s.heap.objs.size (Obj.mapSeq (· ++ vs.toArray))).push (seqObj "list" vs.toArray 0) }:Shared)
 rw [e1]
 have k1:∀ b o,s.heap.get? b = some o -> (((s.heap.push (seqObj "list" #[] 0)).update s.heap.objs.size (Obj.mapSeq (· ++ vs.toArray))).push (seqObj "list" vs.toArray 0)).get? b = some o:=fun b o e=>by
  refine Heap.get?_push_of_some _ ?_
  rw [Heap.get?_update_other _ _ (Nat.ne_of_gt (Heap.lt_size e))]
  exact Heap.get?_push_of_some _ e
 have k6:∀ b o,s.heap.get? b = some o -> ((((((s.heap.push (seqObj "list" #[] 0)).update s.heap.objs.size (Obj.mapSeq (· ++ vs.toArray))).push (seqObj "list" vs.toArray 0)).update (s.heap.objs.size + 1) (Obj.mapSeq fun _=>#[])).push (seqObj "tuple" vs.toArray 0)).push (seqObj "list" #[] 0)).get? b = some o:=fun b o e=>by
  refine Heap.get?_push_of_some _ (Heap.get?_push_of_some _ ?_)
  rw [Heap.get?_update_other _ _ (Nat.ne_of_gt (Nat.lt_succ_of_lt (Heap.lt_size e)))]
  exact k1 b o e
 exact wpAny_bind (wpAny_holding (wpAny_call_entry slot_list_sort ⟨_,e2,rfl⟩ entry_list_sort (BJ (s:={ s with heap:=((s.heap.push (seqObj "list" #[] 0)).update s.heap.objs.size (Obj.mapSeq (· ++ vs.toArray))).push (seqObj "list" vs.toArray 0) }) (nss:=nss) (show A.in1.in1.units < cLine by show A.units + 1 + 1 < cLine;omega) e2 vM D4 (ht.mono k6) fun p hp hs=>⟨_,rfl,wpAny_pure ⟨_,rfl,h p hp hs⟩⟩) (args_list_sort _)))
end
theorem xT {X:Cx} (hu:X.A.units + 2 < cLine):gI X (.builtin "sorted") (fun xs H Q=>∃ (p:Addr) (ys:List V) (nss:List (List Int)),xs = [.ref p] /\ du X.K H p ys /\ B5 X.K H ys nss /\ nss.Nodup /\ nss.length < 64 /\
  ∀ (l:Addr) (bs:List Addr),H l = none -> mX (aG X.K H) bs (bg nss) -> Q (.ref l) (upd H l (.lst (bs.map V.ref)))):=by
 intro pins s σ H xs us Q I r h
 obtain ⟨p,ys,nss,rfl,hq,⟨hl,hT⟩,D4,vM,q⟩:=h
 obtain ⟨u,rfl,ru⟩:=r.one
 cases ru
 obtain ⟨aj,rv,pl,hz⟩:=I.list hq
 have HN:aj.length = nss.length:=by rw [<- rv.length];exact hl
 have at_:∀ (i:Nat) (ns:List Int),nss[i]? = some ns -> ∃ t,ys[i]? = some (.ref t) /\ aj[i]? = some (.ref t) /\ aG X.K H t (ns.map V.int):=fun i ns e=>by
  obtain ⟨t,e1,e2⟩:=hT i ns e
  obtain ⟨u,hu,ru⟩:=rv.get e1
  cases ru
  exact ⟨t,e1,hu,e2⟩
 have KQ:∃ as:List Addr,aj = as.map Value.ref /\ as.length = nss.length:=by
  have:∀ (aj:List Value) (nss:List (List Int)),aj.length = nss.length -> (∀ (i:Nat) (ns:List Int),nss[i]? = some ns -> ∃ t,aj[i]? = some (.ref t)) -> ∃ as:List Addr,aj = as.map Value.ref /\ as.length = nss.length:=fun aj=>by
   induction aj with
   | nil=>intro nss h _;exact ⟨[],rfl,by simpa using h⟩
   | cons v aj ih =>
    intro nss h hh
    cases nss with
    | nil=>simp at h
    | cons ns nss =>
     obtain ⟨t,ht⟩:=hh 0 ns rfl
     obtain ⟨as,h1,h2⟩:=ih nss (by simpa using h) fun i ms e=>hh (i + 1) ms e
     cases ht
     exact ⟨t :: as,by rw [h1];rfl,by simp [h2]⟩
  exact this aj nss HN fun i ns e=>let ⟨t,_,h,_⟩:=at_ i ns e;⟨t,h⟩
 obtain ⟨as,rfl,O0⟩:=KQ
 have hk:mX (aG X.K H) as nss:=⟨O0,fun j a c h1 h2=>by
  obtain ⟨t,_,e2,e3⟩:=at_ j c h2
  rw [List.getElem?_map,h1] at e2
  cases e2;exact e3⟩
 refine su (nss:=nss) hu (cI pl) (by rw [List.length_map];omega) D4 ⟨by rw [List.length_map,O0],fun i ns e=>?_⟩ fun pm hp hs=>?_
 ·obtain ⟨t,_,e2,e3⟩:=at_ i ns e
  obtain ⟨FV,rj,ij,_⟩:=I.tuple e3
  exact ⟨t,FV,e2,ij,df rj⟩
 ·rw [List.length_map] at hp
  have Xk:(pm.toList.map fun i=>(as.map Value.ref).getD i Value.none) = (pm.toList.map fun i=>as.getD i 0).map Value.ref:=by
   rw [List.map_map]
   refine List.map_congr_left fun i hi=>?_
   have mm:i < as.length:=List.mem_range.mp (hp.pm.mem_iff.mp hi)
   simp [mm]
  rw [Xk]
  have XD:mX (aG X.K H) (pm.toList.map fun i=>as.getD i 0) (bg nss):=by
   rw [<- hs]
   refine ⟨by simp,fun j a c h1 h2=>?_⟩
   rw [List.getElem?_map] at h1 h2
   cases hj:pm.toList[j]? with
   | none=>rw [hj] at h1;cases h1
   | some i =>
    rw [hj] at h1 h2
    have mm:i < as.length:=List.mem_range.mp (hp.pm.mem_iff.mp (List.mem_of_getElem? hj))
    cases h1
    cases h2
    exact hk.tup i _ _ (by simp [mm]) (by simp [show i < nss.length by omega])
  have OA:∀ l:List Addr,Vals (l.map V.ref) (l.map Value.ref):=fun l=>by
   induction l with
   | nil=>exact .nil
   | cons a l ih=>exact .cons rfl ih
  obtain ⟨e,he⟩:=sortedAll_at s.heap (as.map Value.ref) (List.toArray ((pm.toList.map fun i=>as.getD i 0).map Value.ref))
  have hn:H (s.heap.objs.size + 1) = none:=I.dD.fresh (Nat.le_succ _)
  refine ⟨.ref (s.heap.objs.size + 1),upd H (s.heap.objs.size + 1) (.lst ((pm.toList.map fun i=>as.getD i 0).map V.ref)),I.laid (t':=s.toks) (fun b u z=>sortedAll_old z) (Nat.le_succ _) ⟨?_,_,e,OA _,he⟩,rfl,q _ _ hn XD⟩
  rw [List.length_map,List.length_map,Array.length_toList,hp.sz,sizeLine_eq];omega
noncomputable def kb (xs:List D):O D:=match one xs with
 | some x=>match x with
  | .lst _ ds=>match gw ds with
   | some nss=>if nss.Nodup /\ nss.length < 64 then ok (.lst .ow ((bg nss).map fV)) else none
   | none=>none
  | _=>none
 | none=>none
theorem zU {xs:List D} {r:D} (h:kb xs = ok r):∃ (f:Fl) (nss:List (List Int)),xs = [.lst f (nss.map fV)] /\ nss.Nodup /\ nss.length < 64 /\ r = .lst .ow ((bg nss).map fV):=by
 unfold kb at h
 cases h1:one xs with
 | none=>rw [h1] at h;cases h
 | some x =>
  rw [h1] at h
  obtain rfl:=cB h1
  cases x <;> first | (cases h;done) | skip
  rename_i f ds
  have h:(match gw ds with | some nss=>if nss.Nodup /\ nss.length < 64 then ok (D.lst .ow ((bg nss).map fV)) else none | none=>none) = ok r:=h
  cases h2:gw ds with
  | none=>rw [h2] at h;cases h
  | some nss =>
   rw [h2] at h
   obtain ⟨⟨g1,g2⟩,g3⟩:=qp h
   cases oz h2
   exact ⟨f,nss,rfl,g1,g2,g3.symm⟩
theorem BL {Φ:aA} {n:Nat} (hΦ:Φ n = kb) {X:Cx} {sc:Scope} {bl:List Str} {k:Nat} (L:PX X sc bl k) {e:Expr} {args:List Expr} (he:gQ ("sorted" : Str) sc bl e = some args) {F:Addr -> Prop} {cs:List CE} (hs:qM X F Φ cs args):PE X e (tD X F Φ (.eE n cs)) /\ PT X e (ie X F Φ (.eE n cs)):=by
 obtain ⟨p,pos,a,rfl,rfl,h1,h2⟩:=jH he
 cases cs with
 | nil=>exact hs.elim
 | cons c cs=>cases cs with
  | cons _ _=>exact hs.2.2.2.elim
  | nil =>
   have pa:PA X [a] (uR X F Φ [c]):=PA.imp (dB hs.1 (PA.imp gK fun _ _ _ h=>kT h) (hs.2.1 _)) fun _ _ _ h=>g_ h
   have hu:X.A.units + 2 < cLine:=Nat.lt_of_le_of_lt (Nat.add_le_add_left (by decide:2 <= 64) _) L.room.units
   have this:PE X (.Call (.Name ("sorted" : Str) p) [a] [] pos) (tD X F Φ (.eE n [c])):=by
    refine PE.imp (fW (xT hu) (L.gl h1) (L.bl _ h2) (by decide +kernel) pa (he:=hs.2.1 _)) fun σ H Q hq=>?_
    obtain ⟨R,τ,ρ,d,Si,ev,hq⟩:=hq
    obtain ⟨xs,dk,ev⟩:=ah ev
    rw [hΦ] at ev
    obtain ⟨f,nss,rfl,g1,g2,rfl⟩:=zU ev
    refine ⟨R,τ,ρ,_,Si,dk,fun us H1 e1 r1=>?_⟩
    obtain ⟨τt,fr,rs⟩:=r1
    obtain ⟨v,rfl,rv⟩:=rs.one
    cases rv with
    | lst h r =>
     refine ⟨_,_,nss,rfl,h.sq,qY r,g1,g2,fun l bs uH XD=>hq _ _ (e1.trans (ao.upd uH)) (cc.vx (e1.free uH) (e1.trans (ao.upd uH)) aM ?_)⟩
     exact qZ (XD.imp fun _ _ h=>aG.same (ao.upd uH) h)
   exact ⟨this,dj this fun _=>rfl⟩
noncomputable def Aw (xs:List D):O D:=match two xs with
 | some z=>match z.1 with
  | .lst _ ds=>match gw ds with
   | some nss=>match keyOf z.2 with
    | some c=>if c ∈ nss /\ nss.length <= eN then ok (.int (nss.idxOf c)) else none
    | none=>none
   | none=>none
  | _=>none
 | none=>none
theorem Ga {x y r:D} (h:Aw [x,y] = ok r):∃ (f:Fl) (nss:List (List Int)) (c:List Int),x = .lst f (nss.map fV) /\ y = fV c /\ c ∈ nss /\ nss.length <= eN /\ r = .int (nss.idxOf c):=by
 cases x <;> first | (cases h;done) | skip
 rename_i f ds
 have h:(match gw ds with | some nss=>(match keyOf y with | some c=>if c ∈ nss /\ nss.length <= eN then ok (D.int (nss.idxOf c)) else none | none=>none) | none=>none) = ok r:=h
 cases h2:gw ds with
 | none=>rw [h2] at h;cases h
 | some nss =>
  rw [h2] at h
  have h:(match keyOf y with | some c=>if c ∈ nss /\ nss.length <= eN then ok (D.int (nss.idxOf c)) else none | none=>none) = ok r:=h
  cases h3:keyOf y with
  | none=>rw [h3] at h;cases h
  | some c =>
   rw [h3] at h
   obtain ⟨⟨g1,g2⟩,g3⟩:=qp h
   cases oz h2
   exact ⟨f,nss,c,rfl,vD h3,g1,g2,g3.symm⟩
noncomputable def TU (K:PySem.W.Frag):V -> List V -> Hp -> VK -> Prop:=fun x vs H Q=>∃ (l b:Addr) (xs:List V) (nss:List (List Int)) (c:List Int),x = .ref l /\ vs = [.ref b] /\ du K H l xs /\ B5 K H xs nss /\ aG K H b (c.map V.int) /\ c ∈ nss /\ nss.length <= eN /\ Q (.int (nss.idxOf c)) H
theorem vh {T:kO} {p:Addr} {c:List Int} (h:T p (c.map V.int)) (N:iU) (k:aH):Rep T N k (.ref p) (fV c):=.tup h (jF c)
open Classical in
theorem CF {X:Cx} (hu:X.A.units + 1 + 8 < cLine):MtR X "list.index" (TU X.K):=by
 intro pins s σ H x vs v us Q I rx rv h
 obtain ⟨l,b,xs,nss,c,rfl,rfl,hq,⟨hl,hT⟩,hb,hc,m9,q⟩:=h
 cases rx
 obtain ⟨u,rfl,ru⟩:=rv.one
 cases ru
 obtain ⟨aj,r,pl,hz⟩:=I.list hq
 have HN:aj.length = nss.length:=by rw [<- r.length];exact hl
 have at_:∀ (j:Nat) (ns:List Int),nss[j]? = some ns -> ∃ t,aj[j]? = some (.ref t) /\ aG X.K H t (ns.map V.int) /\ SeqAt.EqAt X.A.in1 s (.ref t) (.ref b) (decide (ns = c)):=fun j ns e=>by
  obtain ⟨t,e1,e2⟩:=hT j ns e
  obtain ⟨w,hw,qX⟩:=r.get e1
  cases qX
  have k1:=(alike I (N:=fun _ _ _ _=>False) (N':=fun _ _ _ _=>False) (fun _ _ _ _ h=>h.elim) (fun _ _ _ _ h=>h.elim) 8 X.A.in1 (vh e2 _ []) (vh hb _ []) (by show (ns.map D.int).all (b_ 7) = true;rw [List.all_eq_true];intro d hd;obtain ⟨i,_,rfl⟩:=List.mem_map.mp hd;rfl) (by show (c.map D.int).all (b_ 7) = true;rw [List.all_eq_true];intro d hd;obtain ⟨i,_,rfl⟩:=List.mem_map.mp hd;rfl) rfl rfl (by show X.A.units + 1 + 8 < cLine;exact hu)).eq
  have k2:gO (fV ns) (fV c) = decide (ns = c):=by
   show dy (ns.map D.int) (c.map D.int) = _
   clear k1 hb hc q e e1 e2 hw
   induction ns generalizing c with
   | nil=>cases c <;> rfl
   | cons a as ih =>
    cases c with
    | nil=>rfl
    | cons b' bs =>
     show ((a == b') && dy (as.map D.int) (bs.map D.int)) = _
     rw [ih]
     by_cases ha:a = b' <;> by_cases hs:as = bs <;> simp [ha,hs]
  rw [k2] at k1
  exact ⟨t,hw,e2,k1⟩
 let e:Value -> Bool:=fun w=>decide (∃ j:Nat,aj[j]? = some w /\ nss[j]? = some c)
 have hj:nss.idxOf c < nss.length:=List.idxOf_lt_length_iff.mpr hc
 have hjc:nss[nss.idxOf c]? = some c:=by rw [List.getElem?_eq_getElem hj,List.getElem_idxOf]
 have unique:∀ (j j':Nat) (w:Value) (ns:List Int),aj[j]? = some w -> aj[j']? = some w -> nss[j]? = some ns -> nss[j']? = some c -> ns = c:=fun j j' w ns h1 h2 h3 h4=>by
  obtain ⟨t,a1,a2,_⟩:=at_ j ns h3
  obtain ⟨t',b1,b2,_⟩:=at_ j' c h4
  rw [h1] at a1;cases a1
  rw [h2] at b1;cases b1
  have:=I.jB a2 b2
  have inj:∀ a b:List Int,a.map V.int = b.map V.int -> a = b:=fun a=>by
   induction a with
   | nil=>intro b h;cases b with | nil=>rfl | cons _ _=>cases h
   | cons x xs ih=>intro b h;cases b with | nil=>cases h | cons y ys=>rw [ih ys (List.cons.inj h).2,V.int.inj (List.cons.inj h).1]
  exact inj _ _ this
 obtain ⟨⟨cls,dd,dat,sl⟩,n,ho,Gj,hdn,hdat⟩:=pl
 simp only at Gj hdn hdat
 subst Gj hdat
 have hjs:nss.idxOf c < aj.toArray.size:=by rw [List.size_toArray];omega
 have acm:nss.length <= 1000000:=m9
 have ej:e aj.toArray[nss.idxOf c] = true:=decide_eq_true ⟨nss.idxOf c,by rw [List.getElem_toArray];exact List.getElem?_eq_getElem (by omega),hjc⟩
 have en:∀ m (hm:m < aj.toArray.size),m < nss.idxOf c -> e aj.toArray[m] = false:=fun m hm iX=>by
  refine decide_eq_false ?_
  rintro ⟨j',h1,h2⟩
  have hm':m < nss.length:=by omega
  rw [List.getElem_toArray] at h1
  have:=unique m j' _ nss[m] (List.getElem?_eq_getElem (by simpa using hm)) h1 (List.getElem?_eq_getElem hm') h2
  have z:=List.not_of_lt_findIdx (p:=fun x=>x == c) iX
  rw [this] at z
  simp at z
 refine call_meets PySem.F.slot_list_index ⟨_,ho,rfl⟩ PySem.F.entry_list_index (PySem.F.args_list_index_2 _ _) (SeqAt.list_indexAt l aj.toArray n dd sl (.ref b) e (nss.idxOf c) hjs (by omega) ej en) ⟨ho,fun y hy=>?_,?_⟩
 ·obtain ⟨j,HM⟩:=List.mem_iff_getElem?.mp (show y ∈ aj by simpa using hy)
  have OO:j < nss.length:=by rw [<- HN];exact (List.getElem?_eq_some_iff.mp HM).1
  obtain ⟨t,a1,a2,a3⟩:=at_ j nss[j] (List.getElem?_eq_getElem OO)
  rw [HM] at a1;cases a1
  by_cases xy:nss[j] = c
  ·have:e (.ref t) = true:=decide_eq_true ⟨j,HM,by rw [List.getElem?_eq_getElem OO,xy]⟩
   rw [this]
   rw [decide_eq_true xy] at a3;exact a3
  ·have:e (.ref t) = false:=decide_eq_false fun ⟨j',h1,h2⟩=>xy (unique j j' _ _ HM h1 (List.getElem?_eq_getElem OO) h2)
   rw [this]
   rw [decide_eq_false xy] at a3;exact a3
 ·exact ⟨.int (nss.idxOf c),H,I.tok _,⟨_,rfl⟩,q⟩
noncomputable def tZ (_:Scope) (_:List Str) (e:Expr):Option (List Expr):=match qP ("index" : Str) (.Expr e ⟨0,0,0,0⟩) with
 | some z=>match one z.2 with
  | some y=>if isNm z.1 = true then some [z.1,y] else none
  | none=>none
 | none=>none
theorem AX {sc:Scope} {bl:List Str} {e:Expr} {args:List Expr} (h:tZ sc bl e = some args):∃ x p p1 p2 a,e = .Call (.Attribute (.Name x p) ("index" : Str) p1) [a] [] p2 /\ args = [.Name x p,a] /\ (p1.endLine == p2.line) = true:=by
 unfold tZ at h
 cases h1:qP ("index" : Str) (.Expr e ⟨0,0,0,0⟩) with
 | none=>rw [h1] at h;cases h
 | some z =>
  obtain ⟨o,as⟩:=z
  rw [h1] at h
  have h2:(match one as with | some y=>if isNm o = true then some [o,y] else none | none=>none) = some args:=h
  clear h
  cases h3:one as with
  | none=>rw [h3] at h2;cases h2
  | some y =>
   rw [h3] at h2
   have h4:(if isNm o = true then some [o,y] else none) = some args:=h2
   clear h2
   by_cases hn:isNm o = true
   ·rw [if_pos hn] at h4
    cases h4
    obtain ⟨p1,p2,pos,e1,hl⟩:=uK h1
    cases e1
    cases o <;> first | (cases hn;done) | skip
    obtain rfl:=cB h3
    exact ⟨_,_,_,_,_,rfl,rfl,hl⟩
   ·rw [if_neg hn] at h4;cases h4
theorem Ks {Φ:aA} {n:Nat} (hΦ:Φ n = Aw) {X:Cx} {sc:Scope} {bl:List Str} {k:Nat} (L:PX X sc bl k) {e:Expr} {args:List Expr} (he:tZ sc bl e = some args) {F:Addr -> Prop} {cs:List CE} (hs:qM X F Φ cs args):PE X e (tD X F Φ (.eE n cs)) /\ PT X e (ie X F Φ (.eE n cs)):=by
 obtain ⟨x,p,p1,p2,a,rfl,rfl,hl⟩:=AX he
 have hu:X.A.units + 1 + 8 < cLine:=by have:=L.room.units;omega
 cases cs with
 | nil=>exact hs.elim
 | cons c cs=>cases cs with
  | nil=>exact hs.2.2.2.elim
  | cons c' cs=>cases cs with
   | cons _ _=>exact hs.2.2.2.2.2.2.elim
   | nil =>
    obtain ⟨h1,_,_,h2,s2,_,_⟩:=hs
    have this:PE X (.Call (.Attribute (.Name x p) ("index" : Str) p1) [a] [] p2) (tD X F Φ (.eE n [c,c'])):=by
     refine PE.imp (Ck PySem.F.plainAttrs_list PySem.F.slot_list_index PySem.F.type_list_index (CF hu) h1 (dB h2 gK (s2 _)) (hfew:=by rw [s2];rfl) (hline:=hl) (hs:=s2 _)) fun σ H Q hq=>?_
     obtain ⟨R,τ,ρ,d,Si,ev,hq⟩:=hq
     obtain ⟨xs,dk,ev⟩:=ah ev
     obtain ⟨y,ey,dk⟩:=ah dk
     obtain ⟨ys,qB,dk⟩:=ah dk
     cases dk
     obtain ⟨w,ew,qB⟩:=ah qB
     cases qB
     rw [hΦ] at ev
     obtain ⟨f,nss,t,rfl,rfl,g1,g2,rfl⟩:=Ga ev
     refine tD.intro Si ey fun v H1 e1 r1=>?_
     obtain ⟨_,_,q1⟩:=r1
     cases q1 with
     | lst hn rs =>
      refine ⟨.inl ⟨rfl,_,hn.sq⟩,tD.intro (Si.go e1) ew fun u H2 e2 r2=>?_⟩
      obtain ⟨_,_,q2⟩:=r2
      cases q2 with
      | tup hT B1 =>
       cases B1.ofInts
       obtain ⟨k1,k2⟩:=qY rs
       exact ⟨_,_,_,nss,t,rfl,rfl,(nd.same e2 hn).sq,⟨k1,fun i ns e=>let ⟨z,z1,z2⟩:=k2 i ns e;⟨z,z1,aG.same e2 z2⟩⟩,hT,g1,g2,hq _ H2 (e1.trans e2) .int⟩
    exact ⟨this,dj this fun _=>rfl⟩
end DI
end
section
namespace DI
open PySem PySem.Spec PyProof.Rows L2
section
variable {prog:Program} {w:World} {A:Around} {E:Value -> Shared -> Prop} {s:Shared}
theorem CC (l:Addr) (items:Array Value):Meets (Builtin.«enumerate.__new__» ⟨[.type "enumerate",.ref l],[]⟩) (fun _ R s=>s.heap.IsTuple l items /\
  R (.ok (.ret (.ref (s.heap.push { cls:=.type "tuple_iterator",data:=.fields #[.ref l,.int 0 0] }).objs.size))) { s with heap:=(s.heap.push { cls:=.type "tuple_iterator",data:=.fields #[.ref l,.int 0 0] }).push { cls:=.type "enumerate",data:=.fields #[.none,.bool false,.ref s.heap.objs.size,rawInt 0,.none,.none] } }) :=
 .of_wp fun prog w A R s h=>by
  obtain ⟨hp,g,d,tk,os⟩:=s;obtain ⟨hL,h⟩:=h
  obtain ⟨ob,hl,r⟩:=id hL
  have OC:=sub_enumerate
  wp_walk using AutoSeq1.wpAny_loadPart' hl
  refine wpAny_stack_any fun st=>wpAny_pure ?_
  split
  ·rename_i c _ _ _ _ _
   cases (c == Value.type "enumerate") <;> (wp_walk using AutoSeq1.wpAny_loadPart' hl,wpAny_pyIter_tuple hL;exact ⟨_,rfl,h⟩)
  ·wp_walk using AutoSeq1.wpAny_loadPart' hl,wpAny_pyIter_tuple hL
   exact ⟨_,rfl,h⟩
theorem xU {l:Addr} {items:Array Value} {Q:Value -> Shared -> Prop} (hL:s.heap.IsTuple l items)
  (h:∀ h',IsEnum h' (s.heap.objs.size + 1) s.heap.objs.size 0 .none -> h'.IsTupleIter s.heap.objs.size l 0 -> (∀ b o,s.heap.get? b = some o -> h'.get? b = some o) -> Q (.ref (s.heap.objs.size + 1)) { s with heap:=h' }) :
  wpAny (model prog w) A (call (.type "enumerate") [.ref l]) Q E s:=by
 refine callType_new F.called_enumerate (by decide) (F.typeCall_enumerate_1 _) (F.newCall_enumerate_1 _) (fun obj=>F.args_object_init_2 obj _) F.entry_enumerate_new (CC l items) ⟨hL,?_⟩
 have hz:(s.heap.push { cls:=.type "tuple_iterator",data:=.fields #[.ref l,.int 0 0] }).objs.size = s.heap.objs.size + 1:=Heap.size_push ..
 show _ /\ _
 rw [hz]
 have he:IsEnum ((s.heap.push { cls:=.type "tuple_iterator",data:=.fields #[.ref l,.int 0 0] }).push { cls:=.type "enumerate",data:=.fields #[.none,.bool false,.ref s.heap.objs.size,rawInt 0,.none,.none] }) (s.heap.objs.size + 1) s.heap.objs.size 0 .none:=by
  have:=Heap.get?_push_size (s.heap.push { cls:=.type "tuple_iterator",data:=.fields #[.ref l,.int 0 0] }) (o:={ cls:=.type "enumerate",data:=.fields #[.none,.bool false,.ref s.heap.objs.size,rawInt 0,.none,.none] }) rfl
  rw [hz] at this;exact this
 exact ⟨⟨_,he,rfl⟩,h _ he ⟨_,Heap.get?_push_of_some _ (Heap.get?_push_size _ rfl),rfl,rfl⟩ fun b o x=>Heap.get?_push_of_some _ (Heap.get?_push_of_some _ x)⟩
theorem AO {e it l:Addr} {i:Nat} {items:Array Value} {old:Value} {Q:Option Value -> Shared -> Prop} (hh:A.handled = none) (he:IsEnum s.heap e it i old) (hit:s.heap.IsTupleIter it l i) (hl:s.heap.IsTuple l items) (hx:items[i]? = none)
  (hQ:∀ h',Heap.ExtBut it s.heap h' -> Q none { s with heap:=h' }):wpAny (model prog w) A (pyNext (.ref e)) Q E s:=by
 have hT:s.TypeIs (.ref e) "enumerate":=⟨_,he,rfl⟩
 unfold pyNext
 refine wpAny_bind (wpAny_attempt (wpAny_callSpecial?_slot (name:=Str.ofString "__next__") hT F.slot_enumerate_next (wpAny_call_entry F.slot_enumerate_next hT F.entry_enumerate_next ?_ (F.args_enumerate_next_1 _))))
 show wpAny _ _ (field (.ref e) 2 >>= _) _ _ _
 refine wpAny_bind (wpAny_field he rfl (x:=.ref it) rfl (wpAny_bind (qS (A:=A.in1) hh hx s _ _ ⟨hit,hl⟩ fun h' x he' yN=>?_)))
 obtain ⟨o,ho,hc⟩:=yN
 exact wpAny_bind (wpAny_isInstance (T:="StopIteration") (b:=true) ⟨o,ho,hc⟩ isSubtype_stop (wpAny_pure (hQ _ he')))
end
noncomputable def LZ (K:PySem.W.Frag) (a:Addr):It :=
  ⟨fun i H=>∃ xs x,aG K H a xs /\ xs[i]? = some x,
   fun i H v H'=>∃ T x,(∀ xs,aG K H a xs -> xs[i]? = some x) /\ H T = none /\ v = .ref T /\ H' = upd H T (.tup [.int i,x]),
   fun i H=>∃ xs,aG K H a xs /\ xs.length <= i⟩
theorem wW {P:Program} {w:World} {K:PySem.W.Frag} {elts:List Expr} {n1:Nat} {tp:Pos} {a e it:Addr} (Gf:e ≠ it) :
  Turn P w K (.Tuple elts n1 tp) (LZ K a) [e,it] e (fun i h=>(∃ old,IsEnum h e it (i:Int) old) /\ h.IsTupleIter it a i):=by
 refine ⟨by simp,fun i h st c hc=>?_,fun i h h' st k=>?_,?_,?_,fun A i s Q E st hQ=>?_⟩
 ·obtain ⟨⟨old,he⟩,⟨o1,e1,_,d1⟩⟩:=st
  simp only [List.mem_cons,List.not_mem_nil,or_false] at hc
  rcases hc with rfl | rfl
  ·exact ⟨_,he,fun v q=>by cases q⟩
  ·exact ⟨o1,e1,fun v q=>by rw [d1] at q;cases q⟩
 ·obtain ⟨⟨old,he⟩,l1⟩:=st
  exact ⟨⟨old,k e (by simp) _ he⟩,l1.at fun o z=>k it (by simp) o z⟩
 ·intro X hP hw hK hc i pins s σ H E I hf st hg
  subst hP hw hK
  obtain ⟨xs,x,q1,ex⟩:=hg
  obtain ⟨⟨old,he⟩,l1⟩:=st
  obtain ⟨aj,rv,p,_⟩:=I.tuple q1
  obtain ⟨u,hu,ru⟩:=rv.get ex
  have pt:s.heap.IsTuple a aj.toArray:=p
  have hai:a ≠ it:=by
   obtain ⟨o,ho,XC,_⟩:=pt
   obtain ⟨o1,e1,c1,_⟩:=l1
   exact cF ho e1 (by rw [XC,c1];simp)
  have hae:a ≠ e:=by
   obtain ⟨o,ho,XC,_⟩:=pt
   exact cF ho he (by rw [XC];simp)
  have HN:i < aj.toArray.size:=by rw [List.size_toArray];exact (List.getElem?_eq_some_iff.mp hu).1
  refine wpAny_pyNext_enum_itemD (v9 (A:=X.A.in1) (I.ok.hd hc) it a hai aj.toArray) he ⟨l1,pt⟩ HN Gf (by simp;exact ⟨Gf,fun z=>hae z.symm⟩) fun y h1 tk hy e1 a1 t1 Nf k1=>⟨_,rfl,?_⟩
  obtain rfl:y = u:=by
   have:aj.toArray[i]? = some u:=by simpa using hu
   rw [this] at hy;cases hy;rfl
  refine wpAny_letOwnedTupleGo_enum e1 fun h2 e2 D0=>?_
  have ene:s.heap.objs.size ≠ e:=Nat.ne_of_gt (Heap.lt_size he)
  have kk:∀ c o,c ∉ [e,it] -> s.heap.get? c = some o -> h2.get? c = some o:=fun c o hc z=>by
   simp only [List.mem_cons,List.not_mem_nil,or_false,not_or] at hc
   exact D0.extBut c o hc.1 (k1 c o hc.1 hc.2 z)
  have hT:h2.get? s.heap.objs.size = some { cls:=.type "tuple",data:=.seq #[.int i tk,y] }:=D0.extBut _ _ ene t1
  have hn:H s.heap.objs.size = none:=I.dD.fresh (Nat.le_refl _)
  have ci:((i + 1:Nat):Int) = (i:Int) + 1:=by push_cast;rfl
  refine ⟨.ref s.heap.objs.size,upd H s.heap.objs.size (.tup [.int i,x]),yb (s:=s) (h':=h2) (t':=tk + 1) I hf kk (Nat.le_refl _) (si ⟨_,rfl⟩ ru hT),rfl,⟨_,x,fun zs hz=>by rw [I.jB hz q1];exact ex,hn,rfl,rfl⟩,⟨⟨y,by rw [ci];exact e2⟩,a1.1.extBut D0.extBut Gf.symm⟩,fun c hc=>?_⟩
  rw [aK]
  ·exact (hf c hc).1
  ·intro z
   subst z
   simp only [List.mem_cons,List.not_mem_nil,or_false] at hc
   rcases hc with z | z
   ·exact absurd (Heap.lt_size he) (by rw [<- z];exact Nat.lt_irrefl _)
   ·obtain ⟨_,w,_⟩:=l1;exact absurd (Heap.lt_size w) (by rw [<- z];exact Nat.lt_irrefl _)
 ·intro X hP hw hK hc i pins s σ H E I hf st hg
  subst hP hw hK
  obtain ⟨xs,q1,hl⟩:=hg
  obtain ⟨⟨old,he⟩,l1⟩:=st
  obtain ⟨aj,rv,p,_⟩:=I.tuple q1
  have e1:=rv.length
  refine AO (I.ok.hd hc) he l1 (show s.heap.IsTuple a aj.toArray from p) (by simp;omega) fun h1 k1=>⟨rfl,ya (t':=s.toks) I hf fun c o hc z=>?_⟩
  simp only [List.mem_cons,List.not_mem_nil,or_false,not_or] at hc
  exact k1 c o hc.2 z
 ·obtain ⟨⟨old,he⟩,_⟩:=st
  exact wpAny_pyIter_enum he hQ
theorem Cb {X:Cx} {e1:Expr} {ta:TA} {elts:List Expr} {n1:Nat} {tp p pos:Pos} (hg:Gl X "enumerate") (hm:X.mg "enumerate" = none) (ha:PA X [e1] ta) (hs:∀ es,starEach (e1 :: es) X.env = (false,eval e1 X.env) :: starEach es X.env) :
  PI X (.Tuple elts n1 tp) (.Call (.Name "enumerate" p) [e1] [] pos) (fun σ H R=>ta σ H fun vs H1=>∃ a,vs = [.ref a] /\ (∃ xs,aG X.K H1 a xs) /\ R (LZ X.K a) H1):=by
 intro pins s σ H R I h
 refine Call_ (eK I hg hm A3 (PyProof.Rows.callWith_type1 (dS (ha pos pins s σ H _ I h) fun us s1 ⟨vs,H1,I1,r1,q1⟩=>?_) (hs _) rfl))
 obtain ⟨a,e,⟨xs,q1⟩,q⟩:=q1
 subst e
 obtain ⟨u,rfl,ru⟩:=vals1 r1
 cases ru
 obtain ⟨aj,_,p1,_⟩:=I1.tuple q1
 refine xU (show s1.heap.IsTuple a aj.toArray from p1) fun h' z l1 k=>wpAny_pyIter_enum z ?_
 refine ⟨s1.heap.objs.size + 1,[s1.heap.objs.size + 1,s1.heap.objs.size],_,_,H1,rfl,I1.kept (t':=s1.toks) k,wW (Nat.succ_ne_self _),⟨⟨_,z⟩,l1⟩,fun b hb=>?_,q⟩
 have jU:s1.heap.objs.size <= b:=by
  simp only [List.mem_cons,List.not_mem_nil,or_false] at hb
  rcases hb with rfl | rfl <;> first | exact Nat.le_add_right .. | exact Nat.le_refl _
 exact I1.Ds jU (I1.dD.fresh jU)
noncomputable def my:List D -> O D
 | [.tup a]=>ok (.lst .ow (bj 0 a))
 | _=>none
theorem zL {K:PySem.W.Frag} {p:Addr} {a:List D} {H2:Hp}:LU K (LZ K p) H2 [.ref p] [.tup a] (ai aL (bj 0 a)):=by
 have len:(ai aL (bj 0 a)).length = a.length:=by rw [aw,List.length_map,lA]
 have two:∀ {H':Hp} {R':Addr -> Prop},ag (aG K H') (nd K R' (fun _=>False) (fun _=>none) H') [] 0 [.ref p] (ai aL [.tup a]) ->
   ∃ xs,aG K H' p xs /\ ag (aG K H') (nd K R' (fun _=>False) (fun _=>none) H') [0] 0 xs (ai aL a):=by
  intro H' R' h
  rw [ai,aD,ai] at h
  cases h with
  | cons h t=>cases h with
   | tup h r=>exact ⟨_,h,r⟩
 refine ⟨fun i H' R' _ h hi=>?_,fun i H' R' x nA _ h hi hy=>?_,fun i H' R' _ h hi=>?_⟩
 ·obtain ⟨xs,h1,r1⟩:=two h
  rw [len] at hi
  have l1:=r1.length
  rw [aw,List.length_map] at l1
  exact ⟨xs,xs[i]'(by omega),h1,List.getElem?_eq_getElem _⟩
 ·obtain ⟨xs,h1,r1⟩:=two h
  obtain ⟨T,u,g1,hn,rfl,rfl⟩:=hy
  obtain ⟨d1,e1,p1⟩:=r1.vO (g1 xs h1)
  have es:ao H' (upd H' T (.tup [.int i,u])):=ao.upd hn
  refine ⟨es,.tup [.int i,d1],?_,.tup (aG.of aM) (.cons (.int _) (.cons (p1.Sg es) .nil))⟩
  rw [aw,List.getElem?_map] at e1 ⊢
  obtain ⟨c1,q1,rfl⟩:=Option.map_eq_some_iff.mp e1
  rw [lB,q1]
  simp [aD,ai]
 ·obtain ⟨xs,h1,r1⟩:=two h
  rw [len] at hi
  have l1:=r1.length
  rw [aw,List.length_map] at l1
  exact ⟨xs,h1,by omega⟩
theorem Dy {Φ:aA} {n:Nat} (hΦ:Φ n = my) {X:Cx} {sc:Scope} {bl:List Str} {k:Nat} (L:PX X sc bl k) {e:Expr} {args:List Expr} (he:gQ "enumerate" sc bl e = some args) {F:Addr -> Prop} {cs:List CE} {tg:Expr} (ht:ip tg = true) (hs:qM X F Φ cs args)
  {pins:List (Addr × Obj)} {s:Shared} {σ:St} {H:Hp} {R:Addr -> Prop} {τ:Addr -> Option aH} {ρ:aC} {xs:List D} {d:D} {items:List D} (I:Inv X pins σ H s) (Si:SI X F R τ ρ σ H) (dk:cM Φ cs ρ = ok xs) (ed:Φ n xs = ok d) (ei:qc d = ok items) (Rr:It -> Hp -> Prop)
  (hR:∀ J H2 vs,ao H H2 -> cj X.K (gP X F) R τ (dw cs) H H2 vs xs -> LU X.K J H2 vs xs items -> Rr J H2) :
  wpAny (model X.prog X.w) X.A (eval e X.env) (fun v s1=>wpAny (model X.prog X.w) X.A (pyIter v) (DX X pins σ tg Rr) X.xe s1) X.xe s:=by
 obtain ⟨p,pos,a,rfl,rfl,h1,h2⟩:=jH he
 cases tg <;> try (cases ht;done)
 obtain ⟨pa,s1⟩:=yx hs
 refine Cb (L.gl h1) (L.bl _ h2) pa s1 pins s σ H Rr I ⟨R,τ,ρ,xs,Si,dk,fun vs H1 e1 rv=>?_⟩
 have TF:=rv
 obtain ⟨τt,fr,rs⟩:=rv
 rw [hΦ] at ed
 unfold my at ed
 split at ed
 ·cases ed
  cases ei
  obtain ⟨v,rfl,rx⟩:=rs.one
  cases rx with
  | tup hx _=>exact ⟨_,rfl,⟨_,hx⟩,hR _ H1 _ e1 TF zL⟩
 ·cases ed
end DI
end
section
namespace DI
open PySem (Str)
section
variable {α β:Type}
@[simp] theorem dt (a:α) (f:α -> O β):bd (ok a) f = f a:=rfl
@[simp] theorem RS (c:Nat) (f:α -> O β):bd (some (.error c)) f = some (.error c):=rfl
noncomputable def Ii (f:α -> O β) (x:O α):O β:=bd x f
@[simp] theorem aam (f:α -> O β) (a:α):Ii f (ok a) = f a:=rfl
@[simp] theorem RX (f:α -> O β) (c:Nat):Ii f (some (.error c)) = some (.error c):=rfl
end
noncomputable def Qx (op:Ha) (x y:O D):O D:=bd x fun x=>bd y fun y=>cQ op x y
@[simp] theorem RR (op:Ha) (x y:D):Qx op (ok x) (ok y) = cQ op x y:=rfl
noncomputable def PB (op:Bn) (x y:O D):O D:=bd x fun x=>bd y fun y=>eM op x y
@[simp] theorem RQ (op:Bn) (x y:D):PB op (ok x) (ok y) = eM op x y:=rfl
noncomputable def ixO (x y:O D):O D:=bd x fun x=>bd y fun y=>vG x y
@[simp] theorem WW (x y:D):ixO (ok x) (ok y) = vG x y:=rfl
noncomputable def N2 (x:O D):O D:=bd (bd x ic) fun b=>ok (.bl (!b))
@[simp] theorem Rf (b:Bool):N2 (ok (.bl b)) = ok (.bl (!b)):=rfl
@[simp] theorem MX (b:Bool):ic (.bl b) = ok b:=rfl
noncomputable def uP (x:O D):O Bool:=bd x ic
@[simp] theorem yc (b:Bool):uP (ok (.bl b)) = ok b:=rfl
@[simp] theorem MW (c:Nat):uP (some (.error c)) = some (.error c):=rfl
noncomputable def isO (t:Ty) (x:O D):O D:=bd x fun x=>ok (.bl (dZ t x))
@[simp] theorem W2 (t:Ty) (x:D):isO t (ok x) = ok (.bl (dZ t x)):=rfl
noncomputable def DK (m:List D -> O D) (xs:O (List D)):O D:=bd xs fun xs=>bd (m (ai aL xs)) fun r=>ok (aD kg r)
noncomputable def X_ (x:O D):O D:=bd x fun r=>ok (aD kg r)
@[simp] theorem X9 (r:D):X_ (ok r) = ok (aD kg r):=rfl
@[simp] theorem RF (c:Nat):X_ (some (.error c)) = some (.error c):=rfl
@[simp] theorem Qs (m:List D -> O D) (xs:List D):DK m (ok xs) = X_ (m (ai aL xs)):=rfl
@[simp] theorem ME (m:List D -> O D) (c:Nat):DK m (some (.error c)) = some (.error c):=rfl
noncomputable def zp (x:O D) (xs:O (List D)):O (List D):=bd x fun x=>bd xs fun xs=>ok (x :: xs)
@[simp] theorem Pz (x:D) (xs:List D):zp (ok x) (ok xs) = ok (x :: xs):=rfl
@[simp] theorem MB (c:Nat) (xs:O (List D)):zp (some (.error c)) xs = some (.error c):=rfl
@[simp] theorem LI (x:D) (c:Nat):zp (ok x) (some (.error c)) = some (.error c):=rfl
noncomputable def Kh (x:O Bool) (a b:O D):O D:=bd x fun k=>if k then a else b
@[simp] theorem WZ (a b:O D):Kh (ok true) a b = a:=rfl
@[simp] theorem W0 (a b:O D):Kh (ok false) a b = b:=rfl
noncomputable def G3 (x y:O D):O D:=bd (bd x ic) fun c=>if c then y else ok (.bl false)
@[simp] theorem aan (y:O D):G3 (ok (.bl true)) y = y:=rfl
@[simp] theorem aao (y:O D):G3 (ok (.bl false)) y = ok (.bl false):=rfl
@[simp] theorem aap (a b:Bool):G3 (ok (.bl a)) (ok (.bl b)) = ok (.bl (a && b)):=by cases a <;> rfl
noncomputable def Ra (x y:O D):O D:=bd (bd x ic) fun c=>if c then ok (.bl true) else y
@[simp] theorem abG (y:O D):Ra (ok (.bl true)) y = ok (.bl true):=rfl
@[simp] theorem abH (y:O D):Ra (ok (.bl false)) y = y:=rfl
@[simp] theorem abI (a b:Bool):Ra (ok (.bl a)) (ok (.bl b)) = ok (.bl (a || b)):=by cases a <;> rfl
noncomputable def CP (x:O D):O D:=bd (bd x ic) fun c=>ok (.bl c)
@[simp] theorem Oh (c:Bool):CP (ok (.bl c)) = ok (.bl c):=rfl
@[simp] theorem Np (d:D):yi (some (some d)) = ok (aD bo d):=rfl
section
variable (Φ:aA) (ρ:aC)
@[simp] theorem acL:aN Φ .bE ρ = ok .bE:=rfl
@[simp] theorem agS (b:Bool):aN Φ (.bl b) ρ = ok (.bl b):=rfl
@[simp] theorem HY (i:Int):aN Φ (.int i) ρ = ok (.int i):=rfl
@[simp] theorem acS (x:Str) (i:Int):aN Φ (.glo x i) ρ = ok (.int i):=rfl
@[simp] theorem acR (x:Str) (zs:List Int):aN Φ (.glt x zs) ρ = ok (.tup (zs.map D.int)):=rfl
@[simp] theorem e_v (i:Nat):aN Φ (.v i) ρ = yi ρ[i]?:=rfl
@[simp] theorem acU (op:Ha) (a b:CE):aN Φ (.bin op a b) ρ = Qx op (aN Φ a ρ) (aN Φ b ρ):=rfl
@[simp] theorem acT (op:Bn) (a b:CE):aN Φ (.cmp op a b) ρ = PB op (aN Φ a ρ) (aN Φ b ρ):=rfl
@[simp] theorem acN (a:CE):aN Φ (.neg a) ρ = Ii FH (aN Φ a ρ):=rfl
@[simp] theorem acK (a:CE):aN Φ (.not a) ρ = N2 (aN Φ a ρ):=rfl
@[simp] theorem acQ (a:CE) (t:Ty):aN Φ (.pY a t) ρ = isO t (aN Φ a ρ):=rfl
@[simp] theorem acP (c a b:CE):aN Φ (.ite c a b) ρ = Kh (uP (aN Φ c ρ)) (aN Φ a ρ) (aN Φ b ρ):=rfl
@[simp] theorem Y0 (f:Nat) (es:List CE):aN Φ (.call f es) ρ = DK (Φ f) (cM Φ es ρ):=rfl
@[simp] theorem agT (f:Bf) (es:List CE):aN Φ (.bf f es) ρ = Ii (uj f) (cM Φ es ρ):=rfl
@[simp] theorem acH (f:Nat) (es:List CE):aN Φ (.eE f es) ρ = Ii (Φ f) (cM Φ es ρ):=rfl
@[simp] theorem agR (a b:CE):aN Φ (.ix a b) ρ = ixO (aN Φ a ρ) (aN Φ b ρ):=rfl
@[simp] theorem YY (a:CE):aN Φ (.ml a) ρ = Ii yE (aN Φ a ρ):=rfl
@[simp] theorem acG (es:List CE):aN Φ (.tup es) ρ = Ii (fun xs=>ok (.tup xs)) (cM Φ es ρ):=rfl
@[simp] theorem acO (es:List CE):aN Φ (.lst es) ρ = Ii (fun xs=>ok (.lst .ow xs)) (cM Φ es ρ):=rfl
@[simp] theorem acV (es:List CE):aN Φ (.and es) ρ = rK Φ es ρ:=rfl
@[simp] theorem agQ (es:List CE):aN Φ (.or es) ρ = AM Φ es ρ:=rfl
@[simp] theorem Y2 (e:CE):rK Φ [e] ρ = CP (aN Φ e ρ):=rfl
@[simp] theorem Y1 (e e':CE) (es:List CE):rK Φ (e :: e' :: es) ρ = G3 (aN Φ e ρ) (rK Φ (e' :: es) ρ):=rfl
@[simp] theorem acJ (e:CE):AM Φ [e] ρ = CP (aN Φ e ρ):=rfl
@[simp] theorem acI (e e':CE) (es:List CE):AM Φ (e :: e' :: es) ρ = Ra (aN Φ e ρ) (AM Φ (e' :: es) ρ):=rfl
@[simp] theorem acM:cM Φ [] ρ = ok []:=rfl
@[simp] theorem YZ (e:CE) (es:List CE):cM Φ (e :: es) ρ = zp (aN Φ e ρ) (cM Φ es ρ):=rfl
@[simp] theorem e_T (e:CE):wL Φ e ρ = uP (aN Φ e ρ):=rfl
theorem Y5 (e:CE):bd (aN Φ e ρ) ic = uP (aN Φ e ρ):=rfl
@[simp] theorem Y4:iS Φ [] ρ = ok true:=rfl
@[simp] theorem Y3 (e:CE):iS Φ [e] ρ = uP (aN Φ e ρ):=by
 rw [iS,Y5]
 cases h:uP (aN Φ e ρ) with
 | none=>rfl
 | some r=>cases r with
  | error c=>rfl
  | ok b=>cases b <;> simp [iS,bd,ok]
end
noncomputable def qA (is:List Nat):Nat -> aC -> aC
 | _,[]=>[]
 | n,d :: ρ=>(if n ∈ is then d.map (aD aL) else d) :: qA is (n + 1) ρ
theorem HX (is:List Nat):∀ (ρ:aC) (n:Nat),ρ.mapIdx (fun i d=>if i + n ∈ is then d.map (aD aL) else d) = qA is n ρ
 | [],_=>rfl
 | d :: ρ,n=>by
  rw [List.mapIdx_cons,qA,<- HX is ρ (n + 1)]
  simp only [Nat.zero_add,Nat.add_assoc,Nat.add_comm 1 n]
theorem xF (is:List Nat) (ρ:aC):je is ρ = qA is 0 ρ:=by rw [<- HX];rfl
@[simp] theorem Pd (is:List Nat) (n:Nat):qA is n [] = []:=rfl
@[simp] theorem Mx (is:List Nat) (n:Nat) (d:Option D) (ρ:aC):qA is n (d :: ρ) = (if n ∈ is then d.map (aD aL) else d) :: qA is (n + 1) ρ:=rfl
noncomputable def cZ (e:CE) (ρ:aC) (x:O D):O (D × aC):=bd x fun d=>ok (keep e d ρ)
@[simp] theorem vF {e:CE} {ρ:aC} {d:D} (h:aT cn d = false):cZ e ρ (ok d) = ok (d,ρ):=by
 show ok (keep e d ρ) = _
 rw [keep,h];rfl
@[simp] theorem Oj {e:CE} {ρ:aC} {d:D} (h:aT cn d = true):cZ e ρ (ok d) = ok (aD aL d,qA (iQ e) 0 ρ):=by
 show ok (keep e d ρ) = _
 rw [keep,h,<- xF];rfl
@[simp] theorem Mf (e:CE) (ρ:aC) (c:Nat):cZ e ρ (some (.error c)) = some (.error c):=rfl
noncomputable def CG (i:Nat) (ρ:aC) (o:Option (Option D)):O (D × aC):=match o with
 | some (some d)=>if aT fe d then ok (d,ρ.set i none) else ok (d,ρ)
 | _=>none
@[simp] theorem N6 {i:Nat} {ρ:aC} {d:D} (h:aT fe d = true):CG i ρ (some (some d)) = ok (d,ρ.set i none):=if_pos h
@[simp] theorem N7 {i:Nat} {ρ:aC} {d:D} (h:aT fe d = false):CG i ρ (some (some d)) = ok (d,ρ):=if_neg (by rw [h];exact Bool.false_ne_true)
@[simp] theorem k_v (Φ:aA) (i:Nat) (ρ:aC):jX Φ (.v i) ρ = CG i ρ ρ[i]?:=rfl
noncomputable def isV:CE -> Bool
 | .v _=>true
 | _=>false
@[simp] theorem abV (Φ:aA) (ρ:aC) (op:Ha) (a b:CE):jX Φ (.bin op a b) ρ = cZ (.bin op a b) ρ (aN Φ (.bin op a b) ρ):=rfl
@[simp] theorem abU (Φ:aA) (ρ:aC) (op:Bn) (a b:CE):jX Φ (.cmp op a b) ρ = cZ (.cmp op a b) ρ (aN Φ (.cmp op a b) ρ):=rfl
@[simp] theorem We (Φ:aA) (ρ:aC) (f:Nat) (es:List CE):jX Φ (.call f es) ρ = cZ (.call f es) ρ (aN Φ (.call f es) ρ):=rfl
@[simp] theorem afv (Φ:aA) (ρ:aC) (f:Bf) (es:List CE):jX Φ (.bf f es) ρ = cZ (.bf f es) ρ (aN Φ (.bf f es) ρ):=rfl
@[simp] theorem abN (Φ:aA) (ρ:aC) (f:Nat) (es:List CE):jX Φ (.eE f es) ρ = cZ (.eE f es) ρ (aN Φ (.eE f es) ρ):=rfl
@[simp] theorem aft (Φ:aA) (ρ:aC) (a b:CE):jX Φ (.ix a b) ρ = cZ (.ix a b) ρ (aN Φ (.ix a b) ρ):=rfl
@[simp] theorem abM (Φ:aA) (ρ:aC) (es:List CE):jX Φ (.tup es) ρ = cZ (.tup es) ρ (aN Φ (.tup es) ρ):=rfl
@[simp] theorem abR (Φ:aA) (ρ:aC) (es:List CE):jX Φ (.lst es) ρ = cZ (.lst es) ρ (aN Φ (.lst es) ρ):=rfl
@[simp] theorem HH (Φ:aA) (ρ:aC) (i:Int):jX Φ (.int i) ρ = cZ (.int i) ρ (aN Φ (.int i) ρ):=rfl
@[simp] theorem afu (Φ:aA) (ρ:aC) (i:Bool):jX Φ (.bl i) ρ = cZ (.bl i) ρ (aN Φ (.bl i) ρ):=rfl
@[simp] theorem abP (Φ:aA) (ρ:aC)  : jX Φ (.bE) ρ = cZ (.bE) ρ (aN Φ (.bE) ρ):=rfl
@[simp] theorem abQ (Φ:aA) (ρ:aC) (a:CE):jX Φ (.neg a) ρ = cZ (.neg a) ρ (aN Φ (.neg a) ρ):=rfl
@[simp] theorem abO (Φ:aA) (ρ:aC) (a:CE):jX Φ (.not a) ρ = cZ (.not a) ρ (aN Φ (.not a) ρ):=rfl
@[simp] theorem abW (Φ:aA) (ρ:aC) (es:List CE):jX Φ (.and es) ρ = cZ (.and es) ρ (aN Φ (.and es) ρ):=rfl
@[simp] theorem afs (Φ:aA) (ρ:aC) (es:List CE):jX Φ (.or es) ρ = cZ (.or es) ρ (aN Φ (.or es) ρ):=rfl
@[simp] theorem abS (Φ:aA) (ρ:aC) (a b c:CE):jX Φ (.ite a b c) ρ = cZ (.ite a b c) ρ (aN Φ (.ite a b c) ρ):=rfl
@[simp] theorem Wd (Φ:aA) (ρ:aC) (n:Nat) (t:Tg) (caps:List Nat) (ik:IK) (es a_:List CE) (elt:CE):jX Φ (.comp n t caps ik es a_ elt) ρ = cZ (.comp n t caps ik es a_ elt) ρ (aN Φ (.comp n t caps ik es a_ elt) ρ):=rfl
@[simp] theorem abT (Φ:aA) (ρ:aC) (a:CE) (t:Ty):jX Φ (.pY a t) ρ = cZ (.pY a t) ρ (aN Φ (.pY a t) ρ):=rfl
@[simp] theorem Wc (Φ:aA) (ρ:aC) (a:CE):jX Φ (.ml a) ρ = cZ (.ml a) ρ (aN Φ (.ml a) ρ):=rfl
theorem Ka (Φ:aA) (e:CE) (ρ:aC) (h:isV e = false):jX Φ e ρ = cZ e ρ (aN Φ e ρ):=by cases e <;> first | rfl | cases h
@[simp] theorem L7 (ρ:aC):iO [] [] ρ = ok ρ:=rfl
@[simp] theorem IQ {i:Nat} {is:List Nat} {d:D} {ds:List D} {ρ:aC} (h:i < ρ.length):iO (i :: is) (d :: ds) ρ = iO is ds (ρ.set i (some d)):=if_pos h
@[simp] theorem QY {i:Nat} {d:D} {ρ:aC} (h:i < ρ.length):bU (.nm i) d ρ = ok (ρ.set i (some d)):=if_pos h
@[simp] theorem QX {is:List Nat} {ds:List D} {ρ:aC} (h:az fe ds = false):bU (.tp is) (.tup ds) ρ = iO is ds ρ:=if_neg (by rw [h];exact Bool.false_ne_true)
noncomputable def LR (i:Nat) (r:O (D × aC)):O (Fo × aC):=bd r fun r=>bd (bU (.nm i) r.1 r.2) fun ρ'=>ok (.nx,ρ')
@[simp] theorem zG {i:Nat} {d:D} {ρ:aC} (h:i < ρ.length):LR i (ok (d,ρ)) = ok (.nx,ρ.set i (some d)):=by
 show bd (bU (.nm i) d ρ) _ = _
 rw [bU,if_pos h];rfl
@[simp] theorem QC (i:Nat) (c:Nat):LR i (some (.error c)) = some (.error c):=rfl
noncomputable def QB (is:List Nat) (r:O (D × aC)):O (Fo × aC):=bd r fun r=>bd (bU (.tp is) r.1 r.2) fun ρ'=>ok (.nx,ρ')
@[simp] theorem RV {is:List Nat} {ds:List D} {ρ:aC} (h:az fe ds = false):QB is (ok (.tup ds,ρ)) = bd (iO is ds ρ) fun ρ'=>ok (.nx,ρ'):=by
 show bd (bU (.tp is) (.tup ds) ρ) _ = _
 rw [bU,h];rfl
noncomputable def retS (r:O (D × aC)):O (Fo × aC):=bd r fun r=>ok (.rt r.1,r.2)
@[simp] theorem Q1 (d:D) (ρ:aC):retS (ok (d,ρ)) = ok (.rt d,ρ):=rfl
@[simp] theorem Ny (c:Nat):retS (some (.error c)) = some (.error c):=rfl
noncomputable def YS (ρ:aC) (x:O D):O (Fo × aC):=bd x fun _=>ok (.nx,ρ)
@[simp] theorem YR (ρ:aC) (d:D):YS ρ (ok d) = ok (.nx,ρ):=rfl
@[simp] theorem RK (ρ:aC) (c:Nat):YS ρ (some (.error c)) = some (.error c):=rfl
noncomputable def qT (Φ:aA) (ss:List CS) (r:O (Fo × aC)):O (Fo × aC):=bd r fun r=>match r with
 | (.nx,ρ')=>bc Φ ss ρ'
 | r=>ok r
@[simp] theorem uQ (Φ:aA) (ss:List CS) (ρ:aC):qT Φ ss (ok (.nx,ρ)) = bc Φ ss ρ:=rfl
@[simp] theorem MY (Φ:aA) (ss:List CS) (d:D) (ρ:aC):qT Φ ss (ok (.rt d,ρ)) = ok (.rt d,ρ):=rfl
@[simp] theorem M0 (Φ:aA) (ss:List CS) (ρ:aC):qT Φ ss (ok (.bk,ρ)) = ok (.bk,ρ):=rfl
@[simp] theorem MZ (Φ:aA) (ss:List CS) (ρ:aC):qT Φ ss (ok (.ct,ρ)) = ok (.ct,ρ):=rfl
@[simp] theorem L4 (Φ:aA) (ss:List CS) (c:Nat):qT Φ ss (some (.error c)) = some (.error c):=rfl
noncomputable def FX (Φ:aA) (a b:List CS) (ρ:aC) (x:O Bool):O (Fo × aC):=bd x fun k=>if k then bc Φ a ρ else bc Φ b ρ
@[simp] theorem Kf (Φ:aA) (a b:List CS) (ρ:aC):FX Φ a b ρ (ok true) = bc Φ a ρ:=rfl
@[simp] theorem Kg (Φ:aA) (a b:List CS) (ρ:aC):FX Φ a b ρ (ok false) = bc Φ b ρ:=rfl
@[simp] theorem Om (Φ:aA) (a b:List CS) (ρ:aC) (c:Nat):FX Φ a b ρ (some (.error c)) = some (.error c):=rfl
noncomputable def QD (i:Nat) (r:O (D × aC)):O (Fo × aC):=bd r fun r=>match Ae r.2[i]? with
  | some ds=>if ds.length < eN then ok (.nx,r.2.set i (some (.lst .ow (ds ++ [r.1])))) else none
  | none=>none
@[simp] theorem RW {i:Nat} {d:D} {ρ:aC} {ds:List D} (h:ρ[i]? = some (some (.lst .ow ds))) (hl:ds.length < eN):QD i (ok (d,ρ)) = ok (.nx,ρ.set i (some (.lst .ow (ds ++ [d])))):=by
 show (match Ae ρ[i]? with | some ds=>_ | none=>_) = _
 rw [h]
 exact if_pos hl
section
variable (Φ:aA) (ρ:aC)
@[simp] theorem abg:bc Φ [] ρ = ok (.nx,ρ):=rfl
@[simp] theorem cR (s:CS) (ss:List CS):bc Φ (s :: ss) ρ = qT Φ ss (uI Φ s ρ):=rfl
@[simp] theorem Hb (i:Nat) (e:CE):uI Φ (.asg (.nm i) e) ρ = LR i (jX Φ e ρ):=rfl
@[simp] theorem Sa (is:List Nat) (e:CE):uI Φ (.asg (.tp is) e) ρ = QB is (jX Φ e ρ):=rfl
@[simp] theorem abf (e:CE):uI Φ (.ret e) ρ = retS (jX Φ e ρ):=rfl
theorem qO (c:CE) (b:List CS):uI Φ (.Iq c b) ρ = fR (fun ρ=>bd (wL Φ c ρ) fun k=>if k then bd (bc Φ b ρ) fun r=>match r with
   | (.nx,ρ')=>ok (.inl ρ')
   | (.ct,ρ')=>ok (.inl ρ')
   | (.bk,ρ')=>ok (.inr (.nx,ρ'))
   | (.rt d,ρ')=>ok (.inr (.rt d,ρ'))
  else ok (.inr (.nx,ρ))) ρ:=rfl
theorem ML (i j:Nat) (a b:CE):uI Φ (.par i j a b) ρ = bd (aN Φ a ρ) fun x=>bd (aN Φ b ρ) fun y=>if aT anyF x = false /\ aT anyF y = false /\ i < ρ.length /\ j < ρ.length then ok (.nx,(ρ.set i (some x)).set j (some y)) else none:=rfl
@[simp] theorem ad5 (c:Nat):uI Φ (.rs c) ρ = some (.error c):=rfl
@[simp] theorem ad6 (e:CE):uI Φ (.ex e) ρ = YS ρ (aN Φ e ρ):=rfl
@[simp] theorem zM (c:CE) (a b:List CS):uI Φ (.ifs c a b) ρ = FX Φ a b ρ (uP (aN Φ c ρ)):=rfl
@[simp] theorem abh (i:Nat) (e:CE):uI Φ (.app i e) ρ = QD i (jX Φ e ρ):=rfl
end
noncomputable def mk (Φ:aA) (ar n:Nat) (b:List CS):List D -> O D:=fun ds=>if ds.length = ar then xc Φ n b ds else none
noncomputable def pq (r:O (Fo × aC)):O D:=bd r fun r=>match r.1 with
 | .nx=>ok .bE
 | .rt d=>ok d
 | _=>none
@[simp] theorem RN (ρ:aC):pq (ok (.nx,ρ)) = ok .bE:=rfl
@[simp] theorem RM (d:D) (ρ:aC):pq (ok (.rt d,ρ)) = ok d:=rfl
@[simp] theorem Pn (c:Nat):pq (some (.error c)) = some (.error c):=rfl
theorem mk_eq {Φ:aA} {ar n:Nat} {b:List CS} {ds:List D} (h:ds.length = ar):mk Φ ar n b ds = pq (bc Φ b (ds.map some ++ List.replicate (n - ds.length) none)):=if_pos h
theorem aE {Φ:aA} {ar n:Nat} {b:List CS} (ds:List D) (r:D) (h:mk Φ ar n b ds = ok r):ds.length = ar /\ xc Φ n b ds = ok r:=by
 unfold mk at h
 split at h
 ·rename_i hl;exact ⟨hl,h⟩
 ·cases h
end DI
end
section
namespace DI
open PySem (Str)
theorem Int.beq_eq_decide_eq (i j:Int):(i == j) = decide (i = j):=rfl
section
variable (g:Fl -> Fl) (p:Fl -> Bool)
@[simp] theorem FO (b:Bool):aD g (.bl b) = .bl b:=rfl
@[simp] theorem CK (b:Int):aD g (.int b) = .int b:=rfl
@[simp] theorem N_:aD g .bE = .bE:=rfl
@[simp] theorem CJ (ds:List D):aD g (.tup ds) = .tup (ai g ds):=rfl
@[simp] theorem Oa (f:Fl) (ds:List D):aD g (.lst f ds) = .lst (g f) (ai g ds):=rfl
@[simp] theorem Ob (f:Fl) (ks:List Int) (vs:List D):aD g (.kM f ks vs) = .kM (g f) ks (ai g vs):=rfl
@[simp] theorem Oc (f:Fl) (ks:List (List Int)) (vs:List D):aD g (.jG f ks vs) = .jG (g f) ks (ai g vs):=rfl
@[simp] theorem Mc:ai g [] = []:=rfl
@[simp] theorem JT (d:D) (ds:List D):ai g (d :: ds) = aD g d :: ai g ds:=rfl
@[simp] theorem Me (a b:List D):ai g (a ++ b) = ai g a ++ ai g b:=by simp only [aw,List.map_append]
@[simp] theorem Md (ds:List D):(ai g ds).length = ds.length:=by rw [aw,List.length_map]
theorem de {α:Type} {e:α -> D} (h:∀ x,aD g (e x) = e x) (xs:List α):ai g (xs.map e) = xs.map e:=by
 rw [aw,List.map_map];exact List.map_congr_left fun x _=>h x
theorem cf {α:Type} {e:α -> D} (h:∀ x,aT p (e x) = false):∀ xs:List α,az p (xs.map e) = false
 | []=>by rw [List.map_nil,az]
 | x :: xs=>by rw [List.map_cons,az,h x,cf h xs];rfl
@[simp] theorem Gp (b:Bool):aT p (.bl b) = false:=Eq.symm rfl
@[simp] theorem oV (b:Int):aT p (.int b) = false:=Eq.symm rfl
@[simp] theorem O4:aT p .bE = false:=Eq.symm rfl
@[simp] theorem C_ (ds:List D):aT p (.tup ds) = az p ds:=Eq.symm rfl
@[simp] theorem Dc (f:Fl) (ds:List D):aT p (.lst f ds) = (p f || az p ds):=Eq.symm rfl
@[simp] theorem O5 (f:Fl) (ks:List Int) (vs:List D):aT p (.kM f ks vs) = (p f || az p vs):=Eq.symm rfl
@[simp] theorem O6 (f:Fl) (ks:List (List Int)) (vs:List D):aT p (.jG f ks vs) = (p f || az p vs):=Eq.symm rfl
@[simp] theorem Mu:az p [] = false:=Eq.symm rfl
@[simp] theorem KJ (d:D) (ds:List D):az p (d :: ds) = (aT p d || az p ds):=Eq.symm rfl
@[simp] theorem AD:∀ a b:List D,az p (a ++ b) = (az p a || az p b)
 | [],b=>by simp
 | d :: a,b=>by simp [AD a b,Bool.or_assoc]
@[simp] theorem xj (ns:List Int):ai g (ns.map D.int) = ns.map D.int:=de g (CK g) ns
@[simp] theorem xA (ns:List Int):az p (ns.map D.int) = false:=cf p (oV p) ns
@[simp] theorem Ak (ns:List Bool):ai g (ns.map D.bl) = ns.map D.bl:=de g (FO g) ns
@[simp] theorem AB (ns:List Bool):az p (ns.map D.bl) = false:=cf p (Gp p) ns
@[simp] theorem Mg (t:Ty) (d:D):dZ t (aD g d) = dZ t d:=by cases d <;> cases t <;> rfl
end
@[simp] theorem K9:bo .ow = .al:=rfl
@[simp] theorem K_:bo .fz = .fz:=rfl
@[simp] theorem La:bo .al = .al:=rfl
@[simp] theorem K8:bo .sc = .sc:=rfl
@[simp] theorem K5:aL .ow = .fz:=rfl
@[simp] theorem K6:aL .fz = .fz:=rfl
@[simp] theorem K7:aL .al = .fz:=rfl
@[simp] theorem K4:aL .sc = .sc:=rfl
@[simp] theorem Lo:kg .ow = .ow:=rfl
@[simp] theorem Lp:kg .fz = .al:=rfl
@[simp] theorem Lq:kg .al = .al:=rfl
@[simp] theorem Ln:kg .sc = .sc:=rfl
@[simp] theorem Lj:cn .ow = false:=rfl
@[simp] theorem Ll:cn .fz = false:=rfl
@[simp] theorem Lm:cn .al = true:=rfl
@[simp] theorem Li:cn .sc = false:=rfl
@[simp] theorem Lf:fe .ow = true:=rfl
@[simp] theorem Lg:fe .fz = false:=rfl
@[simp] theorem Lh:fe .al = false:=rfl
@[simp] theorem Le:fe .sc = false:=rfl
@[simp] theorem Lb:xr .ow = false:=rfl
@[simp] theorem Lc:xr .fz = false:=rfl
@[simp] theorem Ld:xr .al = false:=rfl
noncomputable def ab (ns:List Int):List D:=ns.map D.int
noncomputable def lE (ns:List Bool):List D:=ns.map D.bl
@[simp] theorem Ml (ns:List Int):(ab ns).length = ns.length:=List.length_map ..
@[simp] theorem Qw (ns:List Bool):(lE ns).length = ns.length:=List.length_map ..
@[simp] theorem Mj:ab [] = []:=rfl
@[simp] theorem Kr (n:Int) (ns:List Int):ab (n :: ns) = .int n :: ab ns:=rfl
@[simp] theorem Kq (ns:List Int) (n:Int):ab ns ++ [.int n] = ab (ns ++ [n]):=by simp [ab]
@[simp] theorem rA (ns:List Int) (i:Nat):(ab ns)[i]? = ns[i]?.map D.int:=List.getElem?_map ..
@[simp] theorem gy (g:Fl -> Fl) (ns:List Int):ai g (ab ns) = ab ns:=xj g ns
@[simp] theorem HR (p:Fl -> Bool) (ns:List Int):az p (ab ns) = false:=xA p ns
@[simp] theorem JU (g:Fl -> Fl) (ns:List Bool):ai g (lE ns) = lE ns:=Ak g ns
@[simp] theorem KN (p:Fl -> Bool) (ns:List Bool):az p (lE ns) = false:=AB p ns
@[simp] theorem ac7 (i j:Int):cQ .add (.int i) (.int j) = ok (.int (i + j)):=rfl
@[simp] theorem ac6 (i j:Int):cQ .sub (.int i) (.int j) = ok (.int (i - j)):=rfl
theorem j9 {i j:Int} (h:i9 i j = true):cQ .mul (.int i) (.int j) = ok (.int (i * j)):=if_pos h
theorem pK {i j:Int} (h:rM j = true):cQ .fdiv (.int i) (.int j) = ok (.int (i.fdiv j)):=if_pos h
@[simp] theorem DN {i j:Int} (h:j ≠ 0):cQ .mod (.int i) (.int j) = ok (.int (i.fmod j)):=if_pos h
@[simp] theorem Qy {i j:Int} (h:0 <= j):cQ .shr (.int i) (.int j) = ok (.int (i / 2 ^ j.toNat)):=if_pos h
theorem Qz {i j:Int} (h:k_ i j = true):cQ .shl (.int i) (.int j) = ok (.int (i * 2 ^ j.toNat)):=if_pos h
theorem Ih {i j:Int} (h:k_ i j = true):cQ .pow (.int i) (.int j) = ok (.int (i ^ j.toNat)):=if_pos h
@[simp] theorem abL (i:Int):FH (.int i) = ok (.int (-i)):=rfl
theorem mulOk_of {i j:Int} (h:i.natAbs < 2 ^ 9000) (h':j.natAbs < 2 ^ 9000):i9 i j = true:=by
 simp only [i9,big,h,h',decide_true,Bool.and_self,Bool.or_true]
theorem sY {n:Nat} (h:n < 2 ^ 64):n < 2 ^ 9000:=Nat.lt_of_lt_of_le h (Nat.pow_le_pow_right (by decide) (by decide))
theorem sW {i:Int} (j:Int) (h:i.natAbs < 2 ^ 64):i9 i j = true:=by simp only [i9,h,decide_true,Bool.true_or]
theorem FJ {j:Int} (i:Int) (h:j.natAbs < 2 ^ 64):i9 i j = true:=by simp only [i9,h,decide_true,Bool.true_or,Bool.or_true]
theorem jh {j:Int} (h0:j ≠ 0) (h:j.natAbs < 2 ^ 9000):rM j = true:=by
 simp only [rM,big,h,decide_true,Bool.and_true,decide_eq_true_eq];exact h0
@[simp] theorem RT {i j:Int} (h:j.natAbs < 2 ^ 64):cQ .mul (.int i) (.int j) = ok (.int (i * j)):=j9 (FJ i h)
@[simp] theorem RU {i j:Int} (h:i.natAbs < 2 ^ 64):cQ .mul (.int i) (.int j) = ok (.int (i * j)):=j9 (sW j h)
@[simp] theorem QA {i j:Int} (h0:j ≠ 0) (h:j.natAbs < 2 ^ 64):cQ .fdiv (.int i) (.int j) = ok (.int (i.fdiv j)):=pK (jh h0 (sY h))
theorem DL {a b:D} (ha:b_ 40 a = true) (hb:b_ 40 b = true):eM .eq a b = ok (.bl (gO a b)):=by
 show (if b_ 40 a && b_ 40 b then _ else _) = _
 rw [ha,hb];rfl
theorem Qv {a b:D} (ha:b_ 40 a = true) (hb:b_ 40 b = true):eM .ne a b = ok (.bl (!gO a b)):=by
 show (if b_ 40 a && b_ 40 b then _ else _) = _
 rw [ha,hb];rfl
@[simp] theorem fC (n:Nat) (i:Int):b_ n (.int i) = true:=by cases n <;> rfl
@[simp] theorem UO (n:Nat) (i:Bool):b_ n (.bl i) = true:=by cases n <;> rfl
@[simp] theorem Rb (n:Nat):b_ n .bE = true:=by cases n <;> rfl
@[simp] theorem nF (n:Nat) (ds:List D):b_ (n + 1) (.tup ds) = ds.all (b_ n):=rfl
@[simp] theorem la (n:Nat) (f:Fl) (ds:List D):b_ (n + 1) (.lst f ds) = ds.all (b_ n):=rfl
@[simp] theorem TY (i j:Int):eM .eq (.int i) (.int j) = ok (.bl (decide (i = j))):=by rw [DL (fC _ _) (fC _ _)];show ok (D.bl (i == j)) = _;rw [Int.beq_eq_decide_eq]
@[simp] theorem TX (i j:Int):eM .ne (.int i) (.int j) = ok (.bl (!decide (i = j))):=by rw [Qv (fC _ _) (fC _ _)];show ok (D.bl (!(i == j))) = _;rw [Int.beq_eq_decide_eq]
@[simp] theorem aeP (i j:Int):eM .lt (.int i) (.int j) = ok (.bl (decide (i < j))):=rfl
@[simp] theorem aeQ (i j:Int):eM .le (.int i) (.int j) = ok (.bl (decide (i <= j))):=rfl
@[simp] theorem aeR (i j:Int):eM .gt (.int i) (.int j) = ok (.bl (decide (j < i))):=rfl
@[simp] theorem aeS (i j:Int):eM .ge (.int i) (.int j) = ok (.bl (decide (j <= i))):=rfl
@[simp] theorem ab2 (ds:List D) (i:Int):vG (.tup ds) (.int i) = wD ds i:=rfl
@[simp] theorem ab3 (f:Fl) (ds:List D) (i:Int):vG (.lst f ds) (.int i) = wD ds i:=rfl
theorem uu {ds:List D} {n:Nat} {d:D} (h:ds[n]? = some d):wD ds (n:Int) = ok (aD bo d):=by
 have hn:n < ds.length:=(List.getElem?_eq_some_iff.mp h).1
 have e:Ao ds.length (n:Int) = some n:=by unfold Ao;rw [if_pos (by omega),if_pos (by omega)];rfl
 unfold wD
 rw [e,Option.bind_some,h]
theorem at_of {ds:List D} {i:Int} {d:D} (h0:0 <= i) (h:ds[i.toNat]? = some d):wD ds i = ok (aD bo d):=by
 have:=uu h
 rwa [show ((i.toNat:Nat):Int) = i by omega] at this
@[simp] theorem ahW (d:D) (ds:List D):wD (d :: ds) 0 = ok (aD bo d):=uu (n:=0) rfl
@[simp] theorem ahV (a d:D) (ds:List D):wD (a :: d :: ds) 1 = ok (aD bo d):=uu (n:=1) rfl
@[simp] theorem ahU (a b d:D) (ds:List D):wD (a :: b :: d :: ds) 2 = ok (aD bo d):=uu (n:=2) rfl
@[simp] theorem RI (ds:List D):uj .len [.tup ds] = ok (.int ds.length):=rfl
@[simp] theorem RJ (f:Fl) (ds:List D):uj .len [.lst f ds] = ok (.int ds.length):=rfl
@[simp] theorem acD (i:Int):uj .abs [.int i] = ok (.int i.natAbs):=by
 show ok (D.int (if i < 0 then -i else i)) = _
 congr 2
 split <;> omega
@[simp] theorem Pj (f:Fl) (ds:List D):uj .list1 [.lst f ds] = ok (.lst .ow (ai bo ds)):=rfl
@[simp] theorem Ph (ds:List D):uj .list1 [.tup ds] = ok (.lst .ow (ai bo ds)):=rfl
@[simp] theorem RH (f:Fl) (ds:List D):uj .tuple1 [.lst f ds] = ok (.tup (ai bo ds)):=rfl
@[simp] theorem RG (ds:List D):uj .tuple1 [.tup ds] = ok (.tup (ai bo ds)):=rfl
@[simp] theorem acB (f:Fl) (ns:List Int):uj .kU [.lst f (ab ns)] = ok (.int ns.sum):=by
 show (match intsOf (ns.map D.int) with | some ns=>_ | none=>_) = _
 rw [bq]
@[simp] theorem acC (f:Fl) (bs:List Bool):uj .all1 [.lst f (lE bs)] = ok (.bl (bs.all id)):=by
 show (match jm (bs.map D.bl) with | some ns=>_ | none=>_) = _
 rw [mF]
@[simp] theorem Gx {ns:List Int} (h:ns.length < 64):uj .ig [.tup (ab ns)] = ok (.lst .ow (ab (sortI ns))):=by
 show qV _ = _
 unfold qV ab
 rw [bq]
 exact if_pos h
@[simp] theorem Lr {ns:List Int} (h:ns.length < 4000):yE (.tup (ab ns)) = ok (.int (ji ns).length):=by
 show (match intsOf (ns.map D.int) with | some ns=>_ | none=>_) = _
 rw [bq]
 exact if_pos h
@[simp] theorem nK (i j:Int):gO (.int i) (.int j) = decide (i = j):=by show (i == j) = _;rw [Int.beq_eq_decide_eq]
@[simp] theorem YV (i j:Bool):gO (.bl i) (.bl j) = (i == j):=rfl
@[simp] theorem GA (a b:List D):gO (.tup a) (.tup b) = dy a b:=rfl
@[simp] theorem GB (f g:Fl) (a b:List D):gO (.lst f a) (.lst g b) = dy a b:=rfl
@[simp] theorem Dw:dy [] [] = true:=rfl
@[simp] theorem mx (a b:D) (as bs:List D):dy (a :: as) (b :: bs) = (gO a b && dy as bs):=rfl
theorem pj:∀ {as bs:List D},dy as bs = true -> as.length = bs.length
 | [],[],_=>rfl
 | [],_ :: _,h=>(Bool.false_ne_true h).elim
 | _ :: _,[],h=>(Bool.false_ne_true h).elim
 | a :: as,b :: bs,h=>by
  replace h:(_ && _) = true:=h
  rw [Bool.and_eq_true] at h
  rw [List.length_cons,List.length_cons,pj h.2]
theorem jg {α:Type} {e:α -> D} [DecidableEq α] (h:∀ x y,gO (e x) (e y) = decide (x = y)):∀ xs ys:List α,dy (xs.map e) (ys.map e) = decide (xs = ys)
 | [],[]=>by simp
 | [],y :: ys=>by
  cases z:dy ([].map e) ((y :: ys).map e) with
  | true=>have:=pj z;simp at this
  | false=>simp
 | x :: xs,[]=>by
  cases z:dy ((x :: xs).map e) ([].map e) with
  | true=>have:=pj z;simp at this
  | false=>simp
 | x :: xs,y :: ys=>by
  rw [List.map_cons,List.map_cons,mx,h,jg h xs ys]
  by_cases e1:x = y <;> by_cases e2:xs = ys <;> simp [e1,e2]
theorem lb {α:Type} {e:α -> D} {n:Nat} (h:∀ x,b_ n (e x) = true) (xs:List α):(xs.map e).all (b_ n) = true:=by
 rw [List.all_map];exact List.all_eq_true.mpr fun x _=>h x
theorem bA {bind:D -> O aC} {test:aC -> O Bool} {el:aC -> O D} {α:Type} {e:α -> D} {g:α -> D}:∀ {xs:List α},(∀ x ∈ xs,∃ ρ,bind (e x) = ok ρ /\ test ρ = ok true /\ el ρ = ok (g x)) -> hU bind test el (xs.map e) = ok (xs.map g)
 | [],_=>rfl
 | x :: xs,h=>by
  obtain ⟨ρ,h1,h2,h3⟩:=h x (List.mem_cons_self ..)
  have ih:=bA (xs:=xs) fun y hy=>h y (List.mem_cons_of_mem _ hy)
  rw [List.map_cons,hU,h1,dt,h2,dt,if_pos rfl,h3,dt,ih];rfl
theorem jk {bind:D -> O aC} {test:aC -> O Bool} {el:aC -> O D} {α:Type} {e:α -> D} {g:α -> D} {t:α -> Bool}:∀ {xs:List α},(∀ x ∈ xs,∃ ρ,bind (e x) = ok ρ /\ test ρ = ok (t x) /\ (t x = true -> el ρ = ok (g x))) -> hU bind test el (xs.map e) = ok ((xs.filter t).map g)
 | [],_=>rfl
 | x :: xs,h=>by
  obtain ⟨ρ,h1,h2,h3⟩:=h x (List.mem_cons_self ..)
  have ih:=jk (xs:=xs) fun y hy=>h y (List.mem_cons_of_mem _ hy)
  rw [List.map_cons,hU,h1,dt,h2,dt,List.filter_cons]
  cases ht:t x with
  | true=>rw [if_pos rfl,h3 ht,dt,ih,if_pos rfl];rfl
  | false=>rw [if_neg Bool.false_ne_true,ih,if_neg Bool.false_ne_true]
section
variable {Φ:aA} {n:Nat} {t:Tg} {caps:List Nat} {ik:IK} {es a_:List CE} {elt:CE} {ρ:aC} {xs items ds:List D}
theorem cE (h1:cM Φ es ρ = ok xs) (h2:fc Φ ik xs = ok items)
  (h3:hU (fun d=>bU t d (aY n caps ρ)) (fun ρ'=>iS Φ a_ ρ') (fun ρ'=>aN Φ elt ρ') items = ok ds) (hl:ds.length <= eN):aN Φ (.comp n t caps ik es a_ elt) ρ = ok (.lst .ow (ai kg ds)):=by
 show bd (cM Φ es ρ) _ = _
 rw [h1,dt,h2,dt,h3,dt,if_pos hl]
end
theorem nH (Φ:aA) (ds:List D):fc Φ .seq [.tup ds] = ok (ai aL ds):=rfl
theorem dC (Φ:aA) (f:Fl) (ds:List D):fc Φ .seq [.lst f ds] = ok (ai aL ds):=rfl
theorem s_ (Φ:aA) {n:Int} (h0:0 <= n) (h:n <= 1000000):fc Φ .mP [.int n] = ok ((List.range n.toNat).map fun (k:Nat)=>D.int (k:Int)):=by
 show (if n <= (eN:Int) /\ -(eN:Int) <= n then _ else _) = _
 have:(eN:Int) = 1000000:=rfl
 rw [if_pos (by omega)]
theorem bx {n:Nat} (h:n <= 1000000):n <= eN:=h
theorem eZ {Φ:aA} {t:Tg} {it:CI} {b:List CS} {ρ ρ1:aC} {items:List D} {r:O (Fo × aC)} (h:cK Φ it ρ = ok (items,ρ1)) (h':d9 (fun d ρ=>bU t d ρ) (fun ρ=>bc Φ b ρ) items ρ1 = r):uI Φ (.fr t it b) ρ = r:=by
 show bd (cK Φ it ρ) _ = _
 rw [h];exact h'
theorem fF (bind:D -> aC -> O aC) (body:aC -> O (Fo × aC)) (ρ:aC):d9 bind body [] ρ = ok (.nx,ρ):=rfl
theorem cL {bind:D -> aC -> O aC} {body:aC -> O (Fo × aC)} {x:D} {xs:List D} {ρ ρ1 ρ2:aC} {r:O (Fo × aC)} (h1:bind x ρ = ok ρ1) (h2:body ρ1 = ok (.nx,ρ2)) (h3:d9 bind body xs ρ2 = r):d9 bind body (x :: xs) ρ = r:=by
 rw [d9,h1,dt,h2];exact h3
theorem CT {Φ:aA} {a:CE} {ρ:aC} {n:Int} (h:aN Φ a ρ = ok (.int n)) (h0:0 <= n) (h1:n <= 1000000):cK Φ (.mP a) ρ = ok ((List.range n.toNat).map fun (k:Nat)=>D.int (k:Int),ρ):=by
 show bd (aN Φ a ρ) _ = _
 rw [h]
 show (if n <= (eN:Int) /\ -(eN:Int) <= n then _ else _) = _
 have:(eN:Int) = 1000000:=rfl
 rw [if_pos (by omega)]
theorem Ki {Φ:aA} {a:CE} {ρ:aC} {ds:List D} (h:aN Φ a ρ = ok (.tup ds)):cK Φ (.seq a) ρ = ok (ai aL ds,if az cn ds then qA (iQ a) 0 ρ else ρ):=by
 show bd (aN Φ a ρ) _ = _
 rw [h,<- xF]
 show ok (_,if aT cn (.tup ds) then _ else _) = _
 rw [C_]
theorem Ap {Φ:aA} {a:CE} {ρ:aC} {f:Fl} {ds:List D} (h:aN Φ a ρ = ok (.lst f ds)):cK Φ (.seq a) ρ = ok (ai aL ds,if (cn f || az cn ds) then qA (iQ a) 0 ρ else ρ):=by
 show bd (aN Φ a ρ) _ = _
 rw [h,<- xF]
 show ok (_,if aT cn (.lst f ds) then _ else _) = _
 rw [Dc]
end DI
end
section
namespace DI
open PySem (Str)
noncomputable def gf (t b:Int):Int:=if b < 0 then -(Int.gcd t b:Int) else (Int.gcd t b:Int)
noncomputable def JM (t b:Int):Int:=t.fdiv (gf t b)
noncomputable def JN (t b:Int):Int:=b.fdiv (gf t b)
theorem y_ {t b:Int} (h:b ≠ 0):0 < Int.gcd t b:=Int.gcd_pos_of_ne_zero_right t h
theorem kj {t b:Int} (h:b ≠ 0):gf t b ≠ 0:=by
 have:=y_ (t:=t) h
 unfold gf;split <;> omega
theorem K0 {t b:Int} (h:b ≠ 0):Int.gcd t b <= b.natAbs:=Nat.le_of_dvd (by omega) (Nat.gcd_dvd_right _ _)
theorem GO {t b:Int} (h:b ≠ 0):(gf t b).natAbs <= b.natAbs:=by
 have:=K0 (t:=t) h
 unfold gf;split <;> omega
theorem oE {t b:Int} (h:b ≠ 0):∃ t' b':Int,t = gf t b * t' /\ b = gf t b * b' /\ JM t b = t' /\ JN t b = b' /\ 1 <= b' /\ Int.gcd t' b' = 1:=by
 have hg:=y_ (t:=t) h
 obtain ⟨t1,ht⟩:(Int.gcd t b:Int) ∣ t:=Int.gcd_dvd_left ..
 obtain ⟨b1,hb⟩:(Int.gcd t b:Int) ∣ b:=Int.gcd_dvd_right ..
 have hc:Int.gcd t1 b1 = 1:=by
  have e:Int.gcd ((Int.gcd t b:Int) * t1) ((Int.gcd t b:Int) * b1) = Int.gcd t b * Int.gcd t1 b1:=by
   rw [Int.gcd_mul_left];simp
  rw [<- ht,<- hb] at e
  have:Int.gcd t b * 1 = Int.gcd t b * Int.gcd t1 b1:=by rw [Nat.mul_one];exact e
  exact (Nat.eq_of_mul_eq_mul_left hg this).symm
 by_cases hn:b < 0
 ·have ed:gf t b = -(Int.gcd t b:Int):=by simp [gf,hn]
  have e1:t = gf t b * (-t1):=by rw [ed,Int.neg_mul_neg];exact ht
  have e2:b = gf t b * (-b1):=by rw [ed,Int.neg_mul_neg];exact hb
  refine ⟨-t1,-b1,e1,e2,?_,?_,?_,by rw [Int.gcd_neg,Int.neg_gcd];exact hc⟩
  ·unfold JM
   conv=>lhs;arg 1;rw [e1]
   exact Int.mul_fdiv_cancel_left _ (kj h)
  ·unfold JN
   conv=>lhs;arg 1;rw [e2]
   exact Int.mul_fdiv_cancel_left _ (kj h)
  ·have:b1 < 0:=by
    by_cases XF:b1 < 0
    ·exact XF
    ·have:0 <= (Int.gcd t b:Int) * b1:=Int.mul_nonneg (by omega) (by omega)
     omega
   omega
 ·have ed:gf t b = (Int.gcd t b:Int):=by simp [gf,hn]
  have e1:t = gf t b * t1:=by rw [ed];exact ht
  have e2:b = gf t b * b1:=by rw [ed];exact hb
  refine ⟨t1,b1,e1,e2,?_,?_,?_,hc⟩
  ·unfold JM
   conv=>lhs;arg 1;rw [e1]
   exact Int.mul_fdiv_cancel_left _ (kj h)
  ·unfold JN
   conv=>lhs;arg 1;rw [e2]
   exact Int.mul_fdiv_cancel_left _ (kj h)
  ·have:0 < b1:=by
    by_cases XF:0 < b1
    ·exact XF
    ·have:(Int.gcd t b:Int) * b1 <= 0:=Int.mul_nonpos_of_nonneg_of_nonpos (by omega) (by omega)
     omega
   omega
noncomputable def qD (q:Rat):D:=.tup [.int q.num,.int q.den]
@[simp] theorem JW (g:Fl -> Fl) (q:Rat):aD g (qD q) = qD q:=by unfold qD;simp
@[simp] theorem KP (g:Fl -> Bool) (q:Rat):aT g (qD q) = false:=by unfold qD;simp
noncomputable def aB (qs:List Rat):List D:=qs.map qD
@[simp] theorem Q6 (qs:List Rat):(aB qs).length = qs.length:=List.length_map ..
@[simp] theorem Q5:aB [] = []:=rfl
@[simp] theorem NF (q:Rat) (qs:List Rat):aB (q :: qs) = qD q :: aB qs:=rfl
@[simp] theorem ND (qs:List Rat) (q:Rat):aB qs ++ [qD q] = aB (qs ++ [q]):=by simp [aB]
@[simp] theorem Fg (qs:List Rat) (i:Nat):(aB qs)[i]? = qs[i]?.map qD:=List.getElem?_map ..
@[simp] theorem Q4 (qs:List Rat) (i:Nat) (q:Rat):(aB qs).set i (qD q) = aB (qs.set i q):=by unfold aB;rw [List.map_set]
@[simp] theorem N9 (g:Fl -> Fl) (qs:List Rat):ai g (aB qs) = aB qs:=de g (JW g) qs
@[simp] theorem O3 (g:Fl -> Bool) (qs:List Rat):az g (aB qs) = false:=cf g (KP g) qs
theorem yC (n:Nat) (q:Rat):b_ (n + 1) (qD q) = true:=by
 unfold qD
 rw [nF,List.all_cons,List.all_cons,fC,fC];rfl
theorem zj (p q:Rat):gO (qD p) (qD q) = decide (p = q):=by
 unfold qD
 rw [GA,mx,mx,Dw,nK,nK,Bool.and_true]
 by_cases h:p = q
 ·subst h;simp
 ·rw [decide_eq_false h]
  cases e1:decide (p.num = q.num) with
  | false=>rfl
  | true =>
   cases e2:decide ((p.den:Int) = (q.den:Int)) with
   | false=>rfl
   | true =>
    refine absurd (Rat.ext (by simpa using e1) ?_) h
    have:(p.den:Int) = q.den:=by simpa using e2
    omega
@[simp] theorem abY (q:Rat):vG (qD q) (.int 0) = ok (.int q.num):=by unfold qD;simp
@[simp] theorem abX (q:Rat):vG (qD q) (.int 1) = ok (.int q.den):=by unfold qD;simp
theorem tM {t b:Int} (hb:b ≠ 0):t.fdiv (gf t b) = (Rat.divInt t b).num /\ b.fdiv (gf t b) = ((Rat.divInt t b).den:Int):=by
 obtain ⟨t',b',e1,e2,h1,h2,h3,h4⟩:=oE (t:=t) hb
 have hd:=kj (t:=t) hb
 have e:Rat.divInt t b = Rat.divInt t' b':=by
  generalize gf t b = d at *
  rw [e1,e2]
  exact Rat.divInt_mul_left hd
 obtain ⟨n,rfl⟩:∃ n:Nat,b' = (n:Int):=⟨b'.toNat,by omega⟩
 have hc:t'.natAbs.Coprime n:=by
  have:Nat.gcd t'.natAbs n = 1:=by simpa [Int.gcd] using h4
  exact this
 have hn:n ≠ 0:=by omega
 have e3:Rat.divInt t' (n:Int) = ⟨t',n,hn,hc⟩:=Rat.mk_eq_divInt.symm
 rw [e,e3]
 exact ⟨h1,h2⟩
theorem jT (q:Rat):(q.den:Int) ≠ 0:=by have:=q.den_pos;omega
theorem NG (q:Rat):(1:Int) <= q.den:=by have:=q.den_pos;omega
theorem e_ (q:Rat):Rat.divInt q.num q.den = q:=Rat.num_divInt_den q
theorem kZ {t b:Int} (hb:b ≠ 0):(Rat.divInt t b).num.natAbs <= t.natAbs /\ (Rat.divInt t b).den <= b.natAbs:=by
 obtain ⟨t',b',e1,e2,h1,h2,h3,h4⟩:=oE (t:=t) hb
 obtain ⟨g1,g2⟩:=tM (t:=t) hb
 have hd:1 <= (gf t b).natAbs:=by have:=kj (t:=t) hb;omega
 rw [show t.fdiv (gf t b) = t' from h1] at g1
 rw [show b.fdiv (gf t b) = b' from h2] at g2
 refine ⟨?_,?_⟩
 ·rw [<- g1]
  have:t.natAbs = (gf t b).natAbs * t'.natAbs:=by rw [<- Int.natAbs_mul,<- e1]
  rw [this];exact Nat.le_mul_of_pos_left _ hd
 ·have hz:(Rat.divInt t b).den = b'.natAbs:=by omega
  rw [hz]
  have:b.natAbs = (gf t b).natAbs * b'.natAbs:=by rw [<- Int.natAbs_mul,<- e2]
  rw [this];exact Nat.le_mul_of_pos_left _ hd
theorem Hv (p q:Rat):p + q = Rat.divInt (p.num * q.den + q.num * p.den) (p.den * q.den):=by
 conv=>lhs;rw [<- e_ p,<- e_ q]
 exact Rat.divInt_add_divInt _ _ (jT p) (jT q)
theorem Hr (p q:Rat):p - q = Rat.divInt (p.num * q.den - q.num * p.den) (p.den * q.den):=by
 conv=>lhs;rw [<- e_ p,<- e_ q]
 exact Rat.divInt_sub_divInt _ _ (jT p) (jT q)
theorem Hs (p q:Rat):p * q = Rat.divInt (p.num * q.num) (p.den * q.den):=by
 conv=>lhs;rw [<- e_ p,<- e_ q]
 exact Rat.divInt_mul_divInt _ _
theorem Hu (p q:Rat):p / q = Rat.divInt (p.num * q.den) (p.den * q.num):=by
 rw [Rat.div_def]
 conv=>lhs;rw [<- e_ p,<- e_ q,Rat.inv_divInt]
 exact Rat.divInt_mul_divInt _ _
noncomputable def Sm (k:Nat) (q:Rat):Prop:=q.num.natAbs < 2 ^ k /\ q.den < 2 ^ k
theorem Sm.mono {k l:Nat} {q:Rat} (h:Sm k q) (hl:k <= l):Sm l q :=
 ⟨Nat.lt_of_lt_of_le h.1 (Nat.pow_le_pow_right (by decide) hl),Nat.lt_of_lt_of_le h.2 (Nat.pow_le_pow_right (by decide) hl)⟩
theorem aZ {a b k l:Nat} (h:a < 2 ^ k) (h':b < 2 ^ l):a * b < 2 ^ (k + l):=by
 rw [Nat.pow_add]
 exact Nat.mul_lt_mul'' h h'
theorem G6 (a b:Int):(a + b).natAbs <= a.natAbs + b.natAbs:=by omega
theorem G5 (a b:Int):(a - b).natAbs <= a.natAbs + b.natAbs:=by omega
section
variable {k l:Nat} {p q:Rat}
theorem Sm.den (h:Sm k p) (h':Sm l q):((p.den:Int) * q.den).natAbs < 2 ^ (k + l):=by
 rw [Int.natAbs_mul];exact aZ (by simpa using h.2) (by simpa using h'.2)
theorem Sm.add (h:Sm k p) (h':Sm l q):Sm (k + l + 1) (p + q):=by
 have hb:(p.den:Int) * q.den ≠ 0:=Int.mul_ne_zero (jT p) (jT q)
 obtain ⟨g1,g2⟩:=kZ (t:=p.num * q.den + q.num * p.den) hb
 rw [<- Hv] at g1 g2
 have n1:(p.num * q.den).natAbs < 2 ^ (k + l):=by rw [Int.natAbs_mul];exact aZ h.1 (by simpa using h'.2)
 have n2:(q.num * p.den).natAbs < 2 ^ (k + l):=by rw [Int.natAbs_mul,Nat.add_comm];exact aZ h'.1 (by simpa using h.2)
 have:=G6 (p.num * q.den) (q.num * p.den)
 have e:2 ^ (k + l + 1) = 2 ^ (k + l) * 2:=Nat.pow_succ ..
 have d:=h.den h'
 exact ⟨by omega,by omega⟩
theorem Sm.sub (h:Sm k p) (h':Sm l q):Sm (k + l + 1) (p - q):=by
 have hb:(p.den:Int) * q.den ≠ 0:=Int.mul_ne_zero (jT p) (jT q)
 obtain ⟨g1,g2⟩:=kZ (t:=p.num * q.den - q.num * p.den) hb
 rw [<- Hr] at g1 g2
 have n1:(p.num * q.den).natAbs < 2 ^ (k + l):=by rw [Int.natAbs_mul];exact aZ h.1 (by simpa using h'.2)
 have n2:(q.num * p.den).natAbs < 2 ^ (k + l):=by rw [Int.natAbs_mul,Nat.add_comm];exact aZ h'.1 (by simpa using h.2)
 have:=G5 (p.num * q.den) (q.num * p.den)
 have e:2 ^ (k + l + 1) = 2 ^ (k + l) * 2:=Nat.pow_succ ..
 have d:=h.den h'
 exact ⟨by omega,by omega⟩
theorem Sm.mul (h:Sm k p) (h':Sm l q):Sm (k + l) (p * q):=by
 have hb:(p.den:Int) * q.den ≠ 0:=Int.mul_ne_zero (jT p) (jT q)
 obtain ⟨g1,g2⟩:=kZ (t:=p.num * q.num) hb
 rw [<- Hs] at g1 g2
 have n1:(p.num * q.num).natAbs < 2 ^ (k + l):=by rw [Int.natAbs_mul];exact aZ h.1 h'.1
 have d:=h.den h'
 exact ⟨by omega,by omega⟩
theorem sL (h:q ≠ 0):q.num ≠ 0:=fun z=>h (by rw [<- e_ q,z];simp)
theorem Sm.div (h:Sm k p) (h':Sm l q) (hq:q ≠ 0):Sm (k + l) (p / q):=by
 have hb:(p.den:Int) * q.num ≠ 0:=Int.mul_ne_zero (jT p) (sL hq)
 obtain ⟨g1,g2⟩:=kZ (t:=p.num * q.den) hb
 rw [<- Hu] at g1 g2
 have n1:(p.num * q.den).natAbs < 2 ^ (k + l):=by rw [Int.natAbs_mul];exact aZ h.1 (by simpa using h'.2)
 have d:((p.den:Int) * q.num).natAbs < 2 ^ (k + l):=by rw [Int.natAbs_mul];exact aZ (by simpa using h.2) h'.1
 exact ⟨by omega,by omega⟩
theorem Sm.big (h:Sm k p) (hk:k <= 9000):p.num.natAbs < 2 ^ 9000 /\ (p.den:Int).natAbs < 2 ^ 9000:=by
 have:=h.mono hk
 exact ⟨this.1,by simpa using this.2⟩
end
theorem qW {t b:Int} {k:Nat} (hb:b ≠ 0) (h1:t.natAbs < 2 ^ k) (h2:b.natAbs < 2 ^ k):Sm k (Rat.divInt t b):=by
 obtain ⟨g1,g2⟩:=kZ (t:=t) hb
 exact ⟨by omega,by omega⟩
end DI
end
section
namespace DI
open PySem (Str)
noncomputable def d_ (d:D):Bool:=dZ .int d && !dZ .bool d
noncomputable def dQ (m:List D -> O D):Prop:=∀ d,m [d] = ok (.bl (d_ d))
noncomputable def iz:List CS:=[.ret (.and [(.pY (.v 0) .int),(.not (.pY (.v 0) .bool))])]
theorem cx (Φ:aA):dQ (mk Φ 1 1 iz):=by
 intro d
 simp [mk_eq,iz,d_]
theorem pb (a:Int) {b:Int} (h:b ≠ 0):(a.fmod b).natAbs < b.natAbs:=by
 rcases Int.lt_or_gt_of_ne h with hb | hb
 ·have e:=Int.neg_fmod_neg a b
  have h1:=Int.fmod_nonneg_of_pos (-a) (show 0 < -b by omega)
  have h2:=Int.fmod_lt_of_pos (-a) (show 0 < -b by omega)
  omega
 ·have h1:=Int.fmod_nonneg_of_pos a hb
  have h2:=Int.fmod_lt_of_pos a hb
  omega
theorem Dk (a b:Int):Int.gcd b (a.fmod b) = Int.gcd a b:=by
 rw [Int.fmod_def,Int.gcd_sub_mul_left_right,Int.gcd_comm]
noncomputable def aQ (m:List D -> O D):Prop:=∀ a b:Int,m [.int a,.int b] = ok (.int (Int.gcd a b))
noncomputable def Br:CS:=.Iq (.cmp .ne (.v 1) (.int 0)) [.asg (.nm 2) (.bin .mod (.v 0) (.v 1)),.asg (.nm 0) (.v 1),.asg (.nm 1) (.v 2)]
noncomputable def dg:List CS:=[Br,.ret (.bf .abs [(.v 0)])]
theorem GU (Φ:aA):∀ (n:Nat) (a b:Int) (r:Option D),b.natAbs <= n -> ∃ (g:Int) (r':Option D),uI Φ Br [some (.int a),some (.int b),r] = ok (.nx,[some (.int g),some (.int 0),r']) /\ g.natAbs = Int.gcd a b:=by
 intro n
 induction n with
 | zero =>
  intro a b r h
  have hb:b = 0:=by omega
  subst hb
  refine ⟨a,r,?_,by simp⟩
  rw [Br,qO]
  exact ib (by simp)
 | succ n ih =>
  intro a b r h
  by_cases hb:b = 0
  ·subst hb
   refine ⟨a,r,?_,by simp⟩
   rw [Br,qO]
   exact ib (by simp)
  ·have iX:=pb a hb
   obtain ⟨g,r',e,hg⟩:=ih b (a.fmod b) (some (.int (a.fmod b))) (by omega)
   refine ⟨g,r',?_,by rw [hg,Dk]⟩
   rw [Br,qO] at e ⊢
   rw [<- e]
   exact n8 (by simp [hb])
theorem aP (Φ:aA):aQ (mk Φ 2 3 dg):=by
 intro a b
 obtain ⟨g,r',e,hg⟩:=GU Φ b.natAbs a b none (Nat.le_refl _)
 have e1:(g.natAbs:Int) = (Int.gcd a b:Int):=by omega
 simp [mk_eq,dg,e,e1]
noncomputable def gE (m:List D -> O D):Prop:=∀ t b:Int,b ≠ 0 -> b.natAbs < 2 ^ 9000 -> m [.int t,.int b] = ok (qD (Rat.divInt t b))
noncomputable def dA (m:List D -> O D):Prop:=gE m /\ ∀ t:Int,m [.int t,.int 0] = some (.error 0)
noncomputable def cJ:List CS:=[.ifs (.cmp .eq (.v 1) (.int 0)) [.rs 0] [],.asg (.nm 2) (.call 1 [(.v 0),(.v 1)]),.ifs (.cmp .lt (.v 1) (.int 0)) [.asg (.nm 2) (.neg (.v 2))] [],.ret (.tup [(.bin .fdiv (.v 0) (.v 2)),(.bin .fdiv (.v 1) (.v 2))])]
theorem nL {t b:Int} (hb:b ≠ 0) (h:b.natAbs < 2 ^ 9000) (x:Int):cQ .fdiv (.int x) (.int (gf t b)) = ok (.int (x.fdiv (gf t b))) :=
 pK (jh (kj hb) (Nat.lt_of_le_of_lt (GO hb) h))
theorem bu (Φ:aA) (h1:aQ (Φ 1)):dA (mk Φ 2 3 cJ):=by
 refine ⟨fun t b hb h=>?_,fun t=>by simp [mk_eq,cJ]⟩
 obtain ⟨e1,e2⟩:=tM (t:=t) hb
 unfold aQ at h1
 have d1:=nL (t:=t) hb h t
 have d2:=nL (t:=t) hb h b
 rw [qD,<- e1,<- e2]
 by_cases hn:b < 0
 ·have ed:-(Int.gcd t b:Int) = gf t b:=by simp [gf,hn]
  simp [mk_eq,cJ,hb,h1,hn,ed,d1,d2]
 ·have ed:(Int.gcd t b:Int) = gf t b:=by simp [gf,hn]
  simp [mk_eq,cJ,hb,h1,hn,ed,d1,d2]
noncomputable def dX:D -> Bool
 | .tup [.int a,.int b]=>decide (1 <= b) && decide (Int.gcd a b = 1)
 | _=>false
theorem zf (q:Rat):dX (qD q) = true:=by
 have h1:=NG q
 have h2:Int.gcd q.num q.den = 1:=by
  have:=q.reduced
  simpa [Int.gcd] using this
 simp [qD,dX,h1,h2]
noncomputable def dz (m:List D -> O D):Prop:=∀ d,m [d] = ok (.bl (dX d))
noncomputable def bF:List CS:=[.ifs (.or [(.not (.pY (.v 0) .tuple)),(.cmp .ne (.bf .len [(.v 0)]) (.int 2))]) [.ret (.bl false)] [],.ifs (.or [(.not (.call 0 [(.ix (.v 0) (.int 0))])),(.not (.call 0 [(.ix (.v 0) (.int 1))]))]) [.ret (.bl false)] [],.ret (.and [(.cmp .ge (.ix (.v 0) (.int 1)) (.int 1)),(.cmp .eq (.call 1 [(.ix (.v 0) (.int 0)),(.ix (.v 0) (.int 1))]) (.int 1))])]
theorem mO (g:Fl -> Fl) (d:D):d_ (aD g d) = d_ d:=by simp [d_]
theorem n6 {d:D} (h:d_ d = true):∃ i,d = .int i:=by
 cases d <;> simp [d_,dZ] at h ⊢
theorem rH {x y:D} (h:d_ x = false \/ d_ y = false):dX (.tup [x,y]) = false:=by
 cases x <;> cases y <;> simp [d_,dZ] at h <;> rfl
theorem AK {ds:List D} (h:ds.length ≠ 2):dX (.tup ds) = false:=by
 unfold dX
 split
 ·rename_i e;cases e;simp at h
 ·rfl
theorem bt (Φ:aA) (h0:dQ (Φ 0)) (h1:aQ (Φ 1)):dz (mk Φ 1 1 bF):=by
 intro d
 unfold dQ at h0
 unfold aQ at h1
 cases d with
 | tup ds =>
  by_cases hl:ds.length = 2
  ·match ds,hl with
   | [x,y],_ =>
    by_cases hx:d_ x = true
    ·by_cases hy:d_ y = true
     ·obtain ⟨a,rfl⟩:=n6 hx
      obtain ⟨b,rfl⟩:=n6 hy
      simp [mk_eq,bF,h0,h1,hx,hy,dZ,dX]
      by_cases hg:a.gcd b = 1
      ·simp [hg]
      ·simp [hg];omega
     ·simp [mk_eq,bF,h0,hx,hy,dZ,mO,rH (.inr (by simpa using hy))]
    ·simp [mk_eq,bF,h0,hx,dZ,mO,rH (.inl (by simpa using hx))]
  ·have uH:¬ (ds.length:Int) = 2:=by omega
   simp [mk_eq,bF,dZ,uH,AK hl]
 | _=>simp [mk_eq,bF,dZ,dX]
noncomputable def mV (m:List D -> O D):Prop:=∀ p q,Sm 4000 p -> Sm 4000 q -> m [qD p,qD q] = ok (qD (p + q))
noncomputable def ko (m:List D -> O D):Prop:=∀ p q,Sm 4000 p -> Sm 4000 q -> m [qD p,qD q] = ok (qD (p - q))
noncomputable def fI (m:List D -> O D):Prop:=∀ p q,Sm 4000 p -> Sm 4000 q -> m [qD p,qD q] = ok (qD (p * q))
noncomputable def DV (m:List D -> O D):Prop:=(∀ p q,Sm 4000 p -> Sm 4000 q -> q ≠ 0 -> m [qD p,qD q] = ok (qD (p / q))) /\ ∀ p,Sm 4000 p -> m [qD p,qD 0] = some (.error 0)
noncomputable def zB (f:Nat):List CS:=[.ret (.call f [(.bin .add (.bin .mul (.ix (.v 0) (.int 0)) (.ix (.v 1) (.int 1))) (.bin .mul (.ix (.v 1) (.int 0)) (.ix (.v 0) (.int 1)))),(.bin .mul (.ix (.v 0) (.int 1)) (.ix (.v 1) (.int 1)))])]
noncomputable def mG (f:Nat):List CS:=[.ret (.call f [(.bin .sub (.bin .mul (.ix (.v 0) (.int 0)) (.ix (.v 1) (.int 1))) (.bin .mul (.ix (.v 1) (.int 0)) (.ix (.v 0) (.int 1)))),(.bin .mul (.ix (.v 0) (.int 1)) (.ix (.v 1) (.int 1)))])]
noncomputable def jK (f:Nat):List CS:=[.ret (.call f [(.bin .mul (.ix (.v 0) (.int 0)) (.ix (.v 1) (.int 0))),(.bin .mul (.ix (.v 0) (.int 1)) (.ix (.v 1) (.int 1)))])]
noncomputable def DP (f:Nat):List CS:=[.ret (.call f [(.bin .mul (.ix (.v 0) (.int 0)) (.ix (.v 1) (.int 1))),(.bin .mul (.ix (.v 0) (.int 1)) (.ix (.v 1) (.int 0)))])]
section
variable (Φ:aA) {f:Nat} (h2:gE (Φ f))
theorem LG {p q:Rat} (hp:Sm 4000 p) (hq:Sm 4000 q):(p.den:Int) * q.den ≠ 0 /\ ((p.den:Int) * q.den).natAbs < 2 ^ 9000 :=
 ⟨Int.mul_ne_zero (jT p) (jT q),Nat.lt_of_lt_of_le (hp.den hq) (Nat.pow_le_pow_right (by decide) (by decide))⟩
theorem Ag {p q:Rat} (hp:Sm 4000 p) (hq:Sm 4000 q):cQ .mul (.int p.num) (.int q.den) = ok (.int (p.num * q.den)) /\ cQ .mul (.int p.num) (.int q.num) = ok (.int (p.num * q.num)) /\ cQ .mul (.int p.den) (.int q.den) = ok (.int (p.den * q.den)) /\ cQ .mul (.int p.den) (.int q.num) = ok (.int (p.den * q.num)):=by
 obtain ⟨a,b⟩:=hp.big (by decide)
 obtain ⟨c,d⟩:=hq.big (by decide)
 exact ⟨j9 (mulOk_of a d),j9 (mulOk_of a c),j9 (mulOk_of b d),j9 (mulOk_of b c)⟩
include h2
theorem Nu:mV (mk Φ 2 2 (zB f)):=by
 intro p q hp hq
 obtain ⟨a,b,c,d⟩:=Ag hp hq
 obtain ⟨a',b',c',d'⟩:=Ag hq hp
 obtain ⟨n,k⟩:=LG hp hq
 have e:=h2 (p.num * q.den + q.num * p.den) _ n k
 rw [<- Hv] at e
 simp [mk_eq,zB,a,a',c,e]
theorem BZ:ko (mk Φ 2 2 (mG f)):=by
 intro p q hp hq
 obtain ⟨a,b,c,d⟩:=Ag hp hq
 obtain ⟨a',b',c',d'⟩:=Ag hq hp
 obtain ⟨n,k⟩:=LG hp hq
 have e:=h2 (p.num * q.den - q.num * p.den) _ n k
 rw [<- Hr] at e
 simp [mk_eq,mG,a,a',c,e]
theorem yk:fI (mk Φ 2 2 (jK f)):=by
 intro p q hp hq
 obtain ⟨a,b,c,d⟩:=Ag hp hq
 obtain ⟨n,k⟩:=LG hp hq
 have e:=h2 (p.num * q.num) _ n k
 rw [<- Hs] at e
 simp [mk_eq,jK,b,c,e]
omit h2 in
theorem s_by (h2:dA (Φ f)):DV (mk Φ 2 2 (DP f)):=by
 refine ⟨fun p q hp hq h0=>?_,fun p hp=>?_⟩
 ·obtain ⟨a,b,c,d⟩:=Ag hp hq
  have n:(p.den:Int) * q.num ≠ 0:=Int.mul_ne_zero (jT p) (sL h0)
  have k:((p.den:Int) * q.num).natAbs < 2 ^ 9000:=by
   rw [Int.natAbs_mul]
   exact Nat.lt_of_lt_of_le (aZ (by simpa using hp.2) hq.1) (Nat.pow_le_pow_right (by decide) (by decide))
  have e:=h2.1 (p.num * q.den) _ n k
  rw [<- Hu] at e
  simp [mk_eq,DP,a,d,e]
 ·have e:=h2.2 p.num
  simp [mk_eq,DP,e]
end
end DI
end
section
namespace DI
open PySem (Str)
theorem we {bind:D -> O aC} {test:aC -> O Bool} {el:aC -> O D} {g:D -> D} {xs:List D} (h:∀ x ∈ xs,∃ ρ,bind x = ok ρ /\ test ρ = ok true /\ el ρ = ok (g x)):hU bind test el xs = ok (xs.map g):=by
 have:=bA (bind:=bind) (test:=test) (el:=el) (e:=fun d=>d) (g:=g) (xs:=xs) h
 rwa [List.map_id'] at this
theorem kh (g:Fl -> Fl) (d:D):dX (aD g d) = dX d:=by
 cases d with
 | tup ds =>
  match ds with
  | []=>simp
  | [_]=>simp [dX]
  | [x,y]=>cases x <;> cases y <;> simp [dX]
  | _ :: _ :: _ :: _=>simp [dX]
 | _=>simp [dX]
noncomputable def lK (d:D) (n:Int):Bool:=match d with
 | .lst _ ds=>decide ((ds.length:Int) = n) && ds.all dX
 | _=>false
noncomputable def t8 (d:D):Prop:=match d with
 | .lst _ ds=>ds.length <= 1000000
 | .tup ds=>ds.length < 64
 | _=>True
noncomputable def iT (m:List D -> O D):Prop:=∀ d n,t8 d -> m [d,.int n] = ok (.bl (lK d n))
noncomputable def bO:List CS:=[.ifs (.or [(.not (.pY (.v 0) .list)),(.cmp .ne (.bf .len [(.v 0)]) (.v 1))]) [.ret (.bl false)] [],.ret (.bf .all1 [(.comp 1 (.nm 0) [] .seq [(.v 0)] [] (.call 3 [(.v 0)]))])]
theorem aW (Φ:aA) (h3:dz (Φ 3)):iT (mk Φ 2 2 bO):=by
 intro d n hc
 unfold dz at h3
 cases d with
 | lst f ds =>
  by_cases hn:(ds.length:Int) = n
  ·have rB:aN Φ (.comp 1 (.nm 0) [] .seq [(.v 0)] [] (.call 3 [(.v 0)])) [some (.lst f ds),some (.int n)] = ok (.lst .ow (lE (ds.map dX))):=by
    rw [cE (xs:=[.lst (bo f) (ai bo ds)]) (by simp) (dC ..) (we (g:=fun d=>.bl (dX d)) fun x _=>⟨[some x],by simp [aY],by simp,by simp [h3,kh]⟩) (by simp;exact bx hc)]
    simp [aw,Function.comp_def,kh,lE]
   simp [mk_eq,bO,dZ,hn,rB,lK]
  ·simp [mk_eq,bO,dZ,hn,lK]
 | _=>simp [mk_eq,bO,dZ,lK]
theorem xX (f:Fl) (qs:List Rat) (n:Int):lK (.lst f (aB qs)) n = decide ((qs.length:Int) = n):=by
 unfold lK
 have:(aB qs).all dX = true:=by unfold aB;rw [List.all_map];exact List.all_eq_true.mpr fun q _=>zf q
 simp [this]
noncomputable def bY (qs:List Rat):Nat:=qs.foldl (fun b q=>Nat.lcm b q.den) 1
theorem CN (b:Nat) (q:Rat):(b:Int).fdiv (Int.gcd b q.den) * q.den = (Nat.lcm b q.den:Nat):=by
 have hg:0 < Nat.gcd b q.den:=Nat.gcd_pos_of_pos_right _ q.den_pos
 have e:Int.gcd (b:Int) (q.den:Int) = Nat.gcd b q.den:=by simp [Int.gcd]
 rw [e,Int.fdiv_eq_ediv_of_nonneg _ (by omega)]
 have:((b:Int) / (Nat.gcd b q.den:Nat)) = ((b / Nat.gcd b q.den:Nat):Int):=(Int.natCast_ediv ..).symm
 rw [this,Nat.lcm]
 have hd:Nat.gcd b q.den ∣ b:=Nat.gcd_dvd_left ..
 rw [Nat.mul_comm b,Nat.mul_div_assoc _ hd,Nat.mul_comm]
 exact (Int.natCast_mul ..).symm
theorem lcm_pos {b:Nat} (hb:0 < b) (q:Rat):0 < Nat.lcm b q.den:=Nat.lcm_pos hb q.den_pos
theorem yJ:∀ (qs:List Rat) (b k j:Nat),0 < b -> b < 2 ^ j -> (∀ q ∈ qs,Sm k q) -> 0 < qs.foldl (fun b q=>Nat.lcm b q.den) b /\ qs.foldl (fun b q=>Nat.lcm b q.den) b < 2 ^ (j + k * qs.length) /\ b ∣ qs.foldl (fun b q=>Nat.lcm b q.den) b /\ ∀ q ∈ qs,q.den ∣ qs.foldl (fun b q=>Nat.lcm b q.den) b
 | [],b,k,j,h0,h1,_=>⟨h0,by simpa using h1,Nat.dvd_refl _,fun q hq=>nomatch hq⟩
 | q :: qs,b,k,j,h0,h1,hs=>by
  have hq:=hs q List.mem_cons_self
  have h2:Nat.lcm b q.den < 2 ^ (j + k):=Nat.lt_of_le_of_lt (Nat.lcm_le_mul h0 q.den_pos) (aZ h1 hq.2)
  obtain ⟨g1,g2,g3,g4⟩:=yJ qs (Nat.lcm b q.den) k (j + k) (lcm_pos h0 q) h2 fun p hp=>hs p (List.mem_cons_of_mem _ hp)
  have e:j + k * (q :: qs).length = j + k + k * qs.length:=by rw [List.length_cons,Nat.mul_succ];omega
  refine ⟨g1,by rw [e];exact g2,Nat.dvd_trans (Nat.dvd_lcm_left ..) g3,fun p hp=>?_⟩
  rcases List.mem_cons.mp hp with rfl | hp
  ·exact Nat.dvd_trans (Nat.dvd_lcm_right ..) g3
  ·exact g4 p hp
structure A5 (k:Nat) (qs:List Rat):Prop where
 sm:∀ q ∈ qs,Sm k q
 D_:k * qs.length <= 3000
 len:qs.length <= 1000
theorem A5.lcm {k:Nat} {qs:List Rat} (h:A5 k qs):0 < bY qs /\ bY qs < 2 ^ (1 + k * qs.length) /\ ∀ q ∈ qs,q.den ∣ bY qs:=by
 obtain ⟨g1,g2,_,g4⟩:=yJ qs 1 k 1 (by decide) (by decide) h.sm
 exact ⟨g1,g2,g4⟩
theorem xl {n j:Nat} (h:n < 2 ^ j) (hj:j <= 9000):n < 2 ^ 9000:=Nat.lt_of_lt_of_le h (Nat.pow_le_pow_right (by decide) hj)
noncomputable def dF (m:List D -> O D):Prop:=∀ f qs k,A5 k qs -> m [.lst f (aB qs)] = ok (.int (bY qs))
noncomputable def bN:List CS:=[.asg (.nm 1) (.bin .mul (.bin .fdiv (.v 1) (.call 1 [(.v 1),(.ix (.v 2) (.int 1))])) (.ix (.v 2) (.int 1)))]
noncomputable def cH:List CS:=[.asg (.nm 1) (.int 1),.fr (.nm 2) (.seq (.v 0)) bN,.ret (.v 1)]
theorem zy (Φ:aA) (h1:aQ (Φ 1)) (x:Option D):∀ (qs:List Rat) (b k j:Nat) (z:Option D),0 < b -> b < 2 ^ j -> j + k * qs.length <= 8000 -> (∀ q ∈ qs,Sm k q) ->
  ∃ z',d9 (fun d ρ=>bU (.nm 2) d ρ) (fun ρ=>bc Φ bN ρ) (aB qs) [x,some (.int b),z] = ok (.nx,[x,some (.int (qs.foldl (fun b q=>Nat.lcm b q.den) b:Nat)),z'])
 | [],b,k,j,z,_,_,_,_=>⟨z,rfl⟩
 | q :: qs,b,k,j,z,h0,hb,hj,hs=>by
  have hq:=hs q List.mem_cons_self
  have h2:Nat.lcm b q.den < 2 ^ (j + k):=Nat.lt_of_le_of_lt (Nat.lcm_le_mul h0 q.den_pos) (aZ hb hq.2)
  have e:j + k * (q :: qs).length = j + k + k * qs.length:=by rw [List.length_cons,Nat.mul_succ];omega
  obtain ⟨z',ih⟩:=zy Φ h1 x qs (Nat.lcm b q.den) k (j + k) (some (qD q)) (lcm_pos h0 q) h2 (by omega) fun p hp=>hs p (List.mem_cons_of_mem _ hp)
  have hg:0 < Nat.gcd b q.den:=Nat.gcd_pos_of_pos_right _ q.den_pos
  have eg:Int.gcd (b:Int) (q.den:Int) = Nat.gcd b q.den:=by simp [Int.gcd]
  have Rq:Nat.gcd b q.den <= b:=Nat.le_of_dvd h0 (Nat.gcd_dvd_left ..)
  have hb9:b < 2 ^ 9000:=xl hb (by omega)
  have d1:cQ .fdiv (.int b) (.int (Nat.gcd b q.den:Nat)) = ok (.int ((b:Int).fdiv (Nat.gcd b q.den:Nat))):=pK (jh (by omega) (by simpa using Nat.lt_of_le_of_lt Rq hb9))
  have hm:((b:Int).fdiv (Nat.gcd b q.den:Nat)).natAbs <= b:=by
   rw [Int.fdiv_eq_ediv_of_nonneg _ (by omega),<- Int.natCast_ediv]
   simp;exact Nat.div_le_self ..
  have d2:cQ .mul (.int ((b:Int).fdiv (Nat.gcd b q.den:Nat))) (.int q.den) = ok (.int (Nat.lcm b q.den:Nat)):=by
   have:=CN b q
   rw [eg] at this
   rw [j9 (mulOk_of (Nat.lt_of_le_of_lt hm hb9) (hq.big (by
    rw [e] at hj
    have:k <= j + k + k * qs.length:=by omega
    omega)).2),this]
  unfold aQ at h1
  refine ⟨z',cL (ρ1:=[x,some (.int b),some (qD q)]) (by simp) (ρ2:=[x,some (.int (Nat.lcm b q.den:Nat)),some (qD q)]) ?_ ih⟩
  simp [bN,h1,d1,d2]
theorem aU (Φ:aA) (h1:aQ (Φ 1)):dF (mk Φ 1 3 cH):=by
 intro f qs k hs
 have hit:cK Φ (.seq (.v 0)) [some (.lst f (aB qs)),some (.int 1),none] = ok (aB qs,if (cn (bo f) || false) then [some (.lst (aL f) (aB qs)),some (.int 1),none] else [some (.lst f (aB qs)),some (.int 1),none]):=by
  rw [Ap (f:=bo f) (ds:=aB qs) (by simp)]
  simp [show iQ (.v 0) = [0] from rfl]
 have hk:=hs.D_
 have hx:∀ x:Option D,∃ z',d9 (fun d ρ=>bU (.nm 2) d ρ) (fun ρ=>bc Φ bN ρ) (aB qs) [x,some (.int (1:Nat)),none] = ok (.nx,[x,some (.int (bY qs)),z']):=fun x=>zy Φ h1 x qs 1 k 1 none (by decide) (by decide) (by omega) hs.sm
 cases hf:(cn (bo f) || false) with
 | true =>
  rw [hf] at hit
  obtain ⟨z',e⟩:=hx (some (.lst (aL f) (aB qs)))
  have:=eZ (t:=.nm 2) (b:=bN) hit e
  simp [mk_eq,cH,this]
 | false =>
  rw [hf] at hit
  obtain ⟨z',e⟩:=hx (some (.lst f (aB qs)))
  have:=eZ (t:=.nm 2) (b:=bN) hit e
  simp [mk_eq,cH,this]
noncomputable def cS (b:Nat) (q:Rat):Int:=q.num * (b:Int).fdiv q.den
theorem NH (q:Rat):(q.num:Rat) = q * (q.den:Rat):=by
 have h:(q.den:Rat) ≠ 0:=by
  have:=q.den_pos
  intro z
  have:((q.den:Int):Rat) = 0:=by rw [Rat.intCast_natCast];exact z
  rw [Rat.intCast_eq_zero_iff] at this
  omega
 have e:q = (q.num:Rat) / (q.den:Rat):=by
  conv=>lhs;rw [<- e_ q,Rat.divInt_eq_div,Rat.intCast_natCast]
 grind
theorem BB {b:Nat} {q:Rat} (h:q.den ∣ b):((cS b q:Int):Rat) = q * (b:Rat):=by
 obtain ⟨c,rfl⟩:=h
 have hd:(q.den:Int) ≠ 0:=jT q
 unfold cS
 rw [Int.natCast_mul,Int.mul_fdiv_cancel_left _ hd,Rat.intCast_mul,NH,Rat.natCast_mul,Rat.intCast_natCast]
 grind
theorem n_ {b:Nat}:∀ {qs:List Rat},(∀ q ∈ qs,q.den ∣ b) -> (((qs.map (cS b)).sum:Int):Rat) = qs.sum * (b:Rat)
 | [],_=>by simp
 | q :: qs,h=>by
  rw [List.map_cons,List.sum_cons,List.sum_cons,Rat.intCast_add,BB (h q List.mem_cons_self),n_ fun p hp=>h p (List.mem_cons_of_mem _ hp)]
  grind
noncomputable def gD (m:List D -> O D):Prop:=∀ f qs k (b:Nat),A5 k qs -> b < 2 ^ 8000 -> m [.lst f (aB qs),.int b] = ok (.lst .ow (ab (qs.map (cS b))))
noncomputable def gB:List CS:=[.ret (.comp 1 (.nm 0) [1] .seq [(.v 0)] [] (.bin .mul (.ix (.v 0) (.int 0)) (.bin .fdiv (.v 1) (.ix (.v 0) (.int 1)))))]
theorem EN {k:Nat} {qs:List Rat} (h:A5 k qs) {q:Rat} (hq:q ∈ qs):Sm 3000 q:=by
 refine (h.sm q hq).mono ?_
 have h1:=h.D_
 have h2:0 < qs.length:=List.length_pos_of_mem hq
 have:k * 1 <= k * qs.length:=Nat.mul_le_mul_left _ h2
 omega
theorem bQ (Φ:aA):gD (mk Φ 2 2 gB):=by
 intro f qs k b hs hb
 have rB:aN Φ (.comp 1 (.nm 0) [1] .seq [(.v 0)] [] (.bin .mul (.ix (.v 0) (.int 0)) (.bin .fdiv (.v 1) (.ix (.v 0) (.int 1))))) [some (.lst f (aB qs)),some (.int b)] = ok (.lst .ow (ab (qs.map (cS b)))):=by
  rw [cE (xs:=[.lst (bo f) (aB qs)]) (items:=aB qs) (ds:=qs.map fun q=>.int (cS b q)) (by simp) (by rw [dC];simp) (bA fun q hq=>?_) (by have:=hs.len;simp;exact bx (by omega))]
  ·have:(qs.map fun q=>D.int (cS b q)) = ab (qs.map (cS b)):=by simp [ab]
   rw [this,gy]
  ·refine ⟨[some (qD q),some (.int b)],by simp [aY],by simp,?_⟩
   have h3:=EN hs hq
   obtain ⟨g1,g2⟩:=h3.big (by decide)
   have d1:cQ .fdiv (.int b) (.int q.den) = ok (.int ((b:Int).fdiv q.den)):=pK (jh (jT q) g2)
   have d2:cQ .mul (.int q.num) (.int ((b:Int).fdiv q.den)) = ok (.int (q.num * (b:Int).fdiv q.den)):=by
    refine j9 (mulOk_of g1 ?_)
    rw [Int.fdiv_eq_ediv_of_nonneg _ (by omega),<- Int.natCast_ediv]
    have:=Nat.div_le_self b q.den
    have h9:=xl hb (by decide)
    rw [Int.natAbs_natCast];exact Nat.lt_of_le_of_lt this h9
   simp [d1,d2,cS]
 simp [mk_eq,gB,rB]
noncomputable def kn (m:List D -> O D):Prop:=∀ f qs k,A5 k qs -> m [.lst f (aB qs)] = ok (.tup [.int (bY qs),.lst .ow (ab (qs.map (cS (bY qs))))])
noncomputable def iy:List CS:=[.asg (.nm 1) (.call 9 [(.v 0)]),.ret (.tup [(.v 1),(.call 10 [(.v 0),(.v 1)])])]
theorem A5.J4 {k:Nat} {qs:List Rat} (h:A5 k qs):bY qs < 2 ^ 8000:=Nat.lt_of_lt_of_le h.lcm.2.1 (Nat.pow_le_pow_right (by decide) (by have:=h.D_;omega))
theorem cv (Φ:aA) (h9:dF (Φ 9)) (Gr:gD (Φ 10)):kn (mk Φ 1 2 iy):=by
 intro f qs k hs
 have e1:=fun f=>h9 f qs k hs
 have e2:=fun f=>Gr f qs k (bY qs) hs hs.J4
 simp [mk_eq,iy,e1,e2]
noncomputable def fJ (m:List D -> O D):Prop:=∀ f qs k,A5 k qs -> m [.lst f (aB qs)] = ok (qD qs.sum)
noncomputable def fH:List CS:=[.asg (.nm 1) (.call 41 [(.v 0)]),.ret (.call 2 [(.bf .kU [(.ix (.v 1) (.int 1))]),(.ix (.v 1) (.int 0))])]
theorem sj {b:Nat} {qs:List Rat} (h0:0 < b) (h:∀ q ∈ qs,q.den ∣ b):Rat.divInt (qs.map (cS b)).sum b = qs.sum:=by
 have hb:((b:Nat):Rat) ≠ 0:=by
  intro z
  have:((b:Int):Rat) = 0:=by rw [Rat.intCast_natCast];exact z
  rw [Rat.intCast_eq_zero_iff] at this
  omega
 rw [Rat.divInt_eq_div,n_ h,Rat.intCast_natCast]
 grind
theorem bC (Φ:aA) (h2:dA (Φ 2)) (h41:kn (Φ 41)):fJ (mk Φ 1 2 fH):=by
 intro f qs k hs
 have e1:=fun f=>h41 f qs k hs
 obtain ⟨g1,g2,g3⟩:=hs.lcm
 have e2:=h2.1 (qs.map (cS (bY qs))).sum (bY qs) (by omega) (by have:=xl hs.J4 (by decide);simpa using this)
 rw [sj g1 g3] at e2
 simp [mk_eq,fH,e1,e2]
end DI
end
section
namespace DI
open PySem (Str)
noncomputable def cD (n:Int):D -> Bool
 | .int i=>decide (0 <= i) && decide (i < n)
 | _=>false
theorem mS (g:Fl -> Fl) (n:Int) (d:D):cD n (aD g d) = cD n d:=by
 cases d <;> simp [cD]
theorem gA {n:Int}:∀ {ds:List D},ds.all (cD n) = true -> ∃ ns:List Int,ds = ab ns
 | [],_=>⟨[],rfl⟩
 | d :: ds,h=>by
  simp only [List.all_cons,Bool.and_eq_true] at h
  obtain ⟨ns,rfl⟩:=gA h.2
  cases d with
  | int i=>exact ⟨i :: ns,rfl⟩
  | _=>simp [cD] at h
noncomputable def numsOf (ds:List D):List Int:=(intsOf ds).getD []
theorem i7 (ns:List Int):numsOf (ab ns) = ns:=by unfold numsOf ab;rw [bq];rfl
noncomputable def cN (d:D) (n:Int):Bool:=match d with
 | .tup ds=>ds.all (cD n) && decide ((ji (numsOf ds)).length = ds.length)
 | _=>false
noncomputable def oJ (d:D) (n:Int):Bool:=cN d n && (match d with
 | .tup ds=>decide (numsOf ds = sortI (numsOf ds))
 | _=>false)
noncomputable def fK (m:List D -> O D):Prop:=∀ d n,t8 d -> m [d,.int n] = ok (.bl (cN d n))
noncomputable def dh:List CS:=[.ifs (.not (.pY (.v 0) .tuple)) [.ret (.bl false)] [],.ifs (.not (.bf .all1 [(.comp 1 (.nm 0) [1] .seq [(.v 0)] [] (.and [(.call 0 [(.v 0)]),(.cmp .ge (.v 0) (.int 0)),(.cmp .lt (.v 0) (.v 1))]))])) [.ret (.bl false)] [],.ret (.cmp .eq (.ml (.v 0)) (.bf .len [(.v 0)]))]
theorem bD (Φ:aA) (h0:dQ (Φ 0)):fK (mk Φ 2 2 dh):=by
 intro d n hc
 unfold dQ at h0
 cases d with
 | tup ds =>
  have hl:ds.length < 64:=hc
  have rB:aN Φ (.comp 1 (.nm 0) [1] .seq [(.v 0)] [] (.and [(.call 0 [(.v 0)]),(.cmp .ge (.v 0) (.int 0)),(.cmp .lt (.v 0) (.v 1))])) [some (.tup ds),some (.int n)] = ok (.lst .ow (lE (ds.map (cD n)))):=by
   rw [cE (xs:=[.tup (ai bo ds)]) (by simp) (nH ..) (we (g:=fun d=>.bl (cD n d)) fun x _=>⟨[some x,some (.int n)],by simp [aY],by simp,?_⟩) (by simp;exact bx (by omega))]
   ·simp [aw,Function.comp_def,mS,lE]
   ·cases x with
    | int i =>
     simp [h0,d_,dZ,cD]
    | _=>simp [h0,d_,dZ,cD]
  cases ha:ds.all (cD n) with
  | true =>
   obtain ⟨ns,rfl⟩:=gA ha
   have uH:ns.length < 4000:=by simp at hl;omega
   have e:(List.all (List.map (cD n) (ab ns)) id) = true:=by rw [List.all_map];exact ha
   simp [mk_eq,dh,dZ,rB,e,Lr uH,cN,ha,i7]
   simp [Int.natCast_inj]
  | false =>
   have e:(List.all (List.map (cD n) ds) id) = false:=by rw [List.all_map];exact ha
   simp only [mk_eq,dh,List.length_cons,List.length_nil]
   simp [dZ,rB,e,cN,ha]
 | _=>simp [mk_eq,dh,dZ,cN]
noncomputable def lO (m:List D -> O D):Prop:=∀ d n,t8 d -> m [d,.int n] = ok (.bl (oJ d n))
noncomputable def hV:List CS:=[.ret (.and [(.call 43 [(.v 0),(.v 1)]),(.cmp .eq (.bf .list1 [(.v 0)]) (.bf .ig [(.v 0)]))])]
theorem vq (n:Nat) (f:Fl) (ns:List Int):b_ (n + 1) (.lst f (ab ns)) = true:=lb (fC n) ns
theorem rm (n:Nat) (ns:List Int):b_ (n + 1) (.tup (ab ns)) = true:=lb (fC n) ns
theorem AN (ns ms:List Int):dy (ab ns) (ab ms) = decide (ns = ms):=jg (fun x y=>nK x y) ns ms
theorem lj (g:Fl -> Fl) (d:D) (n:Int):cN (aD g d) n = cN d n:=by
 cases d with
 | tup ds =>
  cases h:ds.all (cD n) with
  | true =>
   obtain ⟨ns,rfl⟩:=gA h
   simp
  | false =>
   have h2:(ai g ds).all (cD n) = false:=by
    rw [aw,List.all_map,show (cD n ∘ aD g) = cD n from funext fun d=>mS g n d];exact h
   simp [cN,h,h2]
 | _=>simp [cN]
theorem jI {g:Fl -> Fl} {d:D} (h:t8 d):t8 (aD g d):=by
 cases d <;> simp_all [t8]
theorem eo (Φ:aA) (XX:fK (Φ 43)):lO (mk Φ 2 2 hV):=by
 intro d n hc
 have e1:=XX (aD aL (aD bo d)) n (jI (jI hc))
 rw [lj,lj] at e1
 cases d with
 | tup ds =>
  have hl:ds.length < 64:=hc
  simp only [CJ] at e1
  cases ha:cN (.tup ds) n with
  | true =>
   have Rz:=ha
   simp only [cN,Bool.and_eq_true] at Rz
   obtain ⟨ns,rfl⟩:=gA Rz.1
   have uH:ns.length < 64:=by simpa using hl
   have e2:eM .eq (.lst .ow (ab ns)) (.lst .ow (ab (sortI ns))) = ok (.bl (decide (ns = sortI ns))):=by
    rw [DL (vq 39 _ _) (vq 39 _ _),GB,AN]
   rw [ha] at e1
   simp at e1
   simp [mk_eq,hV,e1,Gx uH,e2,oJ,ha,i7]
  | false =>
   rw [ha] at e1
   simp [mk_eq,hV,e1,oJ,ha]
 | _=>(simp at e1;simp [mk_eq,hV,e1,oJ,cN])
noncomputable def rX (n:Nat) (l:List Int):Prop:=l.Pairwise (· < ·) /\ ∀ h ∈ l,0 <= h /\ h < (n:Int)
theorem zl:∀ (l m:List Int),(∀ x ∈ l,x ∉ m) -> l.Nodup -> l.foldl (fun (m:List Int) (k:Int)=>if m.any (· == k) then m else m ++ [k]) m = m ++ l
 | [],m,_,_=>by simp
 | x :: l,m,h,hn=>by
  have hx:m.any (· == x) = false:=by
   rw [List.any_eq_false]
   intro y hy z
   have:y = x:=by simpa using z
   exact h x List.mem_cons_self (this ▸ hy)
  rw [List.foldl_cons,hx,if_neg Bool.false_ne_true,zl l (m ++ [x])]
  ·simp
  ·intro y hy z
   rcases List.mem_append.mp z with z | z
   ·exact h y (List.mem_cons_of_mem _ hy) z
   ·have:y = x:=by simpa using z
    subst this
    exact (List.nodup_cons.mp hn).1 hy
  ·exact (List.nodup_cons.mp hn).2
theorem rX.nodup {n:Nat} {l:List Int} (h:rX n l):l.Nodup:=h.1.imp fun z=>by omega
theorem BM {l:List Int} (h:l.Pairwise (· < ·)):sortI l = l:=by
 unfold sortI
 apply List.mergeSort_of_pairwise
 exact h.imp fun z=>by simp;omega
theorem rX.oJ {n:Nat} {l:List Int} (h:rX n l):oJ (.tup (ab l)) n = true:=by
 have h1:(ab l).all (cD n) = true:=by
  unfold ab
  rw [List.all_map,List.all_eq_true]
  intro x hx
  have:=h.2 x hx
  simp [cD,this.1,this.2]
 have h2:ji l = l:=by
  have:=zl l [] (by simp) h.nodup
  rw [List.nil_append] at this
  exact this
 simp [DI.oJ,cN,h1,i7,h2,BM h.1]
noncomputable def jP (c:Nat) (p:D -> Int -> Bool) (m:List D -> O D):Prop:=∀ d n,t8 d -> m [d,.int n] = if p d n then ok .bE else some (.error c)
noncomputable def iB (f c:Nat):List CS:=[.ifs (.not (.call f [(.v 0),(.v 1)])) [.rs c] []]
theorem rW (g:Fl -> Fl) (d:D) (n:Int):lK (aD g d) n = lK d n:=by
 cases d <;> simp [lK]
 rw [aw,List.all_map,show (dX ∘ aD g) = dX from funext fun d=>kh g d]
theorem ym (Φ:aA) {f c:Nat} {p:D -> Int -> Bool} (hp:∀ g d n,p (aD g d) n = p d n) (h:∀ d n,t8 d -> Φ f [d,.int n] = ok (.bl (p d n))):jP c p (mk Φ 2 2 (iB f c)):=by
 intro d n hc
 have e1:=h (aD aL (aD bo d)) n (jI (jI hc))
 rw [hp,hp] at e1
 cases hd:p d n with
 | true=>rw [hd] at e1;simp [mk_eq,iB,e1]
 | false=>rw [hd] at e1;simp [mk_eq,iB,e1]
end DI
end
section
namespace DI
open PySem (Str)
noncomputable def j8 (ns:List Int) (k:Int):Int :=
 let c:=if k < ns.length then ns.getD k.toNat 0 else 0
 if (10:Int) ^ 18 <= c then (c - 10 ^ 18).fmod (10 ^ 60) else
  let n:=(c * 48271 + k * 69621 + 11).fmod 2147483629
  let n:=(n * n).fmod 2147483587
  n * 2147483563 + (n * n).fmod 2147483563
noncomputable def uD (m:List D -> O D):Prop:=∀ (ns:List Int) (k:Int),0 <= k -> m [.lst .sc (ab ns),.int k] = ok (.int (j8 ns k))
noncomputable def ff:List CS:=[.asg (.nm 2) (.int 0),.ifs (.cmp .lt (.v 1) (.bf .len [(.v 0)])) [.asg (.nm 2) (.ix (.v 0) (.v 1))] [],.ifs (.cmp .ge (.v 2) (.bin .pow (.int 10) (.int 18))) [.ret (.bin .mod (.bin .sub (.v 2) (.bin .pow (.int 10) (.int 18))) (.bin .pow (.int 10) (.int 60)))] [],.asg (.nm 3) (.bin .mod (.bin .add (.bin .add (.bin .mul (.v 2) (.int 48271)) (.bin .mul (.v 1) (.int 69621))) (.int 11)) (.int 2147483629)),.asg (.nm 3) (.bin .mod (.bin .mul (.v 3) (.v 3)) (.int 2147483587)),.ret (.bin .add (.bin .mul (.v 3) (.int 2147483563)) (.bin .mod (.bin .mul (.v 3) (.v 3)) (.int 2147483563)))]
theorem iu (a:Int) {b:Int} (h:0 < b):0 <= a.fmod b /\ a.fmod b < b:=⟨Int.fmod_nonneg_of_pos a h,Int.fmod_lt_of_pos a h⟩
theorem AY (Φ:aA) (x:D) (k c:Int) (hx:dZ .list x = true) (o:Option D):pq (bc Φ (ff.drop 2) [some x,some (.int k),some (.int c),o]) = ok (.int (if (10:Int) ^ 18 <= c then (c - 10 ^ 18).fmod (10 ^ 60) else
  let n:=(c * 48271 + k * 69621 + 11).fmod 2147483629
  let n:=(n * n).fmod 2147483587
  n * 2147483563 + (n * n).fmod 2147483563)):=by
 have p1:cQ .pow (.int 10) (.int 18) = ok (.int (10 ^ 18)):=Ih (by decide)
 have p2:cQ .pow (.int 10) (.int 60) = ok (.int (10 ^ 60)):=Ih (by decide)
 by_cases h:(10:Int) ^ 18 <= c
 ·have h':(1000000000000000000:Int) <= c:=h
  simp [ff,p1,p2,h']
 ·have h':¬ (1000000000000000000:Int) <= c:=h
  obtain ⟨a1,a2⟩:=iu (c * 48271 + k * 69621 + 11) (b:=2147483629) (by decide)
  generalize hn:(c * 48271 + k * 69621 + 11).fmod 2147483629 = n at *
  obtain ⟨a3,a4⟩:=iu (n * n) (b:=2147483587) (by decide)
  have m1:cQ .mul (.int n) (.int n) = ok (.int (n * n)):=j9 (sW _ (by omega))
  generalize hm:(n * n).fmod 2147483587 = m at *
  have m2:cQ .mul (.int m) (.int m) = ok (.int (m * m)):=j9 (sW _ (by omega))
  simp [ff,p1,h',hn,m1,hm,m2]
theorem Jb (Φ:aA):uD (mk Φ 2 4 ff):=by
 intro ns k hk
 have:=fun c=>AY Φ (.lst .sc (ab ns)) k c rfl none
 by_cases h:k < ns.length
 ·have hg:wD (ab ns) k = ok (.int (ns.getD k.toNat 0)):=by
   have hl:k.toNat < ns.length:=by omega
   rw [at_of hk (d:=.int (ns.getD k.toNat 0)) (by rw [rA,List.getElem?_eq_getElem hl,Option.map_some,List.getD_eq_getElem?_getD,List.getElem?_eq_getElem hl];rfl)]
   simp
  have e:pq (bc Φ ff ([some (D.lst Fl.sc (ab ns)),some (D.int k)] ++ [none,none])) = pq (bc Φ (ff.drop 2) [some (.lst .sc (ab ns)),some (.int k),some (.int (ns.getD k.toNat 0)),none]):=by
   rw [ff,cR,Hb]
   simp only [HH,HY,vF,oV]
   simp only [List.cons_append,List.nil_append,zG,List.length_cons,List.length_nil,Nat.reduceAdd,Nat.reduceLT,uQ,List.set_cons_succ,List.set_cons_zero]
   rw [cR,zM]
   simp [h,hg]
  rw [mk_eq (ar:=2) (ds:=[_,_]) rfl]
  refine (show _ = _ from e).trans ?_
  rw [this,j8,if_pos h]
 ·have e:pq (bc Φ ff ([some (D.lst Fl.sc (ab ns)),some (D.int k)] ++ [none,none])) = pq (bc Φ (ff.drop 2) [some (.lst .sc (ab ns)),some (.int k),some (.int 0),none]):=by
   rw [ff,cR,Hb]
   simp only [HH,HY,vF,oV]
   simp only [List.cons_append,List.nil_append,zG,List.length_cons,List.length_nil,Nat.reduceAdd,Nat.reduceLT,uQ,List.set_cons_succ,List.set_cons_zero]
   rw [cR,zM]
   simp [h]
  rw [mk_eq (ar:=2) (ds:=[_,_]) rfl]
  refine (show _ = _ from e).trans ?_
  rw [this,j8,if_neg h]
noncomputable def kQ:CS:=.Iq (.cmp .gt (.v 3) (.int 0)) [.par 2 3 (.v 3) (.bin .mod (.v 2) (.v 3))]
noncomputable def lH:List CS:=[.asg (.nm 2) (.bf .abs [(.v 0)]),.asg (.nm 3) (.bf .abs [(.v 1)]),kQ,.ifs (.cmp .lt (.v 1) (.int 0)) [.asg (.nm 2) (.bin .sub (.int 0) (.v 2))] [],.ret (.tup [(.bin .fdiv (.v 0) (.v 2)),(.bin .fdiv (.v 1) (.v 2))])]
theorem xn (Φ:aA) (x y:Option D):∀ (n:Nat) (a b:Nat),b <= n -> uI Φ kQ [x,y,some (.int a),some (.int b)] = ok (.nx,[x,y,some (.int (Nat.gcd a b)),some (.int 0)]):=by
 intro n
 induction n with
 | zero =>
  intro a b h
  have hb:b = 0:=by omega
  subst hb
  rw [kQ,qO]
  exact ib (by simp)
 | succ n ih =>
  intro a b h
  by_cases hb:b = 0
  ·subst hb
   rw [kQ,qO]
   exact ib (by simp)
  ·have iX:=Nat.mod_lt a (show 0 < b by omega)
   have e:=ih b (a % b) (by omega)
   have eg:Nat.gcd b (a % b) = Nat.gcd a b:=by rw [Nat.gcd_comm a b,Nat.gcd_rec b a,Nat.gcd_comm]
   rw [eg] at e
   rw [kQ,qO] at e ⊢
   rw [<- e]
   have jU:0 < b:=by omega
   have em:((a:Int)).fmod (b:Int) = ((a % b:Nat):Int):=by
    rw [Int.fmod_eq_emod_of_nonneg _ (by omega)];exact (Int.natCast_emod a b).symm
   have ep:uI Φ (.par 2 3 (.v 3) (.bin .mod (.v 2) (.v 3))) [x,y,some (.int a),some (.int b)] = ok (.nx,[x,y,some (.int b),some (.int ((a % b:Nat):Int))]):=by
    rw [ML]
    simp [hb,em]
   exact n8 (by simp [jU,ep])
theorem EW (Φ:aA):gE (mk Φ 2 4 lH):=by
 intro t b hb h
 obtain ⟨e1,e2⟩:=tM (t:=t) hb
 have d1:=nL (t:=t) hb h t
 have d2:=nL (t:=t) hb h b
 have hl:=xn Φ (some (.int t)) (some (.int b)) b.natAbs t.natAbs b.natAbs (Nat.le_refl _)
 rw [qD,<- e1,<- e2]
 by_cases hn:b < 0
 ·have ed:0 - (Nat.gcd t.natAbs b.natAbs:Int) = gf t b:=by simp [gf,hn,Int.gcd]
  have ed':-(Nat.gcd t.natAbs b.natAbs:Int) = gf t b:=by simp [gf,hn,Int.gcd]
  simp [mk_eq,lH,hl,hn,ed',d1,d2]
 ·have ed:(Nat.gcd t.natAbs b.natAbs:Int) = gf t b:=by simp [gf,hn,Int.gcd]
  simp [mk_eq,lH,hl,hn,ed,d1,d2]
noncomputable def zI (m:List D -> O D):Prop:=∀ q,m [qD q] = ok (.bl true)
noncomputable def zC:List CS:=[.ifs (.or [(.not (.pY (.v 0) .tuple)),(.cmp .ne (.bf .len [(.v 0)]) (.int 2))]) [.ret (.bl false)] [],.ret (.cmp .eq (.bf .len [(.comp 1 (.nm 0) [] .seq [(.v 0)] [(.or [(.not (.pY (.v 0) .int)),(.pY (.v 0) .bool)])] (.v 0))]) (.int 0))]
theorem Nv (Φ:aA):zI (mk Φ 1 1 zC):=by
 intro q
 have hc:aN Φ (.comp 1 (.nm 0) [] .seq [(.v 0)] [(.or [(.not (.pY (.v 0) .int)),(.pY (.v 0) .bool)])] (.v 0)) [some (qD q)] = ok (.lst .ow []):=by
  rw [cE (xs:=[qD q]) (items:=[.int q.num,.int q.den]) (ds:=[]) (by simp) (by unfold qD;rw [nH];simp) (by simp [hU,aY,dZ]) (by simp)]
  simp
 have h2:dZ .tuple (qD q) = true:=rfl
 have h3:uj .len [qD q] = ok (.int 2):=rfl
 simp [mk_eq,zC,hc,h2,h3]
end DI
end
section
namespace DI
open PySem (Str)
noncomputable def fP (qs:List Rat) (h:Int):Rat:=qs.getD h.toNat 0
theorem ba {qs:List Rat} {h:Int} (h0:0 <= h) (h1:h < qs.length):qs[h.toNat]? = some (fP qs h) /\ fP qs h ∈ qs:=by
 have hl:h.toNat < qs.length:=by omega
 have e:qs[h.toNat]? = some (fP qs h):=by
  unfold fP
  rw [List.getD_eq_getElem?_getD,List.getElem?_eq_getElem hl];rfl
 exact ⟨e,List.mem_of_getElem? e⟩
theorem jn {qs:List Rat} {h:Int} (h0:0 <= h) (h1:h < qs.length):wD (aB qs) h = ok (qD (fP qs h)):=by
 rw [at_of h0 (d:=qD (fP qs h)) (by rw [Fg,(ba h0 h1).1];rfl)]
 simp
theorem zi (ps qs:List Rat):dy (aB ps) (aB qs) = decide (ps = qs):=jg zj ps qs
theorem Cu (n:Nat) (f:Fl) (qs:List Rat):b_ (n + 2) (.lst f (aB qs)) = true:=lb (yC n) qs
theorem rb {q:Rat} (h:0 < q):0 < q.num:=by
 have:=(Rat.lt_iff 0 q).mp h
 simpa using this
theorem rX.len {n:Nat} {l:List Int} (h:rX n l):l.length <= n:=by
 have hn:(l.map Int.toNat).Nodup:=by
  unfold List.Nodup
  rw [List.pairwise_map]
  refine h.1.imp_of_mem fun ha hb z e=>?_
  have:=h.2 _ ha
  have:=h.2 _ hb
  omega
 have hs:(l.map Int.toNat) ⊆ List.range n:=fun x hx=>by
  obtain ⟨y,hy,rfl⟩:=List.mem_map.mp hx
  have:=h.2 y hy
  rw [List.mem_range];omega
 have:=hn.length_le_of_subset hs
 simpa using this
theorem rX.eN {n:Nat} {l:List Int} (h:rX n l) (hn:n <= 12):t8 (.tup (ab l)):=by
 have:=h.len
 show (ab l).length < 64
 simp;omega
end DI
end
section
namespace DI
open PySem (Str)
theorem BO {t b:Int} {k:Nat} (h0:b ≠ 0) (h1:t.natAbs < 2 ^ k) (h2:b.natAbs < 2 ^ k):Sm k (Rat.divInt t b):=qW h0 h1 h2
theorem pw {t b:Int} (ht:0 < t) (hb:0 < b):0 < Rat.divInt t b:=by
 rw [Rat.divInt_eq_div]
 have h1:(0:Rat) < (t:Rat):=by
  have:=Rat.intCast_lt_intCast (a:=0) (b:=t);simpa using this.mpr ht
 have h2:(0:Rat) < (b:Rat):=by
  have:=Rat.intCast_lt_intCast (a:=0) (b:=b);simpa using this.mpr hb
 rw [Rat.div_def]
 exact Rat.mul_pos h1 (Rat.inv_pos.mpr h2)
end DI
end
section
namespace DI
open PySem (Str)
theorem Ht {q:Rat}:q⁻¹ = Rat.divInt q.den q.num:=by conv=>lhs;rw [<- e_ q,Rat.inv_divInt]
theorem Sm.inv {k:Nat} {q:Rat} (h:Sm k q) (h0:q ≠ 0):Sm k (q⁻¹):=by
 rw [Ht]
 exact qW (sL h0) (by simpa using h.2) h.1
theorem Sm.neg {k:Nat} {q:Rat} (h:Sm k q):Sm k (-q):=⟨by simpa using h.1,h.2⟩
theorem Sm.zero (k:Nat) (h:1 <= k):Sm k 0:=by
 have:Sm 1 (0:Rat):=by constructor <;> decide
 exact this.mono h
theorem Sm.sum {k:Nat}:∀ {qs:List Rat},(∀ q ∈ qs,Sm k q) -> Sm (1 + (k + 1) * qs.length) qs.sum
 | [],_=>Sm.zero _ (by simp)
 | q :: qs,h=>by
  have h1:=h q List.mem_cons_self
  have h2:=Sm.sum (qs:=qs) fun p hp=>h p (List.mem_cons_of_mem _ hp)
  rw [List.sum_cons]
  refine (h1.add h2).mono ?_
  rw [List.length_cons,Nat.mul_succ];omega
noncomputable def SJ (l:List Int) (f:Int -> Rat):Rat:=(l.map f).sum
@[simp] theorem Ng (f:Int -> Rat):SJ [] f = 0:=rfl
end DI
end
section
namespace DI
open PySem (Str)
noncomputable abbrev Row:=Rat × List Int
noncomputable def rD (r:Row):D:=.tup [qD r.1,.tup (ab r.2)]
@[simp] theorem JV (g:Fl -> Fl) (r:Row):aD g (rD r) = rD r:=by unfold rD;simp
@[simp] theorem KO (g:Fl -> Bool) (r:Row):aT g (rD r) = false:=by unfold rD;simp
noncomputable def cm (rs:List Row):List D:=rs.map rD
@[simp] theorem Q0 (rs:List Row):(cm rs).length = rs.length:=List.length_map ..
@[simp] theorem oI (g:Fl -> Fl) (rs:List Row):ai g (cm rs) = cm rs:=de g (JV g) rs
@[simp] theorem O2 (g:Fl -> Bool) (rs:List Row):az g (cm rs) = false:=cf g (KO g) rs
theorem NY (n:Nat) (r:Row):b_ (n + 2) (rD r) = true:=by
 unfold rD
 rw [nF,List.all_cons,List.all_cons,yC n]
 have:b_ (n + 1) (.tup (ab r.2)) = true:=by
  rw [nF];exact lb (fun _=>by cases n <;> rfl) r.2
 rw [this];rfl
theorem v5 (a b:List Int):dy (ab a) (ab b) = decide (a = b):=jg (fun x y=>by show (x == y) = _;rfl) a b
theorem Pm (r s:Row):gO (rD r) (rD s) = decide (r = s):=by
 unfold rD
 show (gO (qD r.1) (qD s.1) && (dy (ab r.2) (ab s.2) && true)) = _
 rw [zj,v5,Bool.and_true]
 have:decide (r = s) = decide (r.1 = s.1 /\ r.2 = s.2):=by
  congr 1
  exact propext ⟨fun h=>by rw [h];exact ⟨rfl,rfl⟩,fun h=>Prod.ext h.1 h.2⟩
 rw [this,<- Bool.decide_and]
theorem Gz (r s:List Row):dy (cm r) (cm s) = decide (r = s):=jg Pm r s
noncomputable def bw (n:Nat) (rs:List Row):D:=.tup [.int n,.lst .fz (cm rs)]
noncomputable def A_ (rs:List Row):Prop:=∃ W:Nat,0 < W /\ W < 64 /\ ∀ r ∈ rs,r.1.den ∣ W
structure Dr (k n:Nat) (rs:List Row):Prop where
 n1:1 <= n
 n2:n <= 12
 D_:k * (rs.length + 1) <= 66
 fin:k * (rs.length + 1) <= 60 \/ A_ rs
 len:rs.length <= 1000
 lot:∀ r ∈ rs,rX n r.2
 pos:∀ r ∈ rs,0 < r.1
 sm:∀ r ∈ rs,Sm k r.1
 one:(rs.map (·.1)).sum = 1
 rise:x5 (rs.map (·.2))
noncomputable def cq (rs:List Row):List Rat:=rs.map (·.1)
section
variable {k n:Nat} {rs:List Row} (I:Dr k n rs)
include I
theorem Dr.Nm:A5 k (cq rs):=⟨fun q hq=>by
 obtain ⟨r,hr,rfl⟩:=List.mem_map.mp hq
 exact I.sm r hr,by
  have:=I.D_
  have h:k * (cq rs).length <= k * (rs.length + 1):=Nat.mul_le_mul_left _ (by simp [cq])
  omega,by simp [cq];exact I.len⟩
omit I in
theorem oN {W:Nat}:∀ (qs:List Rat) (b:Nat),b ∣ W -> (∀ q ∈ qs,q.den ∣ W) -> qs.foldl (fun b q=>Nat.lcm b q.den) b ∣ W
 | [],_,h,_=>h
 | q :: qs,b,h,hq=>oN qs _ (Nat.lcm_dvd h (hq q List.mem_cons_self)) fun p hp=>hq p (List.mem_cons_of_mem _ hp)
theorem Dr.bot:0 < bY (cq rs) /\ bY (cq rs) < 2 ^ 61 /\ ∀ q ∈ cq rs,q.den ∣ bY (cq rs):=by
 obtain ⟨a,b,c⟩:=I.Nm.lcm
 refine ⟨a,?_,c⟩
 rcases I.fin with f | ⟨W,w0,w1,w2⟩
 ·refine Nat.lt_of_lt_of_le b (Nat.pow_le_pow_right (by decide) ?_)
  have h:k * (cq rs).length <= k * (rs.length + 1):=Nat.mul_le_mul_left _ (by simp [cq])
  omega
 ·have:bY (cq rs) ∣ W:=oN _ 1 (Nat.one_dvd _) fun q hq=>by
   obtain ⟨r,hr,rfl⟩:=List.mem_map.mp hq
   exact w2 r hr
  exact Nat.lt_of_le_of_lt (Nat.le_of_dvd w0 this) (Nat.lt_of_lt_of_le w1 (by decide))
theorem Dr.top {r:Row} (hr:r ∈ rs):(cS (bY (cq rs)) r.1).natAbs < 2 ^ 64:=by
 obtain ⟨a,b,c⟩:=I.Nm.lcm
 have s:=I.sm r hr
 unfold cS
 rw [Int.natAbs_mul,Int.fdiv_eq_ediv_of_nonneg _ (by omega),<- Int.natCast_ediv,Int.natAbs_natCast]
 have h4:(cq rs).length = rs.length:=by simp [cq]
 have h3:=I.D_
 rcases I.fin with f | ⟨W,w0,w1,w2⟩
 ·have h1:bY (cq rs) / r.1.den < 2 ^ (1 + k * (cq rs).length):=Nat.lt_of_le_of_lt (Nat.div_le_self _ _) b
  have h2:=aZ s.1 h1
  refine Nat.lt_of_lt_of_le h2 (Nat.pow_le_pow_right (by decide) ?_)
  rw [h4]
  rw [Nat.mul_succ] at f
  omega
 ·have:bY (cq rs) ∣ W:=oN _ 1 (Nat.one_dvd _) fun q hq=>by
   obtain ⟨r,hr,rfl⟩:=List.mem_map.mp hq
   exact w2 r hr
  have h1:bY (cq rs) / r.1.den < 2 ^ 6:=Nat.lt_of_le_of_lt (Nat.div_le_self _ _) (Nat.lt_of_le_of_lt (Nat.le_of_dvd w0 this) w1)
  have h2:=aZ s.1 h1
  refine Nat.lt_of_lt_of_le h2 (Nat.pow_le_pow_right (by decide) ?_)
  have hl:1 <= rs.length:=List.length_pos_of_mem hr
  have:k * 2 <= k * (rs.length + 1):=Nat.mul_le_mul_left _ (by omega)
  omega
end
noncomputable def lN (m:List D -> O D):Prop:=∀ (r:Row) (n:Nat),n <= 12 -> rX n r.2 -> 0 < r.1 -> m [rD r,.int n] = ok (.bl true)
noncomputable def lJ:List CS:=[.ifs (.or [(.not (.pY (.v 0) .tuple)),(.cmp .ne (.bf .len [(.v 0)]) (.int 2))]) [.ret (.bl false)] [],.ifs (.not (.call 43 [(.ix (.v 0) (.int 1)),(.v 1)])) [.ret (.bl false)] [],.ret (.and [(.call 3 [(.ix (.v 0) (.int 0))]),(.cmp .gt (.ix (.ix (.v 0) (.int 0)) (.int 0)) (.int 0))])]
theorem rX.houses {n:Nat} {l:List Int} (h:rX n l):cN (.tup (ab l)) n = true:=by
 have:=h.oJ
 unfold DI.oJ at this
 exact (Bool.and_eq_true _ _ |>.mp this).1
theorem eh (Φ:aA) (h3:dz (Φ 3)) (XX:fK (Φ 43)):lN (mk Φ 2 2 lJ):=by
 intro r n hn hl hp
 have e1:=XX (.tup (ab r.2)) n (hl.eN hn)
 rw [hl.houses] at e1
 have e2:=h3 (qD r.1)
 rw [zf] at e2
 have Xr:=rb hp
 have e3:rD r = .tup [qD r.1,.tup (ab r.2)]:=rfl
 have e4:qD r.1 = .tup [.int r.1.num,.int r.1.den]:=rfl
 simp [mk_eq,lJ,e3,dZ,e1,e2]
 simp [e4,Xr]
theorem Fb {Φ:aA} (lq:Φ 1022 = HW) {a b:List Int} (h:HT.lexLt a b = true):Φ 1022 [.tup (ab a),.tup (ab b)] = ok (.bl false):=by
 rw [lq]
 show (match intsOf (ab a) with | some ns=>(match intsOf (ab b) with | some ms=>ok (D.bl (!HT.lexLt ns ms)) | none=>none) | none=>none) = _
 unfold ab
 rw [bq,bq]
 show ok (D.bl (!HT.lexLt a b)) = _
 rw [h];rfl
noncomputable def jo (m:List D -> O D):Prop:=∀ (rs:List Row),1 <= rs.length -> x5 (rs.map (·.2)) -> m [.lst .fz (cm rs)] = ok (.bl true)
noncomputable def Ex:List CS:=[.ifs (.eE 1022 [(.ix (.v 1) (.int 1)),(.ix (.v 2) (.int 1))]) [.ret (.bl false)] []]
noncomputable def gC:List CS:=[.fr (.tp [1,2]) (.D1 1000 [(.v 0),(.eE 1020 [(.v 0),(.int 1)])]) Ex,.ret (.bl true)]
theorem yo (Φ:aA) (lq:Φ 1022 = HW) (c0:Option D):∀ (rs:List Row) (r:Row) (c1 c2:Option D),x5 ((r :: rs).map (·.2)) ->
  ∃ Bl ue,d9 (fun d ρ=>bU (.tp [1,2]) d ρ) (fun ρ=>bc Φ Ex ρ) (List.zipWith (fun x y=>D.tup [x,y]) (cm (r :: rs)) (cm rs)) [c0,c1,c2] = ok (.nx,[c0,Bl,ue])
 | [],r,c1,c2,_=>⟨c1,c2,rfl⟩
 | s :: rs,r,c1,c2,h=>by
  have h':=List.pairwise_cons.mp h
  obtain ⟨Bl,ue,ih⟩:=yo Φ lq c0 rs s (some (rD r)) (some (rD s)) h'.2
  have hl:=h'.1 s.2 (by simp)
  have e:=Fb lq hl
  refine ⟨Bl,ue,cL (ρ1:=[c0,some (rD r),some (rD s)]) (by simp) (ρ2:=[c0,some (rD r),some (rD s)]) ?_ ih⟩
  have e1:∀ r:Row,rD r = .tup [qD r.1,.tup (ab r.2)]:=fun _=>rfl
  simp [Ex,e1,e]
theorem bR (Φ:aA) (yZ:Φ 1000 = zK) (yW:Φ 1020 = cutD true) (lq:Φ 1022 = HW):jo (mk Φ 1 3 gC):=by
 intro rs h1 hr
 obtain ⟨r,rs,rfl⟩:∃ r yn,rs = r :: yn:=by
  cases rs with
  | nil=>simp at h1
  | cons r rs=>exact ⟨r,rs,rfl⟩
 obtain ⟨c1,c2,e⟩:=yo Φ lq (some (.lst .fz (cm (r :: rs)))) rs r none none hr
 have e1:Φ 1020 [.lst .fz (cm (r :: rs)),.int 1] = ok (.lst .ow (cm rs)):=by
  rw [yW]
  show (if (0:Int) <= 1 /\ (1:Int) <= ((cm (r :: rs)).length:Nat) then ok (D.lst .ow (ai bo (qC true (1:Int).toNat (cm (r :: rs))))) else none) = _
  rw [if_pos ⟨by decide,by simp;omega⟩]
  show ok (D.lst .ow (ai bo (cm rs))) = _
  simp
 have e2:Φ 1000 [.lst .fz (cm (r :: rs)),.lst .ow (cm rs)] = ok (.lst .ow (List.zipWith (fun x y=>D.tup [x,y]) (cm (r :: rs)) (cm rs))):=by rw [yZ];rfl
 have e3:ai aL (List.zipWith (fun x y=>D.tup [x,y]) (cm (r :: rs)) (cm rs)) = List.zipWith (fun x y=>D.tup [x,y]) (cm (r :: rs)) (cm rs):=by
  have:=gx aL (cm (r :: rs)) (cm rs)
  rw [oI,oI] at this
  exact this
 have hit:cK Φ (.D1 1000 [(.v 0),(.eE 1020 [(.v 0),(.int 1)])]) [some (.lst .fz (cm (r :: rs))),none,none] = ok (List.zipWith (fun x y=>D.tup [x,y]) (cm (r :: rs)) (cm rs),[some (.lst .fz (cm (r :: rs))),none,none]):=by
  show bd (cM Φ [(.v 0),(.eE 1020 [(.v 0),(.int 1)])] [some (.lst .fz (cm (r :: rs))),none,none]) _ = _
  have:cM Φ [(.v 0),(.eE 1020 [(.v 0),(.int 1)])] [some (.lst .fz (cm (r :: rs))),none,none] = ok [.lst .fz (cm (r :: rs)),.lst .ow (cm rs)]:=by simp [e1]
  rw [this,dt,e2,dt]
  show ok (ai aL (List.zipWith (fun x y=>D.tup [x,y]) (cm (r :: rs)) (cm rs)),if az cn [D.lst .fz (cm (r :: rs)),.lst .ow (cm rs)] then _ else _) = _
  rw [e3]
  simp
 have hf:=eZ (Φ:=Φ) (t:=.tp [1,2]) (b:=Ex) hit e
 simp [mk_eq,gC,hf]
end DI
end
section
namespace DI
open PySem (Str)
noncomputable def gz (rs:List Row):List D:=rs.map fun r=>.tup (ab r.2)
@[simp] theorem kc (g:Fl -> Fl) (rs:List Row):ai g (gz rs) = gz rs:=de g (fun r=>by simp) rs
@[simp] theorem KI (g:Fl -> Bool) (rs:List Row):az g (gz rs) = false:=cf g (fun r=>by simp) rs
noncomputable def rY (b:Nat) (rs:List Row):List D:=rs.map fun r=>.tup [.int (cS b r.1),.tup (ab r.2)]
@[simp] theorem CH (g:Fl -> Fl) (b:Nat) (rs:List Row):ai g (rY b rs) = rY b rs:=de g (fun r=>by simp) rs
@[simp] theorem O1 (g:Fl -> Bool) (b:Nat) (rs:List Row):az g (rY b rs) = false:=cf g (fun r=>by simp) rs
noncomputable def GL:CE:=.comp 2 (.tp [0,1]) [] .seq [(.v 0)] [] (.v 0)
noncomputable def GG:CE:=.comp 2 (.tp [0,1]) [] .seq [(.v 0)] [] (.v 1)
theorem PH (Φ:aA) {rs:List Row} (h:rs.length <= 1000) (r:aC):aN Φ GL (some (.lst .fz (cm rs)) :: r) = ok (.lst .ow (aB (cq rs))):=by
 unfold GL
 rw [cE (xs:=[.lst .fz (cm rs)]) (items:=cm rs) (ds:=rs.map fun r=>qD r.1) (by simp) (by rw [dC];simp) (bA fun r hr=>?_) (by simp;exact bx (by omega))]
 ·simp [aB,cq,aw]
 ·exact ⟨[some (qD r.1),some (.tup (ab r.2))],by simp [aY,rD],by simp,by simp⟩
theorem Oe (Φ:aA) {rs:List Row} (h:rs.length <= 1000) (r:aC):aN Φ GG (some (.lst .fz (cm rs)) :: r) = ok (.lst .ow (gz rs)):=by
 unfold GG
 rw [cE (xs:=[.lst .fz (cm rs)]) (items:=cm rs) (ds:=rs.map fun r=>.tup (ab r.2)) (by simp) (by rw [dC];simp) (bA fun r hr=>?_) (by simp;exact bx (by omega))]
 ·exact congrArg (fun x=>ok (D.lst .ow x)) (kc kg rs)
 ·exact ⟨[some (qD r.1),some (.tup (ab r.2))],by simp [aY,rD],by simp,by simp⟩
noncomputable def jN (m:List D -> O D):Prop:=∀ (rs:List Row) k,A5 k (cq rs) -> m [.lst .fz (cm rs)] = ok (.tup [.int (bY (cq rs)),.lst .ow (rY (bY (cq rs)) rs)])
noncomputable def jJ:List CS:=[.asg (.nm 1) GL,.asg (.nm 2) GG,.asg (.nm 3) (.call 9 [(.v 1)]),.ret (.tup [(.v 3),(.eE 1040 [(.call 10 [(.v 1),(.v 3)]),(.v 2)])])]
theorem Aa (Φ:aA) (h9:dF (Φ 9)) (Gr:gD (Φ 10)) (yV:Φ 1040 = JY):jN (mk Φ 1 4 jJ):=by
 intro rs k hs
 have hl:rs.length <= 1000:=by have:=hs.len;simpa [cq] using this
 have e1:=PH Φ hl
 have e2:=Oe Φ hl
 have e3:=fun f=>h9 f (cq rs) k hs
 have e4:=fun f=>Gr f (cq rs) k (bY (cq rs)) hs hs.J4
 generalize bY (cq rs) = b at *
 have e5:Φ 1040 [.lst .ow (ab ((cq rs).map (cS b))),.lst .al (gz rs)] = ok (.lst .ow (rY b rs)):=by
  rw [yV]
  show ok (D.lst .ow (ai bo (List.zipWith pairD (ab ((cq rs).map (cS b))) (gz rs)))) = _
  rw [gx,gy,kc]
  unfold cq ab gz rY
  rw [List.map_map,List.map_map,List.zipWith_map,List.zipWith_self]
  rfl
 simp [mk_eq,jJ,Ka Φ GL _ rfl,Ka Φ GG _ rfl,e1,e2,e3,e4,e5]
noncomputable def Lx:CE:=.comp 2 (.tp [0,1]) [] .seq [(.ix (.v 1) (.int 1))] [] (.v 0)
noncomputable def gS (m:List D -> O D):Prop:=∀ (rs:List Row) k,A5 k (cq rs) -> (cq rs).sum = 1 -> m [.lst .fz (cm rs)] = ok (.bl true)
noncomputable def eV:List CS:=[.asg (.nm 1) (.call 14 [(.v 0)]),.ret (.cmp .eq (.bf .kU [Lx]) (.ix (.v 1) (.int 0)))]
theorem BA {b:Nat} {qs:List Rat} (h:∀ q ∈ qs,q.den ∣ b) (h1:qs.sum = 1):(qs.map (cS b)).sum = (b:Int):=by
 have:=n_ h
 rw [h1,Rat.one_mul,<- Rat.intCast_natCast] at this
 exact Rat.intCast_inj.mp this
theorem br (Φ:aA) (X4:jN (Φ 14)):gS (mk Φ 1 2 eV):=by
 intro rs k hs h1
 have hl:rs.length <= 1000:=by have:=hs.len;simpa [cq] using this
 have e1:=X4 rs k hs
 have hb:=hs.lcm
 have e2:=BA hb.2.2 h1
 generalize bY (cq rs) = b at *
 have e3:∀ c0,aN Φ Lx [c0,some (.tup [.int b,.lst .ow (rY b rs)])] = ok (.lst .ow (ab ((cq rs).map (cS b)))):=fun c0=>by
  unfold Lx
  rw [cE (xs:=[.lst .al (rY b rs)]) (items:=rY b rs) (ds:=rs.map fun r=>.int (cS b r.1)) (by simp) (by rw [dC];simp) (bA fun r hr=>?_) (by simp;exact bx (by omega))]
  ·simp [ab,cq,aw]
  ·exact ⟨[some (.int (cS b r.1)),some (.tup (ab r.2))],by simp [aY],by simp,by simp⟩
 have e4:uj .kU [.lst .ow (ab ((cq rs).map (cS b)))] = ok (.int b):=by
  show (match intsOf (ab ((cq rs).map (cS b))) with | some ns=>ok (D.int ns.sum) | none=>none) = _
  unfold ab
  rw [bq]
  show ok (D.int ((cq rs).map (cS b)).sum) = _
  rw [e2]
 have e5:eM .eq (.int (b:Int)) (.int (b:Int)) = ok (.bl true):=by
  show (if b_ 40 (.int (b:Int)) && b_ 40 (.int (b:Int)) then ok (D.bl ((b:Int) == (b:Int))) else none) = _
  simp [b_]
 simp [mk_eq,eV,e1,e3,e4,e5]
noncomputable def nC:List CS:=[.ifs (.not (.call 12 [(.v 3),(.v 1)])) [.ret (.bl false)] []]
noncomputable def iA:List CS:=[.ifs (.or [(.not (.pY (.v 0) .tuple)),(.cmp .ne (.bf .len [(.v 0)]) (.int 2))]) [.ret (.bl false)] [],.asg (.nm 1) (.ix (.v 0) (.int 0)),.asg (.nm 2) (.ix (.v 0) (.int 1)),.ifs (.or [(.not (.call 0 [(.v 1)])),(.cmp .lt (.v 1) (.int 1)),(.cmp .gt (.v 1) (.glo "MOST_HOUSES" 12))]) [.ret (.bl false)] [],.ifs (.not (.pY (.v 2) .list)) [.ret (.bl false)] [],.fr (.nm 3) (.seq (.v 2)) nC,.ret (.and [(.call 44 [(.v 2)]),(.call 15 [(.v 2)])])]
noncomputable def A8 (m:List D -> O D):Prop:=∀ k n rs,Dr k n rs -> m [bw n rs] = ok (.bl true)
theorem pv (Φ:aA) (Mw:lN (Φ 12)) {n:Nat} (hn:n <= 12) (c0 c2:Option D):∀ (rs:List Row) (c3:Option D),(∀ r ∈ rs,rX n r.2 /\ 0 < r.1) -> ∃ xV,d9 (fun d ρ=>bU (.nm 3) d ρ) (fun ρ=>bc Φ nC ρ) (cm rs) [c0,some (.int n),c2,c3] = ok (.nx,[c0,some (.int n),c2,xV])
 | [],c3,_=>⟨c3,rfl⟩
 | r :: rs,c3,h=>by
  obtain ⟨xV,ih⟩:=pv Φ Mw hn c0 c2 rs (some (rD r)) fun s hs=>h s (List.mem_cons_of_mem _ hs)
  have h1:=h r List.mem_cons_self
  have e:=Mw r n hn h1.1 h1.2
  refine ⟨xV,cL (ρ1:=[c0,some (.int n),c2,some (rD r)]) (by simp) (ρ2:=[c0,some (.int n),c2,some (rD r)]) ?_ ih⟩
  simp [nC,e]
theorem Dr.some {k n:Nat} {rs:List Row} (I:Dr k n rs):1 <= rs.length:=by
 cases rs with
 | nil=>have:=I.one;simp at this
 | cons r rs=>simp
theorem cy (Φ:aA) (h0:dQ (Φ 0)) (Mw:lN (Φ 12)) (h15:gS (Φ 15)) (h44:jo (Φ 44)):A8 (mk Φ 1 4 iA):=by
 intro k n rs I
 have n1:=I.n1
 have n2:=I.n2
 have e1:=h15 rs k I.Nm I.one
 have e2:=h44 rs I.some I.rise
 have e3:Φ 0 [.int (n:Int)] = ok (.bl true):=by rw [h0];rfl
 obtain ⟨c3,e4⟩:=pv Φ Mw n2 (some (bw n rs)) (some (.lst .fz (cm rs))) rs none fun r hr=>⟨I.lot r hr,I.pos r hr⟩
 have hit:cK Φ (.seq (.v 2)) [some (bw n rs),some (.int n),some (.lst .fz (cm rs)),none] = ok (cm rs,[some (bw n rs),some (.int n),some (.lst .fz (cm rs)),none]):=by
  rw [Ap (f:=.fz) (ds:=cm rs) (by simp)]
  simp
 have hf:=eZ (Φ:=Φ) (t:=.nm 3) (b:=nC) hit e4
 have c1:eM .lt (.int (n:Int)) (.int 1) = ok (.bl false):=by
  show ok (D.bl (decide ((n:Int) < 1))) = _
  rw [decide_eq_false (by omega)]
 have c2:eM .gt (.int (n:Int)) (.int 12) = ok (.bl false):=by
  show ok (D.bl (decide ((12:Int) < n))) = _
  rw [decide_eq_false (by omega)]
 have ty1:∀ ds,dZ .tuple (.tup ds) = true:=fun _=>rfl
 have ty2:∀ f ds,dZ .list (.lst f ds) = true:=fun _ _=>rfl
 unfold bw at hf ⊢
 simp [mk_eq,iA,ty1,ty2,e3,c1,c2,hf,e2,e1]
noncomputable def LB:CE:=.comp 2 (.tp [0,1]) [0] .seq [(.ix (.v 0) (.int 1))] [] (.call 11 [(.v 1),(.ix (.v 2) (.int 0))])
noncomputable def fG:List CS:=[.ret (.and [(.call 45 [(.v 0)]),(.bf .all1 [LB])])]
theorem bB (Φ:aA) (X5:lO (Φ 11)) (h45:A8 (Φ 45)):A8 (mk Φ 1 1 fG):=by
 intro k n rs I
 have e1:=h45 k n rs I
 have e2:aN Φ LB [some (bw n rs)] = ok (.lst .ow (lE (rs.map fun _=>true))):=by
  unfold LB
  rw [cE (xs:=[.lst .fz (cm rs)]) (items:=cm rs) (ds:=rs.map fun _=>.bl true) (by simp [bw]) (by rw [dC];simp) (bA fun r hr=>?_) (by simp;exact bx (by have:=I.len;omega))]
  ·simp [lE,aw]
  ·have hl:=I.lot r hr
   have e:=X5 (.tup (ab r.2)) n (hl.eN I.n2)
   rw [hl.oJ] at e
   exact ⟨[some (qD r.1),some (.tup (ab r.2)),some (bw n rs)],by simp [aY,rD,bw],by simp,by simp [bw,e]⟩
 have e3:uj .all1 [.lst .ow (lE (rs.map fun _=>true))] = ok (.bl true):=by
  show (match jm (lE (rs.map fun _=>true)) with | some bs=>ok (D.bl (bs.all id)) | none=>none) = _
  unfold lE
  rw [mF]
  show ok (D.bl ((rs.map fun _=>true).all id)) = _
  congr 2
  simp
 have m1:aD aL (bw n rs) = bw n rs:=by simp [bw]
 have m2:aD bo (bw n rs) = bw n rs:=by simp [bw]
 simp [mk_eq,fG,m1,m2,e1,e2,e3]
noncomputable def kr (m:List D -> O D):Prop:=∀ k n rs,Dr k n rs -> m [bw n rs] = ok .bE
noncomputable def dE:List CS:=[.ifs (.not (.call 16 [(.v 0)])) [.rs 1] []]
theorem aV (Φ:aA) (h16:A8 (Φ 16)):kr (mk Φ 1 1 dE):=by
 intro k n rs I
 have e1:=h16 k n rs I
 have m1:aD aL (bw n rs) = bw n rs:=by simp [bw]
 have m2:aD bo (bw n rs) = bw n rs:=by simp [bw]
 simp [mk_eq,dE,m1,m2,e1]
end DI
end
section
namespace DI
open PySem (Str)
noncomputable def NL (ws xs:List Rat):List Rat:=(ws.zip xs).map fun p=>p.1 * p.2
noncomputable def DQ (ts:List Int) (h:Int):Int:=ts.getD h.toNat 0
theorem G0 {ts:List Int} {h:Int} (h0:0 <= h) (h1:h < ts.length):wD (ab ts) h = ok (.int (DQ ts h)):=by
 have hl:h.toNat < ts.length:=by omega
 have:=at_of (ds:=ab ts) (d:=.int (DQ ts h)) h0 (by
  rw [rA,List.getElem?_eq_getElem hl]
  show some (D.int ts[h.toNat]) = _
  unfold DQ
  simp [hl])
 simpa using this
structure Gs (j n:Nat) (ws xs:List Rat):Prop where
 l1:ws.length = n
 l2:xs.length = n
 s1:∀ q ∈ ws,Sm j q
 s2:∀ q ∈ xs,Sm j q
 jj:j <= 100
theorem Gs.Nm {j n:Nat} {ws xs:List Rat} (G:Gs j n ws xs) (hn:n <= 12):A5 (j + j) (NL ws xs):=by
 have hl:(NL ws xs).length = n:=by unfold NL;rw [List.length_map,List.length_zip,G.l1,G.l2,Nat.min_self]
 have hj:=G.jj
 refine ⟨fun q hq=>?_,?_,by omega⟩
 ·obtain ⟨p,hp,rfl⟩:=List.mem_map.mp hq
  have m:=List.of_mem_zip hp
  exact (G.s1 _ m.1).mul (G.s2 _ m.2)
 ·rw [hl]
  have:(j + j) * n <= 200 * 12:=Nat.mul_le_mul (by omega) hn
  omega
theorem Gs.at {j n:Nat} {ws xs:List Rat} (G:Gs j n ws xs) {h:Int} (h0:0 <= h) (h1:h < n):fP (NL ws xs) h = fP ws h * fP xs h:=by
 obtain ⟨g1,_⟩:=ba (qs:=ws) h0 (by rw [G.l1];exact h1)
 obtain ⟨g2,_⟩:=ba (qs:=xs) h0 (by rw [G.l2];exact h1)
 unfold fP at *
 unfold NL
 rw [List.getD_eq_getElem?_getD,List.getElem?_map,List.zip,List.getElem?_zipWith,g1,g2]
 rfl
end DI
end
section
namespace DI
open PySem (Str)
theorem Bq {Φ:aA} {p i:Nat} {es:List CE} {ρ:aC} {xs:List D} {d d':D} (h1:cM Φ es ρ = ok xs) (h2:az cn xs = false) (h3:ρ[i]? = some (some d)) (h4:Φ p (d :: xs) = ok d'):uI Φ (.mut p i es) ρ = ok (.nx,ρ.set i (some d')):=by
 show bd (cM Φ es ρ) (fun xs=>xh Φ p i (oO es xs ρ)) = _
 rw [h1,dt]
 unfold oO
 rw [h2,if_neg Bool.false_ne_true]
 unfold xh
 rw [h3]
 show bd (Φ p (d :: xs)) _ = _
 rw [h4];rfl
theorem LQ (i:Int):cQ .band (.int i) (.int 1) = ok (.int (i % 2)):=rfl
noncomputable def fE (cs:List (List Int)) (ws:List Int) (c:List Int):Int:=(oZ cs ws c).getD 0
theorem oY {α:Type} {c:List Int}:∀ {cs:List (List Int)} (ws:List α),c ∉ cs -> oZ cs ws c = none
 | [],_,_=>by cases ‹List α› <;> rfl
 | _ :: _,[],_=>rfl
 | c' :: cs,w :: ws,h=>by
  show (if c' = c then some w else oZ cs ws c) = none
  rw [if_neg fun e=>h (by rw [e];exact List.mem_cons_self)]
  exact oY ws fun z=>h (List.mem_cons_of_mem _ z)
theorem tw {α:Type} {c:List Int}:∀ {cs:List (List Int)} {ws:List α},cs.length = ws.length -> c ∈ cs -> ∃ w,oZ cs ws c = some w /\ w ∈ ws
 | [],_,_,h=>nomatch h
 | _ :: _,[],hl,_=>by simp at hl
 | c' :: cs,w :: ws,hl,h=>by
  by_cases e:c' = c
  ·exact ⟨w,if_pos e,List.mem_cons_self⟩
  ·have h':c ∈ cs:=(List.mem_cons.mp h).resolve_left fun z=>e z.symm
   obtain ⟨w',e1,e2⟩:=tw (cs:=cs) (ws:=ws) (by simpa using hl) h'
   exact ⟨w',(if_neg e).trans e1,List.mem_cons_of_mem _ e2⟩
theorem vy:∀ {cs:List (List Int)} {ws:List Int},cs.Nodup -> cs.length = ws.length -> cs.map (fE cs ws) = ws
 | [],[],_,_=>rfl
 | [],_ :: _,_,h=>by simp at h
 | _ :: _,[],_,h=>by simp at h
 | c :: cs,w :: ws,hn,hl=>by
  have Bh:=List.nodup_cons.mp hn
  have ih:=vy (cs:=cs) (ws:=ws) Bh.2 (by simpa using hl)
  rw [List.map_cons]
  have e1:fE (c :: cs) (w :: ws) c = w:=by
   show (if c = c then some w else oZ cs ws c).getD 0 = w
   rw [if_pos rfl];rfl
  have e2:cs.map (fE (c :: cs) (w :: ws)) = cs.map (fE cs ws):=List.map_congr_left fun x hx=>by
   show (if c = x then some w else oZ cs ws x).getD 0 = _
   rw [if_neg (show ¬ c = x from fun z=>Bh.1 (by rw [z];exact hx))];rfl
  rw [e1,e2,ih]
theorem uU {c:List Int} {v:Int}:∀ {cs:List (List Int)} {ws:List Int},cs.Nodup -> cs.length = ws.length -> c ∈ cs -> (setC cs ws c v).sum = ws.sum - fE cs ws c + v /\ (setC cs ws c v).length = ws.length
 | [],_,_,_,h=>nomatch h
 | _ :: _,[],_,h,_=>by simp at h
 | c' :: cs,w :: ws,hn,hl,h=>by
  have Bh:=List.nodup_cons.mp hn
  have uH:cs.length = ws.length:=by simpa using hl
  have es:setC (c' :: cs) (w :: ws) c v = (if c' = c then v else w) :: setC cs ws c v:=rfl
  by_cases e:c' = c
  ·have OD:∀ {cs:List (List Int)} {ws:List Int},cs.length = ws.length -> c ∉ cs -> setC cs ws c v = ws:=fun {cs}=>by
    induction cs with
    | nil=>intro ws hl _;cases ws with | nil=>rfl | cons _ _=>simp at hl
    | cons d cs ih =>
     intro ws hl hc
     cases ws with
     | nil=>simp at hl
     | cons w ws =>
      show (if d = c then v else w) :: setC cs ws c v = _
      rw [if_neg fun z=>hc (by rw [z];exact List.mem_cons_self),ih (by simpa using hl) fun z=>hc (List.mem_cons_of_mem _ z)]
   have hcn:c ∉ cs:=e ▸ Bh.1
   rw [es,if_pos e,OD uH hcn]
   have eg:fE (c' :: cs) (w :: ws) c = w:=by
    show (if c' = c then some w else oZ cs ws c).getD 0 = w
    rw [if_pos e];rfl
   rw [eg]
   refine ⟨?_,rfl⟩
   rw [List.sum_cons,List.sum_cons]
   omega
  ·have h':c ∈ cs:=(List.mem_cons.mp h).resolve_left fun z=>e z.symm
   obtain ⟨i1,i2⟩:=uU (v:=v) Bh.2 uH h'
   have eg:fE (c' :: cs) (w :: ws) c = fE cs ws c:=by
    show (if c' = c then some w else oZ cs ws c).getD 0 = _
    rw [if_neg e];rfl
   rw [es,if_neg e,eg]
   refine ⟨?_,by rw [List.length_cons,List.length_cons,i2]⟩
   rw [List.sum_cons,List.sum_cons,i1]
   omega
theorem uV {c:List Int} {v:Int}:∀ {cs:List (List Int)} {ws:List Int} {x:Int},x ∈ setC cs ws c v -> x ∈ ws \/ x = v
 | [],_,_,h=>by cases ‹List Int› <;> exact nomatch h
 | _ :: _,[],_,h=>nomatch h
 | c' :: cs,w :: ws,x,h=>by
  have h:x ∈ (if c' = c then v else w) :: setC cs ws c v:=h
  rcases List.mem_cons.mp h with e | h
  ·by_cases q:c' = c
   ·rw [if_pos q] at e;exact .inr e
   ·rw [if_neg q] at e;rw [e];exact .inl List.mem_cons_self
  ·rcases uV h with h | h
   ·exact .inl (List.mem_cons_of_mem _ h)
   ·exact .inr h
structure Tab (n j:Nat) (cs:List (List Int)) (ws:List Int):Prop where
 nd:cs.Nodup
 ln:cs.length = ws.length
 D_:cs.length <= j
 lot:∀ c ∈ cs,rX n c
 pos:∀ w ∈ ws,1 <= w
 sum:ws.sum <= 7 * j
 ne:1 <= j -> cs ≠ []
theorem Tab.get {n j:Nat} {cs:List (List Int)} {ws:List Int} (T:Tab n j cs ws) (c:List Int):0 <= fE cs ws c:=by
 by_cases h:c ∈ cs
 ·obtain ⟨w,e,m⟩:=tw T.ln h
  unfold fE
  rw [e]
  have:=T.pos w m
  show 0 <= w
  omega
 ·unfold fE
  rw [oY ws h];exact Int.le_refl _
theorem Tab.put {n j:Nat} {cs:List (List Int)} {ws:List Int} (T:Tab n j cs ws) {c:List Int} (hc:rX n c) {i:Int} (h1:1 <= i) (h7:i <= 7):Tab n (j + 1) (yL cs c) (x8 cs ws c (fE cs ws c + i)):=by
 have hg:=T.get c
 have hf:=T.D_
 have hs:=T.sum
 by_cases h:c ∈ cs
 ·obtain ⟨s1,s2⟩:=uU (v:=fE cs ws c + i) T.nd T.ln h
  unfold yL x8
  rw [if_pos h,if_pos h]
  refine ⟨T.nd,by rw [s2];exact T.ln,by omega,T.lot,fun w hw=>?_,by rw [s1];omega,fun _ z=>by rw [z] at h;cases h⟩
  rcases uV hw with hw | rfl
  ·exact T.pos w hw
  ·omega
 ·have hz:fE cs ws c = 0:=by unfold fE;rw [oY ws h];rfl
  unfold yL x8
  rw [if_neg h,if_neg h,hz]
  refine ⟨?_,by rw [List.length_append,List.length_append,T.ln];rfl,by rw [List.length_append,List.length_singleton];omega,fun d hd=>?_,fun w hw=>?_,by rw [List.sum_append];simp;omega,fun _ z=>by simp at z⟩
  ·refine List.nodup_append.mpr ⟨T.nd,List.nodup_cons.mpr ⟨List.not_mem_nil,List.nodup_nil⟩,fun a ha b hb e=>?_⟩
   rw [List.mem_singleton.mp hb] at e
   exact h (e ▸ ha)
  ·rcases List.mem_append.mp hd with hd | hd
   ·exact T.lot d hd
   ·rw [List.mem_singleton.mp hd];exact hc
  ·rcases List.mem_append.mp hw with hw | hw
   ·exact T.pos w hw
   ·rw [List.mem_singleton.mp hw];omega
noncomputable def wX (cs:List (List Int)) (ws:List Int):List Row:=(bg cs).map fun c=>(Rat.divInt (fE cs ws c) ws.sum,c)
theorem Tab.FK {n j:Nat} {cs:List (List Int)} {ws:List Int} (T:Tab n j cs ws):∀ w ∈ ws,w <= ws.sum:=fun w hw=>by
 have:∀ l:List Int,(∀ x ∈ l,1 <= x) -> 0 <= l.sum /\ ∀ x ∈ l,x <= l.sum:=fun l=>by
  induction l with
  | nil=>intro _;exact ⟨Int.le_refl _,fun _ h=>nomatch h⟩
  | cons a l ih =>
   intro h
   obtain ⟨i1,i2⟩:=ih fun x hx=>h x (List.mem_cons_of_mem _ hx)
   have ha:=h a List.mem_cons_self
   rw [List.sum_cons]
   refine ⟨by omega,fun x hx=>?_⟩
   rcases List.mem_cons.mp hx with rfl | hx
   ·omega
   ·have:=i2 x hx;omega
 exact (this ws T.pos).2 w hw
theorem so (W:Int) (hW:W ≠ 0):∀ ls:List Int,(ls.map fun x=>Rat.divInt x W).sum = Rat.divInt ls.sum W
 | []=>by simp
 | x :: ls=>by
  rw [List.map_cons,List.sum_cons,so W hW ls,List.sum_cons,Rat.divInt_eq_div,Rat.divInt_eq_div,Rat.divInt_eq_div,Rat.intCast_add]
  grind
theorem vn {a b:List Rat} (h:a.Perm b):a.sum = b.sum:=by
 induction h with
 | nil=>rfl
 | cons x _ ih=>rw [List.sum_cons,List.sum_cons,ih]
 | swap x y l=>rw [List.sum_cons,List.sum_cons,List.sum_cons,List.sum_cons];grind
 | trans _ _ i1 i2=>rw [i1,i2]
theorem Tab.dr {n j:Nat} {cs:List (List Int)} {ws:List Int} (T:Tab n j cs ws) (h1:1 <= j) (h6:j <= 6) (n1:1 <= n) (n2:n <= 12):Dr 6 n (wX cs ws):=by
 have hp:(bg cs).Perm cs:=List.mergeSort_perm _ _
 have hl:(wX cs ws).length = cs.length:=by unfold wX;rw [List.length_map];exact hp.length_eq
 have hf:=T.D_
 have hs:=T.sum
 have val:∀ c ∈ bg cs,1 <= fE cs ws c /\ fE cs ws c <= ws.sum:=fun c hc=>by
  obtain ⟨w,e,m⟩:=tw T.ln (hp.mem_iff.mp hc)
  unfold fE
  rw [e]
  exact ⟨T.pos w m,T.FK w m⟩
 have hW:1 <= ws.sum:=by
  obtain ⟨c,hc⟩:=List.exists_mem_of_ne_nil cs (T.ne h1)
  have:=val c (hp.mem_iff.mpr hc)
  omega
 refine ⟨n1,n2,by rw [hl];omega,.inl (by rw [hl];omega),by rw [hl];omega,fun r hr=>?_,fun r hr=>?_,fun r hr=>?_,?_,?_⟩
 ·obtain ⟨c,hc,rfl⟩:=List.mem_map.mp hr
  exact T.lot c (hp.mem_iff.mp hc)
 ·obtain ⟨c,hc,rfl⟩:=List.mem_map.mp hr
  exact pw (by have:=val c hc;omega) (by omega)
 ·obtain ⟨c,hc,rfl⟩:=List.mem_map.mp hr
  have:=val c hc
  exact BO (by omega) (by show _ < 64;omega) (by show _ < 64;omega)
 ·have e:(wX cs ws).map (·.1) = (bg cs).map fun c=>Rat.divInt (fE cs ws c) ws.sum:=by
   unfold wX;rw [List.map_map];rfl
  rw [e]
  have e2:((bg cs).map fun c=>Rat.divInt (fE cs ws c) ws.sum).sum = (cs.map fun c=>Rat.divInt (fE cs ws c) ws.sum).sum:=vn (hp.map _)
  have e3:(cs.map fun c=>Rat.divInt (fE cs ws c) ws.sum) = (cs.map (fE cs ws)).map fun x=>Rat.divInt x ws.sum:=by rw [List.map_map];rfl
  rw [e2,e3,vy T.nd T.ln,so _ (by omega),Rat.divInt_eq_div]
  have z:((ws.sum:Int):Rat) ≠ 0:=fun z=>by rw [Rat.intCast_eq_zero_iff] at z;omega
  grind
 ·have e:(wX cs ws).map (·.2) = bg cs:=by
   unfold wX;rw [List.map_map]
   exact (List.map_congr_left fun _ _=>rfl).trans (List.map_id _)
  rw [e];exact ka T.nd
end DI
end
section
namespace DI
open PySem (Str)
theorem V9 (n:Nat) (t:Nat -> Bool):rX n (((List.range n).filter t).map fun (k:Nat)=>(k:Int)):=by
 refine ⟨?_,fun h hh=>?_⟩
 ·rw [List.pairwise_map]
  refine (List.Pairwise.filter _ List.pairwise_lt_range).imp fun z=>?_
  omega
 ·obtain ⟨k,hk,rfl⟩:=List.mem_map.mp hh
  have:=List.mem_range.mp (List.mem_filter.mp hk).1
  omega
structure air (Φ:aA):Prop where
 acA:Φ 1030 = Pt
 acz:Φ 1031 = Pu
 acy:Φ 1032 = Y7
 acx:Φ 1033 = Pr
 acw:Φ 1035 = LD
 acv:Φ 1100 = LF
theorem pz {t b:Int} (hb:b ≠ 0):(Rat.divInt t b).den ∣ b.natAbs:=by
 obtain ⟨t',b',e1,e2,h1,h2,h3,h4⟩:=oE (t:=t) hb
 obtain ⟨g1,g2⟩:=tM (t:=t) hb
 rw [show b.fdiv (gf t b) = b' from h2] at g2
 have hz:(Rat.divInt t b).den = b'.natAbs:=by omega
 have:b.natAbs = (gf t b).natAbs * b'.natAbs:=by rw [<- Int.natAbs_mul,<- e2]
 rw [hz,this]
 exact Nat.dvd_mul_left ..
end DI
end
section
namespace DI
open PySem (Str)
noncomputable def uB (m:List D -> O D):Prop:=∀ (N:Int) (n:Nat),n <= 12 -> ∃ qs:List Rat,m [.int N,.int n] = ok (.lst .ow (aB qs)) /\ qs.length = n /\ ∀ q ∈ qs,Sm 3 q
noncomputable def nB:List CS:=[.app 2 (.call 201 [(.bin .sub (.bin .mod (.v 0) (.int 13)) (.int 6)),(.bin .add (.int 1) (.bin .mod (.bin .fdiv (.v 0) (.int 13)) (.int 4)))]),.asg (.nm 0) (.bin .fdiv (.v 0) (.int 52))]
noncomputable def nQ:List CS:=[.asg (.nm 2) (.lst []),.fr (.nm 3) (.mP (.v 1)) nB,.ret (.v 2)]
theorem oK (Φ:aA) (vN:gE (Φ 201)) (y:Option D):∀ (ks:List D) (acc:List Rat) (n:Int) (w:Option D),acc.length + ks.length <= 1000 -> (∀ q ∈ acc,Sm 3 q) ->
  ∃ (qs:List Rat) (n' w':Option D),d9 (fun d ρ=>bU (.nm 3) d ρ) (fun ρ=>bc Φ nB ρ) ks [some (.int n),y,some (.lst .ow (aB acc)),w] = ok (.nx,[n',y,some (.lst .ow (aB qs)),w']) /\ qs.length = acc.length + ks.length /\ ∀ q ∈ qs,Sm 3 q
 | [],acc,n,w,_,hs=>⟨acc,some (.int n),w,rfl,rfl,hs⟩
 | k :: ks,acc,n,w,h,hs=>by
  simp only [List.length_cons] at h
  obtain ⟨a1,a2⟩:=iu n (b:=13) (by decide)
  obtain ⟨a3,a4⟩:=iu (n.fdiv 13) (b:=4) (by decide)
  have e:=vN (n.fmod 13 - 6) (1 + (n.fdiv 13).fmod 4) (by omega) (sY (by omega))
  have sq:Sm 3 (Rat.divInt (n.fmod 13 - 6) (1 + (n.fdiv 13).fmod 4)):=BO (by omega) (by omega) (by omega)
  generalize Rat.divInt (n.fmod 13 - 6) (1 + (n.fdiv 13).fmod 4) = q at *
  obtain ⟨qs,n',w',e',l,s⟩:=oK Φ vN y ks (acc ++ [q]) (n.fdiv 52) (some k) (by simp;omega) (fun p hp=>by
   rcases List.mem_append.mp hp with hp | hp
   ·exact hs p hp
   ·have:p = q:=by simpa using hp
    subst this;exact sq)
  have hc:acc.length < eN:=by show _ < 1000000;omega
  refine ⟨qs,n',w',cL (ρ1:=[some (.int n),y,some (.lst .ow (aB acc)),some k]) (by simp) (ρ2:=[some (.int (n.fdiv 52)),y,some (.lst .ow (aB (acc ++ [q]))),some k]) ?_ e',by rw [l];simp;omega,s⟩
  simp [nB,e,hc]
theorem EV (Φ:aA) (vN:gE (Φ 201)):uB (mk Φ 2 4 nQ):=by
 intro N n hn
 have hit:=CT (Φ:=Φ) (a:=.v 1) (ρ:=[some (.int N),some (.int n),some (.lst .ow []),none]) (n:=n) (by simp) (by omega) (by omega)
 obtain ⟨qs,n',w',el,l,s⟩:=oK Φ vN (some (.int n)) ((List.range (n:Int).toNat).map fun (k:Nat)=>D.int (k:Int)) [] N none (by simp;omega) (by simp)
 have hf:=eZ (t:=.nm 3) (b:=nB) hit el
 refine ⟨qs,?_,by simpa using l,s⟩
 simp [mk_eq,nQ,hf]
structure Gs2 (i j n:Nat) (ws xs:List Rat):Prop where
 l1:ws.length = n
 l2:xs.length = n
 s1:∀ q ∈ ws,Sm i q
 s2:∀ q ∈ xs,Sm j q
 jj:i + j <= 20
theorem Gs.two {j n:Nat} {ws xs:List Rat} (G:Gs j n ws xs) (hj:j <= 10):Gs2 j j n ws xs:=⟨G.l1,G.l2,G.s1,G.s2,by omega⟩
noncomputable def mH (m:List D -> O D):Prop:=∀ n rs,m [bw n rs] = ok (.tup [.int n,.lst .ow (cm rs)])
noncomputable def jM:List CS:=[.ret (.tup [(.ix (.v 0) (.int 0)),(.bf .list1 [(.ix (.v 0) (.int 1))])])]
theorem Ac (Φ:aA):mH (mk Φ 1 1 jM):=by
 intro n rs
 simp [mk_eq,jM,bw]
noncomputable def gu (f:Fl) (n:Nat) (rs:List Row):D:=.tup [.int n,.lst f (cm rs)]
@[simp] theorem Ri (g:Fl -> Fl) (f:Fl) (n:Nat) (rs:List Row):aD g (gu f n rs) = gu (g f) n rs:=by simp [gu]
theorem HZ (n:Nat) (rs:List Row):gu .fz n rs = bw n rs:=rfl
@[simp] theorem Rx (p:Fl -> Bool) (f:Fl) (n:Nat) (rs:List Row):aT p (gu f n rs) = p f:=by simp [gu]
@[simp] theorem WV (f:Fl) (n:Nat) (rs:List Row):vG (gu f n rs) (.int 0) = ok (.int n):=by simp [gu]
theorem Dx (n:Nat) (rs:List Row) (ws xs:List Rat) (f g a b c a' b' c':Fl):eM .eq (.lst f [gu a n rs,.lst b (aB ws),.lst c (aB xs)]) (.lst g [gu a' n rs,.lst b' (aB ws),.lst c' (aB xs)]) = ok (.bl true):=by
 have k1:∀ a,b_ 39 (gu a n rs) = true:=fun a=>by
  unfold gu
  rw [nF]
  simp only [List.all_cons,List.all_nil,fC,Bool.true_and,Bool.and_true]
  rw [la]
  exact lb (NY 35) rs
 rw [DL (by rw [la];simp only [List.all_cons,List.all_nil,Cu 37,k1,Bool.and_self]) (by rw [la];simp only [List.all_cons,List.all_nil,Cu 37,k1,Bool.and_self])]
 have k2:gO (gu a n rs) (gu a' n rs) = true:=by
  show (((n:Int) == (n:Int)) && (dy (cm rs) (cm rs) && true)) = true
  rw [Gz];simp
 show ok (D.bl (gO (gu a n rs) (gu a' n rs) && (dy (aB ws) (aB ws) && (dy (aB xs) (aB xs) && true)))) = _
 rw [k2,zi,zi];simp
end DI
end
section
namespace DI
open PySem (Str)
noncomputable def cO (g h:Int) (r:Row):Bool:=decide (g ∈ r.2) && decide (h ∈ r.2)
noncomputable def af (rs:List Row) (g h:Int):Rat:=(cq (rs.filter (cO g h))).sum
theorem vI (h:Int):∀ ns:List Int,inD (.int h) (ab ns) = decide (h ∈ ns)
 | []=>rfl
 | x :: xs=>by
  show (gO (.int x) (.int h) || inD (.int h) (ab xs)) = _
  rw [nK,vI h xs]
  by_cases e:h = x <;> simp [e,eq_comm]
theorem rJ:∀ ns:List Int,(ab ns).all iR = true
 | []=>rfl
 | x :: xs=>by show (iR (.int x) && (ab xs).all iR) = true;rw [rJ xs];rfl
theorem Ib (h:Int) (ns:List Int):eM .Bd (.int h) (.tup (ab ns)) = ok (.bl (decide (h ∈ ns))):=by
 show (if iR (.int h) && (ab ns).all iR then ok (D.bl (inD (.int h) (ab ns))) else none) = _
 rw [rJ,vI];rfl
noncomputable def GH:CE:=.comp 2 (.tp [0,1]) [1,2] .seq [(.ix (.v 0) (.int 1))] [(.and [(.cmp .Bd (.v 2) (.v 1)),(.cmp .Bd (.v 3) (.v 1))])] (.v 0)
noncomputable def nS:List CS:=[.asg (.nm 3) GH,.ret (.call 2 [(.bf .kU [(.v 3)]),(.ix (.v 0) (.int 0))])]
noncomputable def nW (m:List D -> O D):Prop:=∀ k n rs (g h:Int),Dr k n rs -> m [.tup [.int (bY (cq rs)),.lst .fz (rY (bY (cq rs)) rs)],.int g,.int h] = ok (qD (af rs g h))
theorem EX (Φ:aA) (h2:dA (Φ 2)):nW (mk Φ 3 4 nS):=by
 intro k n rs g h I
 obtain ⟨b0,b1,b2⟩:=I.bot
 have key:=sj (b:=bY (cq rs)) (qs:=cq (rs.filter (cO g h))) b0 fun q hq=>by
  obtain ⟨r,hr,rfl⟩:=List.mem_map.mp hq
  exact b2 _ (List.mem_map_of_mem ((List.mem_filter.mp hr).1))
 generalize bY (cq rs) = b at *
 have k1:∀ a,aN Φ GH [some (.tup [.int b,.lst .fz (rY b rs)]),some (.int g),some (.int h),a] = ok (.lst .ow (ab ((cq (rs.filter (cO g h))).map (cS b)))):=fun a=>by
  unfold GH
  rw [cE (xs:=[.lst .fz (rY b rs)]) (items:=rs.map fun r=>.tup [.int (cS b r.1),.tup (ab r.2)]) (ds:=(rs.filter (cO g h)).map fun r=>.int (cS b r.1)) (by simp) (by rw [dC,CH];rfl) (jk fun r hr=>⟨[some (.int (cS b r.1)),some (.tup (ab r.2)),some (.int g),some (.int h)],by simp [aY],by
   by_cases hg:g ∈ r.2 <;> by_cases hh:h ∈ r.2 <;> simp [Ib,cO,hg,hh],fun _=>by simp⟩) ?_]
  ·simp [ab,aw,cq]
  ·have:=List.length_filter_le (cO g h) rs
   have:=I.len
   rw [List.length_map]
   exact bx (by omega)
 have k2:uj .kU [.lst .ow (ab ((cq (rs.filter (cO g h))).map (cS b)))] = ok (.int ((cq (rs.filter (cO g h))).map (cS b)).sum):=by
  show (match intsOf (ab ((cq (rs.filter (cO g h))).map (cS b))) with | some ns=>ok (D.int ns.sum) | none=>none) = _
  unfold ab
  rw [bq]
 have k3:=h2.1 ((cq (rs.filter (cO g h))).map (cS b)).sum b (by omega) (by
  rw [Int.natAbs_natCast]
  exact Nat.lt_of_lt_of_le b1 (Nat.pow_le_pow_right (by decide) (by decide)))
 rw [key] at k3
 have k4:∀ f,uj .kU [.lst f (ab ((cq (rs.filter (cO g h))).map (cS b)))] = ok (.int ((cq (rs.filter (cO g h))).map (cS b)).sum):=fun f=>k2
 simp [mk_eq,nS,Ka Φ GH _ rfl,k1,k4,k3]
 rfl
noncomputable def shQ (n:Nat) (rs:List Row):List Rat:=(List.range n).map fun (k:Nat)=>af rs k k
theorem rl {rs:List Row} {W:Nat} (hd:∀ r ∈ rs,r.1.den ∣ W) (h0:0 < W) (g h:Int):(af rs g h).den ∣ W:=by
 have key:=sj (b:=W) (qs:=cq (rs.filter (cO g h))) h0 fun q hq=>by
  obtain ⟨r,hr,rfl⟩:=List.mem_map.mp hq
  exact hd _ ((List.mem_filter.mp hr).1)
 unfold af
 rw [<- key]
 have:=pz (t:=((cq (rs.filter (cO g h))).map (cS W)).sum) (b:=(W:Int)) (by omega)
 simpa using this
theorem gJ (p:Row -> Bool):∀ (rs:List Row),(∀ r ∈ rs,0 < r.1) -> 0 <= (cq (rs.filter p)).sum /\ (cq (rs.filter p)).sum <= (cq rs).sum
 | [],_=>by simp [cq,Rat.le_refl]
 | r :: rs,h=>by
  obtain ⟨a,b⟩:=gJ p rs fun x hx=>h x (List.mem_cons_of_mem _ hx)
  have hr:=h r List.mem_cons_self
  have e:(cq (r :: rs)).sum = r.1 + (cq rs).sum:=rfl
  rw [e]
  cases hp:p r with
  | true =>
   rw [List.filter_cons_of_pos hp]
   have e':(cq (r :: rs.filter p)).sum = r.1 + (cq (rs.filter p)).sum:=rfl
   rw [e']
   constructor <;> grind
  | false =>
   rw [List.filter_cons_of_neg (by simp [hp])]
   constructor <;> grind
theorem vp {k n:Nat} {rs:List Row} (I:Dr k n rs) (g h:Int):0 <= af rs g h /\ af rs g h <= 1:=by
 have:=gJ (cO g h) rs I.pos
 have e:(cq rs).sum = 1:=I.one
 rw [e] at this
 exact this
theorem yh {q:Rat} {k:Nat} (h0:0 <= q) (h1:q <= 1) (hd:q.den < 2 ^ k):Sm k q:=by
 refine ⟨?_,hd⟩
 have e:=e_ q
 have hp:=q.den_pos
 have n0:0 <= q.num:=Rat.num_nonneg.mpr h0
 have:q.num <= q.den:=by
  have:=h1
  rw [Rat.le_iff] at this
  simpa using this
 omega
theorem bh {k n:Nat} {rs:List Row} (I:Dr k n rs) (g h:Int):Sm 61 (af rs g h):=by
 obtain ⟨b0,b1,b2⟩:=I.bot
 obtain ⟨p0,p1⟩:=vp I g h
 have:=rl (rs:=rs) (W:=bY (cq rs)) (fun r hr=>b2 _ (List.mem_map_of_mem hr)) b0 g h
 exact yh p0 p1 (Nat.lt_of_le_of_lt (Nat.le_of_dvd b0 this) b1)
theorem w5 {k n:Nat} {rs:List Row} (I:Dr k n rs) (F:A_ rs) (g h:Int):Sm 6 (af rs g h):=by
 obtain ⟨W,w0,w1,w2⟩:=F
 obtain ⟨p0,p1⟩:=vp I g h
 have:=rl w2 w0 g h
 exact yh p0 p1 (Nat.lt_of_le_of_lt (Nat.le_of_dvd w0 this) w1)
@[simp] theorem QW (n:Nat) (rs:List Row):(shQ n rs).length = n:=by simp [shQ]
noncomputable def Hq (q:Rat):D:=if 0 < q then qD (1 / q) else .bE
@[simp] theorem FN (g:Fl -> Fl) (q:Rat):aD g (Hq q) = Hq q:=by
 unfold Hq
 split
 ·simp
 ·rfl
@[simp] theorem Gn (g:Fl -> Bool) (q:Rat):aT g (Hq q) = false:=by
 unfold Hq
 split
 ·simp
 ·rfl
@[simp] theorem Mb (g:Fl -> Fl) (qs:List Rat):ai g (qs.map Hq) = qs.map Hq:=de g (fun q=>FN g q) qs
@[simp] theorem Mt (g:Fl -> Bool) (qs:List Rat):az g (qs.map Hq) = false:=cf g (fun q=>Gn g q) qs
theorem Nn:Sm 1 (0:Rat):=by constructor <;> decide
end DI
end
section
namespace DI
open PySem (Str)
noncomputable def Hd (n:Nat) (h:Nat):List Rat:=(List.range n).map fun (k:Nat)=>if k = h then 1 else 0
noncomputable def BE:List CS:=[.ifs (.and [(.cmp .Bd (.v 2) (.v 7)),(.cmp .Bd (.v 4) (.v 7))]) [.asg (.nm 5) (.call 202 [(.v 5),(.v 6)])] []]
noncomputable def EA:List CS:=[.asg (.nm 5) (.tup [(.int 0),(.int 1)]),.fr (.tp [6,7]) (.seq (.ix (.v 0) (.int 1))) BE,.app 3 (.v 5)]
noncomputable def EB:List CS:=[.asg (.nm 3) (.lst []),.fr (.nm 4) (.mP (.ix (.v 0) (.int 0))) EA,.app 1 (.v 3)]
noncomputable def lG:List CS:=[.asg (.nm 1) (.lst []),.fr (.nm 2) (.mP (.ix (.v 0) (.int 0))) EB,.ret (.v 1)]
theorem oD (r:Row) (rs:List Row) (g h:Int):af (r :: rs) g h = if cO g h r then r.1 + af rs g h else af rs g h:=by
 unfold af
 cases e:cO g h r with
 | true=>rw [List.filter_cons_of_pos e];rfl
 | false=>rw [List.filter_cons_of_neg (by simp [e])];rfl
theorem sT (Φ:aA) (jV:mV (Φ 202)) (g h:Int) (c0 c1 c3:Option D):∀ (rs:List Row) (acc:Rat) (i:Nat) (c6 c7:Option D),(∀ r ∈ rs,Sm 6 r.1) -> Sm (1 + 7 * i) acc -> i + rs.length <= 12 ->
  ∃ ud uc,d9 (fun d ρ=>bU (.tp [6,7]) d ρ) (fun ρ=>bc Φ BE ρ) (cm rs) [c0,c1,some (.int g),c3,some (.int h),some (qD acc),c6,c7] = ok (.nx,[c0,c1,some (.int g),c3,some (.int h),some (qD (acc + af rs g h)),ud,uc])
 | [],acc,i,c6,c7,_,_,_=>⟨c6,c7,by simp [af,cq,cm,fF,Rat.add_zero]⟩
 | r :: rs,acc,i,c6,c7,hm,hs,hi=>by
  rw [List.length_cons] at hi
  have s1:=hm r List.mem_cons_self
  have e1:=jV acc r.1 (hs.mono (by omega)) (s1.mono (by decide))
  have s3:=(hs.add s1).mono (l:=1 + 7 * (i + 1)) (by omega)
  have s4:=hs.mono (l:=1 + 7 * (i + 1)) (by omega)
  have hr:=fun x hx=>hm x (List.mem_cons_of_mem r hx)
  have hc:∀ (a:Option D),aN Φ (.and [(.cmp .Bd (.v 2) (.v 7)),(.cmp .Bd (.v 4) (.v 7))]) [c0,c1,some (.int g),c3,some (.int h),a,some (qD r.1),some (.tup (ab r.2))] = ok (.bl (cO g h r)):=fun a=>by
   by_cases hg:g ∈ r.2 <;> by_cases hh:h ∈ r.2 <;> simp [Ib,cO,hg,hh]
  rw [oD]
  cases hb:cO g h r with
  | true =>
   obtain ⟨ud,uc,ih⟩:=sT Φ jV g h c0 c1 c3 rs (acc + r.1) (i + 1) (some (qD r.1)) (some (.tup (ab r.2))) hr s3 (by omega)
   refine ⟨ud,uc,cL (ρ1:=[c0,c1,some (.int g),c3,some (.int h),some (qD acc),some (qD r.1),some (.tup (ab r.2))]) (by simp [rD]) (ρ2:=[c0,c1,some (.int g),c3,some (.int h),some (qD (acc + r.1)),some (qD r.1),some (.tup (ab r.2))]) ?_ ?_⟩
   ·rw [BE,cR,zM,hc,hb];simp [e1]
   ·exact ih.trans (by simp [Rat.add_assoc])
  | false =>
   obtain ⟨ud,uc,ih⟩:=sT Φ jV g h c0 c1 c3 rs acc (i + 1) (some (qD r.1)) (some (.tup (ab r.2))) hr s4 (by omega)
   refine ⟨ud,uc,cL (ρ1:=[c0,c1,some (.int g),c3,some (.int h),some (qD acc),some (qD r.1),some (.tup (ab r.2))]) (by simp [rD]) (ρ2:=[c0,c1,some (.int g),c3,some (.int h),some (qD acc),some (qD r.1),some (.tup (ab r.2))]) ?_ ?_⟩
   ·rw [BE,cR,zM,hc,hb];simp
   ·exact ih.trans (by simp)
theorem yy (Φ:aA) (jV:mV (Φ 202)) {n:Nat} {rs:List Row} (I:Dr 6 n rs) (g:Int) (c1:Option D):∀ (k j:Nat) (qs:List Rat) (c4 c5 c6 c7:Option D),j + k <= 12 -> qs.length = j ->
  ∃ LN LM ud uc,d9 (fun d ρ=>bU (.nm 4) d ρ) (fun ρ=>bc Φ EA ρ) ((List.range' j k).map fun (i:Nat)=>D.int (i:Int)) [some (bw n rs),c1,some (.int g),some (.lst .ow (aB qs)),c4,c5,c6,c7] =
   ok (.nx,[some (bw n rs),c1,some (.int g),some (.lst .ow (aB (qs ++ (List.range' j k).map fun (i:Nat)=>af rs g i))),LN,LM,ud,uc])
 | 0,j,qs,c4,c5,c6,c7,_,_=>⟨c4,c5,c6,c7,by simp [fF]⟩
 | k + 1,j,qs,c4,c5,c6,c7,hj,hq=>by
  have z0:D.tup [.int 0,.int 1] = qD 0:=rfl
  have hfew:=I.D_
  obtain ⟨a6,a7,el⟩:=sT Φ jV g j (some (bw n rs)) c1 (some (.lst .ow (aB qs))) rs 0 0 c6 c7 I.sm (by constructor <;> decide) (by omega)
  rw [Rat.zero_add] at el
  have x1:aN Φ (.ix (.v 0) (.int 1)) [some (bw n rs),c1,some (.int g),some (.lst .ow (aB qs)),some (.int j),some (qD 0),c6,c7] = ok (.lst .fz (cm rs)):=by simp [bw]
  have hit:cK Φ (.seq (.ix (.v 0) (.int 1))) [some (bw n rs),c1,some (.int g),some (.lst .ow (aB qs)),some (.int j),some (qD 0),c6,c7] = ok (cm rs,[some (bw n rs),c1,some (.int g),some (.lst .ow (aB qs)),some (.int j),some (qD 0),c6,c7]):=by
   rw [Ap x1];simp
  have hf:=eZ (Φ:=Φ) (t:=.tp [6,7]) (b:=BE) hit el
  obtain ⟨LN,LM,ud,uc,ih⟩:=yy Φ jV I g c1 k (j + 1) (qs ++ [af rs g j]) (some (.int j)) (some (qD (af rs g j))) a6 a7 (by omega) (by simp [hq])
  rw [List.range'_succ,List.map_cons,List.map_cons]
  refine ⟨LN,LM,ud,uc,cL (ρ1:=[some (bw n rs),c1,some (.int g),some (.lst .ow (aB qs)),some (.int j),c5,c6,c7]) (by simp) (ρ2:=[some (bw n rs),c1,some (.int g),some (.lst .ow (aB (qs ++ [af rs g j]))),some (.int j),some (qD (af rs g j)),a6,a7]) ?_ ?_⟩
  ·have hc:qs.length < eN:=by show _ < 1000000;omega
   simp [EA,z0,hf,hc]
  ·exact ih.trans (by simp)
noncomputable def aO (n:Nat) (rs:List Row) (f:Fl) (j k:Nat):List D:=(List.range' j k).map fun (g:Nat)=>.lst f (aB ((List.range' 0 n).map fun (h:Nat)=>af rs g h))
theorem yA (Φ:aA) (jV:mV (Φ 202)) {n:Nat} {rs:List Row} (I:Dr 6 n rs):∀ (k j:Nat) (ds:List D) (c2 c3 c4 c5 c6 c7:Option D),j + k <= 12 -> ds.length = j ->
  ∃ ue xV LN LM ud uc,d9 (fun d ρ=>bU (.nm 2) d ρ) (fun ρ=>bc Φ EB ρ) ((List.range' j k).map fun (i:Nat)=>D.int (i:Int)) [some (bw n rs),some (.lst .ow ds),c2,c3,c4,c5,c6,c7] =
   ok (.nx,[some (bw n rs),some (.lst .ow (ds ++ aO n rs .ow j k)),ue,xV,LN,LM,ud,uc])
 | 0,j,ds,c2,c3,c4,c5,c6,c7,_,_=>⟨c2,c3,c4,c5,c6,c7,by simp [fF,aO]⟩
 | k + 1,j,ds,c2,c3,c4,c5,c6,c7,hj,hq=>by
  have hn:=I.n2
  obtain ⟨a4,a5,a6,a7,el⟩:=yy Φ jV I j (some (.lst .ow ds)) n 0 [] c4 c5 c6 c7 (by omega) rfl
  have x0:∀ r:aC,aN Φ (.ix (.v 0) (.int 0)) (some (bw n rs) :: r) = ok (.int n):=fun r=>by simp [bw]
  have hit:=CT (Φ:=Φ) (a:=.ix (.v 0) (.int 0)) (ρ:=[some (bw n rs),some (.lst .ow ds),some (.int j),some (.lst .ow (aB [])),c4,c5,c6,c7]) (n:=n) (x0 _) (by omega) (by omega)
  rw [Int.toNat_natCast,List.range_eq_range'] at hit
  have hf:=eZ (Φ:=Φ) (t:=.nm 4) (b:=EA) hit el
  rw [List.nil_append] at hf
  obtain ⟨ue,xV,LN,LM,ud,uc,ih⟩:=yA Φ jV I k (j + 1) (ds ++ [.lst .ow (aB ((List.range' 0 n).map fun (h:Nat)=>af rs j h))]) (some (.int j)) none a4 a5 a6 a7 (by omega) (by simp [hq])
  have ep:aO n rs .ow j (k + 1) = .lst .ow (aB ((List.range' 0 n).map fun (h:Nat)=>af rs j h)) :: aO n rs .ow (j + 1) k:=by unfold aO;rw [List.range'_succ,List.map_cons]
  rw [List.range'_succ,List.map_cons,ep]
  have hc:ds.length < eN:=by show _ < 1000000;omega
  have q0:aB [] = []:=rfl
  refine ⟨ue,xV,LN,LM,ud,uc,cL (ρ1:=[some (bw n rs),some (.lst .ow ds),some (.int j),c3,c4,c5,c6,c7]) (by simp) (ρ2:=[some (bw n rs),some (.lst .ow (ds ++ [.lst .ow (aB ((List.range' 0 n).map fun (h:Nat)=>af rs j h))])),some (.int j),none,a4,a5,a6,a7]) ?_ ?_⟩
  ·rw [q0] at hf
   simp [EB,hf,hc]
  ·exact ih.trans (by simp)
noncomputable def pN (m:List D -> O D):Prop:=∀ n rs,Dr 6 n rs -> m [bw n rs] = ok (.lst .ow (aO n rs .ow 0 n))
theorem BY (Φ:aA) (jV:mV (Φ 202)):pN (mk Φ 1 8 lG):=by
 intro n rs I
 have hn:=I.n2
 obtain ⟨a2,a3,a4,a5,a6,a7,el⟩:=yA Φ jV I n 0 [] none none none none none none (by omega) rfl
 have x0:∀ r:aC,aN Φ (.ix (.v 0) (.int 0)) (some (bw n rs) :: r) = ok (.int n):=fun r=>by simp [bw]
 have hit:=CT (Φ:=Φ) (a:=.ix (.v 0) (.int 0)) (ρ:=[some (bw n rs),some (.lst .ow []),none,none,none,none,none,none]) (n:=n) (x0 _) (by omega) (by omega)
 rw [Int.toNat_natCast,List.range_eq_range'] at hit
 have hf:=eZ (Φ:=Φ) (t:=.nm 2) (b:=EB) hit el
 rw [List.nil_append] at hf
 simp [mk_eq,lG,hf]
theorem bK (g:Fl -> Fl) (n:Nat) (rs:List Row) (f:Fl) (j k:Nat):ai g (aO n rs f j k) = aO n rs (g f) j k:=by
 unfold aO
 rw [aw,List.map_map]
 refine List.map_congr_left fun x _=>?_
 show aD g (.lst f (aB _)) = _
 simp
theorem lp (g:Fl -> Bool) (n:Nat) (rs:List Row) (f:Fl) (j k:Nat) (h:g f = false):az g (aO n rs f j k) = false:=cf g (fun x=>by simp [h]) (List.range' j k)
theorem oA {n:Nat} {rs:List Row} {f:Fl} {k:Nat} (h:k < n):wD (aO n rs f 0 n) (k:Int) = ok (aD bo (.lst f (aB ((List.range' 0 n).map fun (h:Nat)=>af rs k h)))):=by
 have:=at_of (ds:=aO n rs f 0 n) (i:=(k:Int)) (d:=.lst f (aB ((List.range' 0 n).map fun (h:Nat)=>af rs k h))) (by omega) (by
  rw [Int.toNat_natCast,aO,List.getElem?_map,List.getElem?_range' h]
  simp)
 exact this
end DI
end
section
namespace DI
open PySem (Str)
end DI
end
section
namespace DI
open PySem (Str)
noncomputable def c19:CS:=.setI 4 (.v 10) (.call 202 [(.ix (.v 4) (.v 10)),(.call 201 [(.bin .add (.int 1) (.bin .mul (.bin .mod (.bin .fdiv (.v 8) (.int 15)) (.int 5)) (.bin .add (.v 9) (.int 1)))),(.int 7)])])
theorem eT (Φ:aA):∀ (a b:List CS) (ρ ρ':aC),bc Φ a ρ = ok (.nx,ρ') -> bc Φ (a ++ b) ρ = bc Φ b ρ'
 | [],b,ρ,ρ',h=>by cases h;rfl
 | s :: a,b,ρ,ρ',h=>by
  rw [cR] at h
  rw [List.cons_append,cR]
  cases e:uI Φ s ρ with
  | none=>rw [e] at h;cases h
  | some r=>cases r with
   | error c=>rw [e] at h;cases h
   | ok r =>
    obtain ⟨fo,ρ1⟩:=r
    rw [e] at h
    cases fo with
    | nx=>exact eT Φ a b ρ1 ρ' h
    | _=>cases h
end DI
end
section
namespace DI
open PySem (Str)
@[simp] theorem MU (n x:Nat):(Hd n x).length = n:=by simp [Hd]
end DI
end
section
namespace DI
open PySem (Str)
noncomputable def c20:CS:=.setI 8 (.v 9) (.call 202 [(.ix (.v 8) (.v 9)),(.tup [(.int 1),(.bin .add (.int 1) (.bin .mod (.bin .fdiv (.call 200 [(.v 0),(.int 10)]) (.int 5)) (.int 9)))])])
end DI
end
section
namespace DI
open PySem (Str)
end DI
end
section
namespace DI
open PySem (Str)
end DI
end
section
namespace DI
open PySem (Str)
noncomputable def GF:CE:=.comp 1 (.nm 0) [1,3] .mP [(.ix (.v 0) (.int 0))] [] (.call 19 [(.v 1),(.v 2),(.v 0)])
noncomputable def Ez:List CS:=[.app 2 GF]
noncomputable def jL:List CS:=[.ex (.call 17 [(.v 0)]),.asg (.nm 1) (.call 14 [(.ix (.v 0) (.int 1))]),.asg (.nm 2) (.lst []),.fr (.nm 3) (.mP (.ix (.v 0) (.int 0))) Ez,.ret (.v 2)]
noncomputable def jO (m:List D -> O D):Prop:=∀ k n rs,Dr k n rs -> m [bw n rs] = ok (.lst .ow (aO n rs .ow 0 n))
theorem yr (Φ:aA) (RE:nW (Φ 19)) {d n:Nat} {rs:List Row} (I:Dr d n rs):∀ (k j:Nat) (ds:List D) (c3:Option D),j + k <= 12 -> ds.length = j ->
  ∃ xV,d9 (fun d ρ=>bU (.nm 3) d ρ) (fun ρ=>bc Φ Ez ρ) ((List.range' j k).map fun (i:Nat)=>D.int (i:Int)) [some (bw n rs),some (.tup [.int (bY (cq rs)),.lst .ow (rY (bY (cq rs)) rs)]),some (.lst .ow ds),c3] =
   ok (.nx,[some (bw n rs),some (.tup [.int (bY (cq rs)),.lst .ow (rY (bY (cq rs)) rs)]),some (.lst .ow (ds ++ aO n rs .ow j k)),xV])
 | 0,j,ds,c3,_,_=>⟨c3,by simp [fF,aO]⟩
 | k + 1,j,ds,c3,hj,hq=>by
  have hn:=I.n2
  have m2:aD bo (bw n rs) = bw n rs:=by simp [bw]
  have hd:bw n rs = .tup [.int n,.lst .fz (cm rs)]:=rfl
  have x0:vG (bw n rs) (.int 0) = ok (.int n):=by rw [hd];simp
  have k1:aN Φ GF [some (bw n rs),some (.tup [.int (bY (cq rs)),.lst .ow (rY (bY (cq rs)) rs)]),some (.lst .ow ds),some (.int j)] = ok (.lst .ow (aB ((List.range' 0 n).map fun (h:Nat)=>af rs j h))):=by
   unfold GF
   rw [cE (xs:=[.int n]) (ds:=(List.range n).map fun (h:Nat)=>qD (af rs j h)) (by simp [m2,x0]) (s_ Φ (by omega) (by omega)) (bA fun k' hk=>?_) (by simp;exact bx (by omega))]
   ·simp [aB,aw,List.range_eq_range']
   ·have e:=RE d n rs j k' I
    exact ⟨[some (.int k'),some (.tup [.int (bY (cq rs)),.lst .fz (rY (bY (cq rs)) rs)]),some (.int j)],by simp [aY],by simp,by simp [e]⟩
  obtain ⟨xV,ih⟩:=yr Φ RE I k (j + 1) (ds ++ [.lst .ow (aB ((List.range' 0 n).map fun (h:Nat)=>af rs j h))]) (some (.int j)) (by omega) (by simp [hq])
  have ep:aO n rs .ow j (k + 1) = .lst .ow (aB ((List.range' 0 n).map fun (h:Nat)=>af rs j h)) :: aO n rs .ow (j + 1) k:=by unfold aO;rw [List.range'_succ,List.map_cons]
  rw [List.range'_succ,List.map_cons,ep]
  have hc:ds.length < eN:=by show _ < 1000000;omega
  refine ⟨xV,cL (ρ1:=[some (bw n rs),some (.tup [.int (bY (cq rs)),.lst .ow (rY (bY (cq rs)) rs)]),some (.lst .ow ds),some (.int j)]) (by simp) (ρ2:=[some (bw n rs),some (.tup [.int (bY (cq rs)),.lst .ow (rY (bY (cq rs)) rs)]),some (.lst .ow (ds ++ [.lst .ow (aB ((List.range' 0 n).map fun (h:Nat)=>af rs j h))])),some (.int j)]) ?_ ?_⟩
  ·simp [Ez,Ka Φ GF _ rfl,k1,hc]
  ·exact ih.trans (by simp)
theorem Ab (Φ:aA) (X4:jN (Φ 14)) (h17:kr (Φ 17)) (RE:nW (Φ 19)):jO (mk Φ 1 4 jL):=by
 intro k n rs I
 have hn:=I.n2
 have e1:=h17 k n rs I
 have e2:=X4 rs k I.Nm
 have m2:aD bo (bw n rs) = bw n rs:=by simp [bw]
 have m1:aD aL (bw n rs) = bw n rs:=by simp [bw]
 have hd:bw n rs = .tup [.int n,.lst .fz (cm rs)]:=rfl
 have x1:vG (bw n rs) (.int 1) = ok (.lst .fz (cm rs)):=by rw [hd];simp
 have x0:∀ r:aC,aN Φ (.ix (.v 0) (.int 0)) (some (bw n rs) :: r) = ok (.int n):=fun r=>by simp [bw]
 obtain ⟨a3,el⟩:=yr Φ RE I n 0 [] none (by omega) rfl
 have hit:=CT (Φ:=Φ) (a:=.ix (.v 0) (.int 0)) (ρ:=[some (bw n rs),some (.tup [.int (bY (cq rs)),.lst .ow (rY (bY (cq rs)) rs)]),some (.lst .ow []),none]) (n:=n) (x0 _) (by omega) (by omega)
 rw [Int.toNat_natCast,List.range_eq_range'] at hit
 have hf:=eZ (Φ:=Φ) (t:=.nm 3) (b:=Ez) hit el
 rw [List.nil_append] at hf
 simp [mk_eq,jL,m1,m2,x1,e1,e2,hf]
noncomputable def pW (p:Int × Int):D:=.tup [.int p.1,.int p.2]
noncomputable def bP (ps:List (Int × Int)):List D:=ps.map pW
@[simp] theorem FL (g:Fl -> Fl) (p:Int × Int):aD g (pW p) = pW p:=by unfold pW;simp
@[simp] theorem Gm (g:Fl -> Bool) (p:Int × Int):aT g (pW p) = false:=by unfold pW;simp
@[simp] theorem rq (g:Fl -> Fl) (ps:List (Int × Int)):ai g (bP ps) = bP ps:=de g (FL g) ps
@[simp] theorem rC (g:Fl -> Bool) (ps:List (Int × Int)):az g (bP ps) = false:=cf g (Gm g) ps
@[simp] theorem MV (ps:List (Int × Int)):(bP ps).length = ps.length:=List.length_map ..
noncomputable def gv (hs gs:List Int):List (Int × Int):=gs.flatMap fun g=>hs.map fun h=>(g,h)
noncomputable def GN:CE:=.comp 1 (.nm 0) [2] .seq [(.v 0)] [] (.tup [(.v 1),(.v 0)])
noncomputable def EC:List CS:=[.mut 1013 1 [GN]]
noncomputable def ur:List CS:=[.asg (.nm 1) (.lst []),.fr (.nm 2) (.seq (.v 0)) EC,.ret (.v 1)]
noncomputable def lF:List CS:=[.ret (.ix (.ix (.v 0) (.ix (.v 1) (.int 0))) (.ix (.v 1) (.int 1)))]
noncomputable def uq:List CS:=[.ret (.call 6 [(.ix (.ix (.v 0) (.ix (.v 1) (.int 0))) (.ix (.v 1) (.int 0))),(.ix (.ix (.v 0) (.ix (.v 1) (.int 1))) (.ix (.v 1) (.int 1)))])]
noncomputable def hX (m:List D -> O D):Prop:=∀ n rs (g h:Nat),g < n -> h < n -> m [.lst .fz (aO n rs .fz 0 n),pW (g,h)] = ok (qD (af rs g h))
noncomputable def uF (m:List D -> O D):Prop:=∀ k n rs (g h:Nat),Dr k n rs -> g < n -> h < n -> m [.lst .fz (aO n rs .fz 0 n),pW (g,h)] = ok (qD (af rs g g * af rs h h))
theorem i5 {n:Nat} {rs:List Row} {g h:Nat} (hh:h < n):wD (aB ((List.range' 0 n).map fun (h:Nat)=>af rs g h)) (h:Int) = ok (qD (af rs g h)):=by
 have a2:=jn (qs:=(List.range' 0 n).map fun (h:Nat)=>af rs g h) (h:=(h:Int)) (by omega) (by simp;omega)
 have a3:fP ((List.range' 0 n).map fun (h:Nat)=>af rs g h) (h:Int) = af rs g h:=by
  unfold fP
  rw [Int.toNat_natCast,List.getD_eq_getElem?_getD,List.getElem?_map,List.getElem?_range' hh]
  simp
 rw [a3] at a2
 exact a2
@[simp] theorem WU (p:Int × Int):vG (pW p) (.int 0) = ok (.int p.1):=by unfold pW;simp
@[simp] theorem WT (p:Int × Int):vG (pW p) (.int 1) = ok (.int p.2):=by unfold pW;simp
theorem BX (Φ:aA):hX (mk Φ 2 2 lF):=by
 intro n rs g h hg hh
 have a1:=oA (rs:=rs) (f:=.fz) hg
 have a2:=i5 (rs:=rs) (g:=g) hh
 simp [mk_eq,lF,bK,a1,a2]
theorem Jd (Φ:aA) (h6:fI (Φ 6)):uF (mk Φ 2 2 uq):=by
 intro k n rs g h I hg hh
 have a1:=oA (rs:=rs) (f:=.fz) hg
 have a2:=i5 (rs:=rs) (g:=g) hg
 have a3:=oA (rs:=rs) (f:=.fz) hh
 have a4:=i5 (rs:=rs) (g:=h) hh
 have e:=h6 _ _ ((bh I g g).mono (by decide)) ((bh I h h).mono (by decide))
 simp [mk_eq,uq,bK,a1,a2,a3,a4,e]
noncomputable def qk (rs:List Row) (ws xs:List Rat) (g h:Int):Rat:=(af rs g h - af rs g g * af rs h h) * (fP ws g * fP xs g * (fP ws h * fP xs h))
noncomputable def nN:List CS:=[.asg (.nm 4) (.call 6 [(.ix (.v 2) (.ix (.v 1) (.int 0))),(.ix (.v 3) (.ix (.v 1) (.int 0)))]),.asg (.nm 5) (.call 6 [(.ix (.v 2) (.ix (.v 1) (.int 1))),(.ix (.v 3) (.ix (.v 1) (.int 1)))]),.ret (.call 6 [(.call 5 [(.call 62 [(.v 0),(.v 1)]),(.call 61 [(.v 0),(.v 1)])]),(.call 6 [(.v 4),(.v 5)])])]
noncomputable def uz (m:List D -> O D):Prop:=∀ k n rs f f' ws xs j (g h:Nat),Dr k n rs -> Gs j n ws xs -> g < n -> h < n -> m [.lst .fz (aO n rs .fz 0 n),pW (g,h),.lst f (aB ws),.lst f' (aB xs)] = ok (qD (qk rs ws xs g h))
theorem ET (Φ:aA) (h5:ko (Φ 5)) (h6:fI (Φ 6)) (XO:uF (Φ 61)) (KY:hX (Φ 62)):uz (mk Φ 4 6 nN):=by
 intro k n rs f f' ws xs j g h I G hg hh
 have hj:=G.jj
 have l1:=G.l1
 have l2:=G.l2
 have sg:=G.s1 _ (ba (qs:=ws) (h:=(g:Int)) (by omega) (by omega)).2
 have sh:=G.s1 _ (ba (qs:=ws) (h:=(h:Int)) (by omega) (by omega)).2
 have tg:=G.s2 _ (ba (qs:=xs) (h:=(g:Int)) (by omega) (by omega)).2
 have th:=G.s2 _ (ba (qs:=xs) (h:=(h:Int)) (by omega) (by omega)).2
 have a1:=jn (qs:=ws) (h:=(g:Int)) (by omega) (by omega)
 have a2:=jn (qs:=ws) (h:=(h:Int)) (by omega) (by omega)
 have a3:=jn (qs:=xs) (h:=(g:Int)) (by omega) (by omega)
 have a4:=jn (qs:=xs) (h:=(h:Int)) (by omega) (by omega)
 have e1:=h6 _ _ (sg.mono (by omega)) (tg.mono (by omega))
 have e2:=h6 _ _ (sh.mono (by omega)) (th.mono (by omega))
 have e3:=h6 _ _ ((sg.mul tg).mono (by omega)) ((sh.mul th).mono (by omega))
 have e4:=XO k n rs g h I hg hh
 have e5:=KY n rs g h hg hh
 have s1:=bh I g h
 have s2:=(bh I g g).mul (bh I h h)
 have e6:=h5 _ _ (s1.mono (by decide)) (s2.mono (by decide))
 have e7:=h6 _ _ ((s1.sub s2).mono (by decide)) (((sg.mul tg).mul (sh.mul th)).mono (by omega))
 simp [mk_eq,nN,bK,a1,a2,a3,a4,e1,e2,e3,e4,e5,e6,e7]
 rfl
theorem DT {hs gs:List Int} {p:Int × Int}:p ∈ gv hs gs ↔ p.1 ∈ gs /\ p.2 ∈ hs:=by
 unfold gv
 simp only [List.mem_flatMap,List.mem_map]
 constructor
 ·rintro ⟨g,hg,h,hh,rfl⟩;exact ⟨hg,hh⟩
 ·rintro ⟨h1,h2⟩;exact ⟨p.1,h1,p.2,h2,rfl⟩
theorem wH (hs:List Int):∀ gs:List Int,(gv hs gs).length = gs.length * hs.length
 | []=>by simp [gv]
 | g :: gs=>by
  have e:gv hs (g :: gs) = (hs.map fun h=>(g,h)) ++ gv hs gs:=by simp [gv]
  rw [e,List.length_append,List.length_map,wH hs gs,List.length_cons,Nat.succ_mul];omega
end DI
end
section
namespace DI
open PySem (Str)
noncomputable def uG (m:List D -> O D):Prop:=∀ hs,hs.length <= 12 -> m [.tup (ab hs)] = ok (.lst .ow (bP (gv hs hs)))
theorem wF (Φ:aA) (iP:Φ 1013 = tN) (hs:List Int) (hl:hs.length <= 12):∀ (gs:List Int) (acc:List (Int × Int)) (c:Option D),acc.length + 12 * gs.length <= 200 ->
  ∃ c',d9 (fun d ρ=>bU (.nm 2) d ρ) (fun ρ=>bc Φ EC ρ) (ab gs) [some (.tup (ab hs)),some (.lst .ow (bP acc)),c] = ok (.nx,[some (.tup (ab hs)),some (.lst .ow (bP (acc ++ gv hs gs))),c'])
 | [],acc,c,_=>⟨c,by simp [fF,gv]⟩
 | g :: gs,acc,c,h=>by
  rw [List.length_cons] at h
  have k1:aN Φ GN [some (.tup (ab hs)),some (.lst .ow (bP acc)),some (.int g)] = ok (.lst .ow (bP (hs.map fun h=>(g,h)))):=by
   unfold GN
   rw [cE (xs:=[.tup (ab hs)]) (items:=hs.map D.int) (ds:=hs.map fun h=>pW (g,h)) (by simp) (by rw [nH,gy];rfl) (bA fun h hh=>⟨[some (.int h),some (.int g)],by simp [aY],by simp,by simp [pW]⟩) (by simp;exact bx (by omega))]
   simp [bP,aw]
  have e1:Φ 1013 [.lst .ow (bP acc),.lst .ow (bP (hs.map fun h=>(g,h)))] = ok (.lst .ow (bP (acc ++ hs.map fun h=>(g,h)))):=by
   rw [iP]
   show (if az anyF (bP (hs.map fun h=>(g,h))) = false /\ (bP acc).length + (bP (hs.map fun h=>(g,h))).length <= eN then ok (D.lst .ow (bP acc ++ bP (hs.map fun h=>(g,h)))) else none) = _
   rw [if_pos ⟨rC _ _,by simp;exact bx (by omega)⟩]
   unfold bP
   rw [List.map_append]
  have hx:=Bq (Φ:=Φ) (p:=1013) (i:=1) (es:=[GN]) (ρ:=[some (.tup (ab hs)),some (.lst .ow (bP acc)),some (.int g)]) (xs:=[.lst .ow (bP (hs.map fun h=>(g,h)))]) (by simp [k1]) (by simp) rfl e1
  obtain ⟨c',ih⟩:=wF Φ iP hs hl gs (acc ++ hs.map fun h=>(g,h)) (some (.int g)) (by simp;omega)
  refine ⟨c',cL (ρ1:=[some (.tup (ab hs)),some (.lst .ow (bP acc)),some (.int g)]) (by simp) (ρ2:=[some (.tup (ab hs)),some (.lst .ow (bP (acc ++ hs.map fun h=>(g,h)))),some (.int g)]) ?_ ?_⟩
  ·rw [EC,cR,hx];simp
  ·exact ih.trans (by simp [gv])
theorem EZ (Φ:aA) (iP:Φ 1013 = tN):uG (mk Φ 1 3 ur):=by
 intro hs hl
 obtain ⟨c,el⟩:=wF Φ iP hs hl hs [] none (by simp;omega)
 have hit:cK Φ (.seq (.v 0)) [some (.tup (ab hs)),some (.lst .ow []),none] = ok (ab hs,[some (.tup (ab hs)),some (.lst .ow []),none]):=by
  rw [Ki (ds:=ab hs) (by simp)];simp
 have hx:=eZ (Φ:=Φ) (t:=.nm 2) (b:=EC) hit el
 rw [List.nil_append] at hx
 simp [mk_eq,ur,hx]
noncomputable def i4:List Int -> List (Int × Int)
 | []=>[]
 | g :: gs=>gs.map (fun h=>(g,h)) ++ i4 gs
noncomputable def GD:CE:=.comp 1 (.nm 0) [3] .seq [(.eE 1023 [(.v 0),(.bin .add (.v 2) (.int 1))])] [] (.tup [(.v 1),(.v 0)])
noncomputable def Ey:List CS:=[.mut 1013 1 [GD]]
noncomputable def uk:List CS:=[.asg (.nm 1) (.lst []),.fr (.tp [2,3]) (.D1 1002 [(.v 0)]) Ey,.ret (.v 1)]
noncomputable def xZ (m:List D -> O D):Prop:=∀ hs,hs.length <= 12 -> m [.tup (ab hs)] = ok (.lst .ow (bP (i4 hs)))
theorem yp (Φ:aA) (iP:Φ 1013 = tN) (oX:Φ 1023 = pA) (hs:List Int) (hl:hs.length <= 12):∀ (gs:List Int) (j:Nat) (acc:List (Int × Int)) (c2 c3:Option D),hs.drop j = gs -> acc.length + 12 * gs.length <= 200 ->
  ∃ ue xV,d9 (fun d ρ=>bU (.tp [2,3]) d ρ) (fun ρ=>bc Φ Ey ρ) (bj j (ab gs)) [some (.tup (ab hs)),some (.lst .ow (bP acc)),c2,c3] = ok (.nx,[some (.tup (ab hs)),some (.lst .ow (bP (acc ++ i4 gs))),ue,xV])
 | [],j,acc,c2,c3,_,_=>⟨c2,c3,by simp [fF,i4,bj]⟩
 | g :: gs,j,acc,c2,c3,hd,h=>by
  rw [List.length_cons] at h
  have hj:j < hs.length:=by
   have:=congrArg List.length hd
   rw [List.length_drop,List.length_cons] at this
   omega
  have Rq:gs.length <= 12:=by
   have:=congrArg List.length hd
   rw [List.length_drop,List.length_cons] at this
   omega
  have Rw:hs.drop (j + 1) = gs:=by
   rw [<- List.drop_drop,hd];rfl
  have e0:Φ 1023 [.tup (ab hs),.int ((j:Int) + 1)] = ok (.tup (ab gs)):=by
   rw [oX]
   show (if 1 <= ((j:Int) + 1) /\ ((j:Int) + 1) <= ((ab hs).length:Nat) /\ az anyF (ab hs) = false then ok (D.tup ((ab hs).drop ((j:Int) + 1).toNat)) else none) = _
   rw [if_pos ⟨by omega,by simp;omega,by simp⟩,show ((j:Int) + 1).toNat = j + 1 by omega]
   unfold ab
   rw [<- List.map_drop,Rw]
  have k1:aN Φ GD [some (.tup (ab hs)),some (.lst .ow (bP acc)),some (.int j),some (.int g)] = ok (.lst .ow (bP (gs.map fun h=>(g,h)))):=by
   unfold GD
   rw [cE (xs:=[.tup (ab gs)]) (items:=gs.map D.int) (ds:=gs.map fun h=>pW (g,h)) (by simp [e0]) (by rw [nH,gy];rfl) (bA fun h hh=>⟨[some (.int h),some (.int g)],by simp [aY],by simp,by simp [pW]⟩) (by simp;exact bx (by omega))]
   simp [bP,aw]
  have e1:Φ 1013 [.lst .ow (bP acc),.lst .ow (bP (gs.map fun h=>(g,h)))] = ok (.lst .ow (bP (acc ++ gs.map fun h=>(g,h)))):=by
   rw [iP]
   show (if az anyF (bP (gs.map fun h=>(g,h))) = false /\ (bP acc).length + (bP (gs.map fun h=>(g,h))).length <= eN then ok (D.lst .ow (bP acc ++ bP (gs.map fun h=>(g,h)))) else none) = _
   rw [if_pos ⟨rC _ _,by simp;exact bx (by omega)⟩]
   unfold bP
   rw [List.map_append]
  have hx:=Bq (Φ:=Φ) (p:=1013) (i:=1) (es:=[GD]) (ρ:=[some (.tup (ab hs)),some (.lst .ow (bP acc)),some (.int j),some (.int g)]) (xs:=[.lst .ow (bP (gs.map fun h=>(g,h)))]) (by simp [k1]) (by simp) rfl e1
  obtain ⟨ue,xV,ih⟩:=yp Φ iP oX hs hl gs (j + 1) (acc ++ gs.map fun h=>(g,h)) (some (.int j)) (some (.int g)) Rw (by simp;omega)
  refine ⟨ue,xV,cL (ρ1:=[some (.tup (ab hs)),some (.lst .ow (bP acc)),some (.int j),some (.int g)]) (by simp) (ρ2:=[some (.tup (ab hs)),some (.lst .ow (bP (acc ++ gs.map fun h=>(g,h)))),some (.int j),some (.int g)]) ?_ ?_⟩
  ·rw [Ey,cR,hx];simp
  ·exact ih.trans (by simp [i4])
theorem rL (g:Fl -> Fl):∀ (hs:List Int) (j:Nat),ai g (bj j (ab hs)) = bj j (ab hs)
 | [],_=>rfl
 | h :: hs,j=>by
  show aD g (.tup [.int j,.int h]) :: ai g (bj (j + 1) (ab hs)) = _
  rw [rL g hs (j + 1)];rfl
theorem I9 (Φ:aA) (yY:Φ 1002 = my) (iP:Φ 1013 = tN) (oX:Φ 1023 = pA):xZ (mk Φ 1 4 uk):=by
 intro hs hl
 obtain ⟨c2,c3,el⟩:=yp Φ iP oX hs hl hs 0 [] none none rfl (by simp;omega)
 have hit:cK Φ (.D1 1002 [(.v 0)]) [some (.tup (ab hs)),some (.lst .ow []),none,none] = ok (bj 0 (ab hs),[some (.tup (ab hs)),some (.lst .ow []),none,none]):=by
  have hI:∀ ρ,cK Φ (.D1 1002 [(.v 0)]) ρ = bd (cM Φ [(.v 0)] ρ) fun xs=>bd (Φ 1002 xs) fun d=>bd (qc d) fun items=>ok (items,if az cn xs then je (dw [(.v 0)]) ρ else ρ):=fun _=>rfl
  rw [hI]
  have:cM Φ [(.v 0)] [some (.tup (ab hs)),some (.lst .ow []),none,none] = ok [.tup (ab hs)]:=by simp
  rw [this,dt,yY]
  show bd (ok (D.lst .ow (bj 0 (ab hs)))) _ = _
  rw [dt]
  show bd (ok (ai aL (bj 0 (ab hs)))) _ = _
  rw [dt,rL]
  simp
 have hx:=eZ (Φ:=Φ) (t:=.tp [2,3]) (b:=Ey) hit el
 rw [List.nil_append] at hx
 simp [mk_eq,uk,hx]
noncomputable def yd:List CS:=[.ifs (.cmp .eq (.ix (.v 2) (.int 0)) (.int 0)) [.rs 6] []]
noncomputable def ye:List CS:=[.fr (.nm 2) (.seq (.v 1)) yd]
noncomputable def nU:List CS:=[.fr (.nm 1) (.seq (.v 0)) ye]
noncomputable def nX (m:List D -> O D):Prop:=∀ n rs,n <= 12 -> (∀ g h:Nat,g < n -> h < n -> 0 < af rs g h) -> m [.lst .fz (aO n rs .fz 0 n)] = ok .bE
theorem wb (Φ:aA) (c0 c1:Option D):∀ (qs:List Rat) (c2:Option D),(∀ q ∈ qs,0 < q) -> ∃ ue,d9 (fun d ρ=>bU (.nm 2) d ρ) (fun ρ=>bc Φ yd ρ) (aB qs) [c0,c1,c2] = ok (.nx,[c0,c1,ue])
 | [],c2,_=>⟨c2,rfl⟩
 | q :: qs,c2,h=>by
  have hq:=rb (h q List.mem_cons_self)
  obtain ⟨ue,ih⟩:=wb Φ c0 c1 qs (some (qD q)) fun p hp=>h p (List.mem_cons_of_mem _ hp)
  have c:eM .eq (.int q.num) (.int 0) = ok (.bl false):=by
   rw [DL rfl rfl];show ok (D.bl (q.num == 0)) = _;rw [beq_eq_false_iff_ne.mpr (by omega)]
  refine ⟨ue,cL (ρ1:=[c0,c1,some (qD q)]) (by simp) (ρ2:=[c0,c1,some (qD q)]) ?_ ih⟩
  simp [yd,c]
theorem wc (Φ:aA) {n:Nat} {rs:List Row} (hp:∀ g h:Nat,g < n -> h < n -> 0 < af rs g h) (c0:Option D):∀ (k j:Nat) (c1 c2:Option D),j + k <= n -> ∃ Bl ue,d9 (fun d ρ=>bU (.nm 1) d ρ) (fun ρ=>bc Φ ye ρ) (aO n rs .fz j k) [c0,c1,c2] = ok (.nx,[c0,Bl,ue])
 | 0,j,c1,c2,_=>⟨c1,c2,rfl⟩
 | k + 1,j,c1,c2,h=>by
  obtain ⟨a2,e2⟩:=wb Φ c0 (some (.lst .fz (aB ((List.range' 0 n).map fun (h:Nat)=>af rs j h)))) ((List.range' 0 n).map fun (h:Nat)=>af rs j h) c2 fun q hq=>by
   obtain ⟨i,hi,rfl⟩:=List.mem_map.mp hq
   have:=List.mem_range'_1.mp hi
   exact hp j i (by omega) (by omega)
  have hit:cK Φ (.seq (.v 1)) [c0,some (.lst .fz (aB ((List.range' 0 n).map fun (h:Nat)=>af rs j h))),c2] = ok (aB ((List.range' 0 n).map fun (h:Nat)=>af rs j h),[c0,some (.lst .fz (aB ((List.range' 0 n).map fun (h:Nat)=>af rs j h))),c2]):=by
   rw [Ap (f:=.fz) (ds:=aB ((List.range' 0 n).map fun (h:Nat)=>af rs j h)) (by simp)];simp
  have hf:=eZ (Φ:=Φ) (t:=.nm 2) (b:=yd) hit e2
  obtain ⟨Bl,ue,ih⟩:=wc Φ hp c0 k (j + 1) (some (.lst .fz (aB ((List.range' 0 n).map fun (h:Nat)=>af rs j h)))) a2 (by omega)
  have ep:aO n rs .fz j (k + 1) = .lst .fz (aB ((List.range' 0 n).map fun (h:Nat)=>af rs j h)) :: aO n rs .fz (j + 1) k:=by unfold aO;rw [List.range'_succ,List.map_cons]
  rw [ep]
  refine ⟨Bl,ue,cL (ρ1:=[c0,some (.lst .fz (aB ((List.range' 0 n).map fun (h:Nat)=>af rs j h))),c2]) (by simp) (ρ2:=[c0,some (.lst .fz (aB ((List.range' 0 n).map fun (h:Nat)=>af rs j h))),a2]) ?_ ih⟩
  rw [ye,cR,hf];rfl
theorem EY (Φ:aA):nX (mk Φ 1 3 nU):=by
 intro n rs hn hp
 obtain ⟨c1,c2,el⟩:=wc Φ hp (some (.lst .fz (aO n rs .fz 0 n))) n 0 none none (by omega)
 have hit:cK Φ (.seq (.v 0)) [some (.lst .fz (aO n rs .fz 0 n)),none,none] = ok (aO n rs .fz 0 n,[some (.lst .fz (aO n rs .fz 0 n)),none,none]):=by
  rw [Ap (f:=.fz) (ds:=aO n rs .fz 0 n) (by simp [bK])]
  have:=lp cn n rs .fz 0 n rfl
  simp [bK,this]
 have hx:=eZ (Φ:=Φ) (t:=.nm 1) (b:=ye) hit el
 simp [mk_eq,nU,hx]
noncomputable def LC:CE:=.comp 2 (.tp [0,1]) [] .seq [(.ix (.v 1) (.int 1))] [] (.v 1)
noncomputable def um:List CS:=[.ifs (.or [(.not (.call 11 [(.v 0),(.ix (.v 1) (.int 0))])),(.eE 1043 [(.v 0),LC])]) [.rs 7] []]
noncomputable def uC (m:List D -> O D):Prop:=∀ k n rs r,Dr k n rs -> r ∈ rs -> m [.tup (ab r.2),bw n rs] = ok .bE
theorem Ja (Φ:aA) (X5:lO (Φ 11)) (yT:Φ 1043 = Ma):uC (mk Φ 2 2 um):=by
 intro k n rs r I hr
 have hl:=I.lot r hr
 have e1:=X5 (.tup (ab r.2)) n (hl.eN I.n2)
 rw [hl.oJ] at e1
 have m2:aD bo (bw n rs) = bw n rs:=by simp [bw]
 have m1:aD aL (bw n rs) = bw n rs:=by simp [bw]
 have hd:bw n rs = .tup [.int n,.lst .fz (cm rs)]:=rfl
 have x0:vG (bw n rs) (.int 0) = ok (.int n):=by rw [hd];simp
 have x1:vG (bw n rs) (.int 1) = ok (.lst .fz (cm rs)):=by rw [hd];simp
 have k1:aN Φ LC [some (.tup (ab r.2)),some (bw n rs)] = ok (.lst .ow (gz rs)):=by
  unfold LC
  rw [cE (xs:=[.lst .fz (cm rs)]) (items:=cm rs) (ds:=rs.map fun r=>.tup (ab r.2)) (by simp [m2,x1]) (by rw [dC];simp) (bA fun r hr=>?_) (by simp;exact bx (by have:=I.len;omega))]
  ·exact congrArg (fun x=>ok (D.lst .ow x)) (kc kg rs)
  ·exact ⟨[some (qD r.1),some (.tup (ab r.2))],by simp [aY,rD],by simp,by simp⟩
 have e2:Φ 1043 [.tup (ab r.2),.lst .ow (gz rs)] = ok (.bl false):=by
  rw [yT]
  show (if b_ 8 (.tup (ab r.2)) = true /\ (gz rs).all (b_ 8) = true then ok (D.bl (!(gz rs).any fun d=>gO d (.tup (ab r.2)))) else none) = _
  rw [if_pos ⟨rm 7 r.2,by
   rw [List.all_eq_true];intro d hd
   unfold gz at hd
   obtain ⟨s,_,rfl⟩:=List.mem_map.mp hd
   exact rm 7 s.2⟩]
  have:((gz rs).any fun d=>gO d (.tup (ab r.2))) = true:=by
   rw [List.any_eq_true]
   refine ⟨.tup (ab r.2),by unfold gz;exact List.mem_map_of_mem hr,?_⟩
   show dy (ab r.2) (ab r.2) = true
   rw [v5];simp
  rw [this];rfl
 simp [mk_eq,um,m1,m2,x0,e1,k1,e2]
noncomputable def Ly:CE:=.comp 2 (.tp [0,1]) [] .seq [(.ix (.v 0) (.int 1))] [] (.bf .len [(.v 1)])
noncomputable def nP:List CS:=[.ifs (.cmp .ne (.eE 1042 [Ly]) (.int 1)) [.rs 5] []]
noncomputable def uA (m:List D -> O D):Prop:=∀ k n rs (z:Nat),Dr k n rs -> (∀ r ∈ rs,r.2.length = z) -> m [bw n rs] = ok .bE
theorem AQ (z:Int):∀ (m:Nat),(ji (List.replicate (m + 1) z)).length = 1:=fun m=>by
 unfold ji
 rw [List.replicate_succ,List.foldl_cons]
 have:∀ m:Nat,(List.replicate m z).foldl (fun (m:List Int) (k:Int)=>if m.any (· == k) then m else m ++ [k]) [z] = [z]:=fun m=>by
  induction m with
  | zero=>rfl
  | succ m ih =>
   rw [List.replicate_succ,List.foldl_cons]
   have:([z].any (· == z)) = true:=by simp
   rw [if_pos this,ih]
 have e:(if (([]:List Int).any (· == z)) = true then ([]:List Int) else [] ++ [z]) = [z]:=rfl
 rw [e,this];rfl
theorem EU (Φ:aA) (yU:Φ 1042 = xm):uA (mk Φ 1 1 nP):=by
 intro k n rs z I hz
 have hlen:=I.len
 obtain ⟨m,hm⟩:∃ m,rs.length = m + 1:=⟨rs.length - 1,by have:=I.some;omega⟩
 have m2:aD bo (bw n rs) = bw n rs:=by simp [bw]
 have hd:bw n rs = .tup [.int n,.lst .fz (cm rs)]:=rfl
 have x1:vG (bw n rs) (.int 1) = ok (.lst .fz (cm rs)):=by rw [hd];simp
 have k1:aN Φ Ly [some (bw n rs)] = ok (.lst .ow (ab (List.replicate (m + 1) (z:Int)))):=by
  unfold Ly
  rw [cE (xs:=[.lst .fz (cm rs)]) (items:=cm rs) (ds:=rs.map fun r=>.int (r.2.length:Int)) (by simp [m2,x1]) (by rw [dC];simp) (bA fun r hr=>?_) (by simp;exact bx (by omega))]
  ·have e:(rs.map fun r=>D.int (r.2.length:Int)) = ab (List.replicate (m + 1) (z:Int)):=by
    rw [<- hm]
    unfold ab
    rw [List.map_replicate]
    refine List.eq_replicate_iff.mpr ⟨by simp,fun d hd=>?_⟩
    obtain ⟨r,hr,rfl⟩:=List.mem_map.mp hd
    rw [hz r hr]
   rw [e];simp
  ·exact ⟨[some (qD r.1),some (.tup (ab r.2))],by simp [aY,rD],by simp,by simp⟩
 have e2:Φ 1042 [.lst .ow (ab (List.replicate (m + 1) (z:Int)))] = ok (.int 1):=by
  rw [yU]
  show (match intsOf (ab (List.replicate (m + 1) (z:Int))) with | some ns=>if ns.length < 4000 then ok (D.int (ji ns).length) else none | none=>none) = _
  unfold ab
  rw [bq]
  show (if (List.replicate (m + 1) (z:Int)).length < 4000 then ok (D.int (ji (List.replicate (m + 1) (z:Int))).length) else none) = _
  rw [if_pos (by rw [List.length_replicate];omega),AQ];rfl
 have c:eM .ne (.int 1) (.int 1) = ok (.bl false):=rfl
 simp [mk_eq,nP,k1,e2,c]
noncomputable def gM (rs:List Row) (xs:List Rat) (g h:Int):Rat:=(af rs g g * af rs h h - af rs g h) * ((fP xs g / af rs g g - fP xs h / af rs h h) * (fP xs g / af rs g g - fP xs h / af rs h h))
noncomputable def zD:List CS:=[.asg (.nm 3) (.call 7 [(.ix (.v 2) (.ix (.v 1) (.int 0))),(.ix (.ix (.v 0) (.ix (.v 1) (.int 0))) (.ix (.v 1) (.int 0)))]),.asg (.nm 4) (.call 7 [(.ix (.v 2) (.ix (.v 1) (.int 1))),(.ix (.ix (.v 0) (.ix (.v 1) (.int 1))) (.ix (.v 1) (.int 1)))]),.asg (.nm 5) (.call 5 [(.v 3),(.v 4)]),.ret (.call 6 [(.call 5 [(.call 61 [(.v 0),(.v 1)]),(.call 62 [(.v 0),(.v 1)])]),(.call 6 [(.v 5),(.v 5)])])]
noncomputable def DU (m:List D -> O D):Prop:=∀ k n rs f xs j (g h:Nat),Dr k n rs -> xs.length = n -> (∀ q ∈ xs,Sm j q) -> j <= 100 -> g < n -> h < n -> 0 < af rs g g -> 0 < af rs h h -> m [.lst .fz (aO n rs .fz 0 n),pW (g,h),.lst f (aB xs)] = ok (qD (gM rs xs g h))
theorem Nw (Φ:aA) (h5:ko (Φ 5)) (h6:fI (Φ 6)) (h7:DV (Φ 7)) (XO:uF (Φ 61)) (KY:hX (Φ 62)):DU (mk Φ 3 6 zD):=by
 intro k n rs f xs j g h I l2 sx hj hg hh pg ph
 have ng:af rs g g ≠ 0:=fun z=>by rw [z] at pg;exact absurd pg (by decide)
 have nh:af rs h h ≠ 0:=fun z=>by rw [z] at ph;exact absurd ph (by decide)
 have tg:=sx _ (ba (qs:=xs) (h:=(g:Int)) (by omega) (by omega)).2
 have th:=sx _ (ba (qs:=xs) (h:=(h:Int)) (by omega) (by omega)).2
 have a3:=jn (qs:=xs) (h:=(g:Int)) (by omega) (by omega)
 have a4:=jn (qs:=xs) (h:=(h:Int)) (by omega) (by omega)
 have b1:=oA (rs:=rs) (f:=.fz) hg
 have b2:=i5 (rs:=rs) (g:=g) hg
 have b3:=oA (rs:=rs) (f:=.fz) hh
 have b4:=i5 (rs:=rs) (g:=h) hh
 have e1:=h7.1 _ _ (tg.mono (by omega)) ((bh I g g).mono (by decide)) ng
 have e2:=h7.1 _ _ (th.mono (by omega)) ((bh I h h).mono (by decide)) nh
 have q1:=tg.div (bh I g g) ng
 have q2:=th.div (bh I h h) nh
 have e3:=h5 _ _ (q1.mono (by omega)) (q2.mono (by omega))
 have q3:=q1.sub q2
 have e4:=h6 _ _ (q3.mono (by omega)) (q3.mono (by omega))
 have e5:=XO k n rs g h I hg hh
 have e6:=KY n rs g h hg hh
 have s1:=bh I g h
 have s2:=(bh I g g).mul (bh I h h)
 have e7:=h5 _ _ (s2.mono (by decide)) (s1.mono (by decide))
 have e8:=h6 _ _ ((s2.sub s1).mono (by decide)) ((q3.mul q3).mono (by omega))
 simp [mk_eq,zD,bK,a3,a4,b1,b2,b3,b4,e1,e2,e3,e4,e5,e6,e7,e8]
 rfl
noncomputable def L6 (rs:List Row) (ws xs:List Rat) (lot:List Int):Rat:=((gv lot lot).map fun p=>qk rs ws xs p.1 p.2 / af rs p.1 p.2).sum
noncomputable def HV (rs:List Row) (xs:List Rat) (lot:List Int):Rat:=((i4 lot).map fun p=>gM rs xs p.1 p.2 / af rs p.1 p.2).sum
noncomputable def GC:CE:=.comp 1 (.nm 0) [4,1,3] .seq [(.call 60 [(.v 2)])] [] (.call 7 [(.call 63 [(.v 1),(.v 0),(.v 2),(.v 3)]),(.call 62 [(.v 1),(.v 0)])])
noncomputable def GY:List CS:=[.asg (.nm 4) (.call 21 [(.v 0)]),.ex (.call 57 [(.v 4)]),.ex (.call 58 [(.v 2),(.v 0)]),.ex (.call 46 [(.v 1),(.ix (.v 0) (.int 0))]),.ex (.call 47 [(.v 3),(.ix (.v 0) (.int 0))]),.asg (.nm 5) GC,.ret (.call 42 [(.v 5)])]
noncomputable def lM (m:List D -> O D):Prop:=∀ k n rs r f g ws xs j i,Dr k n rs -> r ∈ rs -> Gs j n ws xs -> (∀ g h,Sm i (af rs g h)) -> (∀ g h:Nat,g < n -> h < n -> 0 < af rs g h) -> (4 * i + 1 + 4 * j) * (r.2.length * r.2.length) <= 3000 -> m [bw n rs,.lst f (aB ws),.tup (ab r.2),.lst g (aB xs)] = ok (qD (L6 rs ws xs r.2))
theorem rX.nat {n:Nat} {l:List Int} (h:rX n l) {x:Int} (hx:x ∈ l):∃ a:Nat,a < n /\ x = a:=⟨x.toNat,by have:=h.2 x hx;omega,by have:=h.2 x hx;omega⟩
theorem BW (Φ:aA) (h7:DV (Φ 7)) (X3:jO (Φ 21)) (XY:fJ (Φ 42)) (h46:jP 3 lK (Φ 46)) (XW:jP 4 lK (Φ 47)) (XR:nX (Φ 57)) (XQ:uC (Φ 58)) (h60:uG (Φ 60)) (KY:hX (Φ 62)) (h63:uz (Φ 63)):lM (mk Φ 4 6 GY):=by
 intro k n rs r f g ws xs j i I hr G hi hp hb
 have hn:=I.n2
 have ll:=I.lot r hr
 have hll:=ll.len
 have l1:=G.l1
 have l2:=G.l2
 have hj:=G.jj
 have e1:=X3 k n rs I
 have e2:=fun f=>h46 (.lst f (aB ws)) n (by show (aB ws).length <= 1000000;simp;omega)
 have e3:=fun f=>XW (.lst f (aB xs)) n (by show (aB xs).length <= 1000000;simp;omega)
 simp only [xX,l1,decide_true,if_true] at e2
 simp only [xX,l2,decide_true,if_true] at e3
 have e4:=XR n rs hn hp
 have e5:=XQ k n rs r I hr
 have e6:=h60 r.2 (by omega)
 have m2:aD bo (bw n rs) = bw n rs:=by simp [bw]
 have m1:aD aL (bw n rs) = bw n rs:=by simp [bw]
 have hd:bw n rs = .tup [.int n,.lst .fz (cm rs)]:=rfl
 have x0:vG (bw n rs) (.int 0) = ok (.int n):=by rw [hd];simp
 have hlen:=wH r.2 r.2
 have OM:r.2.length * r.2.length <= 144:=Nat.mul_le_mul (show r.2.length <= 12 by omega) (show r.2.length <= 12 by omega)
 have sz:∀ p ∈ gv r.2 r.2,∃ a b:Nat,a < n /\ b < n /\ p = ((a:Int),(b:Int)):=fun p hp=>by
  obtain ⟨p1,p2⟩:=DT.mp hp
  obtain ⟨a,ha,ea⟩:=ll.nat p1
  obtain ⟨b,hb,eb⟩:=ll.nat p2
  exact ⟨a,b,ha,hb,Prod.ext ea eb⟩
 have k1:∀ c5,aN Φ GC [some (bw n rs),some (.lst f (aB ws)),some (.tup (ab r.2)),some (.lst g (aB xs)),some (.lst .ow (aO n rs .ow 0 n)),c5] = ok (.lst .ow (aB ((gv r.2 r.2).map fun p=>qk rs ws xs p.1 p.2 / af rs p.1 p.2))):=fun c5=>by
  unfold GC
  rw [cE (xs:=[.lst .ow (bP (gv r.2 r.2))]) (items:=(gv r.2 r.2).map pW) (ds:=(gv r.2 r.2).map fun p=>qD (qk rs ws xs p.1 p.2 / af rs p.1 p.2)) (by simp [e6]) (by rw [dC,rq];rfl) (bA fun p oT=>⟨[some (pW p),some (.lst .fz (aO n rs .fz 0 n)),some (.lst (aL f) (aB ws)),some (.lst (aL g) (aB xs))],by simp [aY,bK],by simp,?_⟩) (by simp;exact bx (by omega))]
  ·simp [aB,aw]
  ·obtain ⟨a,b,ha,jU,rfl⟩:=sz p oT
   have e:=fun f g=>h63 k n rs f g ws xs j a b I G ha jU
   have e':=KY n rs a b ha jU
   have nz:af rs a b ≠ 0:=fun z=>by have:=hp a b ha jU;rw [z] at this;exact absurd this (by decide)
   have sg:=G.s1 _ (ba (qs:=ws) (h:=(a:Int)) (by omega) (by omega)).2
   have sh:=G.s1 _ (ba (qs:=ws) (h:=(b:Int)) (by omega) (by omega)).2
   have tg:=G.s2 _ (ba (qs:=xs) (h:=(a:Int)) (by omega) (by omega)).2
   have th:=G.s2 _ (ba (qs:=xs) (h:=(b:Int)) (by omega) (by omega)).2
   have sp:Sm 4000 (qk rs ws xs a b):=(((bh I a b).sub ((bh I a a).mul (bh I b b))).mul ((sg.mul tg).mul (sh.mul th))).mono (by omega)
   have Y6:=h7.1 (qk rs ws xs a b) (af rs a b) sp ((bh I a b).mono (by decide)) nz
   simp [bK,e,e',Y6]
 have e7:=fun f=>XY f ((gv r.2 r.2).map fun p=>qk rs ws xs p.1 p.2 / af rs p.1 p.2) (4 * i + 1 + 4 * j) ⟨fun q hq=>by
  obtain ⟨p,oT,rfl⟩:=List.mem_map.mp hq
  obtain ⟨a,b,ha,jU,rfl⟩:=sz p oT
  have nz:af rs a b ≠ 0:=fun z=>by have:=hp a b ha jU;rw [z] at this;exact absurd this (by decide)
  have sg:=G.s1 _ (ba (qs:=ws) (h:=(a:Int)) (by omega) (by omega)).2
  have sh:=G.s1 _ (ba (qs:=ws) (h:=(b:Int)) (by omega) (by omega)).2
  have tg:=G.s2 _ (ba (qs:=xs) (h:=(a:Int)) (by omega) (by omega)).2
  have th:=G.s2 _ (ba (qs:=xs) (h:=(b:Int)) (by omega) (by omega)).2
  exact ((((hi a b).sub ((hi a a).mul (hi b b))).mul ((sg.mul tg).mul (sh.mul th))).div (hi a b) nz).mono (by omega),by rw [List.length_map,hlen];exact hb,by rw [List.length_map,hlen];omega⟩
 have f1:kg .ow = .ow:=rfl
 have f2:=lp cn n rs .ow 0 n rfl
 simp [mk_eq,GY,m1,m2,x0,e1,e2,e3,e4,e5,Ka Φ GC _ rfl,k1,e7,bK,f1,f2]
 rfl
noncomputable def GI:CE:=.comp 1 (.nm 0) [3,2] .seq [(.call 59 [(.v 1)])] [] (.call 7 [(.call 64 [(.v 1),(.v 0),(.v 2)]),(.call 62 [(.v 1),(.v 0)])])
noncomputable def GZ:List CS:=[.asg (.nm 3) (.call 21 [(.v 0)]),.ex (.call 55 [(.v 0)]),.ex (.call 57 [(.v 3)]),.ex (.call 58 [(.v 1),(.v 0)]),.ex (.call 47 [(.v 2),(.ix (.v 0) (.int 0))]),.asg (.nm 4) GI,.ret (.call 42 [(.v 4)])]
noncomputable def lP (m:List D -> O D):Prop:=∀ k n rs r g xs j i z,Dr k n rs -> r ∈ rs -> (∀ r ∈ rs,r.2.length = z) -> xs.length = n -> (∀ q ∈ xs,Sm j q) -> j <= 100 -> (∀ g h,Sm i (af rs g h)) -> (∀ g h:Nat,g < n -> h < n -> 0 < af rs g h) -> (8 * i + 3 + 4 * j) * (r.2.length * r.2.length) <= 3000 -> m [bw n rs,.tup (ab r.2),.lst g (aB xs)] = ok (qD (HV rs xs r.2))
theorem ve:∀ {hs:List Int} {p:Int × Int},p ∈ i4 hs -> p.1 ∈ hs /\ p.2 ∈ hs
 | [],_,h=>nomatch h
 | g :: gs,p,h=>by
  rcases List.mem_append.mp h with h | h
  ·obtain ⟨x,hx,rfl⟩:=List.mem_map.mp h
   exact ⟨List.mem_cons_self,List.mem_cons_of_mem _ hx⟩
  ·obtain ⟨a,b⟩:=ve h
   exact ⟨List.mem_cons_of_mem _ a,List.mem_cons_of_mem _ b⟩
theorem vf:∀ hs:List Int,(i4 hs).length <= hs.length * hs.length
 | []=>by simp [i4]
 | g :: gs=>by
  have:=vf gs
  show (gs.map (fun h=>(g,h)) ++ i4 gs).length <= _
  rw [List.length_append,List.length_map,List.length_cons,Nat.succ_mul,Nat.mul_succ];omega
theorem B0 (Φ:aA) (h7:DV (Φ 7)) (X3:jO (Φ 21)) (XY:fJ (Φ 42)) (XW:jP 4 lK (Φ 47)) (h55:uA (Φ 55)) (XR:nX (Φ 57)) (XQ:uC (Φ 58)) (h59:xZ (Φ 59)) (KY:hX (Φ 62)) (vM:DU (Φ 64)):lP (mk Φ 3 5 GZ):=by
 intro k n rs r g xs j i z I hr hz l2 sx hj hi hp hb
 have hn:=I.n2
 have ll:=I.lot r hr
 have hll:=ll.len
 have e1:=X3 k n rs I
 have e3:=fun f=>XW (.lst f (aB xs)) n (by show (aB xs).length <= 1000000;simp;omega)
 simp only [xX,l2,decide_true,if_true] at e3
 have e0:=h55 k n rs z I hz
 have e4:=XR n rs hn hp
 have e5:=XQ k n rs r I hr
 have e6:=h59 r.2 (by omega)
 have m2:aD bo (bw n rs) = bw n rs:=by simp [bw]
 have m1:aD aL (bw n rs) = bw n rs:=by simp [bw]
 have hd:bw n rs = .tup [.int n,.lst .fz (cm rs)]:=rfl
 have x0:vG (bw n rs) (.int 0) = ok (.int n):=by rw [hd];simp
 have hlen:=vf r.2
 have OM:r.2.length * r.2.length <= 144:=Nat.mul_le_mul (show r.2.length <= 12 by omega) (show r.2.length <= 12 by omega)
 have sz:∀ p ∈ i4 r.2,∃ a b:Nat,a < n /\ b < n /\ p = ((a:Int),(b:Int)):=fun p hp=>by
  obtain ⟨p1,p2⟩:=ve hp
  obtain ⟨a,ha,ea⟩:=ll.nat p1
  obtain ⟨b,hb,eb⟩:=ll.nat p2
  exact ⟨a,b,ha,hb,Prod.ext ea eb⟩
 have nz:∀ a b:Nat,a < n -> b < n -> af rs a b ≠ 0:=fun a b ha hb z=>by have:=hp a b ha hb;rw [z] at this;exact absurd this (by decide)
 have smg:∀ (i':Nat) (a b:Nat),a < n -> b < n -> (∀ g h,Sm i' (af rs g h)) -> Sm (7 * i' + 3 + 4 * j) (gM rs xs a b):=fun i' a b ha hb mm=>by
  have tg:=sx _ (ba (qs:=xs) (h:=(a:Int)) (by omega) (by omega)).2
  have th:=sx _ (ba (qs:=xs) (h:=(b:Int)) (by omega) (by omega)).2
  have q3:=(tg.div (mm a a) (nz a a ha ha)).sub (th.div (mm b b) (nz b b hb hb))
  exact ((((mm a a).mul (mm b b)).sub (mm a b)).mul (q3.mul q3)).mono (by omega)
 have k1:∀ c4,aN Φ GI [some (bw n rs),some (.tup (ab r.2)),some (.lst g (aB xs)),some (.lst .ow (aO n rs .ow 0 n)),c4] = ok (.lst .ow (aB ((i4 r.2).map fun p=>gM rs xs p.1 p.2 / af rs p.1 p.2))):=fun c4=>by
  unfold GI
  rw [cE (xs:=[.lst .ow (bP (i4 r.2))]) (items:=(i4 r.2).map pW) (ds:=(i4 r.2).map fun p=>qD (gM rs xs p.1 p.2 / af rs p.1 p.2)) (by simp [e6]) (by rw [dC,rq];rfl) (bA fun p oT=>⟨[some (pW p),some (.lst .fz (aO n rs .fz 0 n)),some (.lst (aL g) (aB xs))],by simp [aY,bK],by simp,?_⟩) (by simp;exact bx (by omega))]
  ·simp [aB,aw]
  ·obtain ⟨a,b,ha,jU,rfl⟩:=sz p oT
   have e:=fun f=>vM k n rs f xs j a b I l2 sx hj ha jU (hp a a ha ha) (hp b b jU jU)
   have e':=KY n rs a b ha jU
   have Y6:=h7.1 (gM rs xs a b) (af rs a b) ((smg 61 a b ha jU (bh I)).mono (by omega)) ((bh I a b).mono (by decide)) (nz a b ha jU)
   simp [bK,e,e',Y6]
 have e7:=fun f=>XY f ((i4 r.2).map fun p=>gM rs xs p.1 p.2 / af rs p.1 p.2) (8 * i + 3 + 4 * j) ⟨fun q hq=>by
  obtain ⟨p,oT,rfl⟩:=List.mem_map.mp hq
  obtain ⟨a,b,ha,jU,rfl⟩:=sz p oT
  exact ((smg i a b ha jU hi).div (hi a b) (nz a b ha jU)).mono (by omega),by rw [List.length_map];exact Nat.le_trans (Nat.mul_le_mul_left _ hlen) hb,by rw [List.length_map];omega⟩
 have f1:kg .ow = .ow:=rfl
 have f2:=lp cn n rs .ow 0 n rfl
 simp [mk_eq,GZ,m1,m2,x0,e0,e1,e3,e4,e5,Ka Φ GI _ rfl,k1,e7,bK,f1,f2]
 rfl
end DI
end
section
namespace DI
open PySem (Str)
noncomputable def uo:List CS:=[.ret (.call 203 [(.v 0),(.call 201 [(.ix (.v 1) (.int 1)),(.ix (.v 1) (.int 0))])])]
noncomputable def uE (m:List D -> O D):Prop:=∀ p q,Sm 3000 p -> Sm 3000 q -> q ≠ 0 -> m [qD p,qD q] = ok (qD (p / q))
theorem Jc (Φ:aA) (vN:gE (Φ 201)) (oW:fI (Φ 203)):uE (mk Φ 2 2 uo):=by
 intro p q hp hq h0
 have e1:=vN q.den q.num (sL h0) (hq.big (by decide)).1
 rw [<- Ht] at e1
 have e2:=oW p (q⁻¹) (hp.mono (by decide)) ((hq.inv h0).mono (by decide))
 rw [<- Rat.div_def] at e2
 simp [mk_eq,uo,e1,e2]
noncomputable def ez (n:Nat) (N:Nat):List Int:=((List.range n).filter fun (k:Nat)=>decide ((N:Int) / 2 ^ k % 2 = 1)).map fun (k:Nat)=>(k:Int)
noncomputable def jb (n z:Nat):List Nat -> List (List Int)
 | []=>[]
 | N :: Ns=>if (ez n N).length = z then ez n N :: jb n z Ns else jb n z Ns
noncomputable def gp (n z:Nat):List (List Int):=jb n z (List.range (2 ^ n))
noncomputable def LA:CE:=.comp 1 (.nm 0) [6] .mP [(.v 4)] [(.cmp .eq (.bin .band (.bin .shr (.v 1) (.v 0)) (.int 1)) (.int 1))] (.v 0)
noncomputable def BF:List CS:=[.asg (.nm 7) (.bf .tuple1 [LA]),.ifs (.cmp .eq (.bf .len [(.v 7)]) (.v 3)) [.app 5 (.v 7)] []]
noncomputable def GJ:CE:=.comp 1 (.nm 0) [0,1] .mP [(.bf .len [(.v 5)])] [] (.bin .add (.int 1) (.bin .mod (.call 200 [(.v 1),(.bin .add (.bin .add (.v 2) (.int 1)) (.v 0))]) (.int 5)))
noncomputable def Lz:CE:=.comp 1 (.nm 0) [8,5] .seq [(.eE 1017 [(.v 5)])] [] (.tup [(.call 201 [(.ix (.v 1) (.eE 1044 [(.v 2),(.v 0)])),(.bf .kU [(.v 1)])]),(.v 0)])
noncomputable def Cp:List CS:=[.asg (.nm 2) (.call 200 [(.v 0),(.v 1)]),.asg (.nm 3) (.bin .add (.int 2) (.bin .mod (.v 2) (.int 2))),.asg (.nm 4) (.bin .add (.v 3) (.bin .mod (.bin .fdiv (.v 2) (.int 2)) (.bin .sub (.int 6) (.v 3)))),.asg (.nm 5) (.lst [])]
noncomputable def Co:List CS:=[.fr (.nm 6) (.mP (.bin .shl (.int 1) (.v 4))) BF]
noncomputable def Cn:List CS:=[.asg (.nm 8) GJ]
noncomputable def Hz:List CS:=[.ret (.tup [(.v 4),Lz])]
noncomputable def pL:List CS:=Cp ++ (Co ++ (Cn ++ Hz))
theorem Po (Φ:aA) {n:Nat} (hn:n <= 12) (N:Nat) (a b c d e:Option D) (r:aC):aN Φ LA (a :: b :: c :: d :: some (.int n) :: e :: some (.int N) :: r) = ok (.lst .ow (ab (ez n N))):=by
 unfold LA
 rw [cE (xs:=[.int n]) (ds:=((List.range n).filter fun (k:Nat)=>decide ((N:Int) / 2 ^ k % 2 = 1)).map fun (k:Nat)=>D.int (k:Int)) (by simp) (s_ Φ (by omega) (by omega)) ?_ ?_]
 ·simp [aw,ab,ez]
 ·rw [Int.toNat_natCast]
  refine jk fun k hk=>⟨[some (.int k),some (.int N)],by simp [aY],?_,fun _=>by simp⟩
  have e1:cQ .shr (.int (N:Int)) (.int k) = ok (.int ((N:Int) / 2 ^ k)):=by rw [Qy (by omega)];simp
  simp [e1,LQ]
 ·have:=List.length_filter_le (fun (k:Nat)=>decide ((N:Int) / 2 ^ k % 2 = 1)) (List.range n)
  simp at this ⊢
  exact bx (by omega)
noncomputable def eJ (cs:List (List Int)):List D:=cs.map fun c=>.tup (ab c)
@[simp] theorem Aj (g:Fl -> Fl) (cs:List (List Int)):ai g (eJ cs) = eJ cs:=de g (fun c=>by simp) cs
@[simp] theorem Ms (g:Fl -> Bool) (cs:List (List Int)):az g (eJ cs) = false:=cf g (fun c=>by simp) cs
@[simp] theorem Nx (cs:List (List Int)):(eJ cs).length = cs.length:=List.length_map ..
theorem tO (Φ:aA) {n:Nat} (hn:n <= 12) (z:Nat) (c0 c1 c2 c8:Option D):∀ (Ns:List Nat) (acc:List (List Int)) (c6 c7:Option D),acc.length + Ns.length <= 1000 ->
  ∃ ud uc,d9 (fun d ρ=>bU (.nm 6) d ρ) (fun ρ=>bc Φ BF ρ) (Ns.map fun (k:Nat)=>D.int (k:Int)) [c0,c1,c2,some (.int z),some (.int n),some (.lst .ow (eJ acc)),c6,c7,c8] = ok (.nx,[c0,c1,c2,some (.int z),some (.int n),some (.lst .ow (eJ (acc ++ jb n z Ns))),ud,uc,c8])
 | [],acc,c6,c7,_=>⟨c6,c7,by simp [jb,fF]⟩
 | N :: Ns,acc,c6,c7,h=>by
  rw [List.length_cons] at h
  have k1:=Po Φ hn N c0 c1 c2 (some (.int z)) (some (.lst .ow (eJ acc))) [c7,c8]
  have Bl:eM .eq (.int ((ez n N).length:Int)) (.int (z:Int)) = ok (.bl (decide ((ez n N).length = z))):=by
   rw [DL rfl rfl]
   show ok (D.bl (((ez n N).length:Int) == (z:Int))) = _
   congr 2
   by_cases e:(ez n N).length = z
   ·simp [e]
   ·rw [decide_eq_false e];simp;omega
  have hc:acc.length < eN:=by show _ < 1000000;omega
  by_cases e:(ez n N).length = z
  ·obtain ⟨ud,uc,ih⟩:=tO Φ hn z c0 c1 c2 c8 Ns (acc ++ [ez n N]) (some (.int N)) (some (.tup (ab (ez n N)))) (by simp;omega)
   have el:jb n z (N :: Ns) = ez n N :: jb n z Ns:=if_pos e
   rw [el]
   rw [decide_eq_true e] at Bl
   have Ry:eJ acc ++ [.tup (ab (ez n N))] = eJ (acc ++ [ez n N]):=by simp [eJ]
   refine ⟨ud,uc,cL (ρ1:=[c0,c1,c2,some (.int z),some (.int n),some (.lst .ow (eJ acc)),some (.int N),c7,c8]) (by simp) (ρ2:=[c0,c1,c2,some (.int z),some (.int n),some (.lst .ow (eJ (acc ++ [ez n N]))),some (.int N),some (.tup (ab (ez n N))),c8]) ?_ ?_⟩
   ·simp [BF,k1,Bl,hc,Ry]
   ·exact ih.trans (by simp)
  ·obtain ⟨ud,uc,ih⟩:=tO Φ hn z c0 c1 c2 c8 Ns acc (some (.int N)) (some (.tup (ab (ez n N)))) (by omega)
   have el:jb n z (N :: Ns) = jb n z Ns:=if_neg e
   rw [el]
   rw [decide_eq_false e] at Bl
   refine ⟨ud,uc,cL (ρ1:=[c0,c1,c2,some (.int z),some (.int n),some (.lst .ow (eJ acc)),some (.int N),c7,c8]) (by simp) (ρ2:=[c0,c1,c2,some (.int z),some (.int n),some (.lst .ow (eJ acc)),some (.int N),some (.tup (ab (ez n N))),c8]) ?_ ih⟩
   simp [BF,k1,Bl]
structure R7 (n z:Nat) (cs:List (List Int)):Prop where
 nd:cs.Nodup
 ten:cs.length <= 10
 one:1 <= cs.length
 lot:∀ c ∈ cs,rX n c
 sz:∀ c ∈ cs,c.length = z
 all:∀ g h:Nat,g < n -> h < n -> ∃ c ∈ cs,(g:Int) ∈ c /\ (h:Int) ∈ c
theorem tQ (n z:Nat):∀ Ns:List Nat,∀ c ∈ jb n z Ns,c.length = z /\ rX n c
 | [],_,h=>nomatch h
 | N :: Ns,c,h=>by
  unfold jb at h
  by_cases e:(ez n N).length = z
  ·rw [if_pos e] at h
   rcases List.mem_cons.mp h with rfl | h
   ·exact ⟨e,V9 n _⟩
   ·exact tQ n z Ns c h
  ·rw [if_neg e] at h
   exact tQ n z Ns c h
noncomputable def Pl (n z:Nat):Bool:=decide (gp n z).Nodup && decide ((gp n z).length <= 10) && decide (1 <= (gp n z).length) && (List.range n).all fun g=>(List.range n).all fun h=>(gp n z).any fun c=>decide ((g:Int) ∈ c) && decide ((h:Int) ∈ c)
theorem Lu {n z:Nat} (h:Pl n z = true):R7 n z (gp n z):=by
 unfold Pl at h
 simp only [Bool.and_eq_true,decide_eq_true_eq] at h
 obtain ⟨⟨⟨h1,h2⟩,h3⟩,h4⟩:=h
 refine ⟨h1,h2,h3,fun c hc=>(tQ n z _ c hc).2,fun c hc=>(tQ n z _ c hc).1,fun g k hg hk=>?_⟩
 have:=List.all_eq_true.mp (List.all_eq_true.mp h4 g (List.mem_range.mpr hg)) k (List.mem_range.mpr hk)
 obtain ⟨c,hc,hx⟩:=List.any_eq_true.mp this
 simp only [Bool.and_eq_true,decide_eq_true_eq] at hx
 exact ⟨c,hc,hx.1,hx.2⟩
noncomputable def tP (cs:List (List Int)) (ws:List Int):List Row:=(bg cs).map fun c=>(Rat.divInt (ws.getD (cs.idxOf c) 0) ws.sum,c)
theorem p7 {cs:List (List Int)} {ws:List Int} (hn:cs.Nodup) (hl:ws.length = cs.length):cs.map (fun c=>ws.getD (cs.idxOf c) 0) = ws:=by
 refine List.ext_getElem (by simp [hl]) fun i h1 h2=>?_
 rw [List.getElem_map]
 have hi:i < cs.length:=by simpa using h1
 rw [hn.idxOf_getElem i hi]
 simp [h2]
theorem R7.dr {n z:Nat} {cs:List (List Int)} (V:R7 n z cs) (n1:1 <= n) (n2:n <= 12) {ws:List Int} (hl:ws.length = cs.length) (hw:∀ w ∈ ws,1 <= w /\ w <= 5) :
  Dr 6 n (tP cs ws) /\ A_ (tP cs ws) /\ (∀ r ∈ tP cs ws,r.2.length = z) /\ (∀ g h:Nat,g < n -> h < n -> 0 < af (tP cs ws) g h) /\ 1 <= ws.sum /\ ws.sum <= 50:=by
 have hp:(bg cs).Perm cs:=List.mergeSort_perm _ _
 have hlen:(tP cs ws).length = cs.length:=by unfold tP;rw [List.length_map];exact hp.length_eq
 have Gr:=V.ten
 have h1:=V.one
 have sb:∀ l:List Int,(∀ w ∈ l,1 <= w /\ w <= 5) -> (l.length:Int) <= l.sum /\ l.sum <= 5 * l.length:=fun l=>by
  induction l with
  | nil=>intro _;exact ⟨by decide,by decide⟩
  | cons w l ih =>
   intro h
   obtain ⟨a,b⟩:=ih fun x hx=>h x (List.mem_cons_of_mem _ hx)
   have:=h w List.mem_cons_self
   rw [List.sum_cons,List.length_cons]
   constructor <;> push_cast <;> omega
 obtain ⟨s1,s2⟩:=sb ws hw
 have hW:1 <= ws.sum /\ ws.sum <= 50:=by rw [hl] at s1 s2;omega
 have val:∀ c ∈ bg cs,1 <= ws.getD (cs.idxOf c) 0 /\ ws.getD (cs.idxOf c) 0 <= 5:=fun c hc=>by
  have hi:cs.idxOf c < ws.length:=by rw [hl];exact List.idxOf_lt_length_iff.mpr (hp.mem_iff.mp hc)
  have:ws.getD (cs.idxOf c) 0 = ws[cs.idxOf c]:=by simp [hi]
  rw [this]
  exact hw _ (List.getElem_mem _)
 have HQ:A_ (tP cs ws):=⟨ws.sum.toNat,by omega,by omega,fun r hr=>by
  unfold tP at hr
  obtain ⟨c,_,rfl⟩:=List.mem_map.mp hr
  have d:=pz (t:=ws.getD (cs.idxOf c) 0) (b:=ws.sum) (by omega)
  rwa [show ws.sum.natAbs = ws.sum.toNat by omega] at d⟩
 have OG:∀ r ∈ tP cs ws,0 < r.1:=fun r hr=>by
  obtain ⟨c,hc,rfl⟩:=List.mem_map.mp hr
  exact pw (by have:=val c hc;omega) (by omega)
 refine ⟨⟨n1,n2,by rw [hlen];omega,.inr HQ,by rw [hlen];omega,fun r hr=>?_,OG,fun r hr=>?_,?_,?_⟩,HQ,fun r hr=>?_,fun g h hg hh=>?_,hW⟩
 ·obtain ⟨c,hc,rfl⟩:=List.mem_map.mp hr
  exact V.lot c (hp.mem_iff.mp hc)
 ·obtain ⟨c,hc,rfl⟩:=List.mem_map.mp hr
  have:=val c hc
  exact BO (by omega) (by show _ < 64;omega) (by show _ < 64;omega)
 ·have e:(tP cs ws).map (·.1) = (bg cs).map fun c=>Rat.divInt (ws.getD (cs.idxOf c) 0) ws.sum:=by unfold tP;rw [List.map_map];rfl
  rw [e]
  have e2:((bg cs).map fun c=>Rat.divInt (ws.getD (cs.idxOf c) 0) ws.sum).sum = (cs.map fun c=>Rat.divInt (ws.getD (cs.idxOf c) 0) ws.sum).sum:=vn (hp.map _)
  have e3:(cs.map fun c=>Rat.divInt (ws.getD (cs.idxOf c) 0) ws.sum) = (cs.map fun c=>ws.getD (cs.idxOf c) 0).map fun x=>Rat.divInt x ws.sum:=by rw [List.map_map];rfl
  rw [e2,e3,p7 V.nd hl,so _ (by omega),Rat.divInt_eq_div]
  have z:((ws.sum:Int):Rat) ≠ 0:=fun z=>by rw [Rat.intCast_eq_zero_iff] at z;omega
  grind
 ·have e:(tP cs ws).map (·.2) = bg cs:=by
   unfold tP;rw [List.map_map]
   exact (List.map_congr_left fun _ _=>rfl).trans (List.map_id _)
  rw [e];exact ka V.nd
 ·obtain ⟨c,hc,rfl⟩:=List.mem_map.mp hr
  exact V.sz c (hp.mem_iff.mp hc)
 ·obtain ⟨c,hc,c1,c2⟩:=V.all g h hg hh
  have hr:(Rat.divInt (ws.getD (cs.idxOf c) 0) ws.sum,c) ∈ tP cs ws:=by unfold tP;exact List.mem_map_of_mem (hp.mem_iff.mpr hc)
  have key:∀ l:List Row,(∀ r ∈ l,0 < r.1) -> (∃ r ∈ l,cO g h r = true) -> 0 < af l g h:=fun l=>by
   induction l with
   | nil=>rintro _ ⟨r,hr,_⟩;cases hr
   | cons r l ih =>
    rintro hp ⟨s,hs,hb⟩
    rw [oD]
    have h0:=(gJ (cO g h) l fun x hx=>hp x (List.mem_cons_of_mem _ hx)).1
    have h0:0 <= af l g h:=h0
    have hr:=hp r List.mem_cons_self
    cases e:cO g h r with
    | true=>simp only [if_true];grind
    | false =>
     simp only [Bool.false_eq_true,if_false]
     refine ih (fun x hx=>hp x (List.mem_cons_of_mem _ hx)) ⟨s,?_,hb⟩
     rcases List.mem_cons.mp hs with rfl | hs
     ·rw [e] at hb;cases hb
     ·exact hs
  exact key _ OG ⟨_,hr,by simp [cO,c1,c2]⟩
noncomputable def x4 (m:List D -> O D):Prop:=∀ (ns:List Int) (a:Int),0 <= a -> ∃ n rs z,n <= 5 /\ z <= 3 /\ Dr 6 n rs /\ A_ rs /\ (∀ r ∈ rs,r.2.length = z) /\ (∀ g h:Nat,g < n -> h < n -> 0 < af rs g h) /\ m [.lst .sc (ab ns),.int a] = ok (gu .ow n rs)
theorem I_ (Φ:aA) (Dh:uD (Φ 200)) (vN:gE (Φ 201)) (yX:Φ 1017 = kb) (yS:Φ 1044 = Aw):x4 (mk Φ 2 9 pL):=by
 intro ns a ha
 have e1:=Dh ns a ha
 generalize hN:j8 ns a = N at e1
 obtain ⟨f1,f2⟩:=iu N (b:=2) (by decide)
 obtain ⟨z,hz⟩:∃ z:Nat,2 + N.fmod 2 = (z:Int):=⟨(2 + N.fmod 2).toNat,by omega⟩
 have Oy:z = 2 \/ z = 3:=by omega
 obtain ⟨g1,g2⟩:=iu (N.fdiv 2) (b:=6 - (z:Int)) (by omega)
 obtain ⟨n,hn⟩:∃ n:Nat,(z:Int) + (N.fdiv 2).fmod (6 - z) = (n:Int):=⟨((z:Int) + (N.fdiv 2).fmod (6 - z)).toNat,by omega⟩
 have Gg:z <= n /\ n <= 5:=by omega
 have V:R7 n z (gp n z):=by
  refine Lu ?_
  have:(z = 2 /\ (n = 2 \/ n = 3 \/ n = 4 \/ n = 5)) \/ (z = 3 /\ (n = 3 \/ n = 4 \/ n = 5)):=by omega
  rcases this with ⟨rfl,rfl | rfl | rfl | rfl⟩ | ⟨rfl,rfl | rfl | rfl⟩ <;> decide +kernel
 have Gr:=V.ten
 have OL:cQ .mod (.int N) (.int 2) = ok (.int (N.fmod 2)):=DN (by decide)
 have Rw:cQ .fdiv (.int N) (.int 2) = ok (.int (N.fdiv 2)):=pK (jh (by omega) (sY (by omega)))
 have OK:cQ .mod (.int (N.fdiv 2)) (.int (6 - (z:Int))) = ok (.int ((N.fdiv 2).fmod (6 - z))):=DN (by omega)
 have ga:bc Φ Cp [some (.lst .sc (ab ns)),some (.int a),none,none,none,none,none,none,none] = ok (.nx,[some (.lst .sc (ab ns)),some (.int a),some (.int N),some (.int z),some (.int n),some (.lst .ow []),none,none,none]):=by
  simp [Cp,e1,OL,hz,Rw,OK,hn]
 have Xd:cQ .shl (.int 1) (.int (n:Int)) = ok (.int ((2 ^ n:Nat):Int)):=by
  rw [Qz (by simp [k_];omega),Int.toNat_natCast]
  simp
 have Xi:2 ^ n <= 32:=by
  have:2 ^ n <= 2 ^ 5:=Nat.pow_le_pow_right (by decide) Gg.2
  simpa using this
 obtain ⟨a6,a7,el⟩:=tO Φ (n:=n) (by omega) z (some (.lst .sc (ab ns))) (some (.int a)) (some (.int N)) none (List.range (2 ^ n)) [] none none (by simp;omega)
 rw [List.nil_append] at el
 have hit:=CT (Φ:=Φ) (a:=.bin .shl (.int 1) (.v 4)) (ρ:=[some (.lst .sc (ab ns)),some (.int a),some (.int N),some (.int z),some (.int n),some (.lst .ow []),none,none,none]) (n:=((2 ^ n:Nat):Int)) (by simp [Xd]) (Int.natCast_nonneg _) (Int.ofNat_le.mpr (Nat.le_trans Xi (by decide)))
 rw [Int.toNat_natCast] at hit
 have hf:=eZ (Φ:=Φ) (t:=.nm 6) (b:=BF) hit el
 have gb:bc Φ Co [some (.lst .sc (ab ns)),some (.int a),some (.int N),some (.int z),some (.int n),some (.lst .ow []),none,none,none] = ok (.nx,[some (.lst .sc (ab ns)),some (.int a),some (.int N),some (.int z),some (.int n),some (.lst .ow (eJ (gp n z))),a6,a7,none]):=by
  rw [Co,cR,hf];rfl
 let ws:List Int:=(List.range (gp n z).length).map fun (k:Nat)=>1 + (j8 ns (a + 1 + k)).fmod 5
 have Mn:ws.length = (gp n z).length:=by simp [ws]
 have hw5:∀ w ∈ ws,1 <= w /\ w <= 5:=fun w hw=>by
  obtain ⟨k,_,rfl⟩:=List.mem_map.mp hw
  obtain ⟨q1,q2⟩:=iu (j8 ns (a + 1 + k)) (b:=5) (by decide)
  omega
 obtain ⟨D6,Fi,td,hpp,w1,w2⟩:=V.dr (by omega) (by omega) Mn hw5
 have k1:aN Φ GJ [some (.lst .sc (ab ns)),some (.int a),some (.int N),some (.int z),some (.int n),some (.lst .ow (eJ (gp n z))),a6,a7,none] = ok (.lst .ow (ab ws)):=by
  unfold GJ
  rw [cE (xs:=[.int (gp n z).length]) (ds:=(List.range (gp n z).length).map fun (k:Nat)=>D.int (1 + (j8 ns (a + 1 + k)).fmod 5)) (by simp) (s_ Φ (by omega) (by omega)) (bA fun k hk=>⟨[some (.int k),some (.lst .sc (ab ns)),some (.int a)],by simp [aY,aL],by simp,?_⟩) (by simp;exact bx (by omega))]
  ·simp [ab,aw,ws]
  ·have e:=Dh ns (a + 1 + k) (by omega)
   have hm:=DN (i:=j8 ns (a + 1 + k)) (j:=5) (by decide)
   simp [bo,aL,e,hm]
 have gc:bc Φ Cn [some (.lst .sc (ab ns)),some (.int a),some (.int N),some (.int z),some (.int n),some (.lst .ow (eJ (gp n z))),a6,a7,none] = ok (.nx,[some (.lst .sc (ab ns)),some (.int a),some (.int N),some (.int z),some (.int n),some (.lst .ow (eJ (gp n z))),a6,a7,some (.lst .ow (ab ws))]):=by
  simp [Cn,Ka Φ GJ _ rfl,k1]
 have hrw:∀ cs:List (List Int),eJ cs = cs.map fV:=fun _=>rfl
 have e17:∀ f,Φ 1017 [.lst f (eJ (gp n z))] = ok (.lst .ow (eJ (bg (gp n z)))):=fun f=>by
  rw [yX]
  show (match gw (eJ (gp n z)) with | some nss=>if nss.Nodup /\ nss.length < 64 then ok (D.lst .ow ((bg nss).map fV)) else none | none=>none) = _
  rw [hrw,mh]
  show (if (gp n z).Nodup /\ (gp n z).length < 64 then ok (D.lst .ow ((bg (gp n z)).map fV)) else none) = _
  rw [if_pos ⟨V.nd,by omega⟩];rfl
 have hp:(bg (gp n z)).Perm (gp n z):=List.mergeSort_perm _ _
 have k2:aN Φ Lz [some (.lst .sc (ab ns)),some (.int a),some (.int N),some (.int z),some (.int n),some (.lst .ow (eJ (gp n z))),a6,a7,some (.lst .ow (ab ws))] = ok (.lst .ow (cm (tP (gp n z) ws))):=by
  unfold Lz
  rw [cE (xs:=[.lst .ow (eJ (bg (gp n z)))]) (items:=(bg (gp n z)).map fun c=>.tup (ab c)) (ds:=(bg (gp n z)).map fun c=>rD (Rat.divInt (ws.getD ((gp n z).idxOf c) 0) ws.sum,c)) (by simp [e17]) (by rw [dC,Aj];rfl) (bA fun c hc=>⟨[some (.tup (ab c)),some (.lst .fz (ab ws)),some (.lst .fz (eJ (gp n z)))],by simp [aY],by simp,?_⟩) (by rw [List.length_map,hp.length_eq];exact bx (by omega))]
  ·have:((bg (gp n z)).map fun c=>rD (Rat.divInt (ws.getD ((gp n z).idxOf c) 0) ws.sum,c)) = cm (tP (gp n z) ws):=by unfold cm tP;rw [List.map_map];rfl
   rw [this,oI]
  ·have hcm:=hp.mem_iff.mp hc
   have hi:(gp n z).idxOf c < (gp n z).length:=List.idxOf_lt_length_iff.mpr hcm
   have e44:∀ f,Φ 1044 [.lst f (eJ (gp n z)),.tup (ab c)] = ok (.int ((gp n z).idxOf c)):=fun f=>by
    rw [yS]
    show (match gw (eJ (gp n z)) with | some nss=>(match intsOf (ab c) with | some c=>if c ∈ nss /\ nss.length <= eN then ok (D.int (nss.idxOf c)) else none | none=>none) | none=>none) = _
    rw [hrw,mh]
    unfold ab
    rw [bq]
    show (if c ∈ gp n z /\ (gp n z).length <= eN then ok (D.int ((gp n z).idxOf c)) else none) = _
    rw [if_pos ⟨hcm,by show _ <= 1000000;omega⟩]
   have ha:=G0 (ts:=ws) (h:=((gp n z).idxOf c:Int)) (by omega) (by rw [Mn];omega)
   have hat:DQ ws ((gp n z).idxOf c:Int) = ws.getD ((gp n z).idxOf c) 0:=by unfold DQ;rw [Int.toNat_natCast]
   rw [hat] at ha
   have hs:∀ f,uj .kU [.lst f (ab ws)] = ok (.int ws.sum):=fun f=>by
    show (match intsOf (ab ws) with | some ns=>ok (D.int ns.sum) | none=>none) = _
    unfold ab
    rw [bq]
   have e':=vN (ws.getD ((gp n z).idxOf c) 0) ws.sum (by omega) (sY (by omega))
   generalize ws.getD ((gp n z).idxOf c) 0 = w at *
   simp [e44,ha,hs,e',rD]
 refine ⟨n,tP (gp n z) ws,z,Gg.2,by omega,D6,Fi,td,hpp,?_⟩
 rw [mk_eq (show [D.lst .sc (ab ns),.int a].length = 2 from rfl)]
 show pq (bc Φ pL [some (.lst .sc (ab ns)),some (.int a),none,none,none,none,none,none,none]) = _
 rw [pL,eT Φ _ _ _ _ ga,eT Φ _ _ _ _ gb,eT Φ _ _ _ _ gc]
 simp [Hz,k2,gu]
end DI
end
section
namespace DI
open PySem (Str)
noncomputable def eP (a b:Nat):CE:=.ix (.ix (.v 5) (.v a)) (.v b)
noncomputable def CQ:List CS:=[.asg (.nm 13) (.call 222 [eP 11 12,(.call 203 [eP 11 11,eP 12 12])]),.asg (.nm 14) (.call 203 [(.call 203 [(.ix (.v 3) (.v 11)),(.ix (.v 4) (.v 11))]),(.call 203 [(.ix (.v 3) (.v 12)),(.ix (.v 4) (.v 12))])]),.asg (.nm 9) (.call 202 [(.v 9),(.call 240 [(.call 203 [(.v 13),(.v 14)]),eP 11 12])])]
noncomputable def Kb:List CS:=[.asg (.nm 15) (.call 222 [(.call 240 [(.ix (.v 4) (.v 11)),eP 11 11]),(.call 240 [(.ix (.v 4) (.v 12)),eP 12 12])]),.asg (.nm 14) (.call 203 [(.call 222 [(.tup [(.int 0),(.int 1)]),(.v 13)]),(.call 203 [(.v 15),(.v 15)])]),.asg (.nm 10) (.call 202 [(.v 10),(.call 240 [(.v 14),eP 11 12])])]
noncomputable def EG:List CS:=CQ ++ [.ifs (.cmp .lt (.v 11) (.v 12)) Kb []]
noncomputable def EH:List CS:=[.fr (.nm 12) (.seq (.v 8)) EG]
structure K26 (Φ:aA):Prop where
 jV:mV (Φ 202)
 oW:fI (Φ 203)
 Df:ko (Φ 222)
 AF:uE (Φ 240)
section
variable (Φ:aA) (K:K26 Φ) {n:Nat} {rs:List Row} {ws xs:List Rat} (G:Gs 3 n ws xs) (hi:∀ g h,Sm 6 (af rs g h)) (hp:∀ g h:Nat,g < n -> h < n -> 0 < af rs g h) (f3 f4 f5:Fl) (c0 c1 c2 c6 c7 c8 c16 c17:Option D)
include K G hi hp
theorem Jz {a b:Nat} (ha:a < n) (hb:b < n) (B C:Rat) (i:Nat) (sB:Sm (1 + 38 * i) B) (sC:Sm (1 + 66 * i) C) (h60:i <= 60) (c13 c14 c15:Option D) :
  ∃ uh ug uf,bc Φ EG [c0,c1,c2,some (.lst f3 (aB ws)),some (.lst f4 (aB xs)),some (.lst f5 (aO n rs f5 0 n)),c6,c7,c8,some (qD B),some (qD C),some (.int a),some (.int b),c13,c14,c15,c16,c17] =
   ok (.nx,[c0,c1,c2,some (.lst f3 (aB ws)),some (.lst f4 (aB xs)),some (.lst f5 (aO n rs f5 0 n)),c6,c7,c8,some (qD (B + qk rs ws xs a b / af rs a b)),some (qD (C + if (a:Int) < b then gM rs xs a b / af rs a b else 0)),some (.int a),some (.int b),uh,ug,uf,c16,c17]) /\
   Sm (1 + 38 * (i + 1)) (B + qk rs ws xs a b / af rs a b) /\ Sm (1 + 66 * (i + 1)) (C + if (a:Int) < b then gM rs xs a b / af rs a b else 0):=by
 have l1:=G.l1
 have l2:=G.l2
 have nz:∀ a b:Nat,a < n -> b < n -> af rs a b ≠ 0:=fun a b ha hb z=>by have:=hp a b ha hb;rw [z] at this;exact absurd this (by decide)
 have sg:=G.s1 _ (ba (qs:=ws) (h:=(a:Int)) (by omega) (by omega)).2
 have sh:=G.s1 _ (ba (qs:=ws) (h:=(b:Int)) (by omega) (by omega)).2
 have tg:=G.s2 _ (ba (qs:=xs) (h:=(a:Int)) (by omega) (by omega)).2
 have th:=G.s2 _ (ba (qs:=xs) (h:=(b:Int)) (by omega) (by omega)).2
 have a1:=jn (qs:=ws) (h:=(a:Int)) (by omega) (by omega)
 have a2:=jn (qs:=ws) (h:=(b:Int)) (by omega) (by omega)
 have a3:=jn (qs:=xs) (h:=(a:Int)) (by omega) (by omega)
 have a4:=jn (qs:=xs) (h:=(b:Int)) (by omega) (by omega)
 have b1:=fun f=>oA (rs:=rs) (f:=f) ha
 have b2:=i5 (rs:=rs) (g:=a) ha
 have b3:=fun f=>oA (rs:=rs) (f:=f) hb
 have b4:=i5 (rs:=rs) (g:=b) hb
 have b5:=i5 (rs:=rs) (g:=a) hb
 have up:∀ {k:Nat} {q:Rat},Sm k q -> k <= 3000 -> Sm 3000 q:=fun h hk=>h.mono hk
 have lW:∀ {k:Nat} {q:Rat},Sm k q -> k <= 4000 -> Sm 4000 q:=fun h hk=>h.mono hk
 have e1:=K.oW _ _ (lW (hi a a) (by decide)) (lW (hi b b) (by decide))
 have s2:=(hi a a).mul (hi b b)
 have e2:=K.Df _ _ (lW (hi a b) (by decide)) (lW s2 (by decide))
 have st:=(hi a b).sub s2
 have e3:=K.oW _ _ (lW sg (by decide)) (lW tg (by decide))
 have e4:=K.oW _ _ (lW sh (by decide)) (lW th (by decide))
 have e5:=K.oW _ _ (lW (sg.mul tg) (by decide)) (lW (sh.mul th) (by decide))
 have sp:=(sg.mul tg).mul (sh.mul th)
 have e6:=K.oW _ _ (lW st (by decide)) (lW sp (by decide))
 have spp:Sm 31 (qk rs ws xs a b):=(st.mul sp).mono (by decide)
 change Φ 203 _ = ok (qD (qk rs ws xs a b)) at e6
 have e7:=K.AF _ _ (up spp (by decide)) (up (hi a b) (by decide)) (nz a b ha hb)
 have sd:Sm 37 (qk rs ws xs a b / af rs a b):=spp.div (hi a b) (nz a b ha hb)
 have e8:=K.jV B _ (lW sB (by omega)) (lW sd (by decide))
 have QZ:Sm (1 + 38 * (i + 1)) (B + qk rs ws xs a b / af rs a b):=(sB.add sd).mono (by omega)
 have ga:bc Φ CQ [c0,c1,c2,some (.lst f3 (aB ws)),some (.lst f4 (aB xs)),some (.lst f5 (aO n rs f5 0 n)),c6,c7,c8,some (qD B),some (qD C),some (.int a),some (.int b),c13,c14,c15,c16,c17] =
   ok (.nx,[c0,c1,c2,some (.lst f3 (aB ws)),some (.lst f4 (aB xs)),some (.lst f5 (aO n rs f5 0 n)),c6,c7,c8,some (qD (B + qk rs ws xs a b / af rs a b)),some (qD C),some (.int a),some (.int b),some (qD (af rs a b - af rs a a * af rs b b)),some (qD (fP ws a * fP xs a * (fP ws b * fP xs b))),c15,c16,c17]):=by
  simp [CQ,eP,bK,a1,a2,a3,a4,b1,b2,b3,b4,b5,e1,e2,e3,e4,e5,e6,e7,e8]
 by_cases rE:(a:Int) < b
 ·have d1:=K.AF _ _ (up tg (by decide)) (up (hi a a) (by decide)) (nz a a ha ha)
  have d2:=K.AF _ _ (up th (by decide)) (up (hi b b) (by decide)) (nz b b hb hb)
  have q1:=tg.div (hi a a) (nz a a ha ha)
  have q2:=th.div (hi b b) (nz b b hb hb)
  have d3:=K.Df _ _ (lW q1 (by decide)) (lW q2 (by decide))
  have q3:=q1.sub q2
  have d4:=K.oW _ _ (lW q3 (by decide)) (lW q3 (by decide))
  have z0:D.tup [.int 0,.int 1] = qD 0:=rfl
  have d5:=K.Df 0 _ (lW Nn (by decide)) (lW st (by decide))
  have q4:=Nn.sub st
  have d6:=K.oW _ _ (lW q4 (by decide)) (lW (q3.mul q3) (by decide))
  have hg:(0 - (af rs a b - af rs a a * af rs b b)) * ((fP xs a / af rs a a - fP xs b / af rs b b) * (fP xs a / af rs a a - fP xs b / af rs b b)) = gM rs xs a b:=by
   unfold gM
   congr 1
   grind
  rw [hg] at d6
  have sgp:Sm 59 (gM rs xs a b):=by rw [<- hg];exact (q4.mul (q3.mul q3)).mono (by decide)
  have d7:=K.AF _ _ (up sgp (by decide)) (up (hi a b) (by decide)) (nz a b ha hb)
  have sgd:Sm 65 (gM rs xs a b / af rs a b):=sgp.div (hi a b) (nz a b ha hb)
  have d8:=K.jV C _ (lW sC (by omega)) (lW sgd (by decide))
  have TB:Sm (1 + 66 * (i + 1)) (C + gM rs xs a b / af rs a b):=(sC.add sgd).mono (by omega)
  rw [if_pos rE]
  have iX:eM .lt (.int (a:Int)) (.int (b:Int)) = ok (.bl true):=by show ok (D.bl (decide ((a:Int) < b))) = _;rw [decide_eq_true rE]
  have gb:bc Φ Kb [c0,c1,c2,some (.lst f3 (aB ws)),some (.lst f4 (aB xs)),some (.lst f5 (aO n rs f5 0 n)),c6,c7,c8,some (qD (B + qk rs ws xs a b / af rs a b)),some (qD C),some (.int a),some (.int b),some (qD (af rs a b - af rs a a * af rs b b)),some (qD (fP ws a * fP xs a * (fP ws b * fP xs b))),c15,c16,c17] =
    ok (.nx,[c0,c1,c2,some (.lst f3 (aB ws)),some (.lst f4 (aB xs)),some (.lst f5 (aO n rs f5 0 n)),c6,c7,c8,some (qD (B + qk rs ws xs a b / af rs a b)),some (qD (C + gM rs xs a b / af rs a b)),some (.int a),some (.int b),some (qD (af rs a b - af rs a a * af rs b b)),some (qD (gM rs xs a b)),some (qD (fP xs a / af rs a a - fP xs b / af rs b b)),c16,c17]):=by
   simp [Kb,eP,bK,a3,a4,b1,b2,b3,b4,b5,z0,d1,d2,d3,d4,d5,d6,d7,d8]
  refine ⟨some (qD (af rs a b - af rs a a * af rs b b)),some (qD (gM rs xs a b)),some (qD (fP xs a / af rs a a - fP xs b / af rs b b)),(eT Φ CQ _ _ _ ga).trans ?_,QZ,TB⟩
  ·rw [cR,zM]
   have:aN Φ (.cmp .lt (.v 11) (.v 12)) [c0,c1,c2,some (.lst f3 (aB ws)),some (.lst f4 (aB xs)),some (.lst f5 (aO n rs f5 0 n)),c6,c7,c8,some (qD (B + qk rs ws xs a b / af rs a b)),some (qD C),some (.int a),some (.int b),some (qD (af rs a b - af rs a a * af rs b b)),some (qD (fP ws a * fP xs a * (fP ws b * fP xs b))),c15,c16,c17] = ok (.bl true):=by simp [iX]
   rw [this,yc,Kf,gb]
   rfl
 ·rw [if_neg rE,Rat.add_zero]
  have iX:eM .lt (.int (a:Int)) (.int (b:Int)) = ok (.bl false):=by show ok (D.bl (decide ((a:Int) < b))) = _;rw [decide_eq_false rE]
  refine ⟨some (qD (af rs a b - af rs a a * af rs b b)),some (qD (fP ws a * fP xs a * (fP ws b * fP xs b))),c15,(eT Φ CQ _ _ _ ga).trans ?_,QZ,sC.mono (by omega)⟩
  ·rw [cR,zM]
   have:aN Φ (.cmp .lt (.v 11) (.v 12)) [c0,c1,c2,some (.lst f3 (aB ws)),some (.lst f4 (aB xs)),some (.lst f5 (aO n rs f5 0 n)),c6,c7,c8,some (qD (B + qk rs ws xs a b / af rs a b)),some (qD C),some (.int a),some (.int b),some (qD (af rs a b - af rs a a * af rs b b)),some (qD (fP ws a * fP xs a * (fP ws b * fP xs b))),c15,c16,c17] = ok (.bl false):=by simp [iX]
   rw [this,yc,Kg]
   rfl
noncomputable def gN (rs:List Row) (xs:List Rat) (g:Int) (hs:List Int):Rat:=(hs.map fun h=>if g < h then gM rs xs g h / af rs g h else 0).sum
noncomputable def ql (rs:List Row) (ws xs:List Rat) (g:Int) (hs:List Int):Rat:=(hs.map fun h=>qk rs ws xs g h / af rs g h).sum
theorem yF {a:Nat} (ha:a < n):∀ (hs:List Int) (B C:Rat) (i:Nat) (c12 c13 c14 c15:Option D),(∀ h ∈ hs,∃ b:Nat,b < n /\ h = b) -> Sm (1 + 38 * i) B -> Sm (1 + 66 * i) C -> i + hs.length <= 60 ->
  ∃ xW uh ug uf,d9 (fun d ρ=>bU (.nm 12) d ρ) (fun ρ=>bc Φ EG ρ) (ab hs) [c0,c1,c2,some (.lst f3 (aB ws)),some (.lst f4 (aB xs)),some (.lst f5 (aO n rs f5 0 n)),c6,c7,c8,some (qD B),some (qD C),some (.int a),c12,c13,c14,c15,c16,c17] =
   ok (.nx,[c0,c1,c2,some (.lst f3 (aB ws)),some (.lst f4 (aB xs)),some (.lst f5 (aO n rs f5 0 n)),c6,c7,c8,some (qD (B + ql rs ws xs a hs)),some (qD (C + gN rs xs a hs)),some (.int a),xW,uh,ug,uf,c16,c17]) /\ Sm (1 + 38 * (i + hs.length)) (B + ql rs ws xs a hs) /\ Sm (1 + 66 * (i + hs.length)) (C + gN rs xs a hs)
 | [],B,C,i,c12,c13,c14,c15,_,sB,sC,_=>⟨c12,c13,c14,c15,by simp [ql,gN,fF,Rat.add_zero],by simpa [ql,Rat.add_zero] using sB,by simpa [gN,Rat.add_zero] using sC⟩
 | h :: hs,B,C,i,c12,c13,c14,c15,hh,sB,sC,hl=>by
  rw [List.length_cons] at hl
  obtain ⟨b,hb,rfl⟩:=hh h List.mem_cons_self
  obtain ⟨Ia,H_,H9,e,QZ,TB⟩:=Jz Φ K G hi hp f3 f4 f5 c0 c1 c2 c6 c7 c8 c16 c17 ha hb B C i sB sC (by omega) c13 c14 c15
  obtain ⟨xW,uh,ug,uf,ih,s1,s2⟩:=yF ha hs _ _ (i + 1) (some (.int b)) Ia H_ H9 (fun x hx=>hh x (List.mem_cons_of_mem _ hx)) QZ TB (by omega)
  have p1:ql rs ws xs a ((b:Int) :: hs) = qk rs ws xs a b / af rs a b + ql rs ws xs a hs:=by unfold ql;rw [List.map_cons,List.sum_cons]
  have p2:gN rs xs a ((b:Int) :: hs) = (if (a:Int) < b then gM rs xs a b / af rs a b else 0) + gN rs xs a hs:=by unfold gN;rw [List.map_cons,List.sum_cons]
  rw [p1,p2,<- Rat.add_assoc,<- Rat.add_assoc,List.length_cons,show i + (hs.length + 1) = i + 1 + hs.length by omega]
  exact ⟨xW,uh,ug,uf,cL (ρ1:=[c0,c1,c2,some (.lst f3 (aB ws)),some (.lst f4 (aB xs)),some (.lst f5 (aO n rs f5 0 n)),c6,c7,c8,some (qD B),some (qD C),some (.int a),some (.int b),c13,c14,c15,c16,c17]) (by simp) e ih,s1,s2⟩
theorem yG (lot:List Int) (ll:∀ h ∈ lot,∃ b:Nat,b < n /\ h = b):∀ (gs:List Int) (B C:Rat) (i:Nat) (c11 c12 c13 c14 c15:Option D),(∀ h ∈ gs,∃ b:Nat,b < n /\ h = b) -> Sm (1 + 38 * i) B -> Sm (1 + 66 * i) C -> i + lot.length * gs.length <= 60 ->
  ∃ LO xW uh ug uf,d9 (fun d ρ=>bU (.nm 11) d ρ) (fun ρ=>bc Φ EH ρ) (ab gs) [c0,c1,c2,some (.lst f3 (aB ws)),some (.lst f4 (aB xs)),some (.lst f5 (aO n rs f5 0 n)),c6,c7,some (.tup (ab lot)),some (qD B),some (qD C),c11,c12,c13,c14,c15,c16,c17] =
   ok (.nx,[c0,c1,c2,some (.lst f3 (aB ws)),some (.lst f4 (aB xs)),some (.lst f5 (aO n rs f5 0 n)),c6,c7,some (.tup (ab lot)),some (qD (B + (gs.map fun g=>ql rs ws xs g lot).sum)),some (qD (C + (gs.map fun g=>gN rs xs g lot).sum)),LO,xW,uh,ug,uf,c16,c17])
 | [],B,C,i,c11,c12,c13,c14,c15,_,_,_,_=>⟨c11,c12,c13,c14,c15,by simp [fF,Rat.add_zero]⟩
 | g :: gs,B,C,i,c11,c12,c13,c14,c15,hg,sB,sC,hl=>by
  rw [List.length_cons,Nat.mul_succ] at hl
  obtain ⟨a,ha,rfl⟩:=hg g List.mem_cons_self
  obtain ⟨MA,Ia,H_,H9,e,s1,s2⟩:=yF Φ K G hi hp f3 f4 f5 c0 c1 c2 c6 c7 (some (.tup (ab lot))) c16 c17 ha lot B C i c12 c13 c14 c15 ll sB sC (by omega)
  obtain ⟨LO,xW,uh,ug,uf,ih⟩:=yG lot ll gs _ _ (i + lot.length) (some (.int a)) MA Ia H_ H9 (fun x hx=>hg x (List.mem_cons_of_mem _ hx)) s1 s2 (by omega)
  have hit:cK Φ (.seq (.v 8)) [c0,c1,c2,some (.lst f3 (aB ws)),some (.lst f4 (aB xs)),some (.lst f5 (aO n rs f5 0 n)),c6,c7,some (.tup (ab lot)),some (qD B),some (qD C),some (.int a),c12,c13,c14,c15,c16,c17] = ok (ab lot,[c0,c1,c2,some (.lst f3 (aB ws)),some (.lst f4 (aB xs)),some (.lst f5 (aO n rs f5 0 n)),c6,c7,some (.tup (ab lot)),some (qD B),some (qD C),some (.int a),c12,c13,c14,c15,c16,c17]):=by
   rw [Ki (ds:=ab lot) (by simp)];simp
  have hf:=eZ (Φ:=Φ) (t:=.nm 12) (b:=EG) hit e
  rw [List.map_cons,List.map_cons,List.sum_cons,List.sum_cons,<- Rat.add_assoc,<- Rat.add_assoc]
  refine ⟨LO,xW,uh,ug,uf,cL (ρ1:=[c0,c1,c2,some (.lst f3 (aB ws)),some (.lst f4 (aB xs)),some (.lst f5 (aO n rs f5 0 n)),c6,c7,some (.tup (ab lot)),some (qD B),some (qD C),some (.int a),c12,c13,c14,c15,c16,c17]) (by simp) ?_ ih⟩
  rw [EH,cR,hf];rfl
end
theorem BR (rs:List Row) (ws xs:List Rat) (lot:List Int):∀ gs:List Int,((gv lot gs).map fun p=>qk rs ws xs p.1 p.2 / af rs p.1 p.2).sum = (gs.map fun g=>ql rs ws xs g lot).sum
 | []=>rfl
 | g :: gs=>by
  have e:gv lot (g :: gs) = (lot.map fun h=>(g,h)) ++ gv lot gs:=by simp [gv]
  rw [e,List.map_append,List.sum_append,BR rs ws xs lot gs,List.map_cons,List.sum_cons,List.map_map]
  rfl
theorem rF (rs:List Row) (xs:List Rat) (g:Int):∀ hs:List Int,(∀ h ∈ hs,h <= g) -> gN rs xs g hs = 0
 | [],_=>rfl
 | h :: hs,hh=>by
  have:=hh h List.mem_cons_self
  unfold gN
  rw [List.map_cons,List.sum_cons,if_neg (by omega),Rat.zero_add]
  exact rF rs xs g hs fun x hx=>hh x (List.mem_cons_of_mem _ hx)
theorem vP (rs:List Row) (xs:List Rat) (g:Int):∀ hs:List Int,(∀ h ∈ hs,g < h) -> gN rs xs g hs = (hs.map fun h=>gM rs xs g h / af rs g h).sum
 | [],_=>rfl
 | h :: hs,hh=>by
  unfold gN
  rw [List.map_cons,List.sum_cons,if_pos (hh h List.mem_cons_self),List.map_cons,List.sum_cons]
  congr 1
  exact vP rs xs g hs fun x hx=>hh x (List.mem_cons_of_mem _ hx)
theorem Dl (rs:List Row) (xs:List Rat) (g:Int) (as bs:List Int):gN rs xs g (as ++ bs) = gN rs xs g as + gN rs xs g bs:=by unfold gN;rw [List.map_append,List.sum_append]
theorem Dj (rs:List Row) (xs:List Rat):∀ (gs pre:List Int),(pre ++ gs).Pairwise (· < ·) -> (gs.map fun g=>gN rs xs g (pre ++ gs)).sum = HV rs xs gs
 | [],_,_=>rfl
 | g :: gs,pre,hs=>by
  have h1:=List.pairwise_append.mp hs
  have h2:=List.pairwise_cons.mp h1.2.1
  have hs':((pre ++ [g]) ++ gs).Pairwise (· < ·):=by rw [List.append_assoc];exact hs
  have ih:=Dj rs xs gs (pre ++ [g]) hs'
  rw [List.append_assoc] at ih
  have e0:pre ++ ([g] ++ gs) = pre ++ g :: gs:=rfl
  rw [e0] at ih
  rw [List.map_cons,List.sum_cons,ih,Dl,rF rs xs g pre fun x hx=>by have:=h1.2.2 x hx g List.mem_cons_self;omega,Rat.zero_add]
  have e1:gN rs xs g (g :: gs) = gN rs xs g gs:=by
   unfold gN
   rw [List.map_cons,List.sum_cons,if_neg (by omega),Rat.zero_add]
  rw [e1,vP rs xs g gs h2.1]
  unfold HV
  show _ = ((gs.map (fun h=>(g,h)) ++ i4 gs).map fun p=>gM rs xs p.1 p.2 / af rs p.1 p.2).sum
  rw [List.map_append,List.sum_append,List.map_map]
  rfl
noncomputable def Fj:List CS:=[.asg (.nm 9) (.tup [(.int 0),(.int 1)]),.asg (.nm 10) (.tup [(.int 0),(.int 1)])]
noncomputable def Fh:List CS:=[.fr (.nm 11) (.seq (.v 8)) EH]
noncomputable def Jj:List CS:=[.asg (.nm 16) (.call 68 [(.ix (.v 6) (.int 0)),(.ix (.v 6) (.int 1)),(.v 8),(.ix (.v 6) (.int 2))]),.asg (.nm 17) (.call 69 [(.ix (.v 6) (.int 0)),(.v 8),(.ix (.v 6) (.int 2))]),.ifs (.or [(.not (.call 204 [(.v 16)])),(.not (.call 204 [(.v 17)])),(.cmp .ne (.lst [(.v 16),(.v 17)]) (.lst [(.v 9),(.v 10)]))]) [.ret (.bl false)] []]
noncomputable def Sw:List CS:=Fj ++ (Fh ++ Jj)
theorem JR (f g:Fl) (p q:Rat):eM .ne (.lst f [qD p,qD q]) (.lst g [qD p,qD q]) = ok (.bl false):=by
 rw [Qv (by rw [la];simp only [List.all_cons,List.all_nil,yC 38,Bool.and_self]) (by rw [la];simp only [List.all_cons,List.all_nil,yC 38,Bool.and_self])]
 show ok (D.bl (!(gO (qD p) (qD p) && (gO (qD q) (qD q) && true)))) = _
 rw [zj,zj];simp
theorem By (Φ:aA) (K:K26 Φ) (RD:lM (Φ 68)) (RC:lP (Φ 69)) (Dg:zI (Φ 204)) {n z:Nat} {rs:List Row} {ws xs:List Rat} (I:Dr 6 n rs) (Fi:A_ rs) (hz:∀ r ∈ rs,r.2.length = z) (z3:z <= 3) (hp:∀ g h:Nat,g < n -> h < n -> 0 < af rs g h) (G:Gs 3 n ws xs) (c0 c1 c2:Option D):∀ (ss:List Row),(∀ r ∈ ss,r ∈ rs) -> ∀ (r9:aC),r9.length = 11 ->
  ∃ Q3,Q3.length = 11 /\ d9 (fun d ρ=>bU (.tp [7,8]) d ρ) (fun ρ=>bc Φ Sw ρ) (cm ss) (c0 :: c1 :: c2 :: some (.lst .ow (aB ws)) :: some (.lst .ow (aB xs)) :: some (.lst .ow (aO n rs .ow 0 n)) :: some (.lst .ow [gu .ow n rs,.lst .ow (aB ws),.lst .ow (aB xs)]) :: r9) = ok (.nx,c0 :: c1 :: c2 :: some (.lst .ow (aB ws)) :: some (.lst .ow (aB xs)) :: some (.lst .ow (aO n rs .ow 0 n)) :: some (.lst .ow [gu .ow n rs,.lst .ow (aB ws),.lst .ow (aB xs)]) :: Q3)
 | [],_,r9,hl=>⟨r9,hl,rfl⟩
 | r :: ss,hss,r9,hl=>by
  obtain ⟨c7,c8,c9,c10,c11,c12,c13,c14,c15,c16,c17,rfl⟩:∃ c7 c8 c9 c10 c11 c12 c13 c14 c15 c16 c17,r9 = [c7,c8,c9,c10,c11,c12,c13,c14,c15,c16,c17]:=by
   match r9,hl with
   | [a,b,c,d,e,f,g,h,i,j,k],_=>exact ⟨a,b,c,d,e,f,g,h,i,j,k,rfl⟩
  have hr:=hss r List.mem_cons_self
  have ll:=I.lot r hr
  have hlz:=hz r hr
  have hi:=w5 I Fi
  have zz:r.2.length * r.2.length <= 3 * 3:=Nat.mul_le_mul (by omega) (by omega)
  obtain ⟨RP,MA,Ia,H_,H9,e⟩:=yG Φ K G hi hp .ow .ow .ow c0 c1 c2 (some (.lst .ow [gu .ow n rs,.lst .ow (aB ws),.lst .ow (aB xs)])) (some (qD r.1)) c16 c17 r.2 (fun h hh=>ll.nat hh) r.2 0 0 0 c11 c12 c13 c14 c15 (fun h hh=>ll.nat hh) (by constructor <;> decide) (by constructor <;> decide) (by omega)
  rw [Rat.zero_add,Rat.zero_add] at e
  have e1:(r.2.map fun g=>ql rs ws xs g r.2).sum = L6 rs ws xs r.2:=(BR rs ws xs r.2 r.2).symm
  have e2:(r.2.map fun g=>gN rs xs g r.2).sum = HV rs xs r.2:=Dj rs xs r.2 [] ll.1
  rw [e1,e2] at e
  have z0:D.tup [.int 0,.int 1] = qD 0:=rfl
  have ga:bc Φ Fj [c0,c1,c2,some (.lst .ow (aB ws)),some (.lst .ow (aB xs)),some (.lst .ow (aO n rs .ow 0 n)),some (.lst .ow [gu .ow n rs,.lst .ow (aB ws),.lst .ow (aB xs)]),some (qD r.1),some (.tup (ab r.2)),c9,c10,c11,c12,c13,c14,c15,c16,c17] = ok (.nx,[c0,c1,c2,some (.lst .ow (aB ws)),some (.lst .ow (aB xs)),some (.lst .ow (aO n rs .ow 0 n)),some (.lst .ow [gu .ow n rs,.lst .ow (aB ws),.lst .ow (aB xs)]),some (qD r.1),some (.tup (ab r.2)),some (qD 0),some (qD 0),c11,c12,c13,c14,c15,c16,c17]):=by
   simp [Fj,z0]
  have hit:cK Φ (.seq (.v 8)) [c0,c1,c2,some (.lst .ow (aB ws)),some (.lst .ow (aB xs)),some (.lst .ow (aO n rs .ow 0 n)),some (.lst .ow [gu .ow n rs,.lst .ow (aB ws),.lst .ow (aB xs)]),some (qD r.1),some (.tup (ab r.2)),some (qD 0),some (qD 0),c11,c12,c13,c14,c15,c16,c17] = ok (ab r.2,[c0,c1,c2,some (.lst .ow (aB ws)),some (.lst .ow (aB xs)),some (.lst .ow (aO n rs .ow 0 n)),some (.lst .ow [gu .ow n rs,.lst .ow (aB ws),.lst .ow (aB xs)]),some (qD r.1),some (.tup (ab r.2)),some (qD 0),some (qD 0),c11,c12,c13,c14,c15,c16,c17]):=by
   rw [Ki (ds:=ab r.2) (by simp)];simp
  have hf:=eZ (Φ:=Φ) (t:=.nm 11) (b:=EH) hit e
  have gb:bc Φ Fh [c0,c1,c2,some (.lst .ow (aB ws)),some (.lst .ow (aB xs)),some (.lst .ow (aO n rs .ow 0 n)),some (.lst .ow [gu .ow n rs,.lst .ow (aB ws),.lst .ow (aB xs)]),some (qD r.1),some (.tup (ab r.2)),some (qD 0),some (qD 0),c11,c12,c13,c14,c15,c16,c17] = ok (.nx,[c0,c1,c2,some (.lst .ow (aB ws)),some (.lst .ow (aB xs)),some (.lst .ow (aO n rs .ow 0 n)),some (.lst .ow [gu .ow n rs,.lst .ow (aB ws),.lst .ow (aB xs)]),some (qD r.1),some (.tup (ab r.2)),some (qD (L6 rs ws xs r.2)),some (qD (HV rs xs r.2)),RP,MA,Ia,H_,H9,c16,c17]):=by
   rw [Fh,cR,hf];rfl
  have s1:=fun f g=>RD 6 n rs r f g ws xs 3 6 I hr G hi hp (by omega)
  have s2:=fun g=>RC 6 n rs r g xs 3 6 z I hr hz G.l2 G.s2 (by decide) hi hp (by omega)
  have i1:=Dg (L6 rs ws xs r.2)
  have i2:=Dg (HV rs xs r.2)
  have i3:=fun f g=>JR f g (L6 rs ws xs r.2) (HV rs xs r.2)
  generalize L6 rs ws xs r.2 = sq at *
  generalize HV rs xs r.2 = gq at *
  have gc:bc Φ Jj [c0,c1,c2,some (.lst .ow (aB ws)),some (.lst .ow (aB xs)),some (.lst .ow (aO n rs .ow 0 n)),some (.lst .ow [gu .ow n rs,.lst .ow (aB ws),.lst .ow (aB xs)]),some (qD r.1),some (.tup (ab r.2)),some (qD sq),some (qD gq),RP,MA,Ia,H_,H9,c16,c17] = ok (.nx,[c0,c1,c2,some (.lst .ow (aB ws)),some (.lst .ow (aB xs)),some (.lst .ow (aO n rs .ow 0 n)),some (.lst .ow [gu .ow n rs,.lst .ow (aB ws),.lst .ow (aB xs)]),some (qD r.1),some (.tup (ab r.2)),some (qD sq),some (qD gq),RP,MA,Ia,H_,H9,some (qD sq),some (qD gq)]):=by
   simp [Jj,HZ,s1,s2,i1,i2,i3]
  obtain ⟨Q3,uH,ih⟩:=By Φ K RD RC Dg I Fi hz z3 hp G c0 c1 c2 ss (fun x hx=>hss x (List.mem_cons_of_mem _ hx)) [some (qD r.1),some (.tup (ab r.2)),some (qD sq),some (qD gq),RP,MA,Ia,H_,H9,some (qD sq),some (qD gq)] rfl
  exact ⟨Q3,uH,cL (ρ1:=[c0,c1,c2,some (.lst .ow (aB ws)),some (.lst .ow (aB xs)),some (.lst .ow (aO n rs .ow 0 n)),some (.lst .ow [gu .ow n rs,.lst .ow (aB ws),.lst .ow (aB xs)]),some (qD r.1),some (.tup (ab r.2)),c9,c10,c11,c12,c13,c14,c15,c16,c17]) (by simp [rD]) ((eT Φ Fj _ _ _ ga).trans ((eT Φ Fh _ _ _ gb).trans gc)) ih⟩
noncomputable def JB:List CS:=[.asg (.nm 1) (.call 238 [(.v 0),(.int 0)]),.asg (.nm 2) (.ix (.v 1) (.int 0)),.asg (.nm 3) (.call 230 [(.call 200 [(.v 0),(.int 14)]),(.v 2)]),.asg (.nm 4) (.call 230 [(.call 200 [(.v 0),(.int 15)]),(.v 2)]),.asg (.nm 5) (.call 213 [(.v 1)]),.asg (.nm 6) (.lst [(.call 215 [(.v 1)]),(.bf .list1 [(.v 3)]),(.bf .list1 [(.v 4)])])]
noncomputable def JA:List CS:=[.fr (.tp [7,8]) (.seq (.ix (.v 1) (.int 1))) Sw]
noncomputable def NS:List CS:=[.ret (.cmp .eq (.v 6) (.lst [(.v 1),(.v 3),(.v 4)]))]
noncomputable def lI:List CS:=JB ++ (JA ++ NS)
theorem Og (Φ:aA) (RD:lM (Φ 68)) (RC:lP (Φ 69)) (Dh:uD (Φ 200)) (jV:mV (Φ 202)) (oW:fI (Φ 203)) (Dg:zI (Φ 204)) (X2:pN (Φ 213)) (X1:mH (Φ 215)) (Df:ko (Φ 222)) (Pb:uB (Φ 230)) (X0:x4 (Φ 238)) (AF:uE (Φ 240)) (ns:List Int) :
  mk Φ 1 18 lI [.lst .sc (ab ns)] = ok (.bl true):=by
 obtain ⟨n,rs,z,n5,z3,I,Fi,hz,hp,e1⟩:=X0 ns 0 (by decide)
 have n2:=I.n2
 have c14:=Dh ns 14 (by decide)
 have c15:=Dh ns 15 (by decide)
 obtain ⟨ws,w1,w2,w3⟩:=Pb (j8 ns 14) n n2
 obtain ⟨xs,x1,x2,x3⟩:=Pb (j8 ns 15) n n2
 have G:Gs 3 n ws xs:=⟨w2,x2,w3,x3,by decide⟩
 have e2:Φ 215 [bw n rs] = ok (gu .ow n rs):=X1 n rs
 have e3:=X2 n rs I
 have f1:kg .ow = .ow:=rfl
 have f2:=lp cn n rs .ow 0 n rfl
 rw [mk_eq (show [D.lst .sc (ab ns)].length = 1 from rfl)]
 show pq (bc Φ lI [some (.lst .sc (ab ns)),none,none,none,none,none,none,none,none,none,none,none,none,none,none,none,none,none]) = _
 have ga:bc Φ JB [some (.lst .sc (ab ns)),none,none,none,none,none,none,none,none,none,none,none,none,none,none,none,none,none] = ok (.nx,[some (.lst .sc (ab ns)),some (gu .ow n rs),some (.int n),some (.lst .ow (aB ws)),some (.lst .ow (aB xs)),some (.lst .ow (aO n rs .ow 0 n)),some (.lst .ow [gu .ow n rs,.lst .ow (aB ws),.lst .ow (aB xs)]),none,none,none,none,none,none,none,none,none,none,none]):=by
  simp [JB,e1,HZ,e2,e3,c14,c15,w1,x1,bK,f1,f2]
 obtain ⟨r9,hl,el⟩:=By Φ ⟨jV,oW,Df,AF⟩ RD RC Dg I Fi hz z3 hp G (some (.lst .sc (ab ns))) (some (gu .fz n rs)) (some (.int n)) rs (fun _ h=>h) [none,none,none,none,none,none,none,none,none,none,none] rfl
 have y1:aN Φ (.ix (.v 1) (.int 1)) [some (.lst .sc (ab ns)),some (gu .ow n rs),some (.int n),some (.lst .ow (aB ws)),some (.lst .ow (aB xs)),some (.lst .ow (aO n rs .ow 0 n)),some (.lst .ow [gu .ow n rs,.lst .ow (aB ws),.lst .ow (aB xs)]),none,none,none,none,none,none,none,none,none,none,none] = ok (.lst .al (cm rs)):=by simp [gu]
 have hit:cK Φ (.seq (.ix (.v 1) (.int 1))) [some (.lst .sc (ab ns)),some (gu .ow n rs),some (.int n),some (.lst .ow (aB ws)),some (.lst .ow (aB xs)),some (.lst .ow (aO n rs .ow 0 n)),some (.lst .ow [gu .ow n rs,.lst .ow (aB ws),.lst .ow (aB xs)]),none,none,none,none,none,none,none,none,none,none,none] = ok (cm rs,[some (.lst .sc (ab ns)),some (gu .fz n rs),some (.int n),some (.lst .ow (aB ws)),some (.lst .ow (aB xs)),some (.lst .ow (aO n rs .ow 0 n)),some (.lst .ow [gu .ow n rs,.lst .ow (aB ws),.lst .ow (aB xs)]),none,none,none,none,none,none,none,none,none,none,none]):=by
  rw [Ap y1]
  simp [iQ,aL]
 have hf:=eZ (Φ:=Φ) (t:=.tp [7,8]) (b:=Sw) hit el
 have gb:bc Φ JA [some (.lst .sc (ab ns)),some (gu .ow n rs),some (.int n),some (.lst .ow (aB ws)),some (.lst .ow (aB xs)),some (.lst .ow (aO n rs .ow 0 n)),some (.lst .ow [gu .ow n rs,.lst .ow (aB ws),.lst .ow (aB xs)]),none,none,none,none,none,none,none,none,none,none,none] = ok (.nx,some (.lst .sc (ab ns)) :: some (gu .fz n rs) :: some (.int n) :: some (.lst .ow (aB ws)) :: some (.lst .ow (aB xs)) :: some (.lst .ow (aO n rs .ow 0 n)) :: some (.lst .ow [gu .ow n rs,.lst .ow (aB ws),.lst .ow (aB xs)]) :: r9):=by
  rw [JA,cR,hf];rfl
 have f4:=fun f g a b c a' b' c'=>Dx n rs ws xs f g a b c a' b' c'
 rw [lI,eT Φ _ _ _ _ ga,eT Φ _ _ _ _ gb]
 simp [NS,f4]
end DI
end
noncomputable def PySem.W.Fast.tw10623268973610174050:Nat:=0
noncomputable def PySem.W.Fast.tw5719584267304892702:Nat:=0
noncomputable def PySem.W.Fast.tw16238300226790323445:Nat:=0
noncomputable def PySem.W.Fast.tw2829857480107205496:Nat:=0
noncomputable def PySem.W.Fast.tw1049814541128767886:Nat:=0
noncomputable def PySem.W.Fast.tw7573697160403505763:Nat:=0
noncomputable def PySem.W.Fast.tw12213997138244253693:Nat:=0
noncomputable def PySem.W.Fast.tw8378348855528845004:Nat:=0
noncomputable def PySem.W.Fast.tw7017568569315789088:Nat:=0
noncomputable def PySem.W.Fast.tw5066324421713004468:Nat:=0
noncomputable def PySem.W.Fast.tw6055195264389335327:Nat:=0
noncomputable def PySem.W.Fast.tw18300643623055451763:Nat:=0
noncomputable def PySem.W.Fast.tw86608883529321526:Nat:=0
noncomputable def PySem.W.Fast.tw9695377144937466148:Nat:=0
noncomputable def PySem.W.Fast.tw7660013630097029371:Nat:=0
noncomputable def PySem.W.Fast.tw17037698546744567872:Nat:=0
noncomputable def PySem.W.Fast.tw8106416063183156007:Nat:=0
noncomputable def PySem.W.Fast.tw13806634612068103312:Nat:=0
noncomputable def PySem.W.Fast.tw15543979653198057531:Nat:=0
noncomputable def PySem.W.Fast.tw10653888485896268627:Nat:=0
noncomputable def PySem.W.Fast.tw11826508453860986274:Nat:=0
noncomputable def PySem.W.Fast.tw10556852013959975066:Nat:=0
noncomputable def PySem.W.Fast.tw125935112622492328:Nat:=0
noncomputable def PySem.W.Fast.tw1866184303078368261:Nat:=0
noncomputable def PySem.W.Fast.tw3957755914399926464:Nat:=0
noncomputable def PySem.W.Fast.tw10654779798485287830:Nat:=0
noncomputable def PySem.W.Fast.tw14958382839969992942:Nat:=0
noncomputable def PySem.W.Fast.tw8596016915835479653:Nat:=0
noncomputable def PySem.W.Fast.tw495439274412508260:Nat:=0
noncomputable def PySem.W.Fast.tw8602383385219324406:Nat:=0
noncomputable def PySem.W.Fast.tw14784629662967285255:Nat:=0
noncomputable def PySem.W.Fast.tw13578297757281792701:Nat:=0
noncomputable def PySem.W.Fast.tw6781277361690792156:Nat:=0
noncomputable def PySem.W.Fast.tw12938200992183260530:Nat:=0
noncomputable def PySem.W.Fast.tw6759383130385831447:Nat:=0
noncomputable def PySem.W.Fast.tw1842846905113407002:Nat:=0
noncomputable def PySem.W.Fast.tw16142013803212790837:Nat:=0
noncomputable def PySem.W.Fast.tw13049160671121877214:Nat:=0
noncomputable def PySem.W.Fast.tw9173355150877408300:Nat:=0
noncomputable def PySem.W.Fast.tw17792129181629880015:Nat:=0
noncomputable def PySem.W.Fast.tw17810196433625446931:Nat:=0
noncomputable def PySem.W.Fast.tw5223749029337003557:Nat:=0
noncomputable def PySem.W.Fast.tw9826182711561006679:Nat:=0
noncomputable def PySem.W.Fast.tw14209995280921765513:Nat:=0
noncomputable def PySem.W.Fast.tw9422794472074764489:Nat:=0
noncomputable def PySem.W.Fast.tw987996569884223391:Nat:=0
noncomputable def PySem.W.Fast.tw4640902882289008962:Nat:=0
noncomputable def PySem.W.Fast.tw153274876540960096:Nat:=0
noncomputable def PySem.W.Fast.tw16228505732736290413:Nat:=0
noncomputable def PySem.W.Fast.tw6080060864850417424:Nat:=0
noncomputable def PySem.W.Fast.tw7255470281604834620:Nat:=0
noncomputable def PySem.W.Fast.tw7721194494931886275:Nat:=0
noncomputable def PySem.W.Fast.tw5770788898347590827:Nat:=0
noncomputable def PySem.W.Fast.tw5737125696673503411:Nat:=0
noncomputable def PySem.W.Fast.tw5642051964365192385:Nat:=0
noncomputable def PySem.W.Fast.tw8177361731691919787:Nat:=0
noncomputable def PySem.W.Fast.tw13507731053338536785:Nat:=0
noncomputable def PySem.W.Fast.tw3575433343205865657:Nat:=0
noncomputable def PySem.W.Fast.tw8580253191313135974:Nat:=0
namespace Asm
open PySem PySem.Spec PyProof.Rows L2 DI
noncomputable def top (i:Nat):Stmt:=PySem.Challenge.pw_sharesample_k26_guesses_of_spreads.main.body.getD i (.Pass ⟨0,0,0,0⟩)
noncomputable def px:Px:=⟨fun n sc bl e=>if n = 1017 then gQ "sorted" sc bl e else if n = 1020 then mE true sc bl e else if n = 1022 then zw sc bl e else if n = 1023 then mE true sc bl e else if n = 1040 then zu sc bl e else if n = 1042 then zx "len" "set" sc bl e else if n = 1043 then zr sc bl e else if n = 1044 then tZ sc bl e else none,fun n sc bl e=>if n = 1000 then jl sc bl e else if n = 1002 then gQ "enumerate" sc bl e else none,fun n sc bl e=>if n = 1013 then xS sc bl e else none⟩
theorem fu {Φ:aA} (yZ:Φ 1000 = zK) (yY:Φ 1002 = my) (iP:Φ 1013 = tN) (yX:Φ 1017 = kb) (yW:Φ 1020 = (cutD true)) (lq:Φ 1022 = HW) (oX:Φ 1023 = pA) (yV:Φ 1040 = JY) (yU:Φ 1042 = xm) (yT:Φ 1043 = Ma) (yS:Φ 1044 = Aw):G8 px Φ:=⟨(fun X sc bl k L p e args he F cs hs=>by
  dsimp only [px] at he
  split at he
  ·rename_i hp;subst hp
   exact BL yX L he hs
  ·split at he
   ·rename_i hp;subst hp
    exact LH yW L he hs
   ·split at he
    ·rename_i hp;subst hp
     exact Pc lq L he hs
    ·split at he
     ·rename_i hp;subst hp
      exact GP oX L he hs
     ·split at he
      ·rename_i hp;subst hp
       exact Od yV L he hs
      ·split at he
       ·rename_i hp;subst hp
        exact J1 yU L he hs
       ·split at he
        ·rename_i hp;subst hp
         exact NZ yT L he hs
        ·split at he
         ·rename_i hp;subst hp
          exact Ks yS L he hs
         ·cases he),(fun X sc bl k L p e args he F cs tg ht hs pins s σ H R τ ρ xs d items I Si dk ed ei Rr hR=>by
  dsimp only [px] at he
  split at he
  ·rename_i hp;subst hp
   exact Il yZ L he ht hs I Si dk ed ei Rr hR
  ·split at he
   ·rename_i hp;subst hp
    exact Dy yY L he ht hs I Si dk ed ei Rr hR
   ·cases he)⟩
theorem fN {Φ:aA} (yZ:Φ 1000 = zK) (yY:Φ 1002 = my) (iP:Φ 1013 = tN) (yX:Φ 1017 = kb) (yW:Φ 1020 = (cutD true)) (lq:Φ 1022 = HW) (oX:Φ 1023 = pA) (yV:Φ 1040 = JY) (yU:Φ 1042 = xm) (yT:Φ 1043 = Ma) (yS:Φ 1044 = Aw):R4 px Φ:=⟨(fun X sc bl k L hN D7 p st x pos args he i hi hl pe F cs hs=>by
  dsimp only [px] at he
  split at he
  ·rename_i hp;subst hp
   exact Ls iP L hN D7 he hi hl pe hs
  ·cases he)⟩
noncomputable def PT:aA
 | 1000=>zK
 | 1002=>my
 | 1013=>tN
 | 1017=>kb
 | 1020=>(cutD true)
 | 1022=>HW
 | 1023=>pA
 | 1040=>JY
 | 1042=>xm
 | 1043=>Ma
 | 1044=>Aw
 | _=>fun _=>none
noncomputable def kF:aA
 | n=>PT n
noncomputable def dc:List D -> O D:=mk kF 2 4 (lH)
noncomputable def mM:aA
 | 201=>dc
 | n=>PT n
noncomputable def jR:List D -> O D:=mk mM 2 2 (zB 201)
noncomputable def mL:aA
 | 201=>dc
 | n=>PT n
noncomputable def jQ:List D -> O D:=mk mL 2 2 (jK 201)
noncomputable def pT:aA
 | 201=>dc
 | 203=>jQ
 | n=>PT n
noncomputable def pP:List D -> O D:=mk pT 2 2 (uo)
noncomputable def kH:aA
 | n=>PT n
noncomputable def iE:List D -> O D:=mk kH 2 4 (ff)
noncomputable def iI:aA
 | n=>PT n
noncomputable def iD:List D -> O D:=mk iI 1 1 (jM)
noncomputable def kG:aA
 | 200=>iE
 | 201=>dc
 | n=>PT n
noncomputable def kz:List D -> O D:=mk kG 2 9 (pL)
noncomputable def pS:aA
 | n=>PT n
noncomputable def pO:List D -> O D:=mk pS 1 1 (zC)
noncomputable def kE:aA
 | 201=>dc
 | n=>PT n
noncomputable def kv:List D -> O D:=mk kE 2 4 (nQ)
noncomputable def jx:aA
 | 202=>jR
 | n=>PT n
noncomputable def js:List D -> O D:=mk jx 1 8 (lG)
noncomputable def mK:aA
 | 201=>dc
 | n=>PT n
noncomputable def mI:List D -> O D:=mk mK 2 2 (mG 201)
noncomputable def dR:aA
 | n=>PT n
noncomputable def cG:List D -> O D:=mk dR 1 3 (nU)
noncomputable def kI:aA
 | n=>PT n
noncomputable def gi:List D -> O D:=mk kI 1 1 (iz)
noncomputable def iN:aA
 | 0=>gi
 | n=>PT n
noncomputable def fM:List D -> O D:=mk iN 2 2 (dh)
noncomputable def pV:aA
 | 43=>fM
 | n=>PT n
noncomputable def lQ:List D -> O D:=mk pV 2 2 (hV)
noncomputable def jz:aA
 | 11=>lQ
 | n=>PT n
noncomputable def gH:List D -> O D:=mk jz 2 2 (um)
noncomputable def eR:aA
 | n=>PT n
noncomputable def eO:List D -> O D:=mk eR 1 1 (nP)
noncomputable def eQ:aA
 | n=>PT n
noncomputable def ck:List D -> O D:=mk eQ 2 3 (dg)
noncomputable def gZ:aA
 | 0=>gi
 | 1=>ck
 | n=>PT n
noncomputable def eX:List D -> O D:=mk gZ 1 1 (bF)
noncomputable def fq:aA
 | 3=>eX
 | n=>PT n
noncomputable def dH:List D -> O D:=mk fq 2 2 (bO)
noncomputable def gn:aA
 | 40=>dH
 | n=>PT n
noncomputable def eC:List D -> O D:=mk gn 2 2 (iB 40 4)
noncomputable def g5:aA
 | 1=>ck
 | n=>PT n
noncomputable def bZ:List D -> O D:=mk g5 2 3 (cJ)
noncomputable def mN:aA
 | 2=>bZ
 | n=>PT n
noncomputable def hZ:List D -> O D:=mk mN 2 2 (DP 2)
noncomputable def fi:aA
 | 1=>ck
 | n=>PT n
noncomputable def dG:List D -> O D:=mk fi 1 3 (cH)
noncomputable def ju:aA
 | n=>PT n
noncomputable def gF:List D -> O D:=mk ju 2 2 (gB)
noncomputable def kD:aA
 | 9=>dG
 | 10=>gF
 | n=>PT n
noncomputable def ku:List D -> O D:=mk kD 1 2 (iy)
noncomputable def iL:aA
 | 2=>bZ
 | 41=>ku
 | n=>PT n
noncomputable def fL:List D -> O D:=mk iL 1 2 (fH)
noncomputable def iM:aA
 | 2=>bZ
 | n=>PT n
noncomputable def eB:List D -> O D:=mk iM 2 2 (jK 2)
noncomputable def g9:aA
 | 6=>eB
 | n=>PT n
noncomputable def eY:List D -> O D:=mk g9 2 2 (uq)
noncomputable def jy:aA
 | 2=>bZ
 | n=>PT n
noncomputable def gG:List D -> O D:=mk jy 2 2 (mG 2)
noncomputable def iH:aA
 | n=>PT n
noncomputable def di:List D -> O D:=mk iH 2 2 (lF)
noncomputable def kK:aA
 | 5=>gG
 | 6=>eB
 | 7=>hZ
 | 61=>eY
 | 62=>di
 | n=>PT n
noncomputable def kB:List D -> O D:=mk kK 3 6 (zD)
noncomputable def pU:aA
 | 3=>eX
 | 43=>fM
 | n=>PT n
noncomputable def pQ:List D -> O D:=mk pU 2 2 (lJ)
noncomputable def jv:aA
 | n=>PT n
noncomputable def jq:List D -> O D:=mk jv 1 3 (gC)
noncomputable def gj:aA
 | 9=>dG
 | 10=>gF
 | n=>PT n
noncomputable def eA:List D -> O D:=mk gj 1 4 (jJ)
noncomputable def gW:aA
 | 14=>eA
 | n=>PT n
noncomputable def gT:List D -> O D:=mk gW 1 2 (eV)
noncomputable def kJ:aA
 | 0=>gi
 | 12=>pQ
 | 15=>gT
 | 44=>jq
 | n=>PT n
noncomputable def kA:List D -> O D:=mk kJ 1 4 (iA)
noncomputable def iJ:aA
 | 11=>lQ
 | 45=>kA
 | n=>PT n
noncomputable def iF:List D -> O D:=mk iJ 1 1 (fG)
noncomputable def fm:aA
 | 16=>iF
 | n=>PT n
noncomputable def fh:List D -> O D:=mk fm 1 1 (dE)
noncomputable def gY:aA
 | 2=>bZ
 | n=>PT n
noncomputable def gU:List D -> O D:=mk gY 3 4 (nS)
noncomputable def gX:aA
 | 14=>eA
 | 17=>fh
 | 19=>gU
 | n=>PT n
noncomputable def eW:List D -> O D:=mk gX 1 4 (jL)
noncomputable def gm:aA
 | n=>PT n
noncomputable def gh:List D -> O D:=mk gm 1 4 (uk)
noncomputable def iK:aA
 | 7=>hZ
 | 21=>eW
 | 42=>fL
 | 47=>eC
 | 55=>eO
 | 57=>cG
 | 58=>gH
 | 59=>gh
 | 62=>di
 | 64=>kB
 | n=>PT n
noncomputable def iG:List D -> O D:=mk iK 3 5 (GZ)
noncomputable def jA:aA
 | n=>PT n
noncomputable def jt:List D -> O D:=mk jA 1 3 (ur)
noncomputable def fj:aA
 | 40=>dH
 | n=>PT n
noncomputable def fg:List D -> O D:=mk fj 2 2 (iB 40 3)
noncomputable def jw:aA
 | 5=>gG
 | 6=>eB
 | 61=>eY
 | 62=>di
 | n=>PT n
noncomputable def jr:List D -> O D:=mk jw 4 6 (nN)
noncomputable def gk:aA
 | 7=>hZ
 | 21=>eW
 | 42=>fL
 | 46=>fg
 | 47=>eC
 | 57=>cG
 | 58=>gH
 | 60=>jt
 | 62=>di
 | 63=>jr
 | n=>PT n
noncomputable def gg:List D -> O D:=mk gk 4 6 (GY)
noncomputable def DY:aA
 | 68=>gg
 | 69=>iG
 | 200=>iE
 | 202=>jR
 | 203=>jQ
 | 204=>pO
 | 213=>js
 | 215=>iD
 | 222=>mI
 | 230=>kv
 | 238=>kz
 | 240=>pP
 | n=>PT n
noncomputable def QL:List D -> O D:=mk DY 1 18 (lI)
theorem zS:gE dc:=EW kF
theorem Nb:mV jR:=Nu mM (f:=201) zS
theorem Na:fI jQ:=yk mL (f:=201) zS
theorem Sy:uE pP:=Jc pT zS Na
theorem Nc:uD iE:=Jb kH
theorem SE:mH iD:=Ac iI
theorem Sz:x4 kz:=I_ kG Nc zS rfl rfl
theorem SG:zI pO:=Nv pS
theorem SA:uB kv:=EV kE zS
theorem SF:pN js:=BY jx Nb
theorem SD:ko mI:=BZ mK (f:=201) zS
theorem t57:nX cG:=EY dR
theorem t0:dQ gi:=cx kI
theorem t43:fK fM:=bD iN t0
theorem t11:lO lQ:=eo pV t43
theorem t58:uC gH:=Ja jz t11 rfl
theorem t55:uA eO:=EU eR rfl
theorem t1:aQ ck:=aP eQ
theorem t3:dz eX:=bt gZ t0 t1
theorem t40:iT dH:=aW fq t3
theorem t47:jP 4 lK eC:=ym gn (f:=40) rW t40
theorem t2:dA bZ:=bu g5 t1
theorem t7:DV hZ:=s_by mN (f:=2) t2
theorem t9:dF dG:=aU fi t1
theorem t10:gD gF:=bQ ju
theorem t41:kn ku:=cv kD t9 t10
theorem t42:fJ fL:=bC iL t2 t41
theorem t6:fI eB:=yk iM (f:=2) t2.1
theorem t61:uF eY:=Jd g9 t6
theorem t5:ko gG:=BZ jy (f:=2) t2.1
theorem QT:hX di:=BX iH
theorem t64:DU kB:=Nw kK t5 t6 t7 t61 QT
theorem t12:lN pQ:=eh pU t3 t43
theorem t44:jo jq:=bR jv rfl rfl rfl
theorem t14:jN eA:=Aa gj t9 t10 rfl
theorem t15:gS gT:=br gW t14
theorem t45:A8 kA:=cy kJ t0 t12 t15 t44
theorem t16:A8 iF:=bB iJ t11 t45
theorem t17:kr fh:=aV fm t16
theorem t19:nW gU:=EX gY t2
theorem t21:jO eW:=Ab gX t14 t17 t19
theorem t59:xZ gh:=I9 gm rfl rfl rfl
theorem t69:lP iG:=B0 iK t7 t21 t42 t47 t55 t57 t58 t59 QT t64
theorem t60:uG jt:=EZ jA rfl
theorem t46:jP 3 lK fg:=ym fj (f:=40) rW t40
theorem t63:uz jr:=ET jw t5 t6 t61 QT
theorem t68:lM gg:=BW gk t7 t21 t42 t46 t47 t57 t58 t60 QT t63
theorem Am:∀ ns:List Int,QL [.lst .sc (ab ns)] = ok (.bl true):=Og DY t68 t69 Nc Nb Na SG SF SE SD SA Sz Sy
noncomputable abbrev dJ:Stmt:=top 52
theorem uY:au ["_law_top","_law_bottom","_law_one","_law_other"] ["_law_top","_law_bottom"] (aa dJ):=⟨rfl,rfl,rfl,by decide +kernel,rfl,by decide +kernel,by decide +kernel⟩
noncomputable def vS:Nat -> Option Str:=fun n=>List.lookup n []
theorem wo:aI ⟨aa dJ,["_law_top","_law_bottom","_law_one","_law_other"],vS,["abs"],[],px⟩ (lH) (ae dJ) = true:=by decide +kernel
noncomputable abbrev eH:Stmt:=top 53
theorem xa:au ["_law_one","_law_other"] ["_law_one","_law_other"] (aa eH):=⟨rfl,rfl,rfl,by decide +kernel,rfl,by decide +kernel,by decide +kernel⟩
noncomputable def xD:Nat -> Option Str:=fun n=>List.lookup n [(201,"_law_frac")]
theorem xP:aI ⟨aa eH,["_law_one","_law_other"],xD,[],[],px⟩ (zB 201) (ae eH) = true:=by decide +kernel
noncomputable abbrev eG:Stmt:=top 54
theorem w_:au ["_law_one","_law_other"] ["_law_one","_law_other"] (aa eG):=⟨rfl,rfl,rfl,by decide +kernel,rfl,by decide +kernel,by decide +kernel⟩
noncomputable def xC:Nat -> Option Str:=fun n=>List.lookup n [(201,"_law_frac")]
theorem xO:aI ⟨aa eG,["_law_one","_law_other"],xC,[],[],px⟩ (jK 201) (ae eG) = true:=by decide +kernel
noncomputable abbrev fU:Stmt:=top 61
theorem zY:au ["_law_one","_law_other"] ["_law_one","_law_other"] (aa fU):=⟨rfl,rfl,rfl,by decide +kernel,rfl,by decide +kernel,by decide +kernel⟩
noncomputable def AH:Nat -> Option Str:=fun n=>List.lookup n [(201,"_law_frac"),(203,"_law_mul")]
theorem AS:aI ⟨aa fU,["_law_one","_law_other"],AH,[],[],px⟩ (uo) (ae fU) = true:=by decide +kernel
noncomputable abbrev dN:Stmt:=top 51
theorem u_:au ["_law_script","_law_k","_law_cell_here","_law_number"] ["_law_script","_law_k"] (aa dN):=⟨rfl,rfl,rfl,by decide +kernel,rfl,by decide +kernel,by decide +kernel⟩
noncomputable def vU:Nat -> Option Str:=fun n=>List.lookup n []
theorem wt:aI ⟨aa dN,["_law_script","_law_k","_law_cell_here","_law_number"],vU,["len"],[],px⟩ (ff) (ae dN) = true:=by decide +kernel
noncomputable abbrev cw:Stmt:=top 59
theorem qe:au ["_law_drawing"] ["_law_drawing"] (aa cw):=⟨rfl,rfl,rfl,by decide +kernel,rfl,by decide +kernel,by decide +kernel⟩
noncomputable def qt:Nat -> Option Str:=fun n=>List.lookup n []
theorem qF:aI ⟨aa cw,["_law_drawing"],qt,["list"],[],px⟩ (jM) (ae cw) = true:=by decide +kernel
noncomputable abbrev dM:Stmt:=top 60
theorem uZ:au ["_law_script","_law_at","_law_number","_law_size","_law_many","_law_lots","_law_code","_law_lot","_law_weights"] ["_law_script","_law_at"] (aa dM):=⟨rfl,rfl,rfl,by decide +kernel,rfl,by decide +kernel,by decide +kernel⟩
noncomputable def vT:Nat -> Option Str:=fun n=>List.lookup n [(200,"_law_cell"),(201,"_law_frac")]
theorem wq:aI ⟨aa dM,["_law_script","_law_at","_law_number","_law_size","_law_many","_law_lots","_law_code","_law_lot","_law_weights"],vT,["len","range","sorted","sum","tuple"],[],px⟩ (pL) (ae dM) = true:=by decide +kernel
noncomputable abbrev fT:Stmt:=top 58
theorem zX:au ["_law_found"] ["_law_found"] (aa fT):=⟨rfl,rfl,rfl,by decide +kernel,rfl,by decide +kernel,by decide +kernel⟩
noncomputable def AG:Nat -> Option Str:=fun n=>List.lookup n []
theorem AR:aI ⟨aa fT,["_law_found"],AG,["bool","int","isinstance","len","tuple"],[],px⟩ (zC) (ae fT) = true:=by decide +kernel
noncomputable abbrev dI:Stmt:=top 56
theorem uX:au ["_law_number","_law_many","_law_found","_law_k"] ["_law_number","_law_many"] (aa dI):=⟨rfl,rfl,rfl,by decide +kernel,rfl,by decide +kernel,by decide +kernel⟩
noncomputable def vR:Nat -> Option Str:=fun n=>List.lookup n [(201,"_law_frac")]
theorem wm:aI ⟨aa dI,["_law_number","_law_many","_law_found","_law_k"],vR,["range"],[],px⟩ (nQ) (ae dI) = true:=by decide +kernel
noncomputable abbrev cU:Stmt:=top 57
theorem sF:au ["_law_drawing","_law_found","_law_house","_law_row","_law_other","_law_share","_law_chance","_law_lot"] ["_law_drawing"] (aa cU):=⟨rfl,rfl,rfl,by decide +kernel,rfl,by decide +kernel,by decide +kernel⟩
noncomputable def tG:Nat -> Option Str:=fun n=>List.lookup n [(202,"_law_add")]
theorem tV:aI ⟨aa cU,["_law_drawing","_law_found","_law_house","_law_row","_law_other","_law_share","_law_chance","_law_lot"],tG,["range"],[],px⟩ (lG) (ae cU) = true:=by decide +kernel
noncomputable abbrev eF:Stmt:=top 55
theorem w9:au ["_law_one","_law_other"] ["_law_one","_law_other"] (aa eF):=⟨rfl,rfl,rfl,by decide +kernel,rfl,by decide +kernel,by decide +kernel⟩
noncomputable def xB:Nat -> Option Str:=fun n=>List.lookup n [(201,"_law_frac")]
theorem xN:aI ⟨aa eF,["_law_one","_law_other"],xB,[],[],px⟩ (mG 201) (ae eF) = true:=by decide +kernel
noncomputable abbrev aX:Stmt:=top 40
theorem jS:au ["pairs","line","share"] ["pairs"] (aa aX):=⟨rfl,rfl,rfl,by decide +kernel,rfl,by decide +kernel,by decide +kernel⟩
noncomputable def jW:Nat -> Option Str:=fun n=>List.lookup n []
theorem jY:aI ⟨aa aX,["pairs","line","share"],jW,[],[],px⟩ (nU) (ae aX) = true:=by decide +kernel
noncomputable abbrev cx:Stmt:=top 10
theorem va:au ["thing"] ["thing"] (aa cx):=⟨rfl,rfl,rfl,by decide +kernel,rfl,by decide +kernel,by decide +kernel⟩
noncomputable def vV:Nat -> Option Str:=fun n=>List.lookup n []
theorem wu:aI ⟨aa cx,["thing"],vV,["bool","int","isinstance"],[],px⟩ (iz) (ae cx) = true:=by decide +kernel
noncomputable abbrev bD:Stmt:=top 24
theorem qj:au ["thing","many"] ["thing","many"] (aa bD):=⟨rfl,rfl,rfl,by decide +kernel,rfl,by decide +kernel,by decide +kernel⟩
noncomputable def qy:Nat -> Option Str:=fun n=>List.lookup n [(0,"is_whole")]
theorem qK:aI ⟨aa bD,["thing","many"],qy,["all","isinstance","len","set","tuple"],[],px⟩ (dh) (ae bD) = true:=by decide +kernel
noncomputable abbrev eo:Stmt:=top 25
theorem z_:au ["thing","many"] ["thing","many"] (aa eo):=⟨rfl,rfl,rfl,by decide +kernel,rfl,by decide +kernel,by decide +kernel⟩
noncomputable def AJ:Nat -> Option Str:=fun n=>List.lookup n [(43,"are_houses")]
theorem AV:aI ⟨aa eo,["thing","many"],AJ,["list","sorted"],[],px⟩ (hV) (ae eo) = true:=by decide +kernel
noncomputable abbrev cW:Stmt:=top 41
theorem sH:au ["thing","drawing"] ["thing","drawing"] (aa cW):=⟨rfl,rfl,rfl,by decide +kernel,rfl,by decide +kernel,by decide +kernel⟩
noncomputable def tI:Nat -> Option Str:=fun n=>List.lookup n [(11,"is_lot")]
theorem tX:aI ⟨aa cW,["thing","drawing"],tI,[],[],px⟩ (um) (ae cW) = true:=by decide +kernel
noncomputable abbrev bp:Stmt:=top 39
theorem kY:au ["drawing"] ["drawing"] (aa bp):=⟨rfl,rfl,rfl,by decide +kernel,rfl,by decide +kernel,by decide +kernel⟩
noncomputable def lz:Nat -> Option Str:=fun n=>List.lookup n []
theorem lD:aI ⟨aa bp,["drawing"],lz,["len","set"],[],px⟩ (nP) (ae bp) = true:=by decide +kernel
noncomputable abbrev aP:Stmt:=top 11
theorem kX:au ["one","other","rest"] ["one","other"] (aa aP):=⟨rfl,rfl,rfl,by decide +kernel,rfl,by decide +kernel,by decide +kernel⟩
noncomputable def lu:Nat -> Option Str:=fun n=>List.lookup n []
theorem lC:aI ⟨aa aP,["one","other","rest"],lu,["abs"],[],px⟩ (dg) (ae aP) = true:=by decide +kernel
noncomputable abbrev bt:Stmt:=top 13
theorem oq:au ["thing"] ["thing"] (aa bt):=⟨rfl,rfl,rfl,by decide +kernel,rfl,by decide +kernel,by decide +kernel⟩
noncomputable def o6:Nat -> Option Str:=fun n=>List.lookup n [(0,"is_whole"),(1,"common_divisor")]
theorem pG:aI ⟨aa bt,["thing"],o6,["isinstance","len","tuple"],[],px⟩ (bF) (ae bt) = true:=by decide +kernel
noncomputable abbrev aW:Stmt:=top 14
theorem mf:au ["thing","many"] ["thing","many"] (aa aW):=⟨rfl,rfl,rfl,by decide +kernel,rfl,by decide +kernel,by decide +kernel⟩
noncomputable def mw:Nat -> Option Str:=fun n=>List.lookup n [(3,"is_fraction")]
theorem mD:aI ⟨aa aW,["thing","many"],mw,["all","isinstance","len","list"],[],px⟩ (bO) (ae aW) = true:=by decide +kernel
noncomputable abbrev bJ:Stmt:=top 37
theorem m5:au ["thing","many"] ["thing","many"] (aa bJ):=⟨rfl,rfl,rfl,by decide +kernel,rfl,by decide +kernel,by decide +kernel⟩
noncomputable def nk:Nat -> Option Str:=fun n=>List.lookup n [(40,"are_fractions")]
theorem nv:aI ⟨aa bJ,["thing","many"],nk,[],[],px⟩ (iB 40 4) (ae bJ) = true:=by decide +kernel
noncomputable abbrev bu:Stmt:=top 12
theorem ou:au ["top","bottom","divisor"] ["top","bottom"] (aa bu):=⟨rfl,rfl,rfl,by decide +kernel,rfl,by decide +kernel,by decide +kernel⟩
noncomputable def o7:Nat -> Option Str:=fun n=>List.lookup n [(1,"common_divisor")]
theorem pH:aI ⟨aa bu,["top","bottom","divisor"],o7,[],[],px⟩ (cJ) (ae bu) = true:=by decide +kernel
noncomputable abbrev eI:Stmt:=top 17
theorem xb:au ["one","other"] ["one","other"] (aa eI):=⟨rfl,rfl,rfl,by decide +kernel,rfl,by decide +kernel,by decide +kernel⟩
noncomputable def xE:Nat -> Option Str:=fun n=>List.lookup n [(2,"fraction_of")]
theorem xQ:aI ⟨aa eI,["one","other"],xE,[],[],px⟩ (DP 2) (ae eI) = true:=by decide +kernel
noncomputable abbrev aU:Stmt:=top 18
theorem ma:au ["some","bottom","part"] ["some"] (aa aU):=⟨rfl,rfl,rfl,by decide +kernel,rfl,by decide +kernel,by decide +kernel⟩
noncomputable def mq:Nat -> Option Str:=fun n=>List.lookup n [(1,"common_divisor")]
theorem mz:aI ⟨aa aU,["some","bottom","part"],mq,[],[],px⟩ (cH) (ae aU) = true:=by decide +kernel
noncomputable abbrev bQ:Stmt:=top 19
theorem sA:au ["some","bottom"] ["some","bottom"] (aa bQ):=⟨rfl,rfl,rfl,by decide +kernel,rfl,by decide +kernel,by decide +kernel⟩
noncomputable def tx:Nat -> Option Str:=fun n=>List.lookup n []
theorem tS:aI ⟨aa bQ,["some","bottom"],tx,[],[],px⟩ (gB) (ae bQ) = true:=by decide +kernel
noncomputable abbrev cv:Stmt:=top 20
theorem uW:au ["some","bottom"] ["some"] (aa cv):=⟨rfl,rfl,rfl,by decide +kernel,rfl,by decide +kernel,by decide +kernel⟩
noncomputable def vQ:Nat -> Option Str:=fun n=>List.lookup n [(9,"common_bottom"),(10,"tops_over")]
theorem wk:aI ⟨aa cv,["some","bottom"],vQ,[],[],px⟩ (iy) (ae cv) = true:=by decide +kernel
noncomputable abbrev bC:Stmt:=top 21
theorem qh:au ["some","tops"] ["some"] (aa bC):=⟨rfl,rfl,rfl,by decide +kernel,rfl,by decide +kernel,by decide +kernel⟩
noncomputable def qw:Nat -> Option Str:=fun n=>List.lookup n [(2,"fraction_of"),(41,"over_one")]
theorem qI:aI ⟨aa bC,["some","tops"],qw,["sum"],[],px⟩ (fH) (ae bC) = true:=by decide +kernel
noncomputable abbrev cA:Stmt:=top 16
theorem qi:au ["one","other"] ["one","other"] (aa cA):=⟨rfl,rfl,rfl,by decide +kernel,rfl,by decide +kernel,by decide +kernel⟩
noncomputable def qx:Nat -> Option Str:=fun n=>List.lookup n [(2,"fraction_of")]
theorem qJ:aI ⟨aa cA,["one","other"],qx,[],[],px⟩ (jK 2) (ae cA) = true:=by decide +kernel
noncomputable abbrev bX:Stmt:=top 44
theorem ox:au ["pairs","two"] ["pairs","two"] (aa bX):=⟨rfl,rfl,rfl,by decide +kernel,rfl,by decide +kernel,by decide +kernel⟩
noncomputable def o8:Nat -> Option Str:=fun n=>List.lookup n [(6,"frac_times")]
theorem pI:aI ⟨aa bX,["pairs","two"],o8,[],[],px⟩ (uq) (ae bX) = true:=by decide +kernel
noncomputable abbrev cV:Stmt:=top 15
theorem sG:au ["one","other"] ["one","other"] (aa cV):=⟨rfl,rfl,rfl,by decide +kernel,rfl,by decide +kernel,by decide +kernel⟩
noncomputable def tH:Nat -> Option Str:=fun n=>List.lookup n [(2,"fraction_of")]
theorem tW:aI ⟨aa cV,["one","other"],tH,[],[],px⟩ (mG 2) (ae cV) = true:=by decide +kernel
noncomputable abbrev cu:Stmt:=top 45
theorem qd:au ["pairs","two"] ["pairs","two"] (aa cu):=⟨rfl,rfl,rfl,by decide +kernel,rfl,by decide +kernel,by decide +kernel⟩
noncomputable def qr:Nat -> Option Str:=fun n=>List.lookup n []
theorem qE:aI ⟨aa cu,["pairs","two"],qr,[],[],px⟩ (lF) (ae cu) = true:=by decide +kernel
noncomputable abbrev dO:Stmt:=top 47
theorem vc:au ["pairs","two","worths","one","other","gap"] ["pairs","two","worths"] (aa dO):=⟨rfl,rfl,rfl,by decide +kernel,rfl,by decide +kernel,by decide +kernel⟩
noncomputable def vX:Nat -> Option Str:=fun n=>List.lookup n [(5,"frac_less"),(6,"frac_times"),(7,"frac_by"),(61,"both_shares"),(62,"pair_share")]
theorem wy:aI ⟨aa dO,["pairs","two","worths","one","other","gap"],vX,[],[],px⟩ (zD) (ae dO) = true:=by decide +kernel
noncomputable abbrev eh:Stmt:=top 26
theorem zZ:au ["thing","many"] ["thing","many"] (aa eh):=⟨rfl,rfl,rfl,by decide +kernel,rfl,by decide +kernel,by decide +kernel⟩
noncomputable def AI:Nat -> Option Str:=fun n=>List.lookup n [(3,"is_fraction"),(43,"are_houses")]
theorem AU:aI ⟨aa eh,["thing","many"],AI,["isinstance","len","tuple"],[],px⟩ (lJ) (ae eh) = true:=by decide +kernel
noncomputable abbrev bR:Stmt:=top 27
theorem sD:au ["rows","ahead","behind"] ["rows"] (aa bR):=⟨rfl,rfl,rfl,by decide +kernel,rfl,by decide +kernel,by decide +kernel⟩
noncomputable def tE:Nat -> Option Str:=fun n=>List.lookup n []
theorem tT:aI ⟨aa bR,["rows","ahead","behind"],tE,["zip"],[],px⟩ (gC) (ae bR) = true:=by decide +kernel
noncomputable abbrev bG:Stmt:=top 28
theorem mZ:au ["rows","chances","lots","bottom"] ["rows"] (aa bG):=⟨rfl,rfl,rfl,by decide +kernel,rfl,by decide +kernel,by decide +kernel⟩
noncomputable def nc:Nat -> Option Str:=fun n=>List.lookup n [(9,"common_bottom"),(10,"tops_over")]
theorem nq:aI ⟨aa bG,["rows","chances","lots","bottom"],nc,["list","zip"],[],px⟩ (jJ) (ae bG) = true:=by decide +kernel
noncomputable abbrev br:Stmt:=top 29
theorem oj:au ["rows","weighed"] ["rows"] (aa br):=⟨rfl,rfl,rfl,by decide +kernel,rfl,by decide +kernel,by decide +kernel⟩
noncomputable def o3:Nat -> Option Str:=fun n=>List.lookup n [(14,"weighed_lots")]
theorem pC:aI ⟨aa br,["rows","weighed"],o3,["sum"],[],px⟩ (eV) (ae br) = true:=by decide +kernel
noncomputable abbrev cy:Stmt:=top 30
theorem vb:au ["thing","many","rows","row"] ["thing"] (aa cy):=⟨rfl,rfl,rfl,by decide +kernel,rfl,by decide +kernel,by decide +kernel⟩
noncomputable def vW:Nat -> Option Str:=fun n=>List.lookup n [(0,"is_whole"),(12,"is_row"),(15,"sums_to_one"),(44,"rows_rise")]
theorem wx:aI ⟨aa cy,["thing","many","rows","row"],vW,["isinstance","len","list","tuple"],[("MOST_HOUSES",GK.i 12)],px⟩ (iA) (ae cy) = true:=by decide +kernel
noncomputable abbrev bB:Stmt:=top 31
theorem qf:au ["thing"] ["thing"] (aa bB):=⟨rfl,rfl,rfl,by decide +kernel,rfl,by decide +kernel,by decide +kernel⟩
noncomputable def qu:Nat -> Option Str:=fun n=>List.lookup n [(11,"is_lot"),(45,"is_drawn")]
theorem qG:aI ⟨aa bB,["thing"],qu,["all"],[],px⟩ (fG) (ae bB) = true:=by decide +kernel
noncomputable abbrev aV:Stmt:=top 32
theorem me:au ["thing"] ["thing"] (aa aV):=⟨rfl,rfl,rfl,by decide +kernel,rfl,by decide +kernel,by decide +kernel⟩
noncomputable def mv:Nat -> Option Str:=fun n=>List.lookup n [(16,"is_drawing")]
theorem mC:aI ⟨aa aV,["thing"],mv,[],[],px⟩ (dE) (ae aV) = true:=by decide +kernel
noncomputable abbrev bW:Stmt:=top 33
theorem oo:au ["weighed","one","other","having"] ["weighed","one","other"] (aa bW):=⟨rfl,rfl,rfl,by decide +kernel,rfl,by decide +kernel,by decide +kernel⟩
noncomputable def o5:Nat -> Option Str:=fun n=>List.lookup n [(2,"fraction_of")]
theorem pF:aI ⟨aa bW,["weighed","one","other","having"],o5,["sum"],[],px⟩ (nS) (ae bW) = true:=by decide +kernel
noncomputable abbrev bV:Stmt:=top 34
theorem om:au ["drawing","weighed","pairs","one"] ["drawing"] (aa bV):=⟨rfl,rfl,rfl,by decide +kernel,rfl,by decide +kernel,by decide +kernel⟩
noncomputable def o4:Nat -> Option Str:=fun n=>List.lookup n [(14,"weighed_lots"),(17,"check_drawing"),(19,"joint_share")]
theorem pE:aI ⟨aa bV,["drawing","weighed","pairs","one"],o4,["range"],[],px⟩ (jL) (ae bV) = true:=by decide +kernel
noncomputable abbrev bI:Stmt:=top 42
theorem m4:au ["houses","pairs","place","one"] ["houses"] (aa bI):=⟨rfl,rfl,rfl,by decide +kernel,rfl,by decide +kernel,by decide +kernel⟩
noncomputable def nj:Nat -> Option Str:=fun n=>List.lookup n []
theorem nu:aI ⟨aa bI,["houses","pairs","place","one"],nj,["enumerate"],[],px⟩ (uk) (ae bI) = true:=by decide +kernel
noncomputable abbrev cz:Stmt:=top 49
theorem qg:au ["drawing","lot","worths","pairs","parts"] ["drawing","lot","worths"] (aa cz):=⟨rfl,rfl,rfl,by decide +kernel,rfl,by decide +kernel,by decide +kernel⟩
noncomputable def qv:Nat -> Option Str:=fun n=>List.lookup n [(7,"frac_by"),(21,"pair_shares"),(42,"frac_total"),(47,"check_worths"),(55,"check_one_size"),(57,"check_all_shared"),(58,"check_lot"),(59,"rising_pairs"),(62,"pair_share"),(64,"gap_part")]
theorem qH:aI ⟨aa cz,["drawing","lot","worths","pairs","parts"],qv,[],[],px⟩ (GZ) (ae cz) = true:=by decide +kernel
noncomputable abbrev cX:Stmt:=top 43
theorem sI:au ["houses","pairs","one"] ["houses"] (aa cX):=⟨rfl,rfl,rfl,by decide +kernel,rfl,by decide +kernel,by decide +kernel⟩
noncomputable def tJ:Nat -> Option Str:=fun n=>List.lookup n []
theorem tY:aI ⟨aa cX,["houses","pairs","one"],tJ,[],[],px⟩ (ur) (ae cX) = true:=by decide +kernel
noncomputable abbrev bz:Stmt:=top 36
theorem md:au ["thing","many"] ["thing","many"] (aa bz):=⟨rfl,rfl,rfl,by decide +kernel,rfl,by decide +kernel,by decide +kernel⟩
noncomputable def mr:Nat -> Option Str:=fun n=>List.lookup n [(40,"are_fractions")]
theorem mB:aI ⟨aa bz,["thing","many"],mr,[],[],px⟩ (iB 40 3) (ae bz) = true:=by decide +kernel
noncomputable abbrev cT:Stmt:=top 46
theorem sE:au ["pairs","two","weights","worths","one","other"] ["pairs","two","weights","worths"] (aa cT):=⟨rfl,rfl,rfl,by decide +kernel,rfl,by decide +kernel,by decide +kernel⟩
noncomputable def tF:Nat -> Option Str:=fun n=>List.lookup n [(5,"frac_less"),(6,"frac_times"),(61,"both_shares"),(62,"pair_share")]
theorem tU:aI ⟨aa cT,["pairs","two","weights","worths","one","other"],tF,[],[],px⟩ (nN) (ae cT) = true:=by decide +kernel
noncomputable abbrev bH:Stmt:=top 48
theorem m3:au ["drawing","weights","lot","worths","pairs","parts"] ["drawing","weights","lot","worths"] (aa bH):=⟨rfl,rfl,rfl,by decide +kernel,rfl,by decide +kernel,by decide +kernel⟩
noncomputable def ni:Nat -> Option Str:=fun n=>List.lookup n [(7,"frac_by"),(21,"pair_shares"),(42,"frac_total"),(46,"check_weights"),(47,"check_worths"),(57,"check_all_shared"),(58,"check_lot"),(60,"all_pairs"),(62,"pair_share"),(63,"pair_part")]
theorem nr:aI ⟨aa bH,["drawing","weights","lot","worths","pairs","parts"],ni,[],[],px⟩ (GY) (ae bH) = true:=by decide +kernel
noncomputable abbrev j4:Stmt:=top 62
theorem I0:au ["_law_script","_law_drawing","_law_many","_law_weights","_law_worths","_law_pairs_here","_law_handed","_law_chance","_law_lot","_law_both","_law_gaps","_law_i","_law_j","_law_tie","_law_part","_law_gap","_law_found","_law_told"] ["_law_script"] (aa j4):=⟨rfl,rfl,rfl,by decide +kernel,rfl,by decide +kernel,by decide +kernel⟩
noncomputable def K2:Nat -> Option Str:=fun n=>List.lookup n [(68,"spread_guess"),(69,"gaps_guess"),(200,"_law_cell"),(202,"_law_add"),(203,"_law_mul"),(204,"_law_is"),(213,"_law_pairs"),(215,"_law_copied"),(222,"_law_sub"),(230,"_law_list"),(238,"_law_even"),(240,"_law_by")]
theorem LK:aI ⟨aa j4,["_law_script","_law_drawing","_law_many","_law_weights","_law_worths","_law_pairs_here","_law_handed","_law_chance","_law_lot","_law_both","_law_gaps","_law_i","_law_j","_law_tie","_law_part","_law_gap","_law_found","_law_told"],K2,["list"],[],px⟩ (lI) (ae j4) = true:=by decide +kernel
theorem all_mk {l:PySem.W.OpenLaw} {w:World} {K:PySem.W.Frag} {h:Heap} {mg:Str -> Option Value} {fa f0 f1 f2 f3 f4 f5 f6 f7 f8 f9 YO YN YM YL YK YJ YI YH YG YF YE YD YC YB YA Yz Yy Yx Yw Yv Yu Yt Ys Yr Yq Yp Yo Yn Ym Yk Yj Yi Yh Yg Yf Ye Yd Yc:Addr} (X:K.In h) (G:h.Ns mainGlobals mg) (hfa:mg "law" = some (.ref fa))
  {od0 an0 od1 an1 od2 an2 od3 an3 od4 an4 od5 an5 od6 an6 od7 an7 od8 an8 od9 an9 Vq aa0 Vp aaZ Vo aaY Vn aaX Vm aaW Vl aaV Vk aaU Vj aaT Vi aaS Vh aaR Vg aaQ Vf aaP Ve aaO Vd aaN Vc aaM Vb aaL Va aaK U_ aaJ U9 aaI U8 aaH U7 aaG U6 aaF U5 aaE U4 aaD U3 aaC U2 aaB U1 aaA U0 aaz UZ aay UY aax UX aaw UW aav UU aau UT aat US aas UR aar UQ aaq UP QF:Option Addr} {sl0 sl1 wK sl3 sl4 sl5 sl6 sl7 sl8 sl9 Tx Tw Tv Tu Tt Ts Tr Tq Tp To Tn Tj Ti Th Tf Te Td Tc Tb Ta S_ S9 S8 S7 S5 S3 S0 SY SX SW SV SU SS SR SQ SO SN SM:Array (Option Value)} {oc0 kV0 dc0 pm0 cd0 ct0 oc1 kV1 dc1 pm1 cd1 ct1 oc2 kV2 dc2 pm2 cd2 ct2 oc3 kV3 dc3 pm3 cd3 ct3 oc4 kV4 dc4 pm4 cd4 ct4 oc5 kV5 dc5 pm5 cd5 ct5 oc6 kV6 dc6 pm6 cd6 ct6 oc7 kV7 dc7 pm7 cd7 ct7 oc8 kV8 dc8 pm8 cd8 ct8 oc9 kV9 dc9 pm9 cd9 ct9 V3 WS ZJ UG Qr aaj V2 WR ZI UE Qq aai V1 WQ ZH UD Qp aah V0 WO ZG UC Qo aag VZ WN ZF UB Qn aaf VY WM ZE UA Qm aae VX WL ZD Uz Ql aad VW WK ZC Uy Qk aac VV WJ ZA Ux Qj aab VU WI Zz Uw Qi aaa VT WH Zy Uv Qh Z_ VS WG Zx Uu Qg Z9 VR WE Zw Ut Qf Z8 VQ WD Zv Us Qe Z7 VP WC Zu Ur Qd Z6 VO WB Zt Uq Qc Z5 VN WA Zs Uo Qb Z4 VM Wz Zr Um Qa Z3 VL Wy Zq Ul P_ Z2 VJ Wx Zp Uk P9 Z1 VI Ww Zo Uj P8 Z0 VH Wv Zn Ui P7 ZZ VG Wu Zm Uh P6 ZY VF Wt Zk Ug P5 ZX VE Ws Zj Ue P4 ZW VD Wr Zi Ud P0 ZV VC Wq Zh Uc PZ ZU VB Wo Zg Ub PY ZT VA Wn Zf Ua PV ZS Vz Wm Ze T_ PU ZR Vy Wl Zd T9 PR ZQ Vx Wk Zc T8 PQ ZP Vw Wj Zb T7 PN ZO Vv Wi Za T6 PM ZN Vu Wh Y_ T5 PL ZM Vt Wg Y9 T4 PK ZL Vs Wf Y8 T3 PJ ZK Vr Ol Pw NM LL Py u0:Value}
  (a0:PySem.W.nsIn K mainGlobals "_law_frac" = some (some (.ref f0))) (l0:K.lookup f0 = some ⟨oc0,od0,.func (PySem.W.fnOf "_law_frac" "_law_frac" (aq dJ) (ae dJ) (aa dJ) .none kV0 dc0 pm0 an0 cd0 ct0),sl0⟩) (c0:PySem.W.codeIn K cd0 "_law_frac" = true) (k0:PySem.W.keepIn K (.ref f0) = true)
  (a1:PySem.W.nsIn K mainGlobals "_law_add" = some (some (.ref f1))) (l1:K.lookup f1 = some ⟨oc1,od1,.func (PySem.W.fnOf "_law_add" "_law_add" (aq eH) (ae eH) (aa eH) .none kV1 dc1 pm1 an1 cd1 ct1),sl1⟩) (c1:PySem.W.codeIn K cd1 "_law_add" = true) (k1:PySem.W.keepIn K (.ref f1) = true)
  (a2:PySem.W.nsIn K mainGlobals "_law_mul" = some (some (.ref f2))) (l2:K.lookup f2 = some ⟨oc2,od2,.func (PySem.W.fnOf "_law_mul" "_law_mul" (aq eG) (ae eG) (aa eG) .none kV2 dc2 pm2 an2 cd2 ct2),wK⟩) (c2:PySem.W.codeIn K cd2 "_law_mul" = true) (k2:PySem.W.keepIn K (.ref f2) = true)
  (a3:PySem.W.nsIn K mainGlobals "_law_by" = some (some (.ref f3))) (l3:K.lookup f3 = some ⟨oc3,od3,.func (PySem.W.fnOf "_law_by" "_law_by" (aq fU) (ae fU) (aa fU) .none kV3 dc3 pm3 an3 cd3 ct3),sl3⟩) (c3:PySem.W.codeIn K cd3 "_law_by" = true) (k3:PySem.W.keepIn K (.ref f3) = true)
  (a4:PySem.W.nsIn K mainGlobals "_law_cell" = some (some (.ref f4))) (l4:K.lookup f4 = some ⟨oc4,od4,.func (PySem.W.fnOf "_law_cell" "_law_cell" (aq dN) (ae dN) (aa dN) .none kV4 dc4 pm4 an4 cd4 ct4),sl4⟩) (c4:PySem.W.codeIn K cd4 "_law_cell" = true) (k4:PySem.W.keepIn K (.ref f4) = true)
  (a5:PySem.W.nsIn K mainGlobals "_law_copied" = some (some (.ref f5))) (l5:K.lookup f5 = some ⟨oc5,od5,.func (PySem.W.fnOf "_law_copied" "_law_copied" (aq cw) (ae cw) (aa cw) .none kV5 dc5 pm5 an5 cd5 ct5),sl5⟩) (c5:PySem.W.codeIn K cd5 "_law_copied" = true) (k5:PySem.W.keepIn K (.ref f5) = true)
  (a6:PySem.W.nsIn K mainGlobals "_law_even" = some (some (.ref f6))) (l6:K.lookup f6 = some ⟨oc6,od6,.func (PySem.W.fnOf "_law_even" "_law_even" (aq dM) (ae dM) (aa dM) .none kV6 dc6 pm6 an6 cd6 ct6),sl6⟩) (c6:PySem.W.codeIn K cd6 "_law_even" = true) (k6:PySem.W.keepIn K (.ref f6) = true)
  (a7:PySem.W.nsIn K mainGlobals "_law_is" = some (some (.ref f7))) (l7:K.lookup f7 = some ⟨oc7,od7,.func (PySem.W.fnOf "_law_is" "_law_is" (aq fT) (ae fT) (aa fT) .none kV7 dc7 pm7 an7 cd7 ct7),sl7⟩) (c7:PySem.W.codeIn K cd7 "_law_is" = true) (k7:PySem.W.keepIn K (.ref f7) = true)
  (a8:PySem.W.nsIn K mainGlobals "_law_list" = some (some (.ref f8))) (l8:K.lookup f8 = some ⟨oc8,od8,.func (PySem.W.fnOf "_law_list" "_law_list" (aq dI) (ae dI) (aa dI) .none kV8 dc8 pm8 an8 cd8 ct8),sl8⟩) (c8:PySem.W.codeIn K cd8 "_law_list" = true) (k8:PySem.W.keepIn K (.ref f8) = true)
  (a9:PySem.W.nsIn K mainGlobals "_law_pairs" = some (some (.ref f9))) (l9:K.lookup f9 = some ⟨oc9,od9,.func (PySem.W.fnOf "_law_pairs" "_law_pairs" (aq cU) (ae cU) (aa cU) .none kV9 dc9 pm9 an9 cd9 ct9),sl9⟩) (c9:PySem.W.codeIn K cd9 "_law_pairs" = true) (k9:PySem.W.keepIn K (.ref f9) = true)
  (a10:PySem.W.nsIn K mainGlobals "_law_sub" = some (some (.ref YO))) (l10:K.lookup YO = some ⟨V3,Vq,.func (PySem.W.fnOf "_law_sub" "_law_sub" (aq eF) (ae eF) (aa eF) .none WS ZJ UG aa0 Qr aaj),Tx⟩) (c10:PySem.W.codeIn K Qr "_law_sub" = true) (k10:PySem.W.keepIn K (.ref YO) = true)
  (a11:PySem.W.nsIn K mainGlobals "check_all_shared" = some (some (.ref YN))) (l11:K.lookup YN = some ⟨V2,Vp,.func (PySem.W.fnOf "check_all_shared" "check_all_shared" (aq aX) (ae aX) (aa aX) .none WR ZI UE aaZ Qq aai),Tw⟩) (c11:PySem.W.codeIn K Qq "check_all_shared" = true) (k11:PySem.W.keepIn K (.ref YN) = true)
  (a12:PySem.W.nsIn K mainGlobals "is_whole" = some (some (.ref YM))) (l12:K.lookup YM = some ⟨V1,Vo,.func (PySem.W.fnOf "is_whole" "is_whole" (aq cx) (ae cx) (aa cx) .none WQ ZH UD aaY Qp aah),Tv⟩) (c12:PySem.W.codeIn K Qp "is_whole" = true) (k12:PySem.W.keepIn K (.ref YM) = true)
  (a13:PySem.W.nsIn K mainGlobals "are_houses" = some (some (.ref YL))) (l13:K.lookup YL = some ⟨V0,Vn,.func (PySem.W.fnOf "are_houses" "are_houses" (aq bD) (ae bD) (aa bD) .none WO ZG UC aaX Qo aag),Tu⟩) (c13:PySem.W.codeIn K Qo "are_houses" = true) (k13:PySem.W.keepIn K (.ref YL) = true)
  (a14:PySem.W.nsIn K mainGlobals "is_lot" = some (some (.ref YK))) (l14:K.lookup YK = some ⟨VZ,Vm,.func (PySem.W.fnOf "is_lot" "is_lot" (aq eo) (ae eo) (aa eo) .none WN ZF UB aaW Qn aaf),Tt⟩) (c14:PySem.W.codeIn K Qn "is_lot" = true) (k14:PySem.W.keepIn K (.ref YK) = true)
  (a15:PySem.W.nsIn K mainGlobals "check_lot" = some (some (.ref YJ))) (l15:K.lookup YJ = some ⟨VY,Vl,.func (PySem.W.fnOf "check_lot" "check_lot" (aq cW) (ae cW) (aa cW) .none WM ZE UA aaV Qm aae),Ts⟩) (c15:PySem.W.codeIn K Qm "check_lot" = true) (k15:PySem.W.keepIn K (.ref YJ) = true)
  (a16:PySem.W.nsIn K mainGlobals "check_one_size" = some (some (.ref YI))) (l16:K.lookup YI = some ⟨VX,Vk,.func (PySem.W.fnOf "check_one_size" "check_one_size" (aq bp) (ae bp) (aa bp) .none WL ZD Uz aaU Ql aad),Tr⟩) (c16:PySem.W.codeIn K Ql "check_one_size" = true) (k16:PySem.W.keepIn K (.ref YI) = true)
  (a17:PySem.W.nsIn K mainGlobals "common_divisor" = some (some (.ref YH))) (l17:K.lookup YH = some ⟨VW,Vj,.func (PySem.W.fnOf "common_divisor" "common_divisor" (aq aP) (ae aP) (aa aP) .none WK ZC Uy aaT Qk aac),Tq⟩) (c17:PySem.W.codeIn K Qk "common_divisor" = true) (k17:PySem.W.keepIn K (.ref YH) = true)
  (a18:PySem.W.nsIn K mainGlobals "is_fraction" = some (some (.ref YG))) (l18:K.lookup YG = some ⟨VV,Vi,.func (PySem.W.fnOf "is_fraction" "is_fraction" (aq bt) (ae bt) (aa bt) .none WJ ZA Ux aaS Qj aab),Tp⟩) (c18:PySem.W.codeIn K Qj "is_fraction" = true) (k18:PySem.W.keepIn K (.ref YG) = true)
  (a19:PySem.W.nsIn K mainGlobals "are_fractions" = some (some (.ref YF))) (l19:K.lookup YF = some ⟨VU,Vh,.func (PySem.W.fnOf "are_fractions" "are_fractions" (aq aW) (ae aW) (aa aW) .none WI Zz Uw aaR Qi aaa),To⟩) (c19:PySem.W.codeIn K Qi "are_fractions" = true) (k19:PySem.W.keepIn K (.ref YF) = true)
  (a20:PySem.W.nsIn K mainGlobals "check_worths" = some (some (.ref YE))) (l20:K.lookup YE = some ⟨VT,Vg,.func (PySem.W.fnOf "check_worths" "check_worths" (aq bJ) (ae bJ) (aa bJ) .none WH Zy Uv aaQ Qh Z_),Tn⟩) (c20:PySem.W.codeIn K Qh "check_worths" = true) (k20:PySem.W.keepIn K (.ref YE) = true)
  (a21:PySem.W.nsIn K mainGlobals "fraction_of" = some (some (.ref YD))) (l21:K.lookup YD = some ⟨VS,Vf,.func (PySem.W.fnOf "fraction_of" "fraction_of" (aq bu) (ae bu) (aa bu) .none WG Zx Uu aaP Qg Z9),Tj⟩) (c21:PySem.W.codeIn K Qg "fraction_of" = true) (k21:PySem.W.keepIn K (.ref YD) = true)
  (a22:PySem.W.nsIn K mainGlobals "frac_by" = some (some (.ref YC))) (l22:K.lookup YC = some ⟨VR,Ve,.func (PySem.W.fnOf "frac_by" "frac_by" (aq eI) (ae eI) (aa eI) .none WE Zw Ut aaO Qf Z8),Ti⟩) (c22:PySem.W.codeIn K Qf "frac_by" = true) (k22:PySem.W.keepIn K (.ref YC) = true)
  (a23:PySem.W.nsIn K mainGlobals "common_bottom" = some (some (.ref YB))) (l23:K.lookup YB = some ⟨VQ,Vd,.func (PySem.W.fnOf "common_bottom" "common_bottom" (aq aU) (ae aU) (aa aU) .none WD Zv Us aaN Qe Z7),Th⟩) (c23:PySem.W.codeIn K Qe "common_bottom" = true) (k23:PySem.W.keepIn K (.ref YB) = true)
  (a24:PySem.W.nsIn K mainGlobals "tops_over" = some (some (.ref YA))) (l24:K.lookup YA = some ⟨VP,Vc,.func (PySem.W.fnOf "tops_over" "tops_over" (aq bQ) (ae bQ) (aa bQ) .none WC Zu Ur aaM Qd Z6),Tf⟩) (c24:PySem.W.codeIn K Qd "tops_over" = true) (k24:PySem.W.keepIn K (.ref YA) = true)
  (a25:PySem.W.nsIn K mainGlobals "over_one" = some (some (.ref Yz))) (l25:K.lookup Yz = some ⟨VO,Vb,.func (PySem.W.fnOf "over_one" "over_one" (aq cv) (ae cv) (aa cv) .none WB Zt Uq aaL Qc Z5),Te⟩) (c25:PySem.W.codeIn K Qc "over_one" = true) (k25:PySem.W.keepIn K (.ref Yz) = true)
  (a26:PySem.W.nsIn K mainGlobals "frac_total" = some (some (.ref Yy))) (l26:K.lookup Yy = some ⟨VN,Va,.func (PySem.W.fnOf "frac_total" "frac_total" (aq bC) (ae bC) (aa bC) .none WA Zs Uo aaK Qb Z4),Td⟩) (c26:PySem.W.codeIn K Qb "frac_total" = true) (k26:PySem.W.keepIn K (.ref Yy) = true)
  (a27:PySem.W.nsIn K mainGlobals "frac_times" = some (some (.ref Yx))) (l27:K.lookup Yx = some ⟨VM,U_,.func (PySem.W.fnOf "frac_times" "frac_times" (aq cA) (ae cA) (aa cA) .none Wz Zr Um aaJ Qa Z3),Tc⟩) (c27:PySem.W.codeIn K Qa "frac_times" = true) (k27:PySem.W.keepIn K (.ref Yx) = true)
  (a28:PySem.W.nsIn K mainGlobals "both_shares" = some (some (.ref Yw))) (l28:K.lookup Yw = some ⟨VL,U9,.func (PySem.W.fnOf "both_shares" "both_shares" (aq bX) (ae bX) (aa bX) .none Wy Zq Ul aaI P_ Z2),Tb⟩) (c28:PySem.W.codeIn K P_ "both_shares" = true) (k28:PySem.W.keepIn K (.ref Yw) = true)
  (a29:PySem.W.nsIn K mainGlobals "frac_less" = some (some (.ref Yv))) (l29:K.lookup Yv = some ⟨VJ,U8,.func (PySem.W.fnOf "frac_less" "frac_less" (aq cV) (ae cV) (aa cV) .none Wx Zp Uk aaH P9 Z1),Ta⟩) (c29:PySem.W.codeIn K P9 "frac_less" = true) (k29:PySem.W.keepIn K (.ref Yv) = true)
  (a30:PySem.W.nsIn K mainGlobals "pair_share" = some (some (.ref Yu))) (l30:K.lookup Yu = some ⟨VI,U7,.func (PySem.W.fnOf "pair_share" "pair_share" (aq cu) (ae cu) (aa cu) .none Ww Zo Uj aaG P8 Z0),S_⟩) (c30:PySem.W.codeIn K P8 "pair_share" = true) (k30:PySem.W.keepIn K (.ref Yu) = true)
  (a31:PySem.W.nsIn K mainGlobals "gap_part" = some (some (.ref Yt))) (l31:K.lookup Yt = some ⟨VH,U6,.func (PySem.W.fnOf "gap_part" "gap_part" (aq dO) (ae dO) (aa dO) .none Wv Zn Ui aaF P7 ZZ),S9⟩) (c31:PySem.W.codeIn K P7 "gap_part" = true) (k31:PySem.W.keepIn K (.ref Yt) = true)
  (a32:PySem.W.nsIn K mainGlobals "is_row" = some (some (.ref Ys))) (l32:K.lookup Ys = some ⟨VG,U5,.func (PySem.W.fnOf "is_row" "is_row" (aq eh) (ae eh) (aa eh) .none Wu Zm Uh aaE P6 ZY),S8⟩) (c32:PySem.W.codeIn K P6 "is_row" = true) (k32:PySem.W.keepIn K (.ref Ys) = true)
  (a33:PySem.W.nsIn K mainGlobals "rows_rise" = some (some (.ref Yr))) (l33:K.lookup Yr = some ⟨VF,U4,.func (PySem.W.fnOf "rows_rise" "rows_rise" (aq bR) (ae bR) (aa bR) .none Wt Zk Ug aaD P5 ZX),S7⟩) (c33:PySem.W.codeIn K P5 "rows_rise" = true) (k33:PySem.W.keepIn K (.ref Yr) = true)
  (a34:PySem.W.nsIn K mainGlobals "weighed_lots" = some (some (.ref Yq))) (l34:K.lookup Yq = some ⟨VE,U3,.func (PySem.W.fnOf "weighed_lots" "weighed_lots" (aq bG) (ae bG) (aa bG) .none Ws Zj Ue aaC P4 ZW),S5⟩) (c34:PySem.W.codeIn K P4 "weighed_lots" = true) (k34:PySem.W.keepIn K (.ref Yq) = true)
  (a35:PySem.W.nsIn K mainGlobals "sums_to_one" = some (some (.ref Yp))) (l35:K.lookup Yp = some ⟨VD,U2,.func (PySem.W.fnOf "sums_to_one" "sums_to_one" (aq br) (ae br) (aa br) .none Wr Zi Ud aaB P0 ZV),S3⟩) (c35:PySem.W.codeIn K P0 "sums_to_one" = true) (k35:PySem.W.keepIn K (.ref Yp) = true)
  (a36:PySem.W.nsIn K mainGlobals "is_drawn" = some (some (.ref Yo))) (l36:K.lookup Yo = some ⟨VC,U1,.func (PySem.W.fnOf "is_drawn" "is_drawn" (aq cy) (ae cy) (aa cy) .none Wq Zh Uc aaA PZ ZU),S0⟩) (c36:PySem.W.codeIn K PZ "is_drawn" = true) (k36:PySem.W.keepIn K (.ref Yo) = true)
  (a37:PySem.W.nsIn K mainGlobals "is_drawing" = some (some (.ref Yn))) (l37:K.lookup Yn = some ⟨VB,U0,.func (PySem.W.fnOf "is_drawing" "is_drawing" (aq bB) (ae bB) (aa bB) .none Wo Zg Ub aaz PY ZT),SY⟩) (c37:PySem.W.codeIn K PY "is_drawing" = true) (k37:PySem.W.keepIn K (.ref Yn) = true)
  (a38:PySem.W.nsIn K mainGlobals "check_drawing" = some (some (.ref Ym))) (l38:K.lookup Ym = some ⟨VA,UZ,.func (PySem.W.fnOf "check_drawing" "check_drawing" (aq aV) (ae aV) (aa aV) .none Wn Zf Ua aay PV ZS),SX⟩) (c38:PySem.W.codeIn K PV "check_drawing" = true) (k38:PySem.W.keepIn K (.ref Ym) = true)
  (a39:PySem.W.nsIn K mainGlobals "joint_share" = some (some (.ref Yk))) (l39:K.lookup Yk = some ⟨Vz,UY,.func (PySem.W.fnOf "joint_share" "joint_share" (aq bW) (ae bW) (aa bW) .none Wm Ze T_ aax PU ZR),SW⟩) (c39:PySem.W.codeIn K PU "joint_share" = true) (k39:PySem.W.keepIn K (.ref Yk) = true)
  (a40:PySem.W.nsIn K mainGlobals "pair_shares" = some (some (.ref Yj))) (l40:K.lookup Yj = some ⟨Vy,UX,.func (PySem.W.fnOf "pair_shares" "pair_shares" (aq bV) (ae bV) (aa bV) .none Wl Zd T9 aaw PR ZQ),SV⟩) (c40:PySem.W.codeIn K PR "pair_shares" = true) (k40:PySem.W.keepIn K (.ref Yj) = true)
  (a41:PySem.W.nsIn K mainGlobals "rising_pairs" = some (some (.ref Yi))) (l41:K.lookup Yi = some ⟨Vx,UW,.func (PySem.W.fnOf "rising_pairs" "rising_pairs" (aq bI) (ae bI) (aa bI) .none Wk Zc T8 aav PQ ZP),SU⟩) (c41:PySem.W.codeIn K PQ "rising_pairs" = true) (k41:PySem.W.keepIn K (.ref Yi) = true)
  (a42:PySem.W.nsIn K mainGlobals "gaps_guess" = some (some (.ref Yh))) (l42:K.lookup Yh = some ⟨Vw,UU,.func (PySem.W.fnOf "gaps_guess" "gaps_guess" (aq cz) (ae cz) (aa cz) .none Wj Zb T7 aau PN ZO),SS⟩) (c42:PySem.W.codeIn K PN "gaps_guess" = true) (k42:PySem.W.keepIn K (.ref Yh) = true)
  (a43:PySem.W.nsIn K mainGlobals "all_pairs" = some (some (.ref Yg))) (l43:K.lookup Yg = some ⟨Vv,UT,.func (PySem.W.fnOf "all_pairs" "all_pairs" (aq cX) (ae cX) (aa cX) .none Wi Za T6 aat PM ZN),SR⟩) (c43:PySem.W.codeIn K PM "all_pairs" = true) (k43:PySem.W.keepIn K (.ref Yg) = true)
  (a44:PySem.W.nsIn K mainGlobals "check_weights" = some (some (.ref Yf))) (l44:K.lookup Yf = some ⟨Vu,US,.func (PySem.W.fnOf "check_weights" "check_weights" (aq bz) (ae bz) (aa bz) .none Wh Y_ T5 aas PL ZM),SQ⟩) (c44:PySem.W.codeIn K PL "check_weights" = true) (k44:PySem.W.keepIn K (.ref Yf) = true)
  (a45:PySem.W.nsIn K mainGlobals "pair_part" = some (some (.ref Ye))) (l45:K.lookup Ye = some ⟨Vt,UR,.func (PySem.W.fnOf "pair_part" "pair_part" (aq cT) (ae cT) (aa cT) .none Wg Y9 T4 aar PK ZL),SO⟩) (c45:PySem.W.codeIn K PK "pair_part" = true) (k45:PySem.W.keepIn K (.ref Ye) = true)
  (a46:PySem.W.nsIn K mainGlobals "spread_guess" = some (some (.ref Yd))) (l46:K.lookup Yd = some ⟨Vs,UQ,.func (PySem.W.fnOf "spread_guess" "spread_guess" (aq bH) (ae bH) (aa bH) .none Wf Y8 T3 aaq PJ ZK),SN⟩) (c46:PySem.W.codeIn K PJ "spread_guess" = true) (k46:PySem.W.keepIn K (.ref Yd) = true)
  (a47:PySem.W.nsIn K mainGlobals "law" = some (some (.ref Yc))) (l47:K.lookup Yc = some ⟨Vr,UP,.func (PySem.W.fnOf "law" "law" (aq j4) (ae j4) (aa j4) .none Ol Pw NM QF LL Py),SM⟩) (c47:PySem.W.codeIn K LL "law" = true) (k47:PySem.W.keepIn K (.ref Yc) = true)
  (z0:PySem.W.nsIn K mainGlobals "abs" = some none)
  (z1:PySem.W.nsIn K mainGlobals "all" = some none)
  (z2:PySem.W.nsIn K mainGlobals "bool" = some none)
  (z3:PySem.W.nsIn K mainGlobals "enumerate" = some none)
  (z4:PySem.W.nsIn K mainGlobals "int" = some none)
  (z5:PySem.W.nsIn K mainGlobals "isinstance" = some none)
  (z6:PySem.W.nsIn K mainGlobals "len" = some none)
  (z7:PySem.W.nsIn K mainGlobals "list" = some none)
  (z8:PySem.W.nsIn K mainGlobals "range" = some none)
  (z9:PySem.W.nsIn K mainGlobals "set" = some none)
  (z10:PySem.W.nsIn K mainGlobals "sorted" = some none)
  (z11:PySem.W.nsIn K mainGlobals "sum" = some none)
  (z12:PySem.W.nsIn K mainGlobals "tuple" = some none)
  (z13:PySem.W.nsIn K mainGlobals "zip" = some none)
  (q0:PySem.W.nsIn K mainGlobals "MOST_HOUSES" = some (some u0)) (r0:RelV (.int 12) u0) :
  ∃ fd:FuncData,(∀ (s:Shared) (v:Value),BindsTo s fd ⟨[v],[]⟩ [("_law_script",v)]) /\ ∀ base:Heap,K.In base -> base.Ns mainGlobals mg -> kC l.prog w K mg base DZ 49 fa fd ["_law_script"] (Hl K 1 vz):=by
 have e:=hfa.symm.trans (PySem.W.mg_of X G a47)
 cases e
 have F0:=aF (st:=dJ) l0 c0 k0
 have b0:=F0.binds (ps:=["_law_top","_law_bottom"]) fun _ _ _ _ _ _ us hl=>by obtain ⟨_,_,rfl⟩:=fD hl;rfl
 have F1:=aF (st:=eH) l1 c1 k1
 have b1:=F1.binds (ps:=["_law_one","_law_other"]) fun _ _ _ _ _ _ us hl=>by obtain ⟨_,_,rfl⟩:=fD hl;rfl
 have F2:=aF (st:=eG) l2 c2 k2
 have b2:=F2.binds (ps:=["_law_one","_law_other"]) fun _ _ _ _ _ _ us hl=>by obtain ⟨_,_,rfl⟩:=fD hl;rfl
 have F3:=aF (st:=fU) l3 c3 k3
 have b3:=F3.binds (ps:=["_law_one","_law_other"]) fun _ _ _ _ _ _ us hl=>by obtain ⟨_,_,rfl⟩:=fD hl;rfl
 have F4:=aF (st:=dN) l4 c4 k4
 have b4:=F4.binds (ps:=["_law_script","_law_k"]) fun _ _ _ _ _ _ us hl=>by obtain ⟨_,_,rfl⟩:=fD hl;rfl
 have F5:=aF (st:=cw) l5 c5 k5
 have b5:=F5.binds (ps:=["_law_drawing"]) fun _ _ _ _ _ _ us hl=>by obtain ⟨_,rfl⟩:=gL hl;rfl
 have F6:=aF (st:=dM) l6 c6 k6
 have b6:=F6.binds (ps:=["_law_script","_law_at"]) fun _ _ _ _ _ _ us hl=>by obtain ⟨_,_,rfl⟩:=fD hl;rfl
 have F7:=aF (st:=fT) l7 c7 k7
 have b7:=F7.binds (ps:=["_law_found"]) fun _ _ _ _ _ _ us hl=>by obtain ⟨_,rfl⟩:=gL hl;rfl
 have F8:=aF (st:=dI) l8 c8 k8
 have b8:=F8.binds (ps:=["_law_number","_law_many"]) fun _ _ _ _ _ _ us hl=>by obtain ⟨_,_,rfl⟩:=fD hl;rfl
 have F9:=aF (st:=cU) l9 c9 k9
 have b9:=F9.binds (ps:=["_law_drawing"]) fun _ _ _ _ _ _ us hl=>by obtain ⟨_,rfl⟩:=gL hl;rfl
 have F10:=aF (st:=eF) l10 c10 k10
 have b10:=F10.binds (ps:=["_law_one","_law_other"]) fun _ _ _ _ _ _ us hl=>by obtain ⟨_,_,rfl⟩:=fD hl;rfl
 have F11:=aF (st:=aX) l11 c11 k11
 have b11:=F11.binds (ps:=["pairs"]) fun _ _ _ _ _ _ us hl=>by obtain ⟨_,rfl⟩:=gL hl;rfl
 have F12:=aF (st:=cx) l12 c12 k12
 have b12:=F12.binds (ps:=["thing"]) fun _ _ _ _ _ _ us hl=>by obtain ⟨_,rfl⟩:=gL hl;rfl
 have F13:=aF (st:=bD) l13 c13 k13
 have b13:=F13.binds (ps:=["thing","many"]) fun _ _ _ _ _ _ us hl=>by obtain ⟨_,_,rfl⟩:=fD hl;rfl
 have F14:=aF (st:=eo) l14 c14 k14
 have b14:=F14.binds (ps:=["thing","many"]) fun _ _ _ _ _ _ us hl=>by obtain ⟨_,_,rfl⟩:=fD hl;rfl
 have F15:=aF (st:=cW) l15 c15 k15
 have b15:=F15.binds (ps:=["thing","drawing"]) fun _ _ _ _ _ _ us hl=>by obtain ⟨_,_,rfl⟩:=fD hl;rfl
 have F16:=aF (st:=bp) l16 c16 k16
 have b16:=F16.binds (ps:=["drawing"]) fun _ _ _ _ _ _ us hl=>by obtain ⟨_,rfl⟩:=gL hl;rfl
 have F17:=aF (st:=aP) l17 c17 k17
 have b17:=F17.binds (ps:=["one","other"]) fun _ _ _ _ _ _ us hl=>by obtain ⟨_,_,rfl⟩:=fD hl;rfl
 have F18:=aF (st:=bt) l18 c18 k18
 have b18:=F18.binds (ps:=["thing"]) fun _ _ _ _ _ _ us hl=>by obtain ⟨_,rfl⟩:=gL hl;rfl
 have F19:=aF (st:=aW) l19 c19 k19
 have b19:=F19.binds (ps:=["thing","many"]) fun _ _ _ _ _ _ us hl=>by obtain ⟨_,_,rfl⟩:=fD hl;rfl
 have F20:=aF (st:=bJ) l20 c20 k20
 have b20:=F20.binds (ps:=["thing","many"]) fun _ _ _ _ _ _ us hl=>by obtain ⟨_,_,rfl⟩:=fD hl;rfl
 have F21:=aF (st:=bu) l21 c21 k21
 have b21:=F21.binds (ps:=["top","bottom"]) fun _ _ _ _ _ _ us hl=>by obtain ⟨_,_,rfl⟩:=fD hl;rfl
 have F22:=aF (st:=eI) l22 c22 k22
 have b22:=F22.binds (ps:=["one","other"]) fun _ _ _ _ _ _ us hl=>by obtain ⟨_,_,rfl⟩:=fD hl;rfl
 have F23:=aF (st:=aU) l23 c23 k23
 have b23:=F23.binds (ps:=["some"]) fun _ _ _ _ _ _ us hl=>by obtain ⟨_,rfl⟩:=gL hl;rfl
 have F24:=aF (st:=bQ) l24 c24 k24
 have b24:=F24.binds (ps:=["some","bottom"]) fun _ _ _ _ _ _ us hl=>by obtain ⟨_,_,rfl⟩:=fD hl;rfl
 have F25:=aF (st:=cv) l25 c25 k25
 have b25:=F25.binds (ps:=["some"]) fun _ _ _ _ _ _ us hl=>by obtain ⟨_,rfl⟩:=gL hl;rfl
 have F26:=aF (st:=bC) l26 c26 k26
 have b26:=F26.binds (ps:=["some"]) fun _ _ _ _ _ _ us hl=>by obtain ⟨_,rfl⟩:=gL hl;rfl
 have F27:=aF (st:=cA) l27 c27 k27
 have b27:=F27.binds (ps:=["one","other"]) fun _ _ _ _ _ _ us hl=>by obtain ⟨_,_,rfl⟩:=fD hl;rfl
 have F28:=aF (st:=bX) l28 c28 k28
 have b28:=F28.binds (ps:=["pairs","two"]) fun _ _ _ _ _ _ us hl=>by obtain ⟨_,_,rfl⟩:=fD hl;rfl
 have F29:=aF (st:=cV) l29 c29 k29
 have b29:=F29.binds (ps:=["one","other"]) fun _ _ _ _ _ _ us hl=>by obtain ⟨_,_,rfl⟩:=fD hl;rfl
 have F30:=aF (st:=cu) l30 c30 k30
 have b30:=F30.binds (ps:=["pairs","two"]) fun _ _ _ _ _ _ us hl=>by obtain ⟨_,_,rfl⟩:=fD hl;rfl
 have F31:=aF (st:=dO) l31 c31 k31
 have b31:=F31.binds (ps:=["pairs","two","worths"]) fun _ _ _ _ _ _ us hl=>by obtain ⟨_,_,_,rfl⟩:=FT hl;rfl
 have F32:=aF (st:=eh) l32 c32 k32
 have b32:=F32.binds (ps:=["thing","many"]) fun _ _ _ _ _ _ us hl=>by obtain ⟨_,_,rfl⟩:=fD hl;rfl
 have F33:=aF (st:=bR) l33 c33 k33
 have b33:=F33.binds (ps:=["rows"]) fun _ _ _ _ _ _ us hl=>by obtain ⟨_,rfl⟩:=gL hl;rfl
 have F34:=aF (st:=bG) l34 c34 k34
 have b34:=F34.binds (ps:=["rows"]) fun _ _ _ _ _ _ us hl=>by obtain ⟨_,rfl⟩:=gL hl;rfl
 have F35:=aF (st:=br) l35 c35 k35
 have b35:=F35.binds (ps:=["rows"]) fun _ _ _ _ _ _ us hl=>by obtain ⟨_,rfl⟩:=gL hl;rfl
 have F36:=aF (st:=cy) l36 c36 k36
 have b36:=F36.binds (ps:=["thing"]) fun _ _ _ _ _ _ us hl=>by obtain ⟨_,rfl⟩:=gL hl;rfl
 have F37:=aF (st:=bB) l37 c37 k37
 have b37:=F37.binds (ps:=["thing"]) fun _ _ _ _ _ _ us hl=>by obtain ⟨_,rfl⟩:=gL hl;rfl
 have F38:=aF (st:=aV) l38 c38 k38
 have b38:=F38.binds (ps:=["thing"]) fun _ _ _ _ _ _ us hl=>by obtain ⟨_,rfl⟩:=gL hl;rfl
 have F39:=aF (st:=bW) l39 c39 k39
 have b39:=F39.binds (ps:=["weighed","one","other"]) fun _ _ _ _ _ _ us hl=>by obtain ⟨_,_,_,rfl⟩:=FT hl;rfl
 have F40:=aF (st:=bV) l40 c40 k40
 have b40:=F40.binds (ps:=["drawing"]) fun _ _ _ _ _ _ us hl=>by obtain ⟨_,rfl⟩:=gL hl;rfl
 have F41:=aF (st:=bI) l41 c41 k41
 have b41:=F41.binds (ps:=["houses"]) fun _ _ _ _ _ _ us hl=>by obtain ⟨_,rfl⟩:=gL hl;rfl
 have F42:=aF (st:=cz) l42 c42 k42
 have b42:=F42.binds (ps:=["drawing","lot","worths"]) fun _ _ _ _ _ _ us hl=>by obtain ⟨_,_,_,rfl⟩:=FT hl;rfl
 have F43:=aF (st:=cX) l43 c43 k43
 have b43:=F43.binds (ps:=["houses"]) fun _ _ _ _ _ _ us hl=>by obtain ⟨_,rfl⟩:=gL hl;rfl
 have F44:=aF (st:=bz) l44 c44 k44
 have b44:=F44.binds (ps:=["thing","many"]) fun _ _ _ _ _ _ us hl=>by obtain ⟨_,_,rfl⟩:=fD hl;rfl
 have F45:=aF (st:=cT) l45 c45 k45
 have b45:=F45.binds (ps:=["pairs","two","weights","worths"]) fun _ _ _ _ _ _ us hl=>by obtain ⟨_,_,_,_,rfl⟩:=Of hl;rfl
 have F46:=aF (st:=bH) l46 c46 k46
 have b46:=F46.binds (ps:=["drawing","weights","lot","worths"]) fun _ _ _ _ _ _ us hl=>by obtain ⟨_,_,_,_,rfl⟩:=Of hl;rfl
 have F47:=aF (st:=j4) l47 c47 k47
 have b47:=F47.binds (ps:=["_law_script"]) fun _ _ _ _ _ _ us hl=>by obtain ⟨_,rfl⟩:=gL hl;rfl
 have y0:=PySem.W.mg_none_of X G z0
 have y1:=PySem.W.mg_none_of X G z1
 have y2:=PySem.W.mg_none_of X G z2
 have y3:=PySem.W.mg_none_of X G z3
 have y4:=PySem.W.mg_none_of X G z4
 have y5:=PySem.W.mg_none_of X G z5
 have y6:=PySem.W.mg_none_of X G z6
 have y7:=PySem.W.mg_none_of X G z7
 have y8:=PySem.W.mg_none_of X G z8
 have y9:=PySem.W.mg_none_of X G z9
 have y10:=PySem.W.mg_none_of X G z10
 have QN:=PySem.W.mg_none_of X G z11
 have L3:=PySem.W.mg_none_of X G z12
 have y13:=PySem.W.mg_none_of X G z13
 have x0:∃ u,mg "MOST_HOUSES" = some u /\ R6 K (GK.i 12) u:=⟨_,PySem.W.mg_of X G q0,r0⟩
 refine ⟨PySem.W.fnOf "law" "law" (aq j4) (ae j4) (aa j4) .none Ol Pw NM QF LL Py,fun s v=>.of_eq rfl,fun base _ _=>?_⟩
 have E0:Ent l.prog w K mg base 2 "_law_frac" dc:=ent (Φ:=kF) (k:=1) F0 (PySem.W.mg_of X G a0) b0 uY wo (fu rfl rfl rfl rfl rfl rfl rfl rfl rfl rfl rfl) (fN rfl rfl rfl rfl rfl rfl rfl rfl rfl rfl rfl) (ak.mem ⟨y0,trivial⟩) (ak.two trivial) (ak.tab trivial) aE
 have E1:Ent l.prog w K mg base 3 "_law_add" jR:=ent (Φ:=mM) (k:=2) F1 (PySem.W.mg_of X G a1) b1 xa xP (fu rfl rfl rfl rfl rfl rfl rfl rfl rfl rfl rfl) (fN rfl rfl rfl rfl rfl rfl rfl rfl rfl rfl rfl) (ak.mem trivial) (ak.two trivial) (ak.tab ⟨E0.up (by decide),trivial⟩) aE
 have E2:Ent l.prog w K mg base 4 "_law_mul" jQ:=ent (Φ:=mL) (k:=3) F2 (PySem.W.mg_of X G a2) b2 w_ xO (fu rfl rfl rfl rfl rfl rfl rfl rfl rfl rfl rfl) (fN rfl rfl rfl rfl rfl rfl rfl rfl rfl rfl rfl) (ak.mem trivial) (ak.two trivial) (ak.tab ⟨E0.up (by decide),trivial⟩) aE
 have E3:Ent l.prog w K mg base 5 "_law_by" pP:=ent (Φ:=pT) (k:=4) F3 (PySem.W.mg_of X G a3) b3 zY AS (fu rfl rfl rfl rfl rfl rfl rfl rfl rfl rfl rfl) (fN rfl rfl rfl rfl rfl rfl rfl rfl rfl rfl rfl) (ak.mem trivial) (ak.two trivial) (ak.tab ⟨E0.up (by decide),E2.up (by decide),trivial⟩) aE
 have E4:Ent l.prog w K mg base 6 "_law_cell" iE:=ent (Φ:=kH) (k:=5) F4 (PySem.W.mg_of X G a4) b4 u_ wt (fu rfl rfl rfl rfl rfl rfl rfl rfl rfl rfl rfl) (fN rfl rfl rfl rfl rfl rfl rfl rfl rfl rfl rfl) (ak.mem ⟨y6,trivial⟩) (ak.two trivial) (ak.tab trivial) aE
 have E5:Ent l.prog w K mg base 7 "_law_copied" iD:=ent (Φ:=iI) (k:=6) F5 (PySem.W.mg_of X G a5) b5 qe qF (fu rfl rfl rfl rfl rfl rfl rfl rfl rfl rfl rfl) (fN rfl rfl rfl rfl rfl rfl rfl rfl rfl rfl rfl) (ak.mem ⟨y7,trivial⟩) (ak.two trivial) (ak.tab trivial) aE
 have E6:Ent l.prog w K mg base 8 "_law_even" kz:=ent (Φ:=kG) (k:=7) F6 (PySem.W.mg_of X G a6) b6 uZ wq (fu rfl rfl rfl rfl rfl rfl rfl rfl rfl rfl rfl) (fN rfl rfl rfl rfl rfl rfl rfl rfl rfl rfl rfl) (ak.mem ⟨y6,y8,y10,QN,L3,trivial⟩) (ak.two trivial) (ak.tab ⟨E4.up (by decide),E0.up (by decide),trivial⟩) aE
 have E7:Ent l.prog w K mg base 9 "_law_is" pO:=ent (Φ:=pS) (k:=8) F7 (PySem.W.mg_of X G a7) b7 zX AR (fu rfl rfl rfl rfl rfl rfl rfl rfl rfl rfl rfl) (fN rfl rfl rfl rfl rfl rfl rfl rfl rfl rfl rfl) (ak.mem ⟨y2,y4,y5,y6,L3,trivial⟩) (ak.two trivial) (ak.tab trivial) aE
 have E8:Ent l.prog w K mg base 10 "_law_list" kv:=ent (Φ:=kE) (k:=9) F8 (PySem.W.mg_of X G a8) b8 uX wm (fu rfl rfl rfl rfl rfl rfl rfl rfl rfl rfl rfl) (fN rfl rfl rfl rfl rfl rfl rfl rfl rfl rfl rfl) (ak.mem ⟨y8,trivial⟩) (ak.two trivial) (ak.tab ⟨E0.up (by decide),trivial⟩) aE
 have E9:Ent l.prog w K mg base 11 "_law_pairs" js:=ent (Φ:=jx) (k:=10) F9 (PySem.W.mg_of X G a9) b9 sF tV (fu rfl rfl rfl rfl rfl rfl rfl rfl rfl rfl rfl) (fN rfl rfl rfl rfl rfl rfl rfl rfl rfl rfl rfl) (ak.mem ⟨y8,trivial⟩) (ak.two trivial) (ak.tab ⟨E1.up (by decide),trivial⟩) aE
 have E10:Ent l.prog w K mg base 12 "_law_sub" mI:=ent (Φ:=mK) (k:=11) F10 (PySem.W.mg_of X G a10) b10 w9 xN (fu rfl rfl rfl rfl rfl rfl rfl rfl rfl rfl rfl) (fN rfl rfl rfl rfl rfl rfl rfl rfl rfl rfl rfl) (ak.mem trivial) (ak.two trivial) (ak.tab ⟨E0.up (by decide),trivial⟩) aE
 have E11:Ent l.prog w K mg base 13 "check_all_shared" cG:=ent (Φ:=dR) (k:=12) F11 (PySem.W.mg_of X G a11) b11 jS jY (fu rfl rfl rfl rfl rfl rfl rfl rfl rfl rfl rfl) (fN rfl rfl rfl rfl rfl rfl rfl rfl rfl rfl rfl) (ak.mem trivial) (ak.two trivial) (ak.tab trivial) aE
 have E12:Ent l.prog w K mg base 14 "is_whole" gi:=ent (Φ:=kI) (k:=13) F12 (PySem.W.mg_of X G a12) b12 va wu (fu rfl rfl rfl rfl rfl rfl rfl rfl rfl rfl rfl) (fN rfl rfl rfl rfl rfl rfl rfl rfl rfl rfl rfl) (ak.mem ⟨y2,y4,y5,trivial⟩) (ak.two trivial) (ak.tab trivial) aE
 have E13:Ent l.prog w K mg base 15 "are_houses" fM:=ent (Φ:=iN) (k:=14) F13 (PySem.W.mg_of X G a13) b13 qj qK (fu rfl rfl rfl rfl rfl rfl rfl rfl rfl rfl rfl) (fN rfl rfl rfl rfl rfl rfl rfl rfl rfl rfl rfl) (ak.mem ⟨y1,y5,y6,y9,L3,trivial⟩) (ak.two trivial) (ak.tab ⟨E12.up (by decide),trivial⟩) aE
 have E14:Ent l.prog w K mg base 16 "is_lot" lQ:=ent (Φ:=pV) (k:=15) F14 (PySem.W.mg_of X G a14) b14 z_ AV (fu rfl rfl rfl rfl rfl rfl rfl rfl rfl rfl rfl) (fN rfl rfl rfl rfl rfl rfl rfl rfl rfl rfl rfl) (ak.mem ⟨y7,y10,trivial⟩) (ak.two trivial) (ak.tab ⟨E13.up (by decide),trivial⟩) aE
 have E15:Ent l.prog w K mg base 17 "check_lot" gH:=ent (Φ:=jz) (k:=16) F15 (PySem.W.mg_of X G a15) b15 sH tX (fu rfl rfl rfl rfl rfl rfl rfl rfl rfl rfl rfl) (fN rfl rfl rfl rfl rfl rfl rfl rfl rfl rfl rfl) (ak.mem trivial) (ak.two trivial) (ak.tab ⟨E14.up (by decide),trivial⟩) aE
 have E16:Ent l.prog w K mg base 18 "check_one_size" eO:=ent (Φ:=eR) (k:=17) F16 (PySem.W.mg_of X G a16) b16 kY lD (fu rfl rfl rfl rfl rfl rfl rfl rfl rfl rfl rfl) (fN rfl rfl rfl rfl rfl rfl rfl rfl rfl rfl rfl) (ak.mem ⟨y6,y9,trivial⟩) (ak.two trivial) (ak.tab trivial) aE
 have E17:Ent l.prog w K mg base 19 "common_divisor" ck:=ent (Φ:=eQ) (k:=18) F17 (PySem.W.mg_of X G a17) b17 kX lC (fu rfl rfl rfl rfl rfl rfl rfl rfl rfl rfl rfl) (fN rfl rfl rfl rfl rfl rfl rfl rfl rfl rfl rfl) (ak.mem ⟨y0,trivial⟩) (ak.two trivial) (ak.tab trivial) aE
 have E18:Ent l.prog w K mg base 20 "is_fraction" eX:=ent (Φ:=gZ) (k:=19) F18 (PySem.W.mg_of X G a18) b18 oq pG (fu rfl rfl rfl rfl rfl rfl rfl rfl rfl rfl rfl) (fN rfl rfl rfl rfl rfl rfl rfl rfl rfl rfl rfl) (ak.mem ⟨y5,y6,L3,trivial⟩) (ak.two trivial) (ak.tab ⟨E12.up (by decide),E17.up (by decide),trivial⟩) aE
 have E19:Ent l.prog w K mg base 21 "are_fractions" dH:=ent (Φ:=fq) (k:=20) F19 (PySem.W.mg_of X G a19) b19 mf mD (fu rfl rfl rfl rfl rfl rfl rfl rfl rfl rfl rfl) (fN rfl rfl rfl rfl rfl rfl rfl rfl rfl rfl rfl) (ak.mem ⟨y1,y5,y6,y7,trivial⟩) (ak.two trivial) (ak.tab ⟨E18.up (by decide),trivial⟩) aE
 have E20:Ent l.prog w K mg base 22 "check_worths" eC:=ent (Φ:=gn) (k:=21) F20 (PySem.W.mg_of X G a20) b20 m5 nv (fu rfl rfl rfl rfl rfl rfl rfl rfl rfl rfl rfl) (fN rfl rfl rfl rfl rfl rfl rfl rfl rfl rfl rfl) (ak.mem trivial) (ak.two trivial) (ak.tab ⟨E19.up (by decide),trivial⟩) aE
 have QM:Ent l.prog w K mg base 23 "fraction_of" bZ:=ent (Φ:=g5) (k:=22) F21 (PySem.W.mg_of X G a21) b21 ou pH (fu rfl rfl rfl rfl rfl rfl rfl rfl rfl rfl rfl) (fN rfl rfl rfl rfl rfl rfl rfl rfl rfl rfl rfl) (ak.mem trivial) (ak.two trivial) (ak.tab ⟨E17.up (by decide),trivial⟩) aE
 have E22:Ent l.prog w K mg base 24 "frac_by" hZ:=ent (Φ:=mN) (k:=23) F22 (PySem.W.mg_of X G a22) b22 xb xQ (fu rfl rfl rfl rfl rfl rfl rfl rfl rfl rfl rfl) (fN rfl rfl rfl rfl rfl rfl rfl rfl rfl rfl rfl) (ak.mem trivial) (ak.two trivial) (ak.tab ⟨QM.up (by decide),trivial⟩) aE
 have E23:Ent l.prog w K mg base 25 "common_bottom" dG:=ent (Φ:=fi) (k:=24) F23 (PySem.W.mg_of X G a23) b23 ma mz (fu rfl rfl rfl rfl rfl rfl rfl rfl rfl rfl rfl) (fN rfl rfl rfl rfl rfl rfl rfl rfl rfl rfl rfl) (ak.mem trivial) (ak.two trivial) (ak.tab ⟨E17.up (by decide),trivial⟩) aE
 have E24:Ent l.prog w K mg base 26 "tops_over" gF:=ent (Φ:=ju) (k:=25) F24 (PySem.W.mg_of X G a24) b24 sA tS (fu rfl rfl rfl rfl rfl rfl rfl rfl rfl rfl rfl) (fN rfl rfl rfl rfl rfl rfl rfl rfl rfl rfl rfl) (ak.mem trivial) (ak.two trivial) (ak.tab trivial) aE
 have E25:Ent l.prog w K mg base 27 "over_one" ku:=ent (Φ:=kD) (k:=26) F25 (PySem.W.mg_of X G a25) b25 uW wk (fu rfl rfl rfl rfl rfl rfl rfl rfl rfl rfl rfl) (fN rfl rfl rfl rfl rfl rfl rfl rfl rfl rfl rfl) (ak.mem trivial) (ak.two trivial) (ak.tab ⟨E23.up (by decide),E24.up (by decide),trivial⟩) aE
 have E26:Ent l.prog w K mg base 28 "frac_total" fL:=ent (Φ:=iL) (k:=27) F26 (PySem.W.mg_of X G a26) b26 qh qI (fu rfl rfl rfl rfl rfl rfl rfl rfl rfl rfl rfl) (fN rfl rfl rfl rfl rfl rfl rfl rfl rfl rfl rfl) (ak.mem ⟨QN,trivial⟩) (ak.two trivial) (ak.tab ⟨QM.up (by decide),E25.up (by decide),trivial⟩) aE
 have E27:Ent l.prog w K mg base 29 "frac_times" eB:=ent (Φ:=iM) (k:=28) F27 (PySem.W.mg_of X G a27) b27 qi qJ (fu rfl rfl rfl rfl rfl rfl rfl rfl rfl rfl rfl) (fN rfl rfl rfl rfl rfl rfl rfl rfl rfl rfl rfl) (ak.mem trivial) (ak.two trivial) (ak.tab ⟨QM.up (by decide),trivial⟩) aE
 have E28:Ent l.prog w K mg base 30 "both_shares" eY:=ent (Φ:=g9) (k:=29) F28 (PySem.W.mg_of X G a28) b28 ox pI (fu rfl rfl rfl rfl rfl rfl rfl rfl rfl rfl rfl) (fN rfl rfl rfl rfl rfl rfl rfl rfl rfl rfl rfl) (ak.mem trivial) (ak.two trivial) (ak.tab ⟨E27.up (by decide),trivial⟩) aE
 have E29:Ent l.prog w K mg base 31 "frac_less" gG:=ent (Φ:=jy) (k:=30) F29 (PySem.W.mg_of X G a29) b29 sG tW (fu rfl rfl rfl rfl rfl rfl rfl rfl rfl rfl rfl) (fN rfl rfl rfl rfl rfl rfl rfl rfl rfl rfl rfl) (ak.mem trivial) (ak.two trivial) (ak.tab ⟨QM.up (by decide),trivial⟩) aE
 have R8:Ent l.prog w K mg base 32 "pair_share" di:=ent (Φ:=iH) (k:=31) F30 (PySem.W.mg_of X G a30) b30 qd qE (fu rfl rfl rfl rfl rfl rfl rfl rfl rfl rfl rfl) (fN rfl rfl rfl rfl rfl rfl rfl rfl rfl rfl rfl) (ak.mem trivial) (ak.two trivial) (ak.tab trivial) aE
 have E31:Ent l.prog w K mg base 33 "gap_part" kB:=ent (Φ:=kK) (k:=32) F31 (PySem.W.mg_of X G a31) b31 vc wy (fu rfl rfl rfl rfl rfl rfl rfl rfl rfl rfl rfl) (fN rfl rfl rfl rfl rfl rfl rfl rfl rfl rfl rfl) (ak.mem trivial) (ak.two trivial) (ak.tab ⟨E29.up (by decide),E27.up (by decide),E22.up (by decide),E28.up (by decide),R8.up (by decide),trivial⟩) aE
 have E32:Ent l.prog w K mg base 34 "is_row" pQ:=ent (Φ:=pU) (k:=33) F32 (PySem.W.mg_of X G a32) b32 zZ AU (fu rfl rfl rfl rfl rfl rfl rfl rfl rfl rfl rfl) (fN rfl rfl rfl rfl rfl rfl rfl rfl rfl rfl rfl) (ak.mem ⟨y5,y6,L3,trivial⟩) (ak.two trivial) (ak.tab ⟨E18.up (by decide),E13.up (by decide),trivial⟩) aE
 have E33:Ent l.prog w K mg base 35 "rows_rise" jq:=ent (Φ:=jv) (k:=34) F33 (PySem.W.mg_of X G a33) b33 sD tT (fu rfl rfl rfl rfl rfl rfl rfl rfl rfl rfl rfl) (fN rfl rfl rfl rfl rfl rfl rfl rfl rfl rfl rfl) (ak.mem ⟨y13,trivial⟩) (ak.two trivial) (ak.tab trivial) aE
 have E34:Ent l.prog w K mg base 36 "weighed_lots" eA:=ent (Φ:=gj) (k:=35) F34 (PySem.W.mg_of X G a34) b34 mZ nq (fu rfl rfl rfl rfl rfl rfl rfl rfl rfl rfl rfl) (fN rfl rfl rfl rfl rfl rfl rfl rfl rfl rfl rfl) (ak.mem ⟨y7,y13,trivial⟩) (ak.two trivial) (ak.tab ⟨E23.up (by decide),E24.up (by decide),trivial⟩) aE
 have E35:Ent l.prog w K mg base 37 "sums_to_one" gT:=ent (Φ:=gW) (k:=36) F35 (PySem.W.mg_of X G a35) b35 oj pC (fu rfl rfl rfl rfl rfl rfl rfl rfl rfl rfl rfl) (fN rfl rfl rfl rfl rfl rfl rfl rfl rfl rfl rfl) (ak.mem ⟨QN,trivial⟩) (ak.two trivial) (ak.tab ⟨E34.up (by decide),trivial⟩) aE
 have E36:Ent l.prog w K mg base 38 "is_drawn" kA:=ent (Φ:=kJ) (k:=37) F36 (PySem.W.mg_of X G a36) b36 vb wx (fu rfl rfl rfl rfl rfl rfl rfl rfl rfl rfl rfl) (fN rfl rfl rfl rfl rfl rfl rfl rfl rfl rfl rfl) (ak.mem ⟨y5,y6,y7,L3,trivial⟩) (ak.two ⟨x0,trivial⟩) (ak.tab ⟨E12.up (by decide),E32.up (by decide),E35.up (by decide),E33.up (by decide),trivial⟩) aE
 have E37:Ent l.prog w K mg base 39 "is_drawing" iF:=ent (Φ:=iJ) (k:=38) F37 (PySem.W.mg_of X G a37) b37 qf qG (fu rfl rfl rfl rfl rfl rfl rfl rfl rfl rfl rfl) (fN rfl rfl rfl rfl rfl rfl rfl rfl rfl rfl rfl) (ak.mem ⟨y1,trivial⟩) (ak.two trivial) (ak.tab ⟨E14.up (by decide),E36.up (by decide),trivial⟩) aE
 have E38:Ent l.prog w K mg base 40 "check_drawing" fh:=ent (Φ:=fm) (k:=39) F38 (PySem.W.mg_of X G a38) b38 me mC (fu rfl rfl rfl rfl rfl rfl rfl rfl rfl rfl rfl) (fN rfl rfl rfl rfl rfl rfl rfl rfl rfl rfl rfl) (ak.mem trivial) (ak.two trivial) (ak.tab ⟨E37.up (by decide),trivial⟩) aE
 have E39:Ent l.prog w K mg base 41 "joint_share" gU:=ent (Φ:=gY) (k:=40) F39 (PySem.W.mg_of X G a39) b39 oo pF (fu rfl rfl rfl rfl rfl rfl rfl rfl rfl rfl rfl) (fN rfl rfl rfl rfl rfl rfl rfl rfl rfl rfl rfl) (ak.mem ⟨QN,trivial⟩) (ak.two trivial) (ak.tab ⟨QM.up (by decide),trivial⟩) aE
 have E40:Ent l.prog w K mg base 42 "pair_shares" eW:=ent (Φ:=gX) (k:=41) F40 (PySem.W.mg_of X G a40) b40 om pE (fu rfl rfl rfl rfl rfl rfl rfl rfl rfl rfl rfl) (fN rfl rfl rfl rfl rfl rfl rfl rfl rfl rfl rfl) (ak.mem ⟨y8,trivial⟩) (ak.two trivial) (ak.tab ⟨E34.up (by decide),E38.up (by decide),E39.up (by decide),trivial⟩) aE
 have E41:Ent l.prog w K mg base 43 "rising_pairs" gh:=ent (Φ:=gm) (k:=42) F41 (PySem.W.mg_of X G a41) b41 m4 nu (fu rfl rfl rfl rfl rfl rfl rfl rfl rfl rfl rfl) (fN rfl rfl rfl rfl rfl rfl rfl rfl rfl rfl rfl) (ak.mem ⟨y3,trivial⟩) (ak.two trivial) (ak.tab trivial) aE
 have E42:Ent l.prog w K mg base 44 "gaps_guess" iG:=ent (Φ:=iK) (k:=43) F42 (PySem.W.mg_of X G a42) b42 qg qH (fu rfl rfl rfl rfl rfl rfl rfl rfl rfl rfl rfl) (fN rfl rfl rfl rfl rfl rfl rfl rfl rfl rfl rfl) (ak.mem trivial) (ak.two trivial) (ak.tab ⟨E22.up (by decide),E40.up (by decide),E26.up (by decide),E20.up (by decide),E16.up (by decide),E11.up (by decide),E15.up (by decide),E41.up (by decide),R8.up (by decide),E31.up (by decide),trivial⟩) aE
 have E43:Ent l.prog w K mg base 45 "all_pairs" jt:=ent (Φ:=jA) (k:=44) F43 (PySem.W.mg_of X G a43) b43 sI tY (fu rfl rfl rfl rfl rfl rfl rfl rfl rfl rfl rfl) (fN rfl rfl rfl rfl rfl rfl rfl rfl rfl rfl rfl) (ak.mem trivial) (ak.two trivial) (ak.tab trivial) aE
 have E44:Ent l.prog w K mg base 46 "check_weights" fg:=ent (Φ:=fj) (k:=45) F44 (PySem.W.mg_of X G a44) b44 md mB (fu rfl rfl rfl rfl rfl rfl rfl rfl rfl rfl rfl) (fN rfl rfl rfl rfl rfl rfl rfl rfl rfl rfl rfl) (ak.mem trivial) (ak.two trivial) (ak.tab ⟨E19.up (by decide),trivial⟩) aE
 have E45:Ent l.prog w K mg base 47 "pair_part" jr:=ent (Φ:=jw) (k:=46) F45 (PySem.W.mg_of X G a45) b45 sE tU (fu rfl rfl rfl rfl rfl rfl rfl rfl rfl rfl rfl) (fN rfl rfl rfl rfl rfl rfl rfl rfl rfl rfl rfl) (ak.mem trivial) (ak.two trivial) (ak.tab ⟨E29.up (by decide),E27.up (by decide),E28.up (by decide),R8.up (by decide),trivial⟩) aE
 have E46:Ent l.prog w K mg base 48 "spread_guess" gg:=ent (Φ:=gk) (k:=47) F46 (PySem.W.mg_of X G a46) b46 m3 nr (fu rfl rfl rfl rfl rfl rfl rfl rfl rfl rfl rfl) (fN rfl rfl rfl rfl rfl rfl rfl rfl rfl rfl rfl) (ak.mem trivial) (ak.two trivial) (ak.tab ⟨E22.up (by decide),E40.up (by decide),E26.up (by decide),E44.up (by decide),E20.up (by decide),E11.up (by decide),E15.up (by decide),E43.up (by decide),R8.up (by decide),E45.up (by decide),trivial⟩) aE
 exact vZ (Φ:=DY) (k:=48) F47 I0 LK (fu rfl rfl rfl rfl rfl rfl rfl rfl rfl rfl rfl) (fN rfl rfl rfl rfl rfl rfl rfl rfl rfl rfl rfl) (ak.mem ⟨y7,trivial⟩) (ak.two trivial) (ak.tab ⟨(E46.up (by decide)).ex,(E42.up (by decide)).ex,(E4.up (by decide)).ex,(E1.up (by decide)).ex,(E2.up (by decide)).ex,(E7.up (by decide)).ex,(E9.up (by decide)).ex,(E5.up (by decide)).ex,(E10.up (by decide)).ex,(E8.up (by decide)).ex,(E6.up (by decide)).ex,(E3.up (by decide)).ex,trivial⟩) (CL fun ns _=>(aE _ _ (Am ns)).2)
theorem walk {l:PySem.W.OpenLaw} {q:Program} {loose:List Str} {XP:(Str -> Option Value) -> Heap -> Prop} {YP:World -> Heap -> Prop} {d:DefRec} {K:Params -> PySem.W.Frag} (hn:l.most = some 63) (OT:d.params.defaults = [])
  (hY:∀ (w:World) (h:Heap),YP w h -> (K w.params).In h)
  (F:∀ (w:World) (mg:Str -> Option Value) (fa:Addr) (h:Heap),(K w.params).In h -> h.Ns mainGlobals mg -> mg d.name = some (.ref fa) ->
   ∃ fd:FuncData,(∀ (s:Shared) (u:Value),BindsTo s fd ⟨[u],[]⟩ [("_law_script",u)]) /\ ∀ base:Heap,(K w.params).In base -> base.Ns mainGlobals mg -> kC l.prog w (K w.params) mg base DZ 49 fa fd ["_law_script"] (Hl (K w.params) 1 vz)) :
  PySem.W.WalkO q loose XP YP l.row.toRowW d [] (fun f vs=>PySem.call f vs) :=
 L2.Ek (n:=63) (k:=49) (x:="_law_script") (CX:=fun _=>DZ) (sp:=fun w=>Hl (K w.params) 1 vz) hn (by decide) OT ⟨rfl,by decide,by decide⟩ hY F (fun w H a ns hl hO hS=>J5 (K w.params) H a ns vz (FP hl) hO hS) fun _ _ _ _ _ z=>z
end Asm
open PySem PySem.W PyProof.Rows
set_option maxRecDepth 100000 in
set_option maxHeartbeats 0 in
theorem PySem.Challenge.cw_sharesample_k26_guesses_of_spreads_holds : PySem.Challenge.rw_sharesample_k26_guesses_of_spreads.Holds := by
 w_on;o_law;k_head;(case hw=>w_witness2)
 k_fill
 refine Asm.walk (l:=PySem.Challenge.rw_sharesample_k26_guesses_of_spreads) rfl rfl (fun w h Y=>PySem.W.kIn_of Y) ?F
 case F =>
  intro w mg fa h KX G hmg
  refine' Asm.all_mk KX G hmg ?a0 ?l0 ?c0 ?k0 ?a1 ?l1 ?c1 ?k1 ?a2 ?l2 ?c2 ?k2 ?a3 ?l3 ?c3 ?k3 ?a4 ?l4 ?c4 ?k4 ?a5 ?l5 ?c5 ?k5 ?a6 ?l6 ?c6 ?k6 ?a7 ?l7 ?c7 ?k7 ?a8 ?l8 ?c8 ?k8 ?a9 ?l9 ?c9 ?k9 ?a10 ?l10 ?c10 ?k10 ?a11 ?l11 ?c11 ?k11 ?a12 ?l12 ?c12 ?k12 ?a13 ?l13 ?c13 ?k13 ?a14 ?l14 ?c14 ?k14 ?a15 ?l15 ?c15 ?k15 ?a16 ?l16 ?c16 ?k16 ?a17 ?l17 ?c17 ?k17 ?a18 ?l18 ?c18 ?k18 ?a19 ?l19 ?c19 ?k19 ?a20 ?l20 ?c20 ?k20 ?a21 ?l21 ?c21 ?k21 ?a22 ?l22 ?c22 ?k22 ?a23 ?l23 ?c23 ?k23 ?a24 ?l24 ?c24 ?k24 ?a25 ?l25 ?c25 ?k25 ?a26 ?l26 ?c26 ?k26 ?a27 ?l27 ?c27 ?k27 ?a28 ?l28 ?c28 ?k28 ?a29 ?l29 ?c29 ?k29 ?a30 ?l30 ?c30 ?k30 ?a31 ?l31 ?c31 ?k31 ?a32 ?l32 ?c32 ?k32 ?a33 ?l33 ?c33 ?k33 ?a34 ?l34 ?c34 ?k34 ?a35 ?l35 ?c35 ?k35 ?a36 ?l36 ?c36 ?k36 ?a37 ?l37 ?c37 ?k37 ?a38 ?l38 ?c38 ?k38 ?a39 ?l39 ?c39 ?k39 ?a40 ?l40 ?c40 ?k40 ?a41 ?l41 ?c41 ?k41 ?a42 ?l42 ?c42 ?k42 ?a43 ?l43 ?c43 ?k43 ?a44 ?l44 ?c44 ?k44 ?a45 ?l45 ?c45 ?k45 ?a46 ?l46 ?c46 ?k46 ?a47 ?l47 ?c47 ?k47 ?z0 ?z1 ?z2 ?z3 ?z4 ?z5 ?z6 ?z7 ?z8 ?z9 ?z10 ?z11 ?z12 ?z13 ?q0 ?r0
  (case a0=>k_is);(case l0=>k_is);(case c0=>k_is);(case k0=>k_is)
  (case a1=>k_is);(case l1=>k_is);(case c1=>k_is);(case k1=>k_is)
  (case a2=>k_is);(case l2=>k_is);(case c2=>k_is);(case k2=>k_is)
  (case a3=>k_is);(case l3=>k_is);(case c3=>k_is);(case k3=>k_is)
  (case a4=>k_is);(case l4=>k_is);(case c4=>k_is);(case k4=>k_is)
  (case a5=>k_is);(case l5=>k_is);(case c5=>k_is);(case k5=>k_is)
  (case a6=>k_is);(case l6=>k_is);(case c6=>k_is);(case k6=>k_is)
  (case a7=>k_is);(case l7=>k_is);(case c7=>k_is);(case k7=>k_is)
  (case a8=>k_is);(case l8=>k_is);(case c8=>k_is);(case k8=>k_is)
  (case a9=>k_is);(case l9=>k_is);(case c9=>k_is);(case k9=>k_is)
  (case a10=>k_is);(case l10=>k_is);(case c10=>k_is);(case k10=>k_is)
  (case a11=>k_is);(case l11=>k_is);(case c11=>k_is);(case k11=>k_is)
  (case a12=>k_is);(case l12=>k_is);(case c12=>k_is);(case k12=>k_is)
  (case a13=>k_is);(case l13=>k_is);(case c13=>k_is);(case k13=>k_is)
  (case a14=>k_is);(case l14=>k_is);(case c14=>k_is);(case k14=>k_is)
  (case a15=>k_is);(case l15=>k_is);(case c15=>k_is);(case k15=>k_is)
  (case a16=>k_is);(case l16=>k_is);(case c16=>k_is);(case k16=>k_is)
  (case a17=>k_is);(case l17=>k_is);(case c17=>k_is);(case k17=>k_is)
  (case a18=>k_is);(case l18=>k_is);(case c18=>k_is);(case k18=>k_is)
  (case a19=>k_is);(case l19=>k_is);(case c19=>k_is);(case k19=>k_is)
  (case a20=>k_is);(case l20=>k_is);(case c20=>k_is);(case k20=>k_is)
  (case a21=>k_is);(case l21=>k_is);(case c21=>k_is);(case k21=>k_is)
  (case a22=>k_is);(case l22=>k_is);(case c22=>k_is);(case k22=>k_is)
  (case a23=>k_is);(case l23=>k_is);(case c23=>k_is);(case k23=>k_is)
  (case a24=>k_is);(case l24=>k_is);(case c24=>k_is);(case k24=>k_is)
  (case a25=>k_is);(case l25=>k_is);(case c25=>k_is);(case k25=>k_is)
  (case a26=>k_is);(case l26=>k_is);(case c26=>k_is);(case k26=>k_is)
  (case a27=>k_is);(case l27=>k_is);(case c27=>k_is);(case k27=>k_is)
  (case a28=>k_is);(case l28=>k_is);(case c28=>k_is);(case k28=>k_is)
  (case a29=>k_is);(case l29=>k_is);(case c29=>k_is);(case k29=>k_is)
  (case a30=>k_is);(case l30=>k_is);(case c30=>k_is);(case k30=>k_is)
  (case a31=>k_is);(case l31=>k_is);(case c31=>k_is);(case k31=>k_is)
  (case a32=>k_is);(case l32=>k_is);(case c32=>k_is);(case k32=>k_is)
  (case a33=>k_is);(case l33=>k_is);(case c33=>k_is);(case k33=>k_is)
  (case a34=>k_is);(case l34=>k_is);(case c34=>k_is);(case k34=>k_is)
  (case a35=>k_is);(case l35=>k_is);(case c35=>k_is);(case k35=>k_is)
  (case a36=>k_is);(case l36=>k_is);(case c36=>k_is);(case k36=>k_is)
  (case a37=>k_is);(case l37=>k_is);(case c37=>k_is);(case k37=>k_is)
  (case a38=>k_is);(case l38=>k_is);(case c38=>k_is);(case k38=>k_is)
  (case a39=>k_is);(case l39=>k_is);(case c39=>k_is);(case k39=>k_is)
  (case a40=>k_is);(case l40=>k_is);(case c40=>k_is);(case k40=>k_is)
  (case a41=>k_is);(case l41=>k_is);(case c41=>k_is);(case k41=>k_is)
  (case a42=>k_is);(case l42=>k_is);(case c42=>k_is);(case k42=>k_is)
  (case a43=>k_is);(case l43=>k_is);(case c43=>k_is);(case k43=>k_is)
  (case a44=>k_is);(case l44=>k_is);(case c44=>k_is);(case k44=>k_is)
  (case a45=>k_is);(case l45=>k_is);(case c45=>k_is);(case k45=>k_is)
  (case a46=>k_is);(case l46=>k_is);(case c46=>k_is);(case k46=>k_is)
  (case a47=>k_is);(case l47=>k_is);(case c47=>k_is);(case k47=>k_is)
  (case z0=>k_is)
  (case z1=>k_is)
  (case z2=>k_is)
  (case z3=>k_is)
  (case z4=>k_is)
  (case z5=>k_is)
  (case z6=>k_is)
  (case z7=>k_is)
  (case z8=>k_is)
  (case z9=>k_is)
  (case z10=>k_is)
  (case z11=>k_is)
  (case z12=>k_is)
  (case z13=>k_is)
  (case q0=>k_is);(case r0=>exact ⟨_,rfl⟩)
