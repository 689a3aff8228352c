import PyProof.Rows.All
import Wide.All
import OpenK.AllK
import Wide.FinOn
import Lean
import PyProof.EqAt
import PyProof.EqKinds
import PyProof.TupleCall
import PyProof.NeKinds
import KE.BitLaws
import PyProof.SumWalkG
import PyProof.ConsumeWalk
import PyProof.WalksMore
import KE.KSortedM
import PyProof.Rows.SetFrom
import PyProof.CompUse
import PyProof.ZipIter
import PyProof.EnumMake
import KE.KSortTup
import PyProof.Draws
import PyProof.ListRange
import PyProof.SliceList
import PyProof.DictIter
import PyProof.Rows.DictUnroll
import KE.KDictSum
import PyProof.DictRoadsH
import PyProof.DictKinds
import PySem.Challenge.RW_sharesample_k32_row_guesses
set_option Elab.async false
set_option linter.all false
set_option maxRecDepth 100000
namespace L2
open PySem PySem.Spec PyProof.Rows
noncomputable abbrev Key:=Sum Int Str
noncomputable def G1:Key -> Value -> Bool
 | .inl k,v=>Value.isInt k v
 | .inr x,v=>Value.isStrOf x v
noncomputable def VA (w:World):Key -> Int
 | .inl k=>hashInt k
 | .inr x=>hashStr w x
theorem bS:∀ {k:Key} {v:Value},G1 k v = true -> (∃ i t,k = Sum.inl i /\ v = Value.int i t) \/ (∃ x t,k = Sum.inr x /\ v = Value.str x t)
 | .inl i,v,h=>by
  obtain ⟨t,e⟩:=Value.isInt_shape (k:=i) (v:=v) h
  exact .inl ⟨i,t,rfl,e⟩
 | .inr x,v,h=>by
  obtain ⟨t,e⟩:=Value.isStrOf_shape (x:=x) (v:=v) h
  exact .inr ⟨x,t,rfl,e⟩
theorem Jy (a b:Int):decide ((Sum.inl a:Key) = Sum.inl b) = (a == b):=by
 by_cases e:a = b
 ·subst e;simp
 ·have h:¬ (Sum.inl a:Key) = Sum.inl b:=λq=>e (Sum.inl.inj q)
  rw [decide_eq_false h]
  exact (beq_eq_false_iff_ne.mpr e).symm
theorem Jv (a b:Str):decide ((Sum.inr a:Key) = Sum.inr b) = decide (a = b):=by
 by_cases e:a = b
 ·subst e;simp
 ·have h:¬ (Sum.inr a:Key) = Sum.inr b:=λq=>e (Sum.inr.inj q)
  rw [decide_eq_false h,decide_eq_false e]
theorem Jx (a:Int) (b:Str):decide ((Sum.inl a:Key) = Sum.inr b) = false:=decide_eq_false (λq=>nomatch q)
theorem Jw (a:Str) (b:Int):decide ((Sum.inr a:Key) = Sum.inl b) = false:=decide_eq_false (λq=>nomatch q)
noncomputable def xY (prog:Program) (w:World):PySem.KeyKind prog w Key where
 is:=G1
 hash:=VA w
 inj:=λv a b ha hb=>by
  rcases bS ha with ⟨i,t,rfl,rfl⟩ | ⟨x,t,rfl,rfl⟩
  ·rcases bS hb with ⟨j,u,rfl,e⟩ | ⟨y,u,rfl,e⟩
   ·injection e with e1 _;rw [e1]
   ·exact nomatch e
  ·rcases bS hb with ⟨j,u,rfl,e⟩ | ⟨y,u,rfl,e⟩
   ·exact nomatch e
   ·injection e with e1 _;rw [e1]
 byValue:=λk v h=>by
  rcases bS h with ⟨i,t,rfl,rfl⟩ | ⟨x,t,rfl,rfl⟩ <;> rfl
 pyHash:=λhv h=>by
  rcases bS hv with ⟨i,t,rfl,rfl⟩ | ⟨x,t,rfl,rfl⟩
  ·exact wpAny_pyHash_int h
  ·exact wpAny_pyHash_str h
 eqBool:=λhu hv h=>by
  rcases bS hu with ⟨i,t,rfl,rfl⟩ | ⟨x,t,rfl,rfl⟩
  ·rcases bS hv with ⟨j,u,rfl,rfl⟩ | ⟨y,u,rfl,rfl⟩
   ·rw [Jy] at h;exact wpAny_eqBool_int h
   ·rw [Jx] at h;exact SeqAt.EqAt.int_str i t y u _ _ _ _ h
  ·rcases bS hv with ⟨j,u,rfl,rfl⟩ | ⟨y,u,rfl,rfl⟩
   ·rw [Jw] at h;exact SeqAt.EqAt.str_int x t j u _ _ _ _ h
   ·rw [Jv] at h;exact wpAny_eqBool_str h
 «strs»:=λk x t v h=>by
  rcases bS h with ⟨i,u,rfl,e⟩ | ⟨y,u,rfl,e⟩
  ·exact nomatch e
  ·injection e with e1 _
   subst e1
   cases v <;> rfl
end L2
namespace L2
open PySem PySem.Spec PyProof.Rows
inductive V where
 | bA | bl (b:Bool) | int (i:Int) | str (x:Str) | ZA (b:Array UInt8) | O3 (b:UInt64) | ref (a:Addr) | ty (n:String)
 deriving DecidableEq
noncomputable def RelV:V -> Value -> Prop
 | .bA,u=>u = Value.none
 | .bl b,u=>u = Value.bool b
 | .int i,u=>∃ t,u = Value.int i t
 | .str x,u=>∃ t,u = Value.str x t
 | .ZA b,u=>∃ t,u = Value.bytes b t
 | .O3 b,u=>∃ t,u = Value.float b t
 | .ref a,u=>u = Value.ref a
 | .ty n,u=>u = Value.type n
noncomputable abbrev Vals:List V -> List Value -> Prop:=Paired RelV
theorem Vals.length {xs:List V} {us:List Value} (r:Vals xs us):xs.length = us.length:=Paired.length r
theorem Vals.get:∀ {xs:List V} {us:List Value} {i:Nat} {x:V},Vals xs us -> xs[i]? = some x -> ∃ u,us[i]? = some u /\ RelV x u
 | _,_,_,_,.nil,e=>by simp at e
 | _,_,0,_,.cons r _,e=>by simp at e;subst e;exact ⟨_,rfl,r⟩
 | _,_,i + 1,x,.cons _ t,e=>by
  obtain ⟨u,h1,h2⟩:=Vals.get (i:=i) (x:=x) t (by simpa using e)
  exact ⟨u,by simpa using h1,h2⟩
theorem Vals.set {x:V} {u:Value} (r:RelV x u):∀ {xs:List V} {us:List Value} (i:Nat),Vals xs us -> Vals (xs.set i x) (us.set i u)
 | _,_,_,.nil=>.nil
 | _,_,0,.cons _ t=>.cons r t
 | _,_,i + 1,.cons q t=>.cons q (Vals.set r i t)
theorem Vals.append:∀ {xs ys:List V} {us ws:List Value},Vals xs us -> Vals ys ws -> Vals (xs ++ ys) (us ++ ws)
 | _,_,_,_,.nil,s=>s
 | _,_,_,_,.cons r t,s=>.cons r (Vals.append t s)
theorem Vals.take:∀ {xs:List V} {us:List Value} (n:Nat),Vals xs us -> Vals (xs.take n) (us.take n)
 | _,_,0,_=>.nil
 | _,_,_ + 1,.nil=>.nil
 | _,_,n + 1,.cons r t=>.cons r (Vals.take n t)
theorem Vals.drop:∀ {xs:List V} {us:List Value} (n:Nat),Vals xs us -> Vals (xs.drop n) (us.drop n)
 | _,_,0,r=>r
 | _,_,_ + 1,.nil=>.nil
 | _,_,n + 1,.cons _ t=>Vals.drop n t
noncomputable def ph:Option V -> Option Value -> Prop
 | some v,some u=>RelV v u
 | none,none=>True
 | _,_=>False
noncomputable def KV {κ:Type}:List (κ × V) -> List (κ × Value) -> Prop:=Paired λ(p:κ × V) (q:κ × Value)=>p.1 = q.1 /\ RelV p.2 q.2
noncomputable def kV:Key -> V
 | .inl i=>.int i
 | .inr x=>.str x
inductive HO where
 | lst (xs:List V)
 | tup (xs:List V)
 | dK (oi:List (Key × V)) | dT (oi:List (List Key × V))
 | set (S:Int -> Bool) (n:Nat)
 | ins (C dx:Addr) (fs:List (Str × V))
 | own (x:Addr)
 | xd (fs:List (Str × V))
 | met (f x:Addr)
 | lC (lo hi:Int)
 | i6 (o:Obj) (u:HO)
 | Gp (ps:Array Value)
 | ext (φ:Heap -> Prop)
noncomputable abbrev Hp:=Addr -> Option HO
noncomputable def upd (H:Hp) (a:Addr) (o:HO):Hp:=λb=>if b = a then some o else H b
theorem aD {H:Hp} {a:Addr} {o:HO}:upd H a o a = some o:=by unfold upd;rw [if_pos rfl]
theorem aE {H:Hp} {a b:Addr} {o:HO} (h:b ≠ a):upd H a o b = H b:=by unfold upd;rw [if_neg h]
theorem bZ {H:Hp} {a b:Addr} {o:HO} (h:H a = some o) (h':H b = none):a ≠ b:=by
 intro e;subst e;rw [h] at h';cases h'
section
variable (P:Program) (w:World)
noncomputable def cF (H:Hp) (h:Heap) (a:Addr):HO -> Prop
 | .lst xs=>xs.length <= sizeLine /\ ∃ (ai:List Value) (n:Nat),Vals xs ai /\ h.get? a = some { cls:=.type "list",data:=.seq ai.toArray n }
 | .tup xs=>xs.length <= sizeLine /\ ∃ ai:List Value,Vals xs ai /\ IsTup h a ai.toArray
 | .dK oi=>oi.length <= sizeLine /\ (a == sysModules) = false /\ ∃ vs,KV oi vs /\ h.DictOf (xY P w) a vs
 | .dT oi=>oi.length <= sizeLine /\ (a == sysModules) = false /\ ∃ xs:List (List Key × Addr × Value),
   Paired (λ(p:List Key × V) (q:List Key × Addr × Value)=>p.1 = q.1 /\ H q.2.1 = some (.tup (p.1.map kV)) /\ RelV p.2 q.2.2) oi xs /\
   ∃ o es ep,h.get? a = some o /\ o.ExactDict /\ o.data = .dict es ep /\ es.toList = xs.map (entryOfKey (tupleKind (xY P w))) /\ (xs.map (·.1)).Nodup
 | .set S n=>h.SetOf (intKind P w) a S n
 | .ins C dx fs=>H dx = some (.own a) /\ fs.length <= 1000 /\ dx ≠ a /\ h.get? a = some (PySem.W.instObj C dx) /\
   ∃ mA,h.Ns1 dx mA /\ (∀ f,ph (fs.lookup f) (mA f)) /\ PySem.Within mA (fs.map (·.1))
 | .own _=>∃ o,h.get? a = some o
 | .xd fs=>∃ mA,h.Ns1 a mA /\ ∀ f,ph (fs.lookup f) (mA f)
 | .lC lo hi=>∃ t u v,h.get? a = some { cls:=.type "range",data:=.fields #[.int lo t,.int hi u,.int 1 v] }
 | .i6 o u=>h.get? a = some o /\ cF H h a u
 | .Gp ps=>h.get? a = some { cls:=.none,data:=.fields ps }
 | .met f x=>h.get? a = some (PySem.W.methodObj (.ref f) (.ref x))
 | .ext φ=>φ h /\ (∃ o,h.get? a = some o) /\ ∀ h1 h2:Heap,φ h1 -> (∀ o,h1.get? a = some o -> h2.get? a = some o) -> φ h2
noncomputable def l_ (H:Hp) (h:Heap):Prop:=∀ a o,H a = some o -> cF P w H h a o
end
section
variable {P:Program} {w:World} {H H':Hp} {h h':Heap} {a:Addr} {o:HO}
theorem cF.lt (x:cF P w H h a o):a < h.objs.size:=by
 cases o with
 | lst xs=>obtain ⟨_,_,_,_,e⟩:=x;exact Heap.lt_size e
 | tup xs=>obtain ⟨_,_,_,p⟩:=x;exact p.lt
 | dK oi=>obtain ⟨_,_,_,_,o,_,_,e,_⟩:=x;exact Heap.lt_size e
 | dT oi=>obtain ⟨_,_,_,_,o,_,_,e,_⟩:=x;exact Heap.lt_size e
 | set S n=>obtain ⟨o,_,_,_,e,_⟩:=x;exact Heap.lt_size e
 | ins C dx fs=>obtain ⟨_,_,_,e,_⟩:=x;exact Heap.lt_size e
 | own y=>obtain ⟨_,e⟩:=x;exact Heap.lt_size e
 | xd fs=>obtain ⟨_,⟨_,_,_,e,_⟩,_⟩:=x;exact Heap.lt_size e
 | lC lo hi=>obtain ⟨_,_,_,e⟩:=x;exact Heap.lt_size e
 | i6 ob u=>obtain ⟨e,_⟩:=x;exact Heap.lt_size e
 | Gp ps=>exact Heap.lt_size (show h.get? a = some _ from x)
 | met f y=>exact Heap.lt_size (show h.get? a = some _ from x)
 | ext φ=>obtain ⟨_,⟨_,e⟩,_⟩:=x;exact Heap.lt_size e
theorem Paired.NF {α β:Type} {F G:α -> β -> Prop}:∀ {l₁:List α} {l₂:List β},Paired F l₁ l₂ -> (∀ a b,F a b -> G a b) -> Paired G l₁ l₂
 | _,_,.nil,_=>.nil
 | _,_,.cons r t,f=>.cons (f _ _ r) (Paired.NF t f)
theorem cF.ko (x:cF P w H h a o) (k:∀ b u,(b = a \/ H b = some (.own a)) -> h.get? b = some u -> h'.get? b = some u)
  (ho:∀ b,H b = some (.own a) -> H' b = some (.own a)) (ht:∀ b xs,H b = some (.tup xs) -> H' b = some (.tup xs)):cF P w H' h' a o:=by
 induction o with
 | lst xs=>obtain ⟨z,ai,n,r,e⟩:=x;exact ⟨z,ai,n,r,k _ _ (.inl rfl) e⟩
 | tup xs=>obtain ⟨z,ai,r,ob,e,c⟩:=x;exact ⟨z,ai,r,ob,k _ _ (.inl rfl) e,c⟩
 | dK oi=>obtain ⟨z,y,vs,r,ob,es,ep,e,c⟩:=x;exact ⟨z,y,vs,r,ob,es,ep,k _ _ (.inl rfl) e,c⟩
 | dT oi =>
  obtain ⟨z,y,xs,r,ob,es,ep,e,c⟩:=x
  exact ⟨z,y,xs,Paired.NF r λp q z=>⟨z.1,ht _ _ z.2.1,z.2.2⟩,ob,es,ep,k _ _ (.inl rfl) e,c⟩
 | set S n=>obtain ⟨ob,es,ep,t,e,c⟩:=x;exact ⟨ob,es,ep,t,k _ _ (.inl rfl) e,c⟩
 | ins C dx fs =>
  obtain ⟨d,z,ne,e,mA,⟨od,es,ep,e2,c⟩,r⟩:=x
  exact ⟨ho _ d,z,ne,k _ _ (.inl rfl) e,mA,⟨od,es,ep,k _ _ (.inr d) e2,c⟩,r⟩
 | own y=>obtain ⟨ob,e⟩:=x;exact ⟨ob,k _ _ (.inl rfl) e⟩
 | xd fs=>obtain ⟨mA,⟨od,es,ep,e,c⟩,r⟩:=x;exact ⟨mA,⟨od,es,ep,k _ _ (.inl rfl) e,c⟩,r⟩
 | lC lo hi=>obtain ⟨t,u,v,e⟩:=x;exact ⟨t,u,v,k _ _ (.inl rfl) e⟩
 | i6 ob u ih=>obtain ⟨e,q⟩:=x;exact ⟨k _ _ (.inl rfl) e,ih q⟩
 | Gp ps =>
  have e:h.get? a = some { cls:=.none,data:=.fields ps }:=x
  show h'.get? a = some { cls:=.none,data:=.fields ps }
  exact k a _ (.inl rfl) e
 | met f y =>
  have e:h.get? a = some (PySem.W.methodObj (.ref f) (.ref y)):=x
  show h'.get? a = some (PySem.W.methodObj (.ref f) (.ref y))
  exact k a _ (.inl rfl) e
 | ext φ=>obtain ⟨p,⟨o,e⟩,st⟩:=x;exact ⟨st _ _ p λo q=>k _ _ (.inl rfl) q,⟨o,k _ _ (.inl rfl) e⟩,st⟩
theorem l_.lt (x:l_ P w H h) (e:H a = some o):a < h.objs.size:=(x a o e).lt
theorem l_.fresh (x:l_ P w H h) (e:h.objs.size <= a):H a = none:=by
 cases q:H a with
 | none=>rfl
 | some u=>exact absurd (Nat.lt_of_lt_of_le (x.lt q) e) (Nat.lt_irrefl _)
theorem l_.kept (x:l_ P w H h) (k:∀ b u,h.get? b = some u -> h'.get? b = some u):l_ P w H h':=λa o e =>
 (x a o e).ko (λb u _ q=>k b u q) (λ_ q=>q) λ_ _ q=>q
theorem l_.laid (x:l_ P w H h) (k:∀ b u,h.get? b = some u -> h'.get? b = some u) (hp:h.objs.size <= a) (new:cF P w (upd H a o) h' a o):l_ P w (upd H a o) h':=λb u e=>by
 have hn:=x.fresh hp
 by_cases hb:b = a
 ·subst hb;rw [aD] at e;cases e;exact new
 ·rw [aE hb] at e
  exact (x b u e).ko (λc v _ q=>k c v q) (λc q=>by rw [aE (bZ q hn)];exact q) λc xs q=>by rw [aE (bZ q hn)];exact q
end
noncomputable def Rd (H:Hp) (a:Addr) (u:HO):Prop:=H a = some u \/ ∃ o,H a = some (.i6 o u)
theorem Rd.ok {P:Program} {w:World} {H:Hp} {h:Heap} {a:Addr} {u:HO} (r:Rd H a u) (x:l_ P w H h):cF P w H h a u:=by
 rcases r with r | ⟨o,r⟩
 ·exact x a u r
 ·obtain ⟨_,q⟩:=x a _ r
  exact q
noncomputable def Rz:Option HO -> Prop
 | some (.lst _)=>True
 | some (.dK _)=>True
 | some (.dT _)=>True
 | some (.set _ _)=>True
 | some (.ins _ _ _)=>True
 | some (.ext _)=>True
 | _=>False
section
variable {P:Program} {w:World} {H:Hp} {h h':Heap} {x e:Addr} {o':HO}
theorem l_.write (ok:l_ P w H h) (mu:Rz (H x)) (he:e = x \/ H e = some (.own x)) (k:∀ b u,b ≠ e -> h.get? b = some u -> h'.get? b = some u) (LS:∃ u,h'.get? e = some u)
  (new:cF P w (upd H x o') h' x o'):l_ P w (upd H x o') h':=λb u q=>by
 have Nv:∀ c y,H c = some (.own y) -> c ≠ x:=λc y r z=>by subst z;rw [r] at mu;exact mu
 have Vs:∀ c xs,H c = some (.tup xs) -> c ≠ x:=λc xs r z=>by subst z;rw [r] at mu;exact mu
 by_cases hb:b = x
 ·subst hb;rw [aD] at q;cases q;exact new
 ·rw [aE hb] at q
  by_cases J2:b = e
  ·have q':H b = some (.own x):=by
    rcases he with z | z
    ·exact absurd (J2.trans z) hb
    ·rw [J2];exact z
   rw [q] at q';cases q'
   obtain ⟨v,hv⟩:=LS
   exact ⟨v,by rw [J2];exact hv⟩
  ·refine (ok b u q).ko (λc v hc r=>k c v ?_ r) (λc r=>by rw [aE (Nv c b r)];exact r) λc xs r=>by rw [aE (Vs c xs r)];exact r
   rcases hc with rfl | hc
   ·exact J2
   ·rintro rfl
    rcases he with z | z
    ·exact Nv c b hc z
    ·rw [hc] at z;cases z;exact hb rfl
end
structure Un (fs ex:List Addr) (H H':Hp) (h h':Heap):Prop where
 keep:∀ b o,h.get? b = some o -> H b = none -> b ∉ fs -> b ∉ ex -> h'.get? b = some o
 slot:∀ b o,h.get? b = some o -> H b = none -> b ∈ fs -> b ∉ ex -> ∃ sl,h'.get? b = some { o with slots:=sl }
 free:∀ b o,h.get? b = some o -> H b = none -> b ∉ ex -> H' b = none
 there:∀ b o,h.get? b = some o -> b ∉ ex -> ∃ o',h'.get? b = some o'
 ra:∀ b xs,H b = some (.tup xs) -> H' b = some (.tup xs)
 p8:∀ b o u,H b = some (.i6 o u) -> H' b = some (.i6 o u)
 rg:∀ b ps,H b = some (.Gp ps) -> ∃ more,H' b = some (.Gp (ps ++ more))
section
variable {fs fs' ex O6:List Addr} {H H1 H2:Hp} {h h1 h2 h':Heap} {a x e:Addr} {o:HO}
theorem Un.any (u:Un fs ex H H1 h h1) {b:Addr} {ob:Obj} (q:h.get? b = some ob) (n:H b = none) (hx:b ∉ ex):∃ sl,h1.get? b = some { ob with slots:=sl }:=by
 by_cases hb:b ∈ fs
 ·exact u.slot b ob q n hb hx
 ·exact ⟨ob.slots,u.keep b ob q n hb hx⟩
theorem Un.kept (k:∀ b u,h.get? b = some u -> h'.get? b = some u):Un fs ex H H h h' :=
 ⟨λb ob q _ _ _=>k b ob q,λb ob q _ _ _=>⟨ob.slots,k b ob q⟩,λ_ _ _ n _=>n,λb ob q _=>⟨ob,k b ob q⟩,λ_ _ q=>q,λ_ _ _ q=>q,λ_ ps q=>⟨#[],by rw [q];simp⟩⟩
theorem Un.refl:Un fs ex H H h h:=Un.kept λ_ _ q=>q
theorem Un.laid (k:∀ b u,h.get? b = some u -> h'.get? b = some u) (hp:h.objs.size <= a) (hn:H a = none):Un fs ex H (upd H a o) h h' where
 keep:=λb u q _ _ _=>k b u q
 slot:=λb u q _ _ _=>⟨u.slots,k b u q⟩
 free:=λb u q n _=>by rw [aE (Nat.ne_of_lt (Nat.lt_of_lt_of_le (Heap.lt_size q) hp))];exact n
 there:=λb u q _=>⟨u,k b u q⟩
 ra:=λb xs q=>by rw [aE (bZ q hn)];exact q
 p8:=λb u xs q=>by rw [aE (bZ q hn)];exact q
 rg:=λb ps q=>⟨#[],by rw [aE (bZ q hn),q];simp⟩
theorem Un.write (mu:Rz (H x)) (he:e = x \/ H e = some (.own x)) (k:∀ b u,b ≠ e -> h.get? b = some u -> h'.get? b = some u) (LS:∃ u,h'.get? e = some u):Un fs ex H (upd H x o) h h':=by
 have hx:∀ b,H b = none -> b ≠ x:=λb n z=>by subst z;rw [n] at mu;exact mu
 have hb:∀ b,H b = none -> b ≠ e:=λb n z=>by
  subst z
  rcases he with r | r
  ·exact hx b n r
  ·rw [n] at r;cases r
 have hm:∀ b u,H b = some u -> ¬ Rz (some u) -> b ≠ x:=λb u q nm z=>by subst z;rw [q] at mu;exact nm mu
 refine ⟨λb u q n _ _=>k b u (hb b n) q,λb u q n _ _=>⟨u.slots,k b u (hb b n) q⟩,λb u q n _=>by rw [aE (hx b n)];exact n,λb u q _=>?_,
  λb xs q=>by rw [aE (hm b _ q λz=>z)];exact q,λb u xs q=>by rw [aE (hm b _ q λz=>z)];exact q,λb ps q=>⟨#[],by rw [aE (hm b _ q λz=>z),q];simp⟩⟩
 by_cases J2:b = e
 ·subst J2;exact LS
 ·exact ⟨u,k b u J2 q⟩
end
noncomputable def Qs (h:Heap) (H:Hp):List Addr:=(List.range h.objs.size).filter λa=>(H a).isSome
noncomputable def r6 (h:Heap) (H:Hp):Heap:=PySem.W.hideAll h (Qs h H)
theorem zP (h:Heap) (H:Hp):(r6 h H).objs.size = h.objs.size:=PySem.W.hideAll_size _ _
theorem Ce {h:Heap} {H:Hp} {b:Addr} {o:Obj} (e:h.get? b = some o) (n:H b = none):(r6 h H).get? b = some o :=
 PySem.W.hideAll_get _ e λhm=>by
  have q:(H b).isSome = true:=(List.mem_filter.mp hm).2
  rw [n] at q;simp at q
theorem ED {h:Heap} {H:Hp} {b:Addr} {o:Obj} (e:(r6 h H).get? b = some o):h.get? b = some o /\ H b = none:=by
 have e':h.get? b = some o:=PySem.W.of_hideAll (Qs h H) e
 refine ⟨e',?_⟩
 cases q:H b with
 | none=>rfl
 | some x =>
  have hm:b ∈ Qs h H:=List.mem_filter.mpr ⟨List.mem_range.mpr (Heap.lt_size e'),by simp [q]⟩
  have z:(r6 h H).get? b = none:=PySem.W.hideAll_none (Qs h H) hm
  rw [z] at e;cases e
noncomputable def Gb (g h:Heap) (L:Addr):List (Addr × Obj):=(List.range h.objs.size).filterMap λa=>if a = L \/ (g.get? a).isSome = true then none else (h.get? a).map λo=>(a,o)
noncomputable def rest (g h:Heap) (L d:Addr):List (Addr × Obj):=(Gb g h L).filter λp=>decide (p.1 ≠ d)
end L2
namespace L2
open PySem PySem.Spec PyProof.Rows
structure Mod (K:PySem.W.Frag) (mg:Str -> Option Value) (base:Heap):Prop where
 Vz:K.In base
 glob:base.Ns mainGlobals mg
 blt:∃ mb,base.Ns builtinsNs mb /\ ∀ x:Str,x ≠ "__name__" -> mb x = bootBuiltins x
 nolimit:base.NoLimit
structure Cx where
 prog:Program
 w:World
 K:PySem.W.Frag
 mg:Str -> Option Value
 base:Heap
 A:Around
 N:List Str
 s₀:Shared
 H₀:Hp
 env:Env
 outer:List Env
 stack:List Env
 ex:List Addr
 fn:Str -> Bool
 calm:Bool
 pn:List (Addr × Obj)
 xe:Value -> Shared -> Prop
noncomputable def AB (l:List Env):List Addr:=l.filterMap (·.frame)
noncomputable abbrev Cx.fs (X:Cx):List Addr:=AB X.outer
noncomputable def Ht (sc:Scope) (x:Str):Prop:=sc.names.lookup x = some .local \/ sc.names.lookup x = some .cell \/ sc.names.lookup x = some .free
noncomputable def Loc (sc:Scope) (x:Str):Prop:=sc.names.lookup x = some .local \/ sc.names.lookup x = some .cell
noncomputable def Look (env:Env) (h:Heap) (m:Str -> Option Value) (x:Str) (u:Value):Prop :=
 (env.kindOf x = some .local /\ m x = some u) \/ ((env.kindOf x = some .cell \/ env.kindOf x = some .free) /\ ∃ c,env.cells.lookup x = some c /\ h.IsCell c (some u))
structure Cx.Ok (X:Cx):Prop where
 mod:Mod X.K X.mg X.base
 kind:X.env.scope.kind = .function
 glob:X.env.globals = mainGlobals
 blt:X.env.builtins = builtinsNs
 above:X.s₀.heap.objs.size <= X.env.locals
 inj:∀ x y c,X.env.cells.lookup x = some c -> X.env.cells.lookup y = some c -> x = y
 has:∀ x,(X.env.kindOf x = some .cell \/ X.env.kindOf x = some .free) -> ∃ c,X.env.cells.lookup x = some c
 Qa:∀ x c,X.fn x = true -> X.env.cells.lookup x = some c -> X.s₀.heap.objs.size <= c
 hd:X.calm = true -> X.A.handled = none
 frames:X.A.frames = some X.stack
 Qx:X.stack = X.outer \/ (X.stack = X.env :: X.outer /\ X.env.frame = some X.env.locals)
 exf:∀ b ∈ X.ex,b ≠ X.env.locals /\ ∀ x c,X.env.cells.lookup x = some c -> c ≠ b
 bs:∀ b o,X.base.get? b = some o -> X.s₀.heap.get? b = some o /\ X.H₀ b = none
 Hl:X.base.objs.size <= X.s₀.heap.objs.size
 BH:∀ b o,X.base.get? b = some o -> b ∉ X.ex
 Fy:∀ b ∈ X.ex,b ∉ X.fs
 mL:X.s₀.heap.FunFrames X.base X.outer
 LY:∀ b ∈ X.fs,X.H₀ b = none
structure Inv (X:Cx) (pins:List (Addr × Obj)) (σ:List (Option V)) (H:Hp) (s:Shared):Prop where
 ok:X.Ok
 os:s.os = X.s₀.os
 bare:AllBare s.gens
 base:Un X.fs X.ex X.H₀ H X.s₀.heap s.heap
 loc:∃ m,s.heap.Ns X.env.locals m /\ ∀ (i:Nat) (x:Str) (v:V),X.N[i]? = some x -> σ[i]? = some (some v) -> Ht X.env.scope x -> ∃ u,RelV v u /\ Look X.env s.heap m x u
 cell:∀ x c,X.env.cells.lookup x = some c -> ∃ v,s.heap.IsCell c v
 free:H X.env.locals = none
 jH:∀ x c,X.env.cells.lookup x = some c -> H c = none
 pin:∀ p ∈ X.pn ++ pins,s.heap.get? p.1 = some p.2 /\ H p.1 = none /\ p.1 ≠ X.env.locals /\ p.1 ∉ X.fs /\ ∀ v,p.2.data ≠ .cell v
 cX:l_ X.prog X.w H s.heap
 len:σ.length = X.N.length
section
variable {X:Cx} {pins:List (Addr × Obj)} {σ:List (Option V)} {H H':Hp} {s:Shared} {h':Heap}
theorem Cx.Ok.Vt (ok:X.Ok) {b:Addr} {o:Obj} (e:X.base.get? b = some o):b ∉ X.fs:=λhb=>by
 have:=(ok.mL.mem hb).1
 rw [e] at this;cases this
theorem Inv.bs (I:Inv X pins σ H s):∀ b o,X.base.get? b = some o -> s.heap.get? b = some o /\ H b = none:=λb o e =>
 ⟨I.base.keep b o (I.ok.bs b o e).1 (I.ok.bs b o e).2 (I.ok.Vt e) (I.ok.BH b o e),I.base.free b o (I.ok.bs b o e).1 (I.ok.bs b o e).2 (I.ok.BH b o e)⟩
theorem Inv.bk (I:Inv X pins σ H s):∀ b o,X.base.get? b = some o -> s.heap.get? b = some o:=λb o e=>(I.bs b o e).1
theorem Inv.mod (I:Inv X pins σ H s):Mod X.K X.mg X.base:=I.ok.mod
theorem Inv.zE (I:Inv X pins σ H s):X.K.In s.heap:=I.ok.mod.Vz.keeps I.bk
theorem Inv.lt (I:Inv X pins σ H s):X.env.locals < s.heap.objs.size:=let ⟨_,hn,_⟩:=I.loc;hn.lt
theorem Inv.sz (I:Inv X pins σ H s):X.s₀.heap.objs.size <= s.heap.objs.size:=Nat.le_trans I.ok.above (Nat.le_of_lt I.lt)
theorem Inv.Jf (I:Inv X pins σ H s) {a:Addr} (h:s.heap.objs.size <= a):a ∉ X.fs:=λhb=>by
 obtain ⟨_,o,ho,_⟩:=I.ok.mL.mem hb
 exact absurd (Nat.lt_of_lt_of_le (Heap.lt_size ho) (Nat.le_trans I.sz h)) (Nat.lt_irrefl _)
theorem Inv.K_ (I:Inv X pins σ H s):∀ x c,X.env.cells.lookup x = some c -> c ≠ X.env.locals:=λx c e z=>by
 obtain ⟨v,o,ho,hd⟩:=I.cell x c e
 obtain ⟨m,⟨o',es,ep,eT,JZ,_⟩,_⟩:=I.loc
 rw [z,eT] at ho;cases ho;rw [JZ] at hd;cases hd
theorem Inv.mL (I:Inv X pins σ H s):s.heap.FunFrames X.base X.outer:=by
 have all:∀ (l:List Env),(∀ b ∈ AB l,b ∈ X.fs) -> X.s₀.heap.FunFrames X.base l -> s.heap.FunFrames X.base l:=by
  intro l
  induction l with
  | nil=>intro _ _;trivial
  | cons env r ih =>
   intro hs hl
   obtain ⟨hk,⟨L,o,hf,hn,ho,hd⟩,hr⟩:=hl
   have hL:L ∈ X.fs:=hs L (by unfold AB;rw [List.filterMap_cons,hf];exact List.mem_cons_self)
   obtain ⟨sl,e⟩:=I.base.slot L o ho (I.ok.LY L hL) hL λz=>I.ok.Fy L z hL
   exact ⟨hk,⟨L,_,hf,hn,e,hd⟩,ih (λb hb=>hs b (by unfold AB;rw [List.filterMap_cons,hf];exact List.mem_cons_of_mem _ hb)) hr⟩
 exact all X.outer (λ_ hb=>hb) I.ok.mL
theorem Inv.stack (I:Inv X pins σ H s):s.heap.FunFrames X.base X.stack:=by
 rcases I.ok.Qx with e | ⟨e,hf⟩
 ·rw [e];exact I.mL
 ·rw [e]
  obtain ⟨m,hn,_⟩:=I.loc
  refine .cons (by rw [I.ok.kind];decide) hf hn ?_ I.mL
  exact Heap.get?_none_of_le (Nat.le_trans I.ok.Hl I.ok.above)
theorem Inv.lq (I:Inv X pins σ H s):∀ b ∈ AB X.stack,b ∈ X.env.locals :: X.fs:=λb hb=>by
 rcases I.ok.Qx with e | ⟨e,hf⟩
 ·rw [e] at hb;exact List.mem_cons_of_mem _ hb
 ·rw [e] at hb
  unfold AB at hb
  rw [List.filterMap_cons,hf] at hb
  exact hb
theorem Inv.xB (I:Inv X pins σ H s):∀ b ∈ AB X.stack,H b = none:=λb hb=>by
 rcases List.mem_cons.mp (I.lq b hb) with e | hb
 ·rw [e];exact I.free
 ·obtain ⟨_,o,ho,_⟩:=I.ok.mL.mem hb
  exact I.base.free b o ho (I.ok.LY b hb) λz=>I.ok.Fy b z hb
theorem Inv.step {g':Array GenState} {t':Nat} {d':Drawn} {ch:List Addr} (I:Inv X pins σ H s)
  (Dl:∀ b ∈ ch,(b ∈ X.ex \/ X.s₀.heap.objs.size <= b) /\ b ≠ X.env.locals /\ (∀ x c,X.env.cells.lookup x = some c -> c ≠ b) /\ ∀ p ∈ X.pn ++ pins,p.1 ≠ b)
  (keep:∀ b o,b ≠ X.env.locals -> b ∉ X.fs -> b ∉ ch -> s.heap.get? b = some o -> H b = none -> h'.get? b = some o)
  (slot:∀ b o,b ≠ X.env.locals -> b ∈ X.fs -> b ∉ ch -> s.heap.get? b = some o -> H b = none -> ∃ sl,h'.get? b = some { o with slots:=sl }) (free:∀ b o,b ∉ ch -> s.heap.get? b = some o -> H b = none -> H' b = none)
  (there:∀ b o,b ∉ ch -> s.heap.get? b = some o -> ∃ o',h'.get? b = some o')
  (ra:∀ b xs,H b = some (.tup xs) -> H' b = some (.tup xs)) (p8:∀ b o u,H b = some (.i6 o u) -> H' b = some (.i6 o u)) (rg:∀ b ps,H b = some (.Gp ps) -> ∃ more,H' b = some (.Gp (ps ++ more)))
  (ns:∀ m,s.heap.Ns X.env.locals m -> h'.Ns X.env.locals m) (cX:l_ X.prog X.w H' h') (hg:AllBare g') :
  Inv X pins σ H' { s with heap:=h',gens:=g',drawn:=d',toks:=t' }:=by
 have neL:∀ b o,X.s₀.heap.get? b = some o -> b ≠ X.env.locals:=λb o e=>Nat.ne_of_lt (Nat.lt_of_lt_of_le (Heap.lt_size e) I.ok.above)
 have GY:∀ b o,X.s₀.heap.get? b = some o -> b ∉ X.ex -> b ∉ ch:=λb o e hx hb=>by
  rcases (Dl b hb).1 with z | z
  ·exact hx z
  ·exact absurd (Nat.lt_of_lt_of_le (Heap.lt_size e) z) (Nat.lt_irrefl _)
 have cellK:∀ x c,X.env.cells.lookup x = some c -> ∀ v,s.heap.IsCell c v -> h'.IsCell c v:=λx c e v ⟨o,ho,hd⟩=>by
  have NB:c ∉ ch:=λz=>(Dl c z).2.2.1 x c e rfl
  by_cases hc:c ∈ X.fs
  ·obtain ⟨sl,q⟩:=slot c o (I.K_ x c e) hc NB ho (I.jH x c e)
   exact ⟨_,q,hd⟩
  ·exact ⟨o,keep c o (I.K_ x c e) hc NB ho (I.jH x c e),hd⟩
 refine ⟨I.ok,I.os,hg,⟨λb o e n hb hx=>?_,λb o e n hb hx=>?_,λb o e n hx=>?_,λb o e hx=>?_,λb xs e=>ra b xs (I.base.ra b xs e),λb o xs e=>p8 b o xs (I.base.p8 b o xs e),λb ps e=>?_⟩,?_,λx c e=>?_,?_,λx c e=>?_,λp hp=>?_,cX,I.len⟩
 ·exact keep b o (neL b o e) hb (GY b o e hx) (I.base.keep b o e n hb hx) (I.base.free b o e n hx)
 ·obtain ⟨sl,e1⟩:=I.base.slot b o e n hb hx
  obtain ⟨sl',e2⟩:=slot b _ (neL b o e) hb (GY b o e hx) e1 (I.base.free b o e n hx)
  exact ⟨sl',e2⟩
 ·obtain ⟨o',e1⟩:=I.base.there b o e hx
  exact free b o' (GY b o e hx) e1 (I.base.free b o e n hx)
 ·obtain ⟨o',e1⟩:=I.base.there b o e hx
  exact there b o' (GY b o e hx) e1
 ·obtain ⟨m1,e1⟩:=I.base.rg b ps e
  obtain ⟨m2,e2⟩:=rg b _ e1
  exact ⟨m1 ++ m2,by rw [e2,Array.append_assoc]⟩
 ·obtain ⟨m,hn,hl⟩:=I.loc
  refine ⟨m,ns m hn,λi x v e1 e2 e3=>?_⟩
  obtain ⟨u,r,l⟩:=hl i x v e1 e2 e3
  refine ⟨u,r,?_⟩
  rcases l with l | ⟨k,c,e,z⟩
  ·exact .inl l
  ·exact .inr ⟨k,c,e,cellK x c e _ z⟩
 ·obtain ⟨v,z⟩:=I.cell x c e
  exact ⟨v,cellK x c e v z⟩
 ·obtain ⟨m,⟨o,_,_,ho,_⟩,_⟩:=I.loc
  exact free _ o (λz=>(Dl _ z).2.1 rfl) ho I.free
 ·obtain ⟨v,o,ho,hd⟩:=I.cell x c e
  exact free c o (λz=>(Dl c z).2.2.1 x c e rfl) ho (I.jH x c e)
 ·obtain ⟨e,n,ne,nf,d⟩:=I.pin p hp
  have NB:p.1 ∉ ch:=λz=>(Dl p.1 z).2.2.2 p hp rfl
  exact ⟨keep p.1 p.2 ne nf NB e n,free p.1 p.2 NB e n,ne,nf,d⟩
theorem Inv.un {t':Nat} (I:Inv X pins σ H s) (u:Un X.fs [] H H' s.heap h') (cX:l_ X.prog X.w H' h'):Inv X pins σ H' { s with heap:=h',toks:=t' }:=by
 obtain ⟨m,⟨o,es,ep,ho,r⟩,_⟩:=id I.loc
 obtain ⟨sl,hL⟩:=u.any ho I.free (by simp)
 exact I.step (g':=s.gens) (d':=s.drawn) (ch:=[]) (λ_ z=>nomatch z) (λb o _ hb _ e n=>u.keep b o e n hb (by simp)) (λb o _ hb _ e n=>u.slot b o e n hb (by simp)) (λb o _ e n=>u.free b o e n (by simp)) (λb o _ e=>u.there b o e (by simp)) u.ra u.p8 u.rg (λm' hm=>by
  obtain ⟨o',Hg,yD,eT,r'⟩:=hm
  rw [ho] at eT;cases eT
  exact ⟨_,Hg,yD,hL,r'⟩) cX I.bare
theorem Inv.call {g':Array GenState} {t':Nat} {d':Drawn} {ch:List Addr} (I:Inv X pins σ H s) (u:Un (AB X.stack) ch H H' s.heap h') (cX:l_ X.prog X.w H' h') (hg:AllBare g')
  (Dl:∀ b ∈ ch,(b ∈ X.ex \/ X.s₀.heap.objs.size <= b) /\ b ≠ X.env.locals /\ (∀ x c,X.env.cells.lookup x = some c -> c ≠ b) /\ ∀ p ∈ X.pn ++ pins,p.1 ≠ b) :
  Inv X pins σ H' { s with heap:=h',gens:=g',drawn:=d',toks:=t' }:=by
 obtain ⟨m,⟨o,es,ep,ho,r⟩,_⟩:=id I.loc
 obtain ⟨sl,hL⟩:=u.any ho I.free λz=>(Dl _ z).2.1 rfl
 exact I.step (ch:=ch) Dl (λb o hL hb hc e n=>u.keep b o e n (λz=>(List.mem_cons.mp (I.lq b z)).elim hL hb) hc) (λb o _ _ hc e n=>u.any e n hc) (λb o hc e n=>u.free b o e n hc) (λb o hc e=>u.there b o e hc) u.ra u.p8 u.rg (λm' hm=>by
  obtain ⟨o',Hg,yD,eT,r'⟩:=hm
  rw [ho] at eT;cases eT
  exact ⟨_,Hg,yD,hL,r'⟩) cX hg
theorem Inv.turned {t':Nat} {it:Addr} (I:Inv X pins σ H s) (k:∀ b o,b ≠ it -> s.heap.get? b = some o -> h'.get? b = some o) (hn:H it = none) (hL:it ≠ X.env.locals)
  (h1:it ∈ X.ex \/ X.s₀.heap.objs.size <= it) (h2:∀ x c,X.env.cells.lookup x = some c -> c ≠ it) (h3:∀ p ∈ X.pn ++ pins,p.1 ≠ it):Inv X pins σ H { s with heap:=h',toks:=t' }:=by
 have GW:∀ b u,H b = some u -> b ≠ it:=λb u e z=>by rw [z,hn] at e;cases e
 refine I.step (g':=s.gens) (d':=s.drawn) (ch:=[it]) (λb hb=>?_) (λb o _ _ hc e _=>k b o (λz=>hc (by simp [z])) e) (λb o _ _ hc e _=>⟨o.slots,k b o (λz=>hc (by simp [z])) e⟩) (λ_ _ _ _ n=>n)
  (λb o hc e=>⟨o,k b o (λz=>hc (by simp [z])) e⟩) (λ_ _ e=>e) (λ_ _ _ e=>e) (λb ps e=>⟨#[],by rw [e];simp⟩) (λm hm=>?_) (λb u e=>?_) I.bare
 ·have e:b = it:=by simpa using hb
  subst e
  exact ⟨h1,hL,h2,h3⟩
 ·obtain ⟨o,es,ep,ho,r⟩:=hm
  exact ⟨o,es,ep,k _ o (Ne.symm hL) ho,r⟩
 ·refine (I.cX b u e).ko (λc v hc q=>k c v ?_ q) (λ_ q=>q) λ_ _ q=>q
  rcases hc with z | z
  ·rw [z];exact GW b u e
  ·exact GW c _ z
theorem Inv.tok (I:Inv X pins σ H s) (t:Nat):Inv X pins σ H { s with toks:=t }:=I.un (h':=s.heap) (t':=t) Un.refl I.cX
theorem Inv.kept {t':Nat} (I:Inv X pins σ H s) (k:∀ b u,s.heap.get? b = some u -> h'.get? b = some u):Inv X pins σ H { s with heap:=h',toks:=t' }:=I.un (Un.kept k) (I.cX.kept k)
theorem Inv.laid {a:Addr} {o:HO} {t':Nat} (I:Inv X pins σ H s) (k:∀ b u,s.heap.get? b = some u -> h'.get? b = some u) (hp:s.heap.objs.size <= a) (new:cF X.prog X.w (upd H a o) h' a o) :
  Inv X pins σ (upd H a o) { s with heap:=h',toks:=t' }:=I.un (Un.laid k hp (I.cX.fresh hp)) (I.cX.laid k hp new)
theorem Inv.write {x e:Addr} {o:HO} {t':Nat} (I:Inv X pins σ H s) (mu:Rz (H x)) (he:e = x \/ H e = some (.own x)) (k:∀ b u,b ≠ e -> s.heap.get? b = some u -> h'.get? b = some u) (LS:∃ u,h'.get? e = some u)
  (new:cF X.prog X.w (upd H x o) h' x o):Inv X pins σ (upd H x o) { s with heap:=h',toks:=t' }:=I.un (Un.write mu he k LS) (I.cX.write mu he k LS new)
theorem Inv.jr {GR:List (Addr × Obj)} (I:Inv X pins σ H s) (h:∀ p ∈ GR,s.heap.get? p.1 = some p.2 /\ H p.1 = none /\ p.1 ≠ X.env.locals /\ p.1 ∉ X.fs /\ ∀ v,p.2.data ≠ .cell v):Inv X GR σ H s :=
 ⟨I.ok,I.os,I.bare,I.base,I.loc,I.cell,I.free,I.jH,λp hp=>(List.mem_append.mp hp).elim (λz=>I.pin p (List.mem_append_left _ z)) (h p),I.cX,I.len⟩
theorem ur {N:List Str} (hN:N.Nodup) {i j:Nat} {x:Str} (a:N[i]? = some x) (b:N[j]? = some x):i = j:=by
 obtain ⟨h1,e1⟩:=List.getElem?_eq_some_iff.mp a
 obtain ⟨h2,e2⟩:=List.getElem?_eq_some_iff.mp b
 exact (List.getElem_inj hN).mp (e1.trans e2.symm)
theorem zk {M:Model} {A:Around} {E:Value -> Shared -> Prop} {i:Nat} {x:Str} {v:V} {u:Value} {Q:Unit -> Shared -> Prop} (I:Inv X pins σ H s) (hN:X.N.Nodup) (hi:X.N[i]? = some x) (hx:Loc X.env.scope x) (r:RelV v u)
  (h:∀ s',Inv X pins (σ.set i (some v)) H s' -> (∃ a,Heap.SameBut a s.heap s'.heap /\ (a = X.env.locals \/ X.env.cells.lookup x = some a)) -> Q () s') (hf:X.fn x = true \/ X.env.scope.names.lookup x = some .local:=by first | exact .inl rfl | exact .inr rfl | assumption):wpAny M A (storeName X.env x u) Q E s:=by
 obtain ⟨m,hn,hl⟩:=id I.loc
 have W5:(X.env.scope.kind == .class || (X.env.scope.kind == .module && X.env.locals != X.env.globals)) = false:=by rw [I.ok.kind];rfl
 have Oo:i < σ.length:=by rw [I.len];exact (List.getElem?_eq_some_iff.mp hi).1
 have K_:=I.K_
 have tracked:∀ {a:Addr} {h':Heap},(∃ o,s.heap.get? a = some o /\ H a = none) -> Heap.SameBut a s.heap h' -> l_ X.prog X.w H h':=λ{a h'} ha hs b ob e=>by
  obtain ⟨_,_,G_⟩:=ha
  refine (I.cX b ob e).ko (λc w' hc q=>(hs.2 c ?_).trans q) (λ_ q=>q) λ_ _ q=>q
  rintro rfl
  rcases hc with rfl | hc
  ·rw [G_] at e;cases e
  ·rw [G_] at hc;cases hc
 rcases hx with hk | hk
 ·refine wpAny_storeName_local hk hn (λh' ye hs=>?_) W5
  obtain ⟨oL,_,_,Og,_⟩:=id hn
  refine h _ ⟨I.ok,I.os,I.bare,⟨λb o e n hb hx=>?_,λb o e n hb hx=>?_,I.base.free,λb o e hx=>?_,I.base.ra,I.base.p8,I.base.rg⟩,⟨_,ye,λj y v' e1 e2 e3=>?_⟩,λy c e=>?_,I.free,I.jH,λp hp=>?_,tracked ⟨oL,Og,I.free⟩ hs,by simpa using I.len⟩ ⟨_,hs,.inl rfl⟩
  ·exact (hs.2 b (Nat.ne_of_lt (Nat.lt_of_lt_of_le (Heap.lt_size e) I.ok.above))).trans (I.base.keep b o e n hb hx)
  ·obtain ⟨sl,e1⟩:=I.base.slot b o e n hb hx
   exact ⟨sl,(hs.2 b (Nat.ne_of_lt (Nat.lt_of_lt_of_le (Heap.lt_size e) I.ok.above))).trans e1⟩
  ·obtain ⟨o',e1⟩:=I.base.there b o e hx
   exact ⟨o',(hs.2 b (Nat.ne_of_lt (Nat.lt_of_lt_of_le (Heap.lt_size e) I.ok.above))).trans e1⟩
  ·by_cases hj:j = i
   ·subst hj
    rw [hi] at e1;cases e1
    rw [List.getElem?_set_self Oo] at e2
    cases e2
    exact ⟨u,r,.inl ⟨hk,by simp⟩⟩
   ·rw [List.getElem?_set_ne (Ne.symm hj)] at e2
    obtain ⟨u',r',q⟩:=hl j y v' e1 e2 e3
    refine ⟨u',r',?_⟩
    rcases q with ⟨k,e⟩ | ⟨k,c,e,z⟩
    ·refine .inl ⟨k,?_⟩
     have:y ≠ x:=λe=>hj (ur hN e1 (e ▸ hi))
     simp [this,e]
    ·exact .inr ⟨k,c,e,z.sameBut hs (K_ y c e)⟩
  ·obtain ⟨w',z⟩:=I.cell y c e
   exact ⟨w',z.sameBut hs (K_ y c e)⟩
  ·obtain ⟨e,n,ne,nf,d⟩:=I.pin p hp
   exact ⟨(hs.2 p.1 ne).trans e,n,ne,nf,d⟩
 ·have Dk:X.fn x = true:=by
   rcases hf with z | z
   ·exact z
   ·rw [z] at hk;cases hk
  obtain ⟨c,hc⟩:=I.ok.has x (.inl hk)
  obtain ⟨w',z⟩:=I.cell x c hc
  refine wpAny_storeName_cell I.ok.kind hk hc z (λh' Dm hs=>?_)
  obtain ⟨oc,hoc,WN⟩:=id z
  refine h { s with heap:=h' } ⟨I.ok,I.os,I.bare,⟨λb o e n hb hx=>?_,λb o e n hb hx=>?_,I.base.free,λb o e hx=>?_,I.base.ra,I.base.p8,I.base.rg⟩,⟨m,hn.sameBut hs (Ne.symm (K_ x c hc)),λj y v' e1 e2 e3=>?_⟩,λy c' e=>?_,I.free,I.jH,λp hp=>?_,tracked ⟨oc,hoc,I.jH x c hc⟩ hs,by simpa using I.len⟩ ⟨c,hs,.inr hc⟩
  ·exact (hs.2 b (Nat.ne_of_lt (Nat.lt_of_lt_of_le (Heap.lt_size e) (I.ok.Qa x c Dk hc)))).trans (I.base.keep b o e n hb hx)
  ·obtain ⟨sl,e1⟩:=I.base.slot b o e n hb hx
   exact ⟨sl,(hs.2 b (Nat.ne_of_lt (Nat.lt_of_lt_of_le (Heap.lt_size e) (I.ok.Qa x c Dk hc)))).trans e1⟩
  ·obtain ⟨o',e1⟩:=I.base.there b o e hx
   exact ⟨o',(hs.2 b (Nat.ne_of_lt (Nat.lt_of_lt_of_le (Heap.lt_size e) (I.ok.Qa x c Dk hc)))).trans e1⟩
  ·by_cases hj:j = i
   ·subst hj
    rw [hi] at e1;cases e1
    rw [List.getElem?_set_self Oo] at e2
    cases e2
    exact ⟨u,r,.inr ⟨.inl hk,c,hc,Dm⟩⟩
   ·rw [List.getElem?_set_ne (Ne.symm hj)] at e2
    obtain ⟨u',r',q⟩:=hl j y v' e1 e2 e3
    refine ⟨u',r',?_⟩
    rcases q with q | ⟨k,c',e,z'⟩
    ·exact .inl q
    ·refine .inr ⟨k,c',e,z'.sameBut hs ?_⟩
     rintro rfl
     exact hj (ur hN e1 (I.ok.inj _ _ _ e hc ▸ hi))
  ·by_cases hcc:c' = c
   ·subst hcc;exact ⟨_,Dm⟩
   ·obtain ⟨w2,z2⟩:=I.cell y c' e
    exact ⟨w2,z2.sameBut hs hcc⟩
  ·obtain ⟨e,n,ne,nf,d⟩:=I.pin p hp
   refine ⟨(hs.2 p.1 ?_).trans e,n,ne,nf,d⟩
   intro q
   rw [q,hoc] at e
   have q':oc = p.2:=Option.some.inj e
   exact d w' (by rw [<- q'];exact WN)
theorem kn {M:Model} {A:Around} {E:Value -> Shared -> Prop} {i:Nat} {x:Str} {v:V} {u:Value} {Q:Unit -> Shared -> Prop} (I:Inv X pins σ H s) (hN:X.N.Nodup) (hi:X.N[i]? = some x) (hx:Loc X.env.scope x) (r:RelV v u)
  (h:∀ s',Inv X pins (σ.set i (some v)) H s' -> Q () s') (hf:X.fn x = true \/ X.env.scope.names.lookup x = some .local:=by first | exact .inl rfl | exact .inr rfl | assumption):wpAny M A (storeName X.env x u) Q E s :=
 zk I hN hi hx r (λs' I' _=>h s' I') hf
theorem Inv.P_ {s':Shared} {ch:List Addr} (I:Inv X pins σ H s) (ho:s'.os = s.os) (u:Un (AB X.stack) ch H H' s.heap s'.heap) (cX:l_ X.prog X.w H' s'.heap) (hg:AllBare s'.gens)
  (Dl:∀ b ∈ ch,(b ∈ X.ex \/ X.s₀.heap.objs.size <= b) /\ b ≠ X.env.locals /\ (∀ x c,X.env.cells.lookup x = some c -> c ≠ b) /\ ∀ p ∈ X.pn ++ pins,p.1 ≠ b):Inv X pins σ H' s':=by
 obtain ⟨h',g',d',t',o'⟩:=s'
 have e:o' = s.os:=ho
 subst e
 exact I.call (g':=g') (t':=t') (d':=d') u cX hg Dl
end
noncomputable abbrev XK:=Value -> Option Addr -> Hp -> Prop
noncomputable abbrev St:=List (Option V)
noncomputable abbrev VK:=V -> Hp -> Prop
noncomputable abbrev TE:=St -> Hp -> VK -> Prop
noncomputable abbrev TT:=St -> Hp -> (Bool -> Hp -> Prop) -> Prop
noncomputable abbrev TA:=St -> Hp -> (List V -> Hp -> Prop) -> Prop
structure Ends where
 nx:St -> Hp -> Prop
 rt:VK
 bk:St -> Hp -> Prop:=λ_ _=>False
 ct:St -> Hp -> Prop:=λ_ _=>False
noncomputable abbrev TS:=Ends -> St -> Hp -> Prop
noncomputable def EP (X:Cx) (pins:List (Addr × Obj)) (σ:St) (Q:VK) (u:Value) (s':Shared):Prop:=∃ v H',Inv X pins σ H' s' /\ RelV v u /\ Q v H'
noncomputable def TP (X:Cx) (pins:List (Addr × Obj)) (σ:St) (Q:Bool -> Hp -> Prop) (b:Bool) (s':Shared):Prop:=∃ H',Inv X pins σ H' s' /\ Q b H'
noncomputable def AP (X:Cx) (pins:List (Addr × Obj)) (σ:St) (Q:List V -> Hp -> Prop) (us:List Value) (s':Shared):Prop:=∃ vs H',Inv X pins σ H' s' /\ Vals vs us /\ Q vs H'
noncomputable def SP (X:Cx) (pins:List (Addr × Obj)) (D:Ends) (f:Flow) (s':Shared):Prop :=
 match f with
 | .next=>∃ σ' H',Inv X pins σ' H' s' /\ D.nx σ' H'
 | .brk=>∃ σ' H',Inv X pins σ' H' s' /\ D.bk σ' H'
 | .cont=>∃ σ' H',Inv X pins σ' H' s' /\ D.ct σ' H'
 | .ret u=>∃ v σ' H',Inv X pins σ' H' s' /\ RelV v u /\ D.rt v H'
noncomputable def PE (X:Cx) (e:Expr) (t:TE):Prop :=
 ∀ (pins:List (Addr × Obj)) (s:Shared) (σ:St) (H:Hp) (Q:VK),Inv X pins σ H s -> t σ H Q -> wpAny (model X.prog X.w) X.A (eval e X.env) (EP X pins σ Q) X.xe s
noncomputable def PT (X:Cx) (e:Expr) (t:TT):Prop :=
 ∀ (pins:List (Addr × Obj)) (s:Shared) (σ:St) (H:Hp) (Q:Bool -> Hp -> Prop),Inv X pins σ H s -> t σ H Q -> wpAny (model X.prog X.w) X.A (isTrue e X.env (eval e X.env)) (TP X pins σ Q) X.xe s
noncomputable def PW (X:Cx) (e:Expr) (t:TT):Prop :=
 ∀ (whole:Sem Value) (pins:List (Addr × Obj)) (s:Shared) (σ:St) (H:Hp) (Q:Bool -> Hp -> Prop),Inv X pins σ H s -> t σ H Q -> wpAny (model X.prog X.w) X.A (isTrue e X.env whole) (TP X pins σ Q) X.xe s
theorem PW.pt {X:Cx} {e:Expr} {t:TT} (h:PW X e t):PT X e t:=h _
noncomputable def PA (X:Cx) (es:List Expr) (t:TA):Prop :=
 ∀ (pos:Pos) (pins:List (Addr × Obj)) (s:Shared) (σ:St) (H:Hp) (Q:List V -> Hp -> Prop),Inv X pins σ H s -> t σ H Q -> wpAny (model X.prog X.w) X.A (spliced (backTo pos (starEach es X.env))) (AP X pins σ Q) X.xe s
noncomputable def PS (X:Cx) (st:Stmt) (t:TS):Prop :=
 ∀ (pins:List (Addr × Obj)) (s:Shared) (σ:St) (H:Hp) (D:Ends),Inv X pins σ H s -> t D σ H -> wpAny (model X.prog X.w) X.A (exec st X.env) (SP X pins D) X.xe s
noncomputable def nk (X:Cx) (st:List Stmt) (t:TS):Prop :=
 ∀ (pins:List (Addr × Obj)) (s:Shared) (σ:St) (H:Hp) (D:Ends),Inv X pins σ H s -> t D σ H -> wpAny (model X.prog X.w) X.A (execs st X.env) (SP X pins D) X.xe s
theorem dh {α:Type} {t:Sem α} {Q Q':α -> Shared -> Prop} {M:Model} {A:Around} {E:Value -> Shared -> Prop} {s:Shared} (h:wpAny M A t Q E s) (hQ:∀ a s,Q a s -> Q' a s):wpAny M A t Q' E s:=wpAny_mono h hQ λ_ _ x=>x
end L2
namespace L2
open PySem PySem.Spec PyProof.Rows
section
variable {X:Cx}
theorem bin {a b:Expr} {ta tb:TE} (ha:PE X a ta) (hb:PE X b tb) {pins:List (Addr × Obj)} {s:Shared} {σ:St} {H:Hp} {R:V -> V -> Hp -> Prop} (I:Inv X pins σ H s) (h:ta σ H λx H1=>tb σ H1 λy H2=>R x y H2)
  {α:Type} {Q:α -> Shared -> Prop} {f:Value -> Value -> Sem α}
  (hf:∀ v u s2 x y H2,Inv X pins σ H2 s2 -> RelV x v -> RelV y u -> R x y H2 -> wpAny (model X.prog X.w) X.A (f v u) Q X.xe s2) :
  wpAny (model X.prog X.w) X.A (eval a X.env) (λv s₁=>wpAny (model X.prog X.w) X.A (eval b X.env) (λu s₂=>wpAny (model X.prog X.w) X.A (f v u) Q X.xe s₂) X.xe s₁) X.xe s:=by
 refine dh (ha pins s σ H _ I h) λv s1 ⟨x,H1,I1,r1,q1⟩=>?_
 refine dh (hb pins s1 σ H1 _ I1 q1) λu s2 ⟨y,H2,I2,r2,q2⟩=>?_
 exact hf v u s2 x y H2 I2 r1 r2 q2
noncomputable def A3 (i:Nat):TE:=λσ H Q=>∃ v,σ[i]? = some (some v) /\ Q v H
noncomputable def tC (v:V):TE:=λ_ H Q=>Q v H
theorem rK {i:Nat} {x:Str} {pos:Pos} (hN:X.N[i]? = some x) (hv:Ht X.env.scope x) (hd:(x == ("__debug__" : Str)) = false:=by decide) (zR:(x == ("__classdict__" : Str)) = false:=by decide):PE X (.Name x pos) (A3 i):=by
 intro pins s σ H Q I h
 obtain ⟨v,e,h⟩:=h
 obtain ⟨m,hn,hl⟩:=I.loc
 obtain ⟨u,r,l⟩:=hl i x v hN e hv
 have fin:EP X pins σ Q u s:=⟨v,H,I,r,h⟩
 rcases l with ⟨hk,hm⟩ | ⟨hk,c,hc,hcell⟩
 ·exact wpAny_Name (wpAny_loadName_local I.ok.kind hk hn hm fin) hd
 ·rcases hk with hk | hk
  ·exact wpAny_Name (wpAny_loadName_cell I.ok.kind hk hc hcell fin) hd
  ·exact wpAny_Name (wpAny_loadName_free I.ok.kind hk hc hcell fin zR) hd
theorem IL {i j pos}:PE X (.Constant (.int i) j pos) (tC (.int i)):=λ_ _ _ H _ I h=>wpAny_Constant_int ⟨.int i,H,I.tok _,⟨_,rfl⟩,h⟩
theorem Ni {b j pos}:PE X (.Constant (.bool b) j pos) (tC (.bl b)):=λ_ _ _ H _ I h=>Constant_bool ⟨.bl b,H,I,rfl,h⟩
theorem II {j pos}:PE X (.Constant .none j pos) (tC .bA):=λ_ _ _ H _ I h=>Constant_none ⟨.bA,H,I,rfl,h⟩
theorem Ua {x j pos}:PE X (.Constant (.str x) j pos) (tC (.str x)):=λ_ _ _ H _ I h=>Calls.Constant_str ⟨.str x,H,I.tok _,⟨_,rfl⟩,h⟩
noncomputable def Gl (X:Cx) (x:Str):Prop:=X.env.kindOf x = some .globalImplicit
theorem x8 {E:Value -> Shared -> Prop} {pins:List (Addr × Obj)} {s:Shared} {σ:St} {H:Hp} {x:Str} {u:Value} {pos:Pos} {Q:Value -> Shared -> Prop} (I:Inv X pins σ H s) (hg:Gl X x) (hm:X.mg x = some u) (h:Q u s)
  (hd:(x == ("__debug__" : Str)) = false:=by decide):wpAny (model X.prog X.w) X.A (eval (.Name x pos) X.env) Q E s :=
 Calls.Name_function_global I.ok.kind hg (Calls.loadGlobal_global (by rw [I.ok.glob];exact I.mod.glob.keeps I.bk) hm h) hd
theorem eB {E:Value -> Shared -> Prop} {pins:List (Addr × Obj)} {s:Shared} {σ:St} {H:Hp} {x:Str} {u:Value} {pos:Pos} {Q:Value -> Shared -> Prop} (I:Inv X pins σ H s) (hg:Gl X x) (hm:X.mg x = none) (hv:bootBuiltins x = some u) (h:Q u s)
  (hn:x ≠ "__name__":=by decide) (hd:(x == ("__debug__" : Str)) = false:=by decide):wpAny (model X.prog X.w) X.A (eval (.Name x pos) X.env) Q E s:=by
 obtain ⟨mb,h1,h2⟩:=I.mod.blt
 exact Calls.Name_function_global I.ok.kind hg (Calls.loadGlobal_builtin (by rw [I.ok.glob];exact I.mod.glob.keeps I.bk) hm (by rw [I.ok.blt];exact h1.keeps I.bk) ((h2 x hn).trans hv) h) hd
theorem xV {x:Str} {v:V} {u:Value} {pos:Pos} (hg:Gl X x) (hm:X.mg x = some u) (r:RelV v u) (hd:(x == ("__debug__" : Str)) = false:=by decide):PE X (.Name x pos) (tC v) :=
 λ_ _ _ H _ I h=>x8 I hg hm ⟨v,H,I,r,h⟩ hd
theorem Eu {x:Str} {v:V} {u:Value} {pos:Pos} (hg:Gl X x) (hm:X.mg x = none) (hv:bootBuiltins x = some u) (r:RelV v u) (hn:x ≠ "__name__":=by decide) (hd:(x == ("__debug__" : Str)) = false:=by decide):PE X (.Name x pos) (tC v) :=
 λ_ _ _ H _ I h=>eB I hg hm hv ⟨v,H,I,r,h⟩ hn hd
variable {a b:Expr} {ta tb:TE} {pos:Pos}
noncomputable def tB (t:TE):TT:=λσ H Q=>t σ H λx H1=>∃ c,x = .bl c /\ Q c H1
theorem IA {e:Expr} {t:TE} (h:PE X e t) (he:∀ whole,isTrue e X.env whole = (do let v <- whole;standAt e.pos;holding [v] (truthy v)):=by intro _;rfl):PT X e (tB t):=by
 intro pins s σ H Q I hw
 refine isTrue_plain (dh (h pins s σ H _ I hw) λv s1 ⟨x,H1,I1,r1,q1⟩=>?_) (he _)
 obtain ⟨d,rfl,q⟩:=q1
 cases r1
 exact wpAny_truthy_bool ⟨H1,I1,q⟩
variable {tA Qv:TT} {rest:List Expr}
noncomputable def MD (t u:TT):TT:=λσ H Q=>t σ H λc H1=>if c = true then u σ H1 Q else Q false H1
noncomputable def tOr (t u:TT):TT:=λσ H Q=>t σ H λc H1=>if c = true then Q true H1 else u σ H1 Q
noncomputable def RQ (t:TT):TT:=λσ H Q=>t σ H λc H1=>Q (!c) H1
theorem El (ha:PT X a tA):PW X (.BoolOp .And [a] pos) tA:=by
 intro wh pins s σ H Q I h
 refine isTrue_and (dh (ha pins s σ H Q I h) λc s1 e=>?_)
 cases c with
 | true=>exact isTrue_and_nil e
 | false=>exact e
theorem Iy (ha:PT X a tA):PW X (.BoolOp .Or [a] pos) tA:=by
 intro wh pins s σ H Q I h
 refine isTrue_or (dh (ha pins s σ H Q I h) λc s1 e=>?_)
 cases c with
 | false=>exact isTrue_or_nil e
 | true=>exact e
theorem Iz (ha:PT X a tA) (hb:PW X (.BoolOp .And (b :: rest) pos) Qv):PW X (.BoolOp .And (a :: b :: rest) pos) (MD tA Qv):=by
 intro wh pins s σ H Q I h
 refine isTrue_and (dh (ha pins s σ H _ I h) λc s1 ⟨H1,I1,q1⟩=>?_)
 cases c with
 | true=>exact hb wh pins s1 σ H1 Q I1 q1
 | false=>exact ⟨H1,I1,q1⟩
theorem M9 (ha:PT X a tA) (hb:PW X (.BoolOp .Or (b :: rest) pos) Qv):PW X (.BoolOp .Or (a :: b :: rest) pos) (tOr tA Qv):=by
 intro wh pins s σ H Q I h
 refine isTrue_or (dh (ha pins s σ H _ I h) λc s1 ⟨H1,I1,q1⟩=>?_)
 cases c with
 | true=>exact ⟨H1,I1,q1⟩
 | false=>exact hb wh pins s1 σ H1 Q I1 q1
theorem IB (ha:PT X a tA):PT X (.UnaryOp .Not a pos) (RQ tA):=by
 intro pins s σ H Q I h
 exact isTrue_not (ha pins s σ H (λc H1=>Q (!c) H1) I h)
noncomputable def Gx (ta tb:TE):TE:=λσ H Q=>ta σ H λx H1=>∃ c,x = .bl c /\ if c = true then tb σ H1 Q else Q (.bl false) H1
noncomputable def Mw (ta tb:TE):TE:=λσ H Q=>ta σ H λx H1=>∃ c,x = .bl c /\ if c = true then Q (.bl true) H1 else tb σ H1 Q
noncomputable def Mx (ta:TE):TE:=λσ H Q=>ta σ H λx H1=>∃ c,x = .bl c /\ Q (.bl (!c)) H1
theorem By {op} {t:TE} (h:PE X a t):PE X (.BoolOp op [a] pos) t:=λpins s σ H Q I hw=>BoolOp_one (h pins s σ H Q I hw)
theorem IM (ha:PE X a ta) (hb:PE X (.BoolOp .And (b :: rest) pos) tb):PE X (.BoolOp .And (a :: b :: rest) pos) (Gx ta tb):=by
 intro pins s σ H Q I h
 refine BoolOp_and (dh (ha pins s σ H _ I h) λv s1 ⟨x,H1,I1,r1,q1⟩=>?_)
 obtain ⟨c,rfl,q1⟩:=q1
 cases r1
 refine wpAny_truthy_bool ?_
 cases c with
 | true=>exact hb pins s1 σ H1 Q I1 q1
 | false=>exact ⟨.bl false,H1,I1,rfl,q1⟩
theorem Nh (ha:PE X a ta) (hb:PE X (.BoolOp .Or (b :: rest) pos) tb):PE X (.BoolOp .Or (a :: b :: rest) pos) (Mw ta tb):=by
 intro pins s σ H Q I h
 refine BoolOp_or (dh (ha pins s σ H _ I h) λv s1 ⟨x,H1,I1,r1,q1⟩=>?_)
 obtain ⟨c,rfl,q1⟩:=q1
 cases r1
 refine wpAny_truthy_bool ?_
 cases c with
 | false=>exact hb pins s1 σ H1 Q I1 q1
 | true=>exact ⟨.bl true,H1,I1,rfl,q1⟩
theorem IH (ha:PE X a ta):PE X (.UnaryOp .Not a pos) (Mx ta):=by
 intro pins s σ H Q I h
 refine UnaryOp_ (dh (ha pins s σ H _ I h) λv s1 ⟨x,H1,I1,r1,q1⟩=>?_)
 obtain ⟨c,rfl,q1⟩:=q1
 cases r1
 exact not_of (wpAny_truthy_bool ⟨.bl (!c),H1,I1,rfl,q1⟩)
noncomputable def tIf (t:TT) (ta tb:TE):TE:=λσ H Q=>t σ H λc H1=>if c = true then ta σ H1 Q else tb σ H1 Q
theorem Bz {c:Expr} (hc:PT X c tA) (ha:PE X a ta) (hb:PE X b tb):PE X (.IfExp c a b pos) (tIf tA ta tb):=by
 intro pins s σ H Q I h
 refine wpAny_IfExp (dh (hc pins s σ H _ I h) λd s1 ⟨H1,I1,q1⟩=>?_)
 cases d with
 | true=>exact ha pins s1 σ H1 Q I1 q1
 | false=>exact hb pins s1 σ H1 Q I1 q1
end
end L2
namespace L2
open PySem PySem.Spec PyProof.Rows
noncomputable def dw (K:PySem.W.Frag) (H:Hp) (a:Addr) (xs:List V):Prop :=
 Rd H a (.lst xs) \/
  ∃ (o:Obj) (ai:Array Value) (n:Nat),K.lookup a = some o /\ o.cls = .type "list" /\ o.dict = none /\ o.data = .seq ai n /\ ai.size <= sizeLine /\ Vals xs ai.toList
noncomputable def aC (K:PySem.W.Frag) (H:Hp) (a:Addr) (xs:List V):Prop :=
 Rd H a (.tup xs) \/
  ∃ (o:Obj) (ai:Array Value) (n:Nat),K.lookup a = some o /\ o.cls = .type "tuple" /\ o.data = .seq ai n /\ ai.size <= sizeLine /\ Vals xs ai.toList
noncomputable def aae:Value -> Option V
 | .none=>some .bA
 | .bool b=>some (.bl b)
 | .int i _=>some (.int i)
 | .str x _=>some (.str x)
 | .bytes b _=>some (.ZA b)
 | .float b _=>some (.O3 b)
 | .ref a=>some (.ref a)
 | .type n=>some (.ty n)
 | _=>none
theorem RelV.abs {x:V} {u:Value} (r:RelV x u):aae u = some x:=by
 cases x with
 | bA=>cases r;rfl
 | bl _=>cases r;rfl
 | int _=>obtain ⟨t,rfl⟩:=r;rfl
 | str _=>obtain ⟨t,rfl⟩:=r;rfl
 | ZA _=>obtain ⟨t,rfl⟩:=r;rfl
 | O3 _=>obtain ⟨t,rfl⟩:=r;rfl
 | ref _=>cases r;rfl
 | ty _=>cases r;rfl
theorem RelV.inj {x y:V} {u:Value} (r:RelV x u) (q:RelV y u):x = y:=Option.some.inj (r.abs.symm.trans q.abs)
theorem Vals.inj:∀ {xs ys:List V} {us:List Value},Vals xs us -> Vals ys us -> xs = ys
 | _,_,_,.nil,.nil=>rfl
 | _,_,_,.cons r t,.cons r' t'=>by rw [r.inj r',Vals.inj t t']
section
variable {X:Cx} {pins:List (Addr × Obj)} {σ:St} {H:Hp} {s:Shared} {a:Addr} {xs ys:List V}
theorem dw.of {K:PySem.W.Frag} (h:H a = some (.lst xs)):dw K H a xs:=.inl (.inl h)
theorem aC.of {K:PySem.W.Frag} (h:H a = some (.tup xs)):aC K H a xs:=.inl (.inl h)
theorem Inv.list (I:Inv X pins σ H s) (h:dw X.K H a xs):∃ ai:List Value,Vals xs ai /\ PlainL s.heap a ai.toArray /\ xs.length <= sizeLine:=by
 rcases h with h | ⟨o,ai,n,hk,hc,hd,hs,hz,r⟩
 ·obtain ⟨z,ai,n,r,e⟩:=h.ok I.cX
  exact ⟨ai,r,⟨_,n,e,rfl,rfl,rfl⟩,z⟩
 ·refine ⟨ai.toList,r,⟨o,n,I.zE a o hk,hc,hd,by simpa using hs⟩,?_⟩
  have e:=r.length
  simp only [Array.length_toList] at e
  omega
theorem Inv.tuple (I:Inv X pins σ H s) (h:aC X.K H a xs):∃ ai:List Value,Vals xs ai /\ IsTup s.heap a ai.toArray /\ xs.length <= sizeLine:=by
 rcases h with h | ⟨o,ai,n,hk,hc,hs,hz,r⟩
 ·obtain ⟨z,ai,r,p⟩:=h.ok I.cX
  exact ⟨ai,r,p,z⟩
 ·refine ⟨ai.toList,r,⟨o,I.zE a o hk,hc,n,by simpa using hs⟩,?_⟩
  have e:=r.length
  simp only [Array.length_toList] at e
  omega
theorem Inv.iY (I:Inv X pins σ H s) (h:dw X.K H a xs) (h':dw X.K H a ys):xs = ys:=by
 obtain ⟨ai,r,⟨o,n,e,_,_,d⟩,_⟩:=I.list h
 obtain ⟨its',r',⟨o',n',e',_,_,d'⟩,_⟩:=I.list h'
 rw [e] at e';cases e'
 rw [d] at d'
 injection d' with d1 _
 have:ai = its':=by simpa using congrArg Array.toList d1
 subst this
 exact r.inj r'
theorem Inv.lp (I:Inv X pins σ H s) (h:aC X.K H a xs) (h':aC X.K H a ys):xs = ys:=by
 obtain ⟨ai,r,⟨o,e,_,n,d⟩,_⟩:=I.tuple h
 obtain ⟨its',r',⟨o',e',_,n',d'⟩,_⟩:=I.tuple h'
 rw [e] at e';cases e'
 rw [d] at d'
 injection d' with d1 _
 have:ai = its':=by simpa using congrArg Array.toList d1
 subst this
 exact r.inj r'
end
noncomputable abbrev Cx.pF (X:Cx) (E:Value -> Shared -> Prop):Cx:={ X with xe:=E }
noncomputable abbrev Cx.Nu (X:Cx):Cx:=X.pF λ_ _=>False
theorem Cx.Ok.pF {X:Cx} (ok:X.Ok) (E:Value -> Shared -> Prop):(X.pF E).Ok :=
 ⟨ok.mod,ok.kind,ok.glob,ok.blt,ok.above,ok.inj,ok.has,ok.Qa,ok.hd,ok.frames,ok.Qx,ok.exf,ok.bs,ok.Hl,ok.BH,ok.Fy,ok.mL,ok.LY⟩
theorem Cx.Ok.iR {X:Cx} {E:Value -> Shared -> Prop} (ok:(X.pF E).Ok):X.Ok :=
 ⟨ok.mod,ok.kind,ok.glob,ok.blt,ok.above,ok.inj,ok.has,ok.Qa,ok.hd,ok.frames,ok.Qx,ok.exf,ok.bs,ok.Hl,ok.BH,ok.Fy,ok.mL,ok.LY⟩
section
variable {X:Cx} {pins:List (Addr × Obj)} {σ:St} {H:Hp} {s:Shared} {E:Value -> Shared -> Prop}
theorem Inv.pF (I:Inv X pins σ H s) (E:Value -> Shared -> Prop):Inv (X.pF E) pins σ H s:=⟨I.ok.pF E,I.os,I.bare,I.base,I.loc,I.cell,I.free,I.jH,I.pin,I.cX,I.len⟩
theorem Inv.iR (I:Inv (X.pF E) pins σ H s):Inv X pins σ H s:=⟨I.ok.iR,I.os,I.bare,I.base,I.loc,I.cell,I.free,I.jH,I.pin,I.cX,I.len⟩
theorem SP.iR {D:Ends} {f:Flow} {s':Shared} (h:SP (X.pF E) pins D f s'):SP X pins D f s':=by
 cases f with
 | next=>obtain ⟨σ',H',I,q⟩:=h;exact ⟨σ',H',I.iR,q⟩
 | brk=>obtain ⟨σ',H',I,q⟩:=h;exact ⟨σ',H',I.iR,q⟩
 | cont=>obtain ⟨σ',H',I,q⟩:=h;exact ⟨σ',H',I.iR,q⟩
 | ret u=>obtain ⟨v,σ',H',I,r,q⟩:=h;exact ⟨v,σ',H',I.iR,r,q⟩
theorem nk.Nu {st:List Stmt} {t:TS} (h:nk X.Nu st t):nk X st t:=λpins s σ H D I hw =>
 wpAny_mono (h pins s σ H D (I.pF _) hw) (λ_ _ q=>q.iR) λ_ _ z=>False.elim z
end
section
variable {X:Cx} {st:Stmt} {rest:List Stmt} {t u:TS} {e:Expr} {te:TE} {pos:Pos}
noncomputable def Gv:TS:=λD σ H=>D.nx σ H
noncomputable def RN (t u:TS):TS:=λD σ H=>t { D with nx:=u D } σ H
theorem Em:nk X [] Gv:=λ_ _ σ H _ I h=>wpAny_execs_nil ⟨σ,H,I,h⟩
theorem Bp (h1:PS X st t) (h2:nk X rest u):nk X (st :: rest) (RN t u):=by
 intro pins s σ H D I h
 refine wpAny_execs_cons (dh (h1 pins s σ H { D with nx:=u D } I h) λf s1 q=>?_)
 cases f with
 | next =>
  obtain ⟨σ',H',I',q⟩:=q
  exact h2 pins s1 σ' H' D I' q
 | ret v=>exact q
 | brk=>exact q
 | cont=>exact q
noncomputable def HM:TS:=λD σ H=>D.bk σ H
noncomputable def MA:TS:=λD σ H=>D.ct σ H
theorem QK:PS X (.Pass pos) Gv:=λ_ _ σ H _ I h=>wpAny_Pass ⟨σ,H,I,h⟩
theorem Nb:PS X (.Break pos) HM:=λ_ _ σ H _ I h=>wpAny_Break ⟨σ,H,I,h⟩
theorem GO:PS X (.Continue pos) MA:=λ_ _ σ H _ I h=>wpAny_Continue ⟨σ,H,I,h⟩
theorem Inv.quiet {pins:List (Addr × Obj)} {σ:St} {H:Hp} {s:Shared} (I:Inv X pins σ H s):interactive X.env = false:=by simp [interactive,I.ok.kind]
noncomputable def Mz (te:TE):TS:=λD σ H=>te σ H λ_ H1=>D.nx σ H1
theorem xM (he:PE X e te) (hs:swapsWith e none pos.line X.env = pure false:=by rfl):PS X (.Expr e pos) (Mz te):=by
 intro pins s σ H D I h
 exact wpAny_Expr_any (dh (he pins s σ H _ I h) λv s1 ⟨x,H1,I1,r1,q1⟩=>⟨σ,H1,I1,q1⟩) I.quiet hs
noncomputable def RO (te:TE):TS:=λD σ H=>te σ H D.rt
theorem IC (he:PE X e te):PS X (.Return (some e) pos) (RO te):=by
 intro pins s σ H D I h
 exact wpAny_Return_some (dh (he pins s σ H _ I h) λv s1 ⟨x,H1,I1,r1,q1⟩=>⟨x,σ,H1,I1,r1,q1⟩)
noncomputable def Mu:TS:=λD _ H=>D.rt .bA H
theorem QJ:PS X (.Return none pos) Mu:=λ_ _ σ H _ I h=>wpAny_Return_none ⟨.bA,σ,H,I,rfl,h⟩
noncomputable def RS (c:TT) (t u:TS):TS:=λD σ H=>c σ H λb H1=>if b = true then t D σ H1 else u D σ H1
theorem Na {c:Expr} {a b:List Stmt} {tc:TT} (hc:PT X c tc) (ha:nk X a t) (hb:nk X b u):PS X (.If c a b pos) (RS tc t u):=by
 intro pins s σ H D I h
 refine wpAny_If (dh (hc pins s σ H _ I h) λd s1 ⟨H1,I1,q1⟩=>?_)
 cases d with
 | true=>exact ha pins s1 σ H1 D I1 q1
 | false=>exact hb pins s1 σ H1 D I1 q1
end
noncomputable abbrev TG:=V -> St -> Hp -> (St -> Hp -> Prop) -> Prop
noncomputable abbrev Gf:=List V -> St -> Hp -> (St -> Hp -> Prop) -> Prop
noncomputable def PG (X:Cx) (target:Expr) (t:TG):Prop :=
 ∀ (pins:List (Addr × Obj)) (s:Shared) (σ:St) (H:Hp) (v:V) (u:Value) (Q:St -> Hp -> Prop),Inv X pins σ H s -> RelV v u -> t v σ H Q ->
  wpAny (model X.prog X.w) X.A (assign target X.env u) (λ_ s'=>∃ σ' H',Inv X pins σ' H' s' /\ Q σ' H') X.xe s
noncomputable def L6 (X:Cx) (ts:List Expr) (t:Gf):Prop :=
 ∀ (pins:List (Addr × Obj)) (s:Shared) (σ:St) (H:Hp) (vs:List V) (us:List Value) (Q:St -> Hp -> Prop),Inv X pins σ H s -> Vals vs us -> t vs σ H Q ->
  wpAny (model X.prog X.w) X.A (assignInOrder ((assignEach ts X.env).map (·.2)) us) (λ_ s'=>∃ σ' H',Inv X pins σ' H' s' /\ Q σ' H') X.xe s
noncomputable abbrev Lj:=V -> V -> V -> Hp -> (Hp -> Prop) -> Prop
noncomputable def Ql (X:Cx) (t:Lj):Prop :=
 ∀ (pins:List (Addr × Obj)) (s:Shared) (σ:St) (H:Hp) (o i v:V) (ov iv u:Value) (Q:Hp -> Prop),Inv X pins σ H s -> RelV o ov -> RelV i iv -> RelV v u -> t o i v H Q ->
  wpAny (model X.prog X.w) X.A (setItem ov iv u) (λ_ s'=>∃ H',Inv X pins σ H' s' /\ Q H') X.xe s
noncomputable abbrev Rx:=V -> V -> Hp -> VK -> Prop
noncomputable def PIp (X:Cx) (op:Operator) (t:Rx):Prop :=
 ∀ (pins:List (Addr × Obj)) (s:Shared) (σ:St) (H:Hp) (x y:V) (v u:Value) (Q:VK),Inv X pins σ H s -> RelV x v -> RelV y u -> t x y H Q ->
  wpAny (model X.prog X.w) X.A (inplaceOp op v u) (EP X pins σ Q) X.xe s
section
variable {X:Cx} {pos:Pos}
noncomputable def qO (i:Nat):TG:=λv σ H Q=>Q (σ.set i (some v)) H
theorem rJ {i:Nat} {x:Str} (hN:X.N.Nodup) (hi:X.N[i]? = some x) (hx:Loc X.env.scope x) (hf:X.fn x = true \/ X.env.scope.names.lookup x = some .local:=by first | exact .inl rfl | exact .inr rfl | assumption):PG X (.Name x pos) (qO i):=by
 intro pins s σ H v u Q I r h
 exact wpAny_assign_Name (kn I hN hi hx r (λs' I'=>⟨_,H,I',h⟩) hf)
noncomputable def Kh:Gf:=λvs σ H Q=>vs = [] /\ Q σ H
noncomputable def Cp (t:TG) (u:Gf):Gf:=λvs σ H Q=>∃ v r,vs = v :: r /\ t v σ H λσ' H'=>u r σ' H' Q
theorem xR:L6 X [] Kh:=by
 intro pins s σ H vs us Q I r h
 obtain ⟨e,h⟩:=h
 subst e
 cases r
 exact assignInOrder_nil ⟨σ,H,I,h⟩
theorem uk {e:Expr} {es:List Expr} {t:TG} {u:Gf} (h1:PG X e t) (h2:L6 X es u)
  (hs:(assignEach (e :: es) X.env).map (·.2) = assign e X.env :: (assignEach es X.env).map (·.2):=by rfl):L6 X (e :: es) (Cp t u):=by
 intro pins s σ H vs us Q I r h
 obtain ⟨v,vr,e1,h⟩:=h
 subst e1
 cases r with
 | cons r rr =>
  rw [hs]
  refine assignInOrder_cons (dh (h1 pins s σ H _ _ _ I r h) λ_ s1 ⟨σ1,H1,I1,q1⟩=>?_)
  exact h2 pins s1 σ1 H1 _ _ Q I1 rr q1
noncomputable def Xs (K:PySem.W.Frag) (n:Nat) (t:Gf):TG:=λv σ H Q=>∃ a xs,v = .ref a /\ aC K H a xs /\ xs.length = n /\ t xs σ H Q
theorem Bt {es:List Expr} {k:Nat} {t:Gf} {n:Nat} (hc:X.calm = true) (h:L6 X es t)
  (hn:(assignEach es X.env).length = n:=by rfl) (qL:(assignEach es X.env).findIdx? (·.1) = none:=by rfl):PG X (.Tuple es k pos) (Xs X.K n t):=by
 intro pins s σ H v u Q I r hw
 obtain ⟨a,xs,e1,hq,hl,hw⟩:=hw
 subst e1
 cases r
 obtain ⟨ai,rv,ht,hz⟩:=I.tuple hq
 refine assign_Tuple_tuple (I.ok.hd hc) ht (by simp [hn,<- hl,rv.length]) qL λh' hx=>?_
 have I1:Inv X pins σ H { s with heap:=h' }:=I.kept (t':=s.toks) λb o e=>hx b o (Nat.ne_of_lt (Heap.lt_size e)) e
 exact h pins _ σ H xs _ Q I1 (by simpa using rv) hw
noncomputable def Xt (to ti:TE) (t:Lj):TG:=λv σ H Q=>to σ H λo H1=>ti σ H1 λi H2=>t o i v H2 λH3=>Q σ H3
theorem IG {o i:Expr} {to ti:TE} {t:Lj} (ho:PE X o to) (hi:PE X i ti) (hs:Ql X t)
  (ha:∀ v,assign (.Subscript o i pos) X.env v = (do
   let ov <- holding [v] (eval o X.env)
   let iv <- holding [v,ov] (eval i X.env)
   standAt pos
   holding [v,ov,iv] (setItem ov iv v)
   release [v,ov,iv] []):=by intro _;rfl):PG X (.Subscript o i pos) (Xt to ti t):=by
 intro pins s σ H v u Q I r h
 rw [ha]
 refine wpAny_bind (wpAny_holding (dh (ho pins s σ H _ I h) λov s1 ⟨x,H1,I1,r1,q1⟩=>?_))
 refine wpAny_bind (wpAny_holding (dh (hi pins s1 σ H1 _ I1 q1) λiv s2 ⟨y,H2,I2,r2,q2⟩=>?_))
 refine wpAny_bind (wpAny_standAt (wpAny_bind (wpAny_holding (dh (hs pins s2 σ H2 x y v ov iv u _ I2 r1 r2 r q2) λ_ s3 ⟨H3,I3,q3⟩=>?_))))
 exact wpAny_release ⟨σ,H3,I3,q3⟩
noncomputable def RV (te:TE) (g:TG):TS:=λD σ H=>te σ H λx H1=>g x σ H1 D.nx
theorem wb {tg e:Expr} {te:TE} {g:TG} (he:PE X e te) (hg:PG X tg g) (hs:swapsWithSole [tg] e pos.line X.env = pure false:=by rfl) (hw:swappedStores [tg] e X.env = pure none:=by rfl)
  (h1:(assignEach [tg] X.env).map (·.2) = [assign tg X.env]:=by rfl):PS X (.Assign [tg] e pos) (RV te g):=by
 intro pins s σ H D I h
 refine wpAny_Assign_stores (dh (he pins s σ H _ I h) λv s1 ⟨x,H1,I1,r1,q1⟩=>?_) hs hw
 rw [h1]
 exact dh (hg pins s1 σ H1 x v _ I1 r1 q1) λ_ s2 q=>q
noncomputable def RP (i j:Nat) (ta:TA):TS:=λD σ H=>ta σ H λvs H1=>∃ v w,vs = [v,w] /\ D.nx ((σ.set i (some v)).set j (some w)) H1
theorem ID {i j:Nat} {x y:Str} {a b:Expr} {ta:TA} {px py pt:Pos} {kt k2 Lw} (hc:X.calm = true) (hN:X.N.Nodup) (hi:X.N[i]? = some x) (hj:X.N[j]? = some y) (iP:i ≠ j)
  (hx:X.env.scope.names.lookup x = some .local) (hy:X.env.scope.names.lookup y = some .local) (ha:PA X [a,b] ta)
  (hw:swappedStores [.Tuple [.Name x px,.Name y py] kt pt] (.Tuple [a,b] k2 Lw) X.env = pure (some [x,y]))
  (hs:swapsWithSole [.Tuple [.Name x px,.Name y py] kt pt] (.Tuple [a,b] k2 Lw) pos.line X.env = pure false:=by rfl) :
  PS X (.Assign [.Tuple [.Name x px,.Name y py] kt pt] (.Tuple [a,b] k2 Lw) pos) (RP i j ta):=by
 intro pins s σ H D I h
 rw [exec_Assign_arm]
 refine wpAny_bind (wpAny_standAt ?_)
 rw [hs]
 refine wpAny_bind (wpAny_pure ?_)
 rw [if_neg (by decide)]
 refine wpAny_bind (Tuple_ (dh (ha _ pins s σ H _ I h) λus s1 ⟨vs,H1,I1,r1,q1⟩=>?_))
 obtain ⟨v,w,e1,q1⟩:=q1
 subst e1
 obtain ⟨u1,u2,rfl,rv,mT⟩:∃ u1 u2,us = [u1,u2] /\ RelV v u1 /\ RelV w u2:=by
  cases r1 with
  | cons p q =>
   cases q with
   | cons p' q' =>
    cases q'
    exact ⟨_,_,rfl,p,p'⟩
 refine wpAny_newObj_type ?_ (by show 2 <= sizeLine;decide)
 have I2:Inv X pins σ H1 { s1 with heap:=s1.heap.push { cls:=.type "tuple",data:=.seq [u1,u2].toArray } }:=I1.kept (t':=s1.toks) λb o e=>Heap.get?_push_of_some _ e
 rw [hw]
 refine wpAny_bind (wpAny_pure ?_)
 show wpAny (model X.prog X.w) X.A (do rule "assign.swapped-stores";let items <- unpackItems (.ref s1.heap.objs.size) 2 none;assignInOrder [λv=>bindName X.env y v,λv=>bindName X.env x v] items.reverse;pure Flow.next) _ _ _
 refine wpAny_bind (wpAny_rule (wpAny_bind (unpackItems_tuple (items:=#[u1,u2]) (I.ok.hd hc) (IsTup.new s1.heap _) λh' JL=>?_)))
 have I3:=I2.kept (h':=h') (t':=s1.toks) λb o e=>JL b o (Nat.ne_of_lt (Heap.lt_size e)) e
 show wpAny _ _ (assignInOrder [λv=>bindName X.env y v,λv=>bindName X.env x v] [u2,u1] >>= λ_=>pure Flow.next) _ _ _
 refine wpAny_bind (assignInOrder_cons (wpAny_bindName (kn I3 hN hj (.inl hy) mT (λs2 I4=>?_) (.inr hy))))
 refine assignInOrder_cons (wpAny_bindName (kn I4 hN hi (.inl hx) rv (λs3 I5=>assignInOrder_nil (wpAny_pure ?_)) (.inr hx)))
 rw [List.set_comm _ _ (Ne.symm iP)] at I5
 exact ⟨_,H1,I5,q1⟩
noncomputable def RU (i:Nat) (te:TE) (ti:Rx):TS:=λD σ H=>∃ x,σ[i]? = some (some x) /\ te σ H λy H1=>ti x y H1 λz H2=>D.nx (σ.set i (some z)) H2
theorem Tr {i:Nat} {x:Str} {e:Expr} {te:TE} {op:Operator} {ti:Rx} {pos':Pos} (hN:X.N.Nodup) (hi:X.N[i]? = some x) (hx:Loc X.env.scope x) (he:PE X e te) (ho:PIp X op ti) (hf:X.fn x = true \/ X.env.scope.names.lookup x = some .local:=by first | exact .inl rfl | exact .inr rfl | assumption) :
  PS X (.AugAssign (.Name x pos') op e pos) (RU i te ti):=by
 intro pins s σ H D I h
 obtain ⟨v,e1,h⟩:=h
 obtain ⟨m,hn,hl⟩:=I.loc
 have Qp:Ht X.env.scope x:=by rcases hx with k | k;exact .inl k;exact .inr (.inl k)
 obtain ⟨u,r,l⟩:=hl i x v hi e1 Qp
 refine wpAny_AugAssign_Name ?_
 have go:wpAny (model X.prog X.w) X.A (eval e X.env) (λw s₂=>wpAny (model X.prog X.w) X.A (inplaceOp op u w) (λr s₃=>wpAny (model X.prog X.w) X.A (storeName X.env x r) (λ_=>SP X pins D .next) X.xe s₃) X.xe s₂) X.xe s:=by
  refine dh (he pins s σ H _ I h) λw s1 ⟨y,H1,I1,r1,q1⟩=>?_
  refine dh (ho pins s1 σ H1 v y u w _ I1 r r1 q1) λz s2 ⟨zv,H2,I2,r2,q2⟩=>?_
  exact kn I2 hN hi hx r2 (λs3 I3=>⟨_,H2,I3,q2⟩) hf
 rcases l with ⟨hk,hm⟩ | ⟨hk,c,hc,hcell⟩
 ·exact wpAny_loadName_local I.ok.kind hk hn hm go
 ·rcases hk with hk | hk
  ·exact wpAny_loadName_cell I.ok.kind hk hc hcell go
  ·rcases hx with k | k
   ·have:X.env.scope.names.lookup x = some .free:=hk
    rw [k] at this;cases this
   ·have:X.env.scope.names.lookup x = some .free:=hk
    rw [k] at this;cases this
noncomputable def ipI (f:Int -> Int -> Int):Rx:=λx y H Q=>∃ i j,x = .int i /\ y = .int j /\ Q (.int (f i j)) H
theorem Wq:PIp X .Add (ipI λi j=>i + j):=by
 intro pins s σ H x y v u Q I r1 r2 h
 obtain ⟨i,j,e1,e2,q⟩:=h
 subst e1;subst e2
 obtain ⟨t,rfl⟩:=r1
 obtain ⟨t',rfl⟩:=r2
 exact iadd_int ⟨.int _,H,I.tok _,⟨_,rfl⟩,q⟩
theorem Wo:PIp X .Sub (ipI λi j=>i - j):=by
 intro pins s σ H x y v u Q I r1 r2 h
 obtain ⟨i,j,e1,e2,q⟩:=h
 subst e1;subst e2
 obtain ⟨t,rfl⟩:=r1
 obtain ⟨t',rfl⟩:=r2
 exact isub_int ⟨.int _,H,I.tok _,⟨_,rfl⟩,q⟩
end
section
variable {X:Cx} {pos:Pos}
noncomputable def HL (c:TT) (tb:TS):TS:=λD σ H=>∃ W:Nat -> St -> Hp -> Prop,(∃ m,W m σ H) /\ ∀ m σ H,W m σ H ->
 c σ H λb H1=>if b = true then ∃ N:St -> Hp -> Prop,(∀ σ' H',N σ' H' -> ∃ m',m' < m /\ W m' σ' H') /\ tb { D with nx:=N,ct:=N,bk:=D.nx } σ H1 else D.nx σ H1
theorem Bq {c:Expr} {body:List Stmt} {tc:TT} {tb:TS} (hp:PassesOwn (model X.prog X.w) X.A X.env X.xe) (hc:PT X c tc) (hb:nk X body tb):PS X (.While c body [] pos) (HL tc tb):=by
 intro pins s σ H D I h
 obtain ⟨W,⟨m0,w0⟩,turn⟩:=h
 refine wpAny_While (codeAny_whileLoop (λn s'=>∃ σ' H',Inv X pins σ' H' s' /\ W n σ' H') ?_ m0 ⟨σ,H,I,w0⟩)
 rintro n s1 ⟨σ1,H1,I1,w1⟩
 refine wpAny_passesOwn hp (dh (hc pins s1 σ1 H1 _ I1 (turn n σ1 H1 w1)) λb s2 ⟨H2,I2,q2⟩=>?_)
 cases b with
 | true =>
  obtain ⟨N,hN,q2⟩:=q2
  rw [if_pos rfl]
  refine wpAny_passesOwn hp (dh (hb pins s2 σ1 H2 _ I2 q2) λf s3 q3=>?_)
  cases f with
  | next =>
   obtain ⟨σ3,H3,I3,n3⟩:=q3
   obtain ⟨m',hm,w3⟩:=hN σ3 H3 n3
   exact ⟨m',hm,σ3,H3,I3,w3⟩
  | cont =>
   obtain ⟨σ3,H3,I3,n3⟩:=q3
   obtain ⟨m',hm,w3⟩:=hN σ3 H3 n3
   exact ⟨m',hm,σ3,H3,I3,w3⟩
  | brk=>exact q3
  | ret v=>exact q3
 | false =>
  rw [if_neg Bool.false_ne_true]
  exact wpAny_execs_nil ⟨σ1,H2,I2,q2⟩
end
structure It where
 go:Nat -> Hp -> Prop
 vA:Nat -> Hp -> V -> Hp -> Prop
 stop:Nat -> Hp -> Prop
noncomputable def pw (X:Cx) (pins:List (Addr × Obj)) (H:Hp) (b:Addr):Prop :=
 H b = none /\ b ≠ X.env.locals /\ b ∉ X.fs /\ (b ∈ X.ex \/ X.s₀.heap.objs.size <= b) /\ (∀ x c,X.env.cells.lookup x = some c -> c ≠ b) /\ ∀ p ∈ X.pn ++ pins,p.1 ≠ b
theorem Inv.Aa {X:Cx} {pins:List (Addr × Obj)} {σ:St} {H H':Hp} {s:Shared} {b:Addr} (I:Inv X pins σ H s) (hb:s.heap.objs.size <= b) (hn:H' b = none):pw X pins H' b:=by
 refine ⟨hn,Nat.ne_of_gt (Nat.lt_of_lt_of_le I.lt hb),I.Jf hb,.inr (Nat.le_trans I.sz hb),λx c e z=>?_,λp hp z=>?_⟩
 ·obtain ⟨v,q⟩:=I.cell x c e
  exact absurd (Nat.lt_of_lt_of_le q.lt (by rw [z];exact hb)) (Nat.lt_irrefl _)
 ·exact absurd (Nat.lt_of_lt_of_le (Heap.lt_size (I.pin p hp).1) (by rw [z];exact hb)) (Nat.lt_irrefl _)
structure Turn (P:Program) (w:World) (K:PySem.W.Frag) (tg:Expr) (J:It) (fp:List Addr) (it:Addr) (tn:Nat -> Heap -> Prop):Prop where
 mem:it ∈ fp
 obj:∀ i h,tn i h -> ∀ b ∈ fp,∃ o,h.get? b = some o /\ ∀ v,o.data ≠ .cell v
 keep:∀ i h h',tn i h -> (∀ b ∈ fp,∀ o,h.get? b = some o -> h'.get? b = some o) -> tn i h'
 item:∀ (X:Cx),X.prog = P -> X.w = w -> X.K = K -> X.calm = true -> ∀ (i:Nat) (pins:List (Addr × Obj)) (s:Shared) (σ:St) (H:Hp) (E:Value -> Shared -> Prop),Inv X pins σ H s -> (∀ b ∈ fp,pw X pins H b) -> tn i s.heap -> J.go i H ->
  wpAny (model P w) X.A (pyNext (.ref it)) (λr s1=>∃ u,r = some u /\
   wpAny (model P w) X.A (letOwnedTupleGo tg (.ref it) u) (λ_ s2=>∃ x H',Inv X pins σ H' s2 /\ RelV x u /\ J.vA i H x H' /\ tn (i + 1) s2.heap /\ ∀ b ∈ fp,H' b = none) E s1) E s
 done:∀ (X:Cx),X.prog = P -> X.w = w -> X.K = K -> X.calm = true -> ∀ (i:Nat) (pins:List (Addr × Obj)) (s:Shared) (σ:St) (H:Hp) (E:Value -> Shared -> Prop),Inv X pins σ H s -> (∀ b ∈ fp,pw X pins H b) -> tn i s.heap -> J.stop i H ->
  wpAny (model P w) X.A (pyNext (.ref it)) (λr s1=>r = none /\ Inv X pins σ H s1) E s
 self:∀ (A:Around) (i:Nat) (s:Shared) (Q:Value -> Shared -> Prop) (E:Value -> Shared -> Prop),tn i s.heap -> Q (.ref it) s -> wpAny (model P w) A (pyIter (.ref it)) Q E s
noncomputable abbrev TI:=St -> Hp -> (It -> Hp -> Prop) -> Prop
noncomputable def AE (X:Cx) (pins:List (Addr × Obj)) (σ:St) (tg:Expr) (R:It -> Hp -> Prop) (Wg:Value) (s2:Shared):Prop :=
 ∃ (it:Addr) (fp:List Addr) (tn:Nat -> Heap -> Prop) (J:It) (H':Hp),Wg = .ref it /\ Inv X pins σ H' s2 /\ Turn X.prog X.w X.K tg J fp it tn /\ tn 0 s2.heap /\ (∀ b ∈ fp,pw X pins H' b) /\ R J H'
noncomputable def PI (X:Cx) (tg iter:Expr) (wi:TI):Prop :=
 ∀ (pins:List (Addr × Obj)) (s:Shared) (σ:St) (H:Hp) (R:It -> Hp -> Prop),Inv X pins σ H s -> wi σ H R ->
  wpAny (model X.prog X.w) X.A (eval iter X.env) (λv s1=>wpAny (model X.prog X.w) X.A (pyIter v) (AE X pins σ tg R) X.xe s1) X.xe s
theorem yr {M:Model} {A:Around} {E:Value -> Shared -> Prop} {s:Shared} {tg:Expr} {it:Addr} {u:Value} {o:Obj} {n:String} {vs:Array Value} {Q:Unit -> Shared -> Prop} (ho:s.heap.get? it = some o) (hc:o.cls = .type n) (hd:o.data = .fields vs)
    (hn:["enumerate","zip","dict_itemiterator","dict_reverseitemiterator","odict_iterator","itertools.zip_longest","itertools.pairwise"].contains n = false) (hQ:Q () s):wpAny M A (letOwnedTupleGo tg (.ref it) u) Q E s:=by
  unfold letOwnedTupleGo
  cases tg <;> first
    | exact wpAny_pure hQ
    | (cases u <;> first
        | exact wpAny_pure hQ
        | (refine wpAny_bind (wpAny_load ho ?_)
           rw [hc,hd]
           show wpAny M A (if (["enumerate","zip","dict_itemiterator","dict_reverseitemiterator","odict_iterator","itertools.zip_longest","itertools.pairwise"].contains n && vs[0]? == some (rawInt _)) = true then _ else _) Q E s
           rw [if_neg (by intro h;rw [hn,Bool.false_and] at h;cases h)]
           exact wpAny_pure hQ))
noncomputable def L8 (K:PySem.W.Frag) (a:Addr):It :=
 ⟨λi H=>∃ xs x,dw K H a xs /\ xs[i]? = some x,λi H x H'=>H' = H /\ ∀ xs,dw K H a xs -> xs[i]? = some x,λi H=>∃ xs,dw K H a xs /\ xs.length <= i⟩
noncomputable def L7 (K:PySem.W.Frag) (a:Addr):It :=
 ⟨λi H=>∃ xs x,aC K H a xs /\ xs[i]? = some x,λi H x H'=>H' = H /\ ∀ xs,aC K H a xs -> xs[i]? = some x,λi H=>∃ xs,aC K H a xs /\ xs.length <= i⟩
noncomputable def Ax (lo:Int) (n:Nat):It:=⟨λi _=>i < n,λi H x H'=>H' = H /\ x = .int (lo + i),λi _=>n <= i⟩
theorem zh {P:Program} {w:World} {K:PySem.W.Frag} {tg:Expr} (a it:Addr):Turn P w K tg (L8 K a) [it] it (λi h=>h.IsListIter it a i) where
 mem:=by simp
 obj:=λi h st b hb=>by
  have e:b = it:=by simpa using hb
  subst e
  obtain ⟨o,e,c,d⟩:=st
  exact ⟨o,e,λv z=>by rw [d] at z;cases z⟩
 keep:=λi h h' st k=>st.at λo e=>k it (by simp) o e
 item:=by
  intro X hP hw hK hc i pins s σ H E I hf st hg
  subst hP hw hK
  obtain ⟨xs,x,hq,hx⟩:=hg
  obtain ⟨ai,rv,p,hz⟩:=I.list hq
  obtain ⟨u,hu,ru⟩:=rv.get hx
  obtain ⟨f0,f1,f2,f3,f4,f5⟩:=hf it (by simp)
  refine wpAny_pyNext_list_item st p.isList (x:=u) (by simpa using hu) λh' mE sb=>?_
  have I1:Inv X pins σ H { s with heap:=h' }:=I.turned (t':=s.toks) (λb o hb e=>(sb.2 b hb).trans e) f0 f1 f3 f4 f5
  obtain ⟨o,e,c,d⟩:=id mE
  exact ⟨u,rfl,yr (s:={ s with heap:=h' }) e c d (by decide) ⟨x,H,I1,ru,⟨rfl,λys hy=>by rw [I.iY hy hq];exact hx⟩,mE,λb hb=>(hf b hb).1⟩⟩
 done:=by
  intro X hP hw hK hc i pins s σ H E I hf st hg
  subst hP hw hK
  obtain ⟨xs,hq,hx⟩:=hg
  obtain ⟨ai,rv,p,hz⟩:=I.list hq
  obtain ⟨f0,f1,f2,f3,f4,f5⟩:=hf it (by simp)
  have hl:=rv.length
  exact wpAny_pyNext_list_end (I.ok.hd hc) st p.isList (by simp;omega) λh' eb=>⟨rfl,I.turned (t':=s.toks) (λb o hb e=>eb b o hb e) f0 f1 f3 f4 f5⟩
 self:=λ_ _ _ _ _ st h=>wpAny_pyIter_listiter st h
theorem vP {P:Program} {w:World} {K:PySem.W.Frag} {tg:Expr} (a it:Addr):Turn P w K tg (L7 K a) [it] it (λi h=>h.IsTupleIter it a i) where
 mem:=by simp
 obj:=λi h st b hb=>by
  have e:b = it:=by simpa using hb
  subst e
  obtain ⟨o,e,c,d⟩:=st
  exact ⟨o,e,λv z=>by rw [d] at z;cases z⟩
 keep:=λi h h' st k=>st.at λo e=>k it (by simp) o e
 item:=by
  intro X hP hw hK hc i pins s σ H E I hf st hg
  subst hP hw hK
  obtain ⟨xs,x,hq,hx⟩:=hg
  obtain ⟨ai,rv,p,hz⟩:=I.tuple hq
  obtain ⟨u,hu,ru⟩:=rv.get hx
  obtain ⟨f0,f1,f2,f3,f4,f5⟩:=hf it (by simp)
  refine wpAny_pyNext_tuple_item st (show s.heap.IsTuple a ai.toArray from p) (x:=u) (by simpa using hu) λh' mE sb=>?_
  have I1:Inv X pins σ H { s with heap:=h' }:=I.turned (t':=s.toks) (λb o hb e=>(sb.2 b hb).trans e) f0 f1 f3 f4 f5
  obtain ⟨o,e,c,d⟩:=id mE
  exact ⟨u,rfl,yr (s:={ s with heap:=h' }) e c d (by decide) ⟨x,H,I1,ru,⟨rfl,λys hy=>by rw [I.lp hy hq];exact hx⟩,mE,λb hb=>(hf b hb).1⟩⟩
 done:=by
  intro X hP hw hK hc i pins s σ H E I hf st hg
  subst hP hw hK
  obtain ⟨xs,hq,hx⟩:=hg
  obtain ⟨ai,rv,p,hz⟩:=I.tuple hq
  obtain ⟨f0,f1,f2,f3,f4,f5⟩:=hf it (by simp)
  have hl:=rv.length
  exact wpAny_pyNext_tuple_end (I.ok.hd hc) st (show s.heap.IsTuple a ai.toArray from p) (by simp;omega) λh' eb=>⟨rfl,I.turned (t':=s.toks) (λb o hb e=>eb b o hb e) f0 f1 f3 f4 f5⟩
 self:=λ_ _ _ _ _ st h=>wpAny_pyIter_tupleiter st h
theorem vQ {P:Program} {w:World} {K:PySem.W.Frag} {tg:Expr} (it:Addr) (lo:Int) (n:Nat):Turn P w K tg (Ax lo n) [it] it (λi h=>IsRangeIter h it (lo + (i:Nat) * 1) ((n:Int) - (i:Nat)) 1) where
 mem:=by simp
 obj:=λi h st b hb=>by
  have e:b = it:=by simpa using hb
  subst e
  exact ⟨_,st,λv z=>by
   have z':Data.fields _ = Data.cell v:=z
   cases z'⟩
 keep:=λi h h' st k=>k it (by simp) _ st
 item:=by
  intro X hP hw hK hc i pins s σ H E I hf st hg
  subst hP hw hK
  obtain ⟨f0,f1,f2,f3,f4,f5⟩:=hf it (by simp)
  have W:=Walks.range (prog:=X.prog) (w:=X.w) (I.ok.hd hc) it lo 1 n
  refine W.item i s _ _ hg st λv h' tk hv mE kk=>?_
  obtain ⟨t,rfl⟩:=hv
  have I1:Inv X pins σ H { s with heap:=h',toks:=tk }:=I.turned (λb o hb e=>kk b o (by simpa using hb) e) f0 f1 f3 f4 f5
  refine ⟨_,rfl,yr (s:={ s with heap:=h',toks:=tk }) (n:="range_iterator") mE rfl rfl (by decide) ⟨.int (lo + i),H,I1,⟨t,?_⟩,⟨rfl,rfl⟩,mE,λb hb=>(hf b hb).1⟩⟩
  rw [Int.mul_one]
 done:=by
  intro X hP hw hK hc i pins s σ H E I hf st hg
  subst hP hw hK
  obtain ⟨f0,f1,f2,f3,f4,f5⟩:=hf it (by simp)
  exact wpAny_pyNext_range_end (I.ok.hd hc) st (by have:n <= i:=hg;omega) λh' eb=>⟨rfl,I.turned (t':=s.toks) (λb o hb e=>eb b o hb e) f0 f1 f3 f4 f5⟩
 self:=λ_ _ _ _ _ st h=>wpAny_pyIter_rangeiter st h
end L2
namespace L2
open PySem PySem.Spec PyProof.Rows
section
variable {X:Cx} {tg:Expr}
noncomputable def N2 (K:PySem.W.Frag) (tl:TE):TI:=λσ H R=>tl σ H λx H1=>∃ a,x = .ref a /\ (∃ xs,dw K H1 a xs) /\ R (L8 K a) H1
noncomputable def Ws (K:PySem.W.Frag) (tl:TE):TI:=λσ H R=>tl σ H λx H1=>∃ a,x = .ref a /\ (∃ xs,aC K H1 a xs) /\ R (L7 K a) H1
theorem xQ {l:Expr} {tl:TE} (hl:PE X l tl):PI X tg l (N2 X.K tl):=by
 intro pins s σ H R I h
 refine dh (hl pins s σ H _ I h) λv s1 ⟨x,H1,I1,r1,q1⟩=>?_
 obtain ⟨a,e,⟨xs,hq⟩,q⟩:=q1
 subst e
 cases r1
 obtain ⟨ai,rv,p,hz⟩:=I1.list hq
 refine wpAny_pyIter_list p.isList ?_
 refine ⟨s1.heap.objs.size,[s1.heap.objs.size],_,_,H1,rfl,I1.kept (t':=s1.toks) λb o e=>Heap.get?_push_of_some _ e,zh a _,⟨_,Heap.get?_push_size _ rfl,rfl,rfl⟩,λb hb=>?_,q⟩
 have e:b = s1.heap.objs.size:=by simpa using hb
 subst e
 exact I1.Aa (Nat.le_refl _) (I1.cX.fresh (Nat.le_refl _))
theorem Bs {l:Expr} {tl:TE} (hl:PE X l tl):PI X tg l (Ws X.K tl):=by
 intro pins s σ H R I h
 refine dh (hl pins s σ H _ I h) λv s1 ⟨x,H1,I1,r1,q1⟩=>?_
 obtain ⟨a,e,⟨xs,hq⟩,q⟩:=q1
 subst e
 cases r1
 obtain ⟨ai,rv,p,hz⟩:=I1.tuple hq
 refine wpAny_pyIter_tuple (show s1.heap.IsTuple a ai.toArray from p) ?_
 refine ⟨s1.heap.objs.size,[s1.heap.objs.size],_,_,H1,rfl,I1.kept (t':=s1.toks) λb o e=>Heap.get?_push_of_some _ e,vP a _,⟨_,Heap.get?_push_size _ rfl,rfl,rfl⟩,λb hb=>?_,q⟩
 have e:b = s1.heap.objs.size:=by simpa using hb
 subst e
 exact I1.Aa (Nat.le_refl _) (I1.cX.fresh (Nat.le_refl _))
theorem ui {pins:List (Addr × Obj)} {σ:St} {H:Hp} {s:Shared} {R:It -> Hp -> Prop} {E:Value -> Shared -> Prop} {lo hi:Int} {t u v:Tok} {tk:Nat} (I:Inv X pins σ H s) (h1:-(2 ^ 62) <= lo) (h2:lo < 2 ^ 62) (h3:-(2 ^ 62) <= hi) (h4:hi < 2 ^ 62)
  (q:R (Ax lo (hi - lo).toNat) H):wpAny (model X.prog X.w) X.A (pyIter (.ref s.heap.objs.size)) (AE X pins σ tg R) E { s with heap:=s.heap.push { cls:=.type "range",data:=.fields #[.int lo t,.int hi u,.int 1 v] },toks:=tk }:=by
 refine wpAny_pyIter_range (IsRange.new ..) (small_one h1 h2 h3 h4) ?_
 have I1:Inv X pins σ H { s with heap:=s.heap.push { cls:=.type "range",data:=.fields #[.int lo t,.int hi u,.int 1 v] },toks:=tk }:=I.kept λb o e=>Heap.get?_push_of_some _ e
 refine ⟨(s.heap.push { cls:=.type "range",data:=.fields #[.int lo t,.int hi u,.int 1 v] }).objs.size,[(s.heap.push { cls:=.type "range",data:=.fields #[.int lo t,.int hi u,.int 1 v] }).objs.size],_,_,H,rfl,
  I1.kept (t':=tk) λb o e=>Heap.get?_push_of_some _ e,vQ _ lo (hi - lo).toNat,?_,λb hb=>?_,q⟩
 ·have e1:lo + ((0:Nat):Int) * 1 = lo:=by simp
  have e2:(((hi - lo).toNat:Nat):Int) - ((0:Nat):Int) = Builtin.Range.rangeSize lo hi 1:=by rw [rangeSize_one];split <;> omega
  show IsRangeIter _ _ (lo + ((0:Nat):Int) * 1) ((((hi - lo).toNat:Nat):Int) - ((0:Nat):Int)) 1
  rw [e1,e2]
  exact Heap.get?_push_size _ rfl
 ·have e:b = (s.heap.push { cls:=.type "range",data:=.fields #[.int lo t,.int hi u,.int 1 v] }).objs.size:=by simpa using hb
  subst e
  exact I1.Aa (Nat.le_refl _) (I1.cX.fresh (Nat.le_refl _))
noncomputable def N1 (ta:TA):TI:=λσ H R=>ta σ H λvs H1=>∃ j:Int,vs = [.int j] /\ -(2 ^ 62) <= j /\ j < 2 ^ 62 /\ R (Ax 0 j.toNat) H1
noncomputable def N0 (ta:TA):TI:=λσ H R=>ta σ H λvs H1=>∃ i j:Int,vs = [.int i,.int j] /\ (-(2 ^ 62) <= i /\ i < 2 ^ 62 /\ -(2 ^ 62) <= j /\ j < 2 ^ 62) /\ R (Ax i (j - i).toNat) H1
theorem qE {a:Expr} {ta:TA} {p pos:Pos} (hg:Gl X "range") (hm:X.mg "range" = none) (ha:PA X [a] ta) (hs:starEach [a] X.env = [(false,eval a X.env)]:=by rfl):PI X tg (.Call (.Name "range" p) [a] [] pos) (N1 ta):=by
 intro pins s σ H R I h
 refine Call_ (eB I hg hm boot_range (PyProof.Rows.callWith_type1 (dh (ha pos pins s σ H _ I h) λus s1 ⟨vs,H1,I1,r1,q1⟩=>?_) hs rfl))
 obtain ⟨j,e,q1,q2,q⟩:=q1
 subst e
 cases r1 with
 | cons r rr =>
  cases rr
  obtain ⟨t,rfl⟩:=r
  exact call_range_1 (ui I1 (by omega) (by omega) q1 q2 (by simpa using q))
theorem Lx {a b:Expr} {ta:TA} {p pos:Pos} (hg:Gl X "range") (hm:X.mg "range" = none) (ha:PA X [a,b] ta) (hs:starEach [a,b] X.env = [(false,eval a X.env),(false,eval b X.env)]:=by rfl) (G9:starEach [b] X.env = [(false,eval b X.env)]:=by rfl) :
  PI X tg (.Call (.Name "range" p) [a,b] [] pos) (N0 ta):=by
 intro pins s σ H R I h
 refine Call_ (eB I hg hm boot_range (PyProof.Rows.callWith_type1 (dh (ha pos pins s σ H _ I h) λus s1 ⟨vs,H1,I1,r1,q1⟩=>?_) (by rw [hs,G9]) (by rw [G9];rfl)))
 obtain ⟨i,j,e,⟨q1,q2,q3,q4⟩,q⟩:=q1
 subst e
 cases r1 with
 | cons r rr =>
  cases rr with
  | cons r' rr =>
   cases rr
   obtain ⟨t,rfl⟩:=r
   obtain ⟨t',rfl⟩:=r'
   exact call_range_2 (ui I1 q1 q2 q3 q4 q)
noncomputable def RT (wi:TI) (g:TG) (tb:TS):TS:=λD σ H=>wi σ H λJ H1=>∃ W:Nat -> Nat -> St -> Hp -> Prop,(∃ m,W 0 m σ H1) /\ ∀ i m σ H,W i m σ H ->
 (J.stop i H /\ D.nx σ H) \/ (J.go i H /\ ∃ N:St -> Hp -> Prop,(∀ σ' H',N σ' H' -> ∃ m',m' < m /\ W (i + 1) m' σ' H') /\ ∀ x H',J.vA i H x H' -> g x σ H' λσ2 H2=>tb { D with nx:=N,ct:=N,bk:=D.nx } σ2 H2)
noncomputable def iV (fp:List Addr) (h:Heap):List (Addr × Obj):=fp.filterMap λb=>(h.get? b).map λo=>(b,o)
theorem hJ {fp:List Addr} {h:Heap} {b:Addr} {o:Obj} (hb:b ∈ fp) (e:h.get? b = some o):(b,o) ∈ iV fp h:=List.mem_filterMap.mpr ⟨b,hb,by rw [e];rfl⟩
theorem qG {fp:List Addr} {h:Heap} {p:Addr × Obj} (hp:p ∈ iV fp h):p.1 ∈ fp /\ h.get? p.1 = some p.2:=by
 obtain ⟨b,hb,e⟩:=List.mem_filterMap.mp hp
 cases q:h.get? b with
 | none=>rw [q] at e;cases e
 | some o =>
  rw [q] at e
  have e':(b,o) = p:=Option.some.inj e
  subst e'
  exact ⟨hb,q⟩
theorem Inv.pinned {pins:List (Addr × Obj)} {σ:St} {H:Hp} {s:Shared} {fp:List Addr} (I:Inv X pins σ H s) (hf:∀ b ∈ fp,pw X pins H b) (ho:∀ b ∈ fp,∃ o,s.heap.get? b = some o /\ ∀ v,o.data ≠ .cell v):Inv X (pins ++ iV fp s.heap) σ H s :=
 I.jr λp hp=>(List.mem_append.mp hp).elim (λz=>I.pin p (List.mem_append_right _ z)) λz=>by
  obtain ⟨hb,e⟩:=qG z
  obtain ⟨f0,f1,f2,_⟩:=hf p.1 hb
  obtain ⟨o,e',d⟩:=ho p.1 hb
  rw [e] at e';cases e'
  exact ⟨e,f0,f1,f2,d⟩
theorem Inv.kl {pins pl:List (Addr × Obj)} {σ:St} {H:Hp} {s:Shared} (I:Inv X (pins ++ pl) σ H s):Inv X pins σ H s:=I.jr λp hp=>I.pin p (List.mem_append_right _ (List.mem_append_left _ hp))
theorem rH {iter:Expr} {body:List Stmt} {wi:TI} {g:TG} {tb:TS} {pos:Pos} (hp:PassesOwn (model X.prog X.w) X.A X.env X.xe) (hc:X.calm = true) (hi:PI X tg iter wi) (hg:PG X tg g) (hb:nk X body tb)
  (hs:∀ x,foldedSetIterable iter X.env x = pure x:=by intro _;rfl):PS X (.For tg iter body [] pos) (RT wi g tb):=by
 intro pins s σ H D I h
 refine wpAny_For (dh (hi pins s σ H _ I h) λv s1 h1=>dh h1 λWg s2 h2=>?_) hs
 obtain ⟨it,fp,tn,J,H2,e,I2,T,DZ,f2,W,⟨m0,w0⟩,turn⟩:=h2
 subst e
 have HS:∀ {H':Hp},(∀ b ∈ fp,H' b = none) -> ∀ b ∈ fp,pw X pins H' b:=λhn b hb=>⟨hn b hb,(f2 b hb).2⟩
 refine codeAny_forLoop_any (λn s'=>∃ i σ' H',Inv X pins σ' H' s' /\ tn i s'.heap /\ (∀ b ∈ fp,H' b = none) /\ W i n σ' H') ?_ m0 ⟨0,σ,H2,I2,DZ,λb hb=>(f2 b hb).1,w0⟩
 rintro n s3 ⟨i,σ3,H3,I3,st3,fr3,w3⟩
 rcases turn i n σ3 H3 w3 with ⟨stop,qn⟩ | ⟨go,N,hN,step⟩
 ·refine wpAny_passesOwn hp (dh (T.done X rfl rfl rfl hc i pins s3 σ3 H3 X.xe I3 (HS fr3) st3 stop) λr s4 ⟨hr,I4⟩=>?_)
  subst hr
  exact wpAny_execs_nil ⟨σ3,H3,I4,qn⟩
 ·refine wpAny_passesOwn hp (dh (T.item X rfl rfl rfl hc i pins s3 σ3 H3 X.xe I3 (HS fr3) st3 go) λr s4 ⟨u,hr,h4⟩=>?_)
  subst hr
  refine wpAny_passesOwn hp (dh h4 λ_ s5 ⟨x,H5,I5,r5,y5,HW,Xz⟩=>?_)
  have I5':=I5.pinned (HS Xz) (T.obj _ _ HW)
  refine wpAny_passesOwn hp (dh (hg _ s5 σ3 H5 x u _ I5' r5 (step x H5 y5)) λ_ s6 ⟨σ6,H6,I6,q6⟩=>?_)
  refine wpAny_passesOwn hp (dh (hb _ s6 σ6 H6 _ I6 q6) λf s7 q7=>?_)
  have again:∀ {σ7:St} {H7:Hp},Inv X (pins ++ iV fp s5.heap) σ7 H7 s7 -> N σ7 H7 -> ∃ m,m < n /\ ∃ i σ' H',Inv X pins σ' H' s7 /\ tn i s7.heap /\ (∀ b ∈ fp,H' b = none) /\ W i m σ' H':=λ{σ7 H7} I7 n7=>by
   obtain ⟨m',hm,w7⟩:=hN σ7 H7 n7
   refine ⟨m',hm,i + 1,σ7,H7,I7.kl,T.keep _ _ _ HW λb hb o e=>(I7.pin (b,o) (List.mem_append_right _ (List.mem_append_right _ (hJ hb e)))).1,λb hb=>?_,w7⟩
   obtain ⟨o,e,d⟩:=T.obj _ _ HW b hb
   exact (I7.pin (b,o) (List.mem_append_right _ (List.mem_append_right _ (hJ hb e)))).2.1
  cases f with
  | next=>obtain ⟨σ7,H7,I7,n7⟩:=q7;exact again I7 n7
  | cont=>obtain ⟨σ7,H7,I7,n7⟩:=q7;exact again I7 n7
  | brk=>obtain ⟨σ7,H7,I7,q7⟩:=q7;exact ⟨σ7,H7,I7.kl,q7⟩
  | ret v=>obtain ⟨x7,σ7,H7,I7,r7,q7⟩:=q7;exact ⟨x7,σ7,H7,I7.kl,r7,q7⟩
end
theorem Cs {K:PySem.W.Frag} {a:Addr} {xs:List V} {g:TG} {tb:TS} {D:Ends} {σ:St} {H:Hp} (Pv:Nat -> St -> Hp -> Prop) (h0:Pv 0 σ H) (hl:∀ i σ H,i <= xs.length -> Pv i σ H -> dw K H a xs)
  (hs:∀ i x σ H,xs[i]? = some x -> Pv i σ H -> g x σ H λσ2 H2=>tb { D with nx:=Pv (i + 1),ct:=Pv (i + 1),bk:=D.nx } σ2 H2) (hd:∀ σ H,Pv xs.length σ H -> D.nx σ H) :
  ∃ W:Nat -> Nat -> St -> Hp -> Prop,(∃ m,W 0 m σ H) /\ ∀ i m σ H,W i m σ H ->
   ((L8 K a).stop i H /\ D.nx σ H) \/ ((L8 K a).go i H /\ ∃ N:St -> Hp -> Prop,(∀ σ' H',N σ' H' -> ∃ m',m' < m /\ W (i + 1) m' σ' H') /\ ∀ x H',(L8 K a).vA i H x H' -> g x σ H' λσ2 H2=>tb { D with nx:=N,ct:=N,bk:=D.nx } σ2 H2):=by
 refine ⟨λi m σ H=>m = xs.length - i /\ i <= xs.length /\ Pv i σ H,⟨xs.length,by simp,Nat.zero_le _,h0⟩,?_⟩
 rintro i m σ H ⟨rfl,hi,p⟩
 have q:=hl i σ H hi p
 by_cases hV:i < xs.length
 ·refine .inr ⟨⟨xs,xs[i],q,by simp [hV]⟩,Pv (i + 1),λσ' H' p'=>⟨xs.length - (i + 1),by omega,rfl,hV,p'⟩,λx H' y=>?_⟩
  obtain ⟨e,y⟩:=y
  subst e
  exact hs i x σ _ (y xs q) p
 ·have e:i = xs.length:=by omega
  subst e
  exact .inl ⟨⟨xs,q,Nat.le_refl _⟩,hd σ H p⟩
theorem Fw {K:PySem.W.Frag} {a:Addr} {xs:List V} {g:TG} {tb:TS} {D:Ends} {σ:St} {H:Hp} (Pv:Nat -> St -> Hp -> Prop) (h0:Pv 0 σ H) (hl:∀ i σ H,i <= xs.length -> Pv i σ H -> aC K H a xs)
  (hs:∀ i x σ H,xs[i]? = some x -> Pv i σ H -> g x σ H λσ2 H2=>tb { D with nx:=Pv (i + 1),ct:=Pv (i + 1),bk:=D.nx } σ2 H2) (hd:∀ σ H,Pv xs.length σ H -> D.nx σ H) :
  ∃ W:Nat -> Nat -> St -> Hp -> Prop,(∃ m,W 0 m σ H) /\ ∀ i m σ H,W i m σ H ->
   ((L7 K a).stop i H /\ D.nx σ H) \/ ((L7 K a).go i H /\ ∃ N:St -> Hp -> Prop,(∀ σ' H',N σ' H' -> ∃ m',m' < m /\ W (i + 1) m' σ' H') /\ ∀ x H',(L7 K a).vA i H x H' -> g x σ H' λσ2 H2=>tb { D with nx:=N,ct:=N,bk:=D.nx } σ2 H2):=by
 refine ⟨λi m σ H=>m = xs.length - i /\ i <= xs.length /\ Pv i σ H,⟨xs.length,by simp,Nat.zero_le _,h0⟩,?_⟩
 rintro i m σ H ⟨rfl,hi,p⟩
 have q:=hl i σ H hi p
 by_cases hV:i < xs.length
 ·refine .inr ⟨⟨xs,xs[i],q,by simp [hV]⟩,Pv (i + 1),λσ' H' p'=>⟨xs.length - (i + 1),by omega,rfl,hV,p'⟩,λx H' y=>?_⟩
  obtain ⟨e,y⟩:=y
  subst e
  exact hs i x σ _ (y xs q) p
 ·have e:i = xs.length:=by omega
  subst e
  exact .inl ⟨⟨xs,q,Nat.le_refl _⟩,hd σ H p⟩
theorem Ab {lo:Int} {n:Nat} {g:TG} {tb:TS} {D:Ends} {σ:St} {H:Hp} (Pv:Nat -> St -> Hp -> Prop) (h0:Pv 0 σ H)
  (hs:∀ i σ H,i < n -> Pv i σ H -> g (.int (lo + i)) σ H λσ2 H2=>tb { D with nx:=Pv (i + 1),ct:=Pv (i + 1),bk:=D.nx } σ2 H2) (hd:∀ σ H,Pv n σ H -> D.nx σ H) :
  ∃ W:Nat -> Nat -> St -> Hp -> Prop,(∃ m,W 0 m σ H) /\ ∀ i m σ H,W i m σ H ->
   ((Ax lo n).stop i H /\ D.nx σ H) \/ ((Ax lo n).go i H /\ ∃ N:St -> Hp -> Prop,(∀ σ' H',N σ' H' -> ∃ m',m' < m /\ W (i + 1) m' σ' H') /\ ∀ x H',(Ax lo n).vA i H x H' -> g x σ H' λσ2 H2=>tb { D with nx:=N,ct:=N,bk:=D.nx } σ2 H2):=by
 refine ⟨λi m σ H=>m = n - i /\ i <= n /\ Pv i σ H,⟨n,by simp,Nat.zero_le _,h0⟩,?_⟩
 rintro i m σ H ⟨rfl,hi,p⟩
 by_cases hV:i < n
 ·refine .inr ⟨hV,Pv (i + 1),λσ' H' p'=>⟨n - (i + 1),by omega,rfl,hV,p'⟩,λx H' y=>?_⟩
  obtain ⟨e,y⟩:=y
  subst e y
  exact hs i σ _ hV p
 ·have e:i = n:=by omega
  subst e
  exact .inl ⟨Nat.le_refl _,hd σ H p⟩
end L2
namespace L2
open PySem PySem.Spec PyProof.Rows
noncomputable abbrev R2:=V -> V -> Hp -> VK -> Prop
noncomputable def jX (X:Cx) (f:Value -> Value -> Sem Value) (r:R2):Prop :=
 ∀ (pins:List (Addr × Obj)) (s:Shared) (σ:St) (H:Hp) (x y:V) (v u:Value) (Q:VK),Inv X pins σ H s -> RelV x v -> RelV y u -> r x y H Q ->
  wpAny (model X.prog X.w) X.A (f v u) (EP X pins σ Q) X.xe s
noncomputable def UnR (X:Cx) (f:Value -> Sem Value) (r:V -> Hp -> VK -> Prop):Prop :=
 ∀ (pins:List (Addr × Obj)) (s:Shared) (σ:St) (H:Hp) (x:V) (v:Value) (Q:VK),Inv X pins σ H s -> RelV x v -> r x H Q ->
  wpAny (model X.prog X.w) X.A (f v) (EP X pins σ Q) X.xe s
noncomputable def gi (X:Cx) (f:Value) (r:List V -> Hp -> VK -> Prop):Prop :=
 ∀ (pins:List (Addr × Obj)) (s:Shared) (σ:St) (H:Hp) (xs:List V) (us:List Value) (Q:VK),Inv X pins σ H s -> Vals xs us -> r xs H Q ->
  wpAny (model X.prog X.w) X.A (call f us) (EP X pins σ Q) X.xe s
noncomputable def Gu (r:R2) (ta tb:TE):TE:=λσ H Q=>ta σ H λx H1=>tb σ H1 λy H2=>r x y H2 Q
noncomputable def tUn (r:V -> Hp -> VK -> Prop) (ta:TE):TE:=λσ H Q=>ta σ H λx H1=>r x H1 Q
noncomputable def rI (C:Int -> Int -> Prop) (g:Int -> Int -> V):R2:=λx y H Q=>∃ i j,x = .int i /\ y = .int j /\ C i j /\ Q (g i j) H
noncomputable def Bo (g:Int -> Int -> V):R2:=λx y H Q=>∃ i j,x = .int i /\ y = .int j /\ Q (g i j) H
noncomputable def rU (g:Int -> V):V -> Hp -> VK -> Prop:=λx H Q=>∃ i,x = .int i /\ Q (g i) H
section
variable {X:Cx} {a b c:Expr} {ta tb tc:TE} {pos:Pos}
theorem Lg (ha:PE X a ta) (hb:PE X b tb) {pins:List (Addr × Obj)} {s:Shared} {σ:St} {H:Hp} {R:V -> V -> Hp -> Prop} (I:Inv X pins σ H s)
  (h:ta σ H λx H1=>tb σ H1 λy H2=>R x y H2) {Q:Value -> Shared -> Prop} {f:Value -> Value -> Sem Value}
  (hf:∀ v u s2 x y H2,Inv X pins σ H2 s2 -> RelV x v -> RelV y u -> R x y H2 -> wpAny (model X.prog X.w) X.A (f v u) Q X.xe s2) :
  wpAny (model X.prog X.w) X.A (eval a X.env) (λv s₁=>wpAny (model X.prog X.w) X.A (eval b X.env) (λu s₂=>wpAny (model X.prog X.w) X.A (f v u) Q X.xe s₂) X.xe s₁) X.xe s:=by
 refine dh (ha pins s σ H _ I h) λv s1 ⟨x,H1,I1,r1,q1⟩=>?_
 refine dh (hb pins s1 σ H1 _ I1 q1) λu s2 ⟨y,H2,I2,r2,q2⟩=>?_
 exact hf v u s2 x y H2 I2 r1 r2 q2
theorem xU {op:Operator} {r:R2} (ho:jX X (binaryOp op) r) (ha:PE X a ta) (hb:PE X b tb):PE X (.BinOp a op b pos) (Gu r ta tb):=by
 intro pins s σ H Q I h
 exact wpAny_BinOp (Lg ha hb I h λv u s2 x y H2 I2 rx ry q=>ho pins s2 σ H2 x y v u Q I2 rx ry q)
theorem Ng {op:UnaryOp} {r:V -> Hp -> VK -> Prop} (ho:UnR X (unaryOp op) r) (ha:PE X a ta):PE X (.UnaryOp op a pos) (tUn r ta):=by
 intro pins s σ H Q I h
 exact UnaryOp_ (dh (ha pins s σ H _ I h) λv s1 ⟨x,H1,I1,r1,q1⟩=>ho pins s1 σ H1 x v Q I1 r1 q1)
theorem Jb {f:Value -> Value -> Sem Value} {C:Int -> Int -> Prop} {g:Int -> Int -> Int}
  (rule:∀ (i j:Int) (t u:Tok) (s:Shared) (Q:Value -> Shared -> Prop) (E:Value -> Shared -> Prop),C i j -> Q (.int (g i j) s.toks) { s with toks:=s.toks + 1 } -> wpAny (model X.prog X.w) X.A (f (.int i t) (.int j u)) Q E s) :
  jX X f (rI C λi j=>.int (g i j)):=by
 intro pins s σ H x y v u Q I rx ry h
 obtain ⟨i,j,rfl,rfl,hc,q⟩:=h
 obtain ⟨t,rfl⟩:=rx
 obtain ⟨t',rfl⟩:=ry
 exact rule i j t t' s _ _ hc ⟨.int (g i j),H,I.tok _,⟨_,rfl⟩,q⟩
theorem Ud {f:Value -> Value -> Sem Value} {g:Int -> Int -> Int}
  (rule:∀ (i j:Int) (t u:Tok) (s:Shared) (Q:Value -> Shared -> Prop) (E:Value -> Shared -> Prop),Q (.int (g i j) s.toks) { s with toks:=s.toks + 1 } -> wpAny (model X.prog X.w) X.A (f (.int i t) (.int j u)) Q E s) :
  jX X f (Bo λi j=>.int (g i j)):=by
 intro pins s σ H x y v u Q I rx ry h
 obtain ⟨i,j,rfl,rfl,q⟩:=h
 obtain ⟨t,rfl⟩:=rx
 obtain ⟨t',rfl⟩:=ry
 exact rule i j t t' s _ _ ⟨.int (g i j),H,I.tok _,⟨_,rfl⟩,q⟩
theorem EC {f:Value -> Value -> Sem Value} {g:Int -> Int -> Bool}
  (rule:∀ (i j:Int) (t u:Tok) (s:Shared) (Q:Value -> Shared -> Prop) (E:Value -> Shared -> Prop),Q (.bool (g i j)) s -> wpAny (model X.prog X.w) X.A (f (.int i t) (.int j u)) Q E s) :
  jX X f (Bo λi j=>.bl (g i j)):=by
 intro pins s σ H x y v u Q I rx ry h
 obtain ⟨i,j,rfl,rfl,q⟩:=h
 obtain ⟨t,rfl⟩:=rx
 obtain ⟨t',rfl⟩:=ry
 exact rule i j t t' s _ _ ⟨.bl (g i j),H,I,rfl,q⟩
theorem vO (k:Nat):(0:Int) <= 2 ^ k:=by
 rw [two_pow_cast]
 exact Int.natCast_nonneg _
theorem Ja:jX X (binaryOp .Add) (Bo λi j=>.int (i + j)):=Ud λ_ _ _ _ _ _ _ q=>add_int q
theorem EA:jX X (binaryOp .Mod) (rI (λ_ j=>j ≠ 0) λi j=>.int (i.fmod j)):=Jb λ_ _ _ _ _ _ _ hc q=>mod_int' hc q
theorem IW:jX X (binaryOp .RShift) (rI (λ_ j=>0 <= j) λi j=>.int (i / 2 ^ j.toNat)):=Jb λi j _ _ _ _ _ hc q =>
 rshift_int hc (by rw [Int.fdiv_eq_ediv_of_nonneg i (vO _)];exact q)
theorem unI {f:Value -> Sem Value} {g:Int -> Int}
  (rule:∀ (i:Int) (t:Tok) (s:Shared) (Q:Value -> Shared -> Prop) (E:Value -> Shared -> Prop),Q (.int (g i) s.toks) { s with toks:=s.toks + 1 } -> wpAny (model X.prog X.w) X.A (f (.int i t)) Q E s) :
  UnR X f (rU λi=>.int (g i)):=by
 intro pins s σ H x v Q I rx h
 obtain ⟨i,rfl,q⟩:=h
 obtain ⟨t,rfl⟩:=rx
 exact rule i t s _ _ ⟨.int (g i),H,I.tok _,⟨_,rfl⟩,q⟩
theorem HI:UnR X (unaryOp .USub) (rU λi=>.int (-i)):=unI λ_ _ _ _ _ q=>neg_int q
end
section
variable {X:Cx} {a b c:Expr} {ta tb tc:TE} {pos:Pos}
theorem wM {pins:List (Addr × Obj)} {σ:St} {H:Hp} {s:Shared} {Q:VK} {k k':Bool} (I:Inv X pins σ H s) (q:Q (.bl k) H) (e:k = k'):EP X pins σ Q (.bool k') s:=by
 subst e
 exact ⟨.bl k,H,I,rfl,q⟩
theorem Nm:jX X (compareOp .Lt) (Bo λi j=>.bl (decide (i < j))):=EC λ_ _ _ _ _ _ _ q=>lt_int q
theorem Nn:jX X (compareOp .LtE) (Bo λi j=>.bl (decide (i <= j))):=EC λ_ _ _ _ _ _ _ q=>le_int q
theorem Np:jX X (compareOp .Gt) (Bo λi j=>.bl (decide (j < i))):=EC λ_ _ _ _ _ _ _ q=>gt_int q
theorem Nq:jX X (compareOp .GtE) (Bo λi j=>.bl (decide (j <= i))):=EC λ_ _ _ _ _ _ _ q=>ge_int q
theorem I0:jX X (compareOp .Is) (λx y H Q=>y = .bA /\ Q (.bl (decide (x = .bA))) H):=by
 intro pins s σ H x y v u Q I rx ry h
 obtain ⟨rfl,q⟩:=h
 cases ry
 refine is_none_gen (wM I q ?_)
 cases x <;> first
  | (cases rx;rfl)
  | (obtain ⟨t,rfl⟩:=rx;rfl)
theorem Ey:jX X (compareOp .IsNot) (λx y H Q=>y = .bA /\ Q (.bl (!decide (x = .bA))) H):=by
 intro pins s σ H x y v u Q I rx ry h
 obtain ⟨rfl,q⟩:=h
 cases ry
 refine isnot_none_gen (wM I q ?_)
 cases x <;> first
  | (cases rx;rfl)
  | (obtain ⟨t,rfl⟩:=rx;rfl)
theorem jX.or {f:Value -> Value -> Sem Value} {r r':R2} (h:jX X f r) (h':jX X f r'):jX X f (λx y H Q=>r x y H Q \/ r' x y H Q):=by
 intro pins s σ H x y v u Q I rx ry q
 rcases q with q | q
 ·exact h pins s σ H x y v u Q I rx ry q
 ·exact h' pins s σ H x y v u Q I rx ry q
theorem BG (b:Expr) {op:CmpOp} (h:op ≠ .In:=by decide) (h2:op ≠ .NotIn:=by decide):behindInMarks op b = false:=by
 have e1:(op == CmpOp.In) = false:=by cases op <;> first | rfl | exact absurd rfl h
 have e2:(op == CmpOp.NotIn) = false:=by cases op <;> first | rfl | exact absurd rfl h2
 cases b <;> simp [behindInMarks,e1,e2]
theorem xW {op:CmpOp} {r:R2} (ho:jX X (compareOp op) r) (ha:PE X a ta) (hb:PE X b tb) (hm:behindInMarks op b = false):PE X (.Compare a [op] [b] pos) (Gu r ta tb):=by
 intro pins s σ H Q I h
 exact wpAny_Compare1 (Lg ha hb I h λv u s2 x y H2 I2 rx ry q=>ho pins s2 σ H2 x y v u Q I2 rx ry q) hm
noncomputable def Gr (t:TE):TT:=λσ H Q=>t σ H λx H'=>∃ k,x = .bl k /\ Q k H'
theorem xK {op:CmpOp} {r:R2} (ho:jX X (compareOp op) r) (ha:PE X a ta) (hb:PE X b tb) (hm:behindInMarks op b = false):PT X (.Compare a [op] [b] pos) (Gr (Gu r ta tb)):=by
 intro pins s σ H Q I h
 refine wpAny_isTrue_Compare1 (dh (ha pins s σ H _ I h) λv s1 ⟨x,H1,I1,r1,q1⟩=>dh (hb pins s1 σ H1 _ I1 q1) λu s2 ⟨y,H2,I2,r2,q2⟩ =>
  dh (ho pins s2 σ H2 x y v u _ I2 r1 r2 q2) λc s3 ⟨z,H3,I3,r3,k,e,q3⟩=>?_) hm
 subst e
 cases r3
 exact wpAny_truthy_bool ⟨H3,I3,q3⟩
theorem rR:(sizeLine:Nat) < 2 ^ 63:=by rw [sizeLine_eq];decide
theorem vals1 {x:V} {us:List Value} (r:Vals [x] us):∃ u,us = [u] /\ RelV x u:=by
 cases r with
 | cons r1 r2=>cases r2;exact ⟨_,rfl,r1⟩
theorem vals2 {x y:V} {us:List Value} (r:Vals [x,y] us):∃ u w',us = [u,w'] /\ RelV x u /\ RelV y w':=by
 cases r with
 | cons r1 r2 =>
  cases r2 with
  | cons r3 r4=>cases r4;exact ⟨_,_,rfl,r1,r3⟩
theorem CN:gi X (.builtin "abs") (λxs H Q=>∃ i,xs = [.int i] /\ Q (.int (if i < 0 then -i else i)) H):=by
 intro pins s σ H xs us Q I r h
 obtain ⟨i,rfl,q⟩:=h
 obtain ⟨u,rfl,t,rfl⟩:=vals1 r
 exact call_abs_int λu tk=>⟨.int (if i < 0 then -i else i),H,I.tok _,⟨_,rfl⟩,q⟩
theorem L3 (hc:X.calm = true):gi X (.builtin "max") (λxs H Q=>∃ i j,xs = [.int i,.int j] /\ Q (.int (if j > i then j else i)) H):=by
 intro pins s σ H xs us Q I r h
 obtain ⟨i,j,rfl,q⟩:=h
 obtain ⟨u,w',rfl,⟨t,rfl⟩,⟨t',rfl⟩⟩:=vals2 r
 refine max_two_ints (I.ok.hd hc) λh' tk k=>⟨_,H,I.kept k,?_,q⟩
 by_cases hj:j > i
 ·rw [if_pos hj,if_pos hj];exact ⟨_,rfl⟩
 ·rw [if_neg hj,if_neg hj];exact ⟨_,rfl⟩
theorem L1 (hc:X.calm = true):gi X (.builtin "min") (λxs H Q=>∃ i j,xs = [.int i,.int j] /\ Q (.int (if j < i then j else i)) H):=by
 intro pins s σ H xs us Q I r h
 obtain ⟨i,j,rfl,q⟩:=h
 obtain ⟨u,w',rfl,⟨t,rfl⟩,⟨t',rfl⟩⟩:=vals2 r
 refine min_two_ints (I.ok.hd hc) λh' tk k=>⟨_,H,I.kept k,?_,q⟩
 by_cases hj:j < i
 ·rw [if_pos hj,if_pos hj];exact ⟨_,rfl⟩
 ·rw [if_neg hj,if_neg hj];exact ⟨_,rfl⟩
theorem Ap:gi X (.type "int") (λxs H Q=>(∃ i,xs = [.int i] /\ Q (.int i) H) \/ ∃ k,xs = [.bl k] /\ Q (.int (if k then 1 else 0)) H):=by
 intro pins s σ H xs us Q I r h
 rcases h with ⟨i,rfl,q⟩ | ⟨k,rfl,q⟩
 ·obtain ⟨u,rfl,t,rfl⟩:=vals1 r
  exact call_int_int ⟨.int i,H,I,⟨_,rfl⟩,q⟩
 ·obtain ⟨u,rfl,r1⟩:=vals1 r
  cases r1
  exact call_int_bool ⟨.int (if k then 1 else 0),H,I.tok _,⟨_,rfl⟩,q⟩
end
end L2
namespace L2
open PySem PySem.Spec PyProof.Rows
structure ag0 (h:Heap) (x dx C:Addr) (mA:Str -> Option Value):Prop where
 obj:h.get? x = some (PySem.W.instObj C dx)
 ns:h.Ns1 dx mA
 ne:dx ≠ x
section
variable {prog:Program} {w:World} {A:Around} {E:Value -> Shared -> Prop} {s:Shared} {K:PySem.W.Frag} {x dx C f:Addr} {mA:Str -> Option Value} {name:Str} {v:Value}
end
theorem ph.some_of {v:V} {o:Option Value} (r:ph (some v) o):∃ u,o = some u /\ RelV v u:=by
 cases o with
 | none=>exact (show False from r).elim
 | some u=>exact ⟨u,rfl,r⟩
theorem ph.none_of {o:Option Value} (r:ph none o):o = none:=by
 cases o with
 | none=>rfl
 | some u=>exact (show False from r).elim
section
variable {P:Program} {w:World} {H H':Hp} {h h':Heap} {a C dx:Addr} {fs fs':List (Str × V)}
end
structure Cls (K:PySem.W.Frag) (C:Addr):Prop where
 pg:PySem.W.plainGet K C Str.empty = true
 hd:PySem.W.hasDictIn K C = true
 po:PySem.W.plainOver K C = true
 sa:PySem.W.findIn K (.ref C) "__setattr__" = some (some (.builtin "object.__setattr__"))
structure Con (K:PySem.W.Frag) (C:Addr) (f:Str) (v:V) (u:Value):Prop where
 at_:PySem.W.findIn K (.ref C) f = some (some u)
 rel:RelV v u
 get:PySem.W.specialIn K u "__get__" = some none
 cp:PySem.W.copiedNames.contains f = false
structure Meth (K:PySem.W.Frag) (C:Addr) (m:Str) (f:Addr):Prop where
 at_:PySem.W.findIn K (.ref C) m = some (some (.ref f))
 fn:PySem.W.isFn K (.ref f) = true
 kp:PySem.W.keepIn K (.ref f) = true
section
variable {X:Cx} {pins:List (Addr × Obj)} {σ:St} {H:Hp} {s:Shared} {a C dx:Addr} {fs:List (Str × V)} {f:Str} {v:V} {A:Around} {E:Value -> Shared -> Prop}
end
section
variable {X:Cx} {o e value:Expr} {f:Str} {pos pos' adf:Pos} {ta tv:TE}
end
section
variable {X:Cx} {pins:List (Addr × Obj)} {σ:St} {H:Hp} {s:Shared} {A:Around} {E:Value -> Shared -> Prop} {Q:Value -> Shared -> Prop} {c:Value} {b:Bool}
inductive pb (K:PySem.W.Frag) (H:Hp):V -> Value -> Prop where
 | bA:pb K H .bA (.type "NoneType")
 | bl (x:Bool):pb K H (.bl x) (.type "bool")
 | int (i:Int):pb K H (.int i) (.type "int")
 | str (x:Str):pb K H (.str x) (.type "str")
 | O3 (x:UInt64):pb K H (.O3 x) (.type "float")
 | lst {a:Addr} {xs:List V} (e:H a = some (.lst xs)):pb K H (.ref a) (.type "list")
 | i6 {a:Addr} {o:Obj} {xs:List V} (e:H a = some (.i6 o (.lst xs))):pb K H (.ref a) (.type "list")
 | tup {a:Addr} {xs:List V} (e:H a = some (.tup xs)):pb K H (.ref a) (.type "tuple")
 | dK {a:Addr} {oi:List (Key × V)} (e:H a = some (.dK oi)):pb K H (.ref a) (.type "dict")
 | dT {a:Addr} {oi:List (List Key × V)} (e:H a = some (.dT oi)):pb K H (.ref a) (.type "dict")
 | ins {a C dx:Addr} {fs:List (Str × V)} (e:H a = some (.ins C dx fs)) (cl:Cls K C) (ha:PySem.W.findIn K (.ref C) "__class__" = some (some (.builtin "object.__class__")))
   (hn:PySem.W.specialIn K (.builtin "object.__class__") "__get__" = some (some (.builtin "getset_descriptor.__get__"))) (htk:PySem.W.takesIn K (.builtin "object.__class__") = some true)
   (hm:PySem.W.mroIn K C (.type "object") = some true):pb K H (.ref a) (.ref C)
end
end L2
namespace L2
open PySem PySem.Spec PyProof.Rows
structure gQ (k:Nat) (A:Around):Prop where
 hd:A.handled = none
 dp:A.depth + 3 * k + 5 < recursionLimit
 un:A.units + 16 * k + 200 < cLine
theorem gQ.mono {j k:Nat} {A:Around} (r:gQ k A) (h:j <= k):gQ j A:=⟨r.hd,by have:=r.dp;omega,by have:=r.un;omega⟩
theorem gQ.deeper {k:Nat} {A:Around} (r:gQ (k + 1) A) (env:Env):gQ k (A.deeper env) :=
 ⟨r.hd,by have:=r.dp;show A.depth + 1 + 3 * k + 5 < _;omega,by have:=r.un;show A.units + 3 + 16 * k + 200 < _;omega⟩
theorem gQ.depth {k:Nat} {A:Around} (r:gQ k A):A.depth < recursionLimit:=by have:=r.dp;omega
theorem gQ.units {k:Nat} {A:Around} (r:gQ k A):A.units + 64 < cLine:=by have:=r.un;omega
noncomputable def My:TA:=λ_ H Q=>Q [] H
noncomputable def Gw (ta:TE) (tr:TA):TA:=λσ H Q=>ta σ H λx H1=>tr σ H1 λxs H2=>Q (x :: xs) H2
section
variable {X:Cx} {e:Expr} {es:List Expr} {te:TE} {t:TA} {pos:Pos}
theorem gm:PA X [] My:=λ_ _ _ _ H Q I h=>Calls.spliced_nil ⟨[],H,I,.nil,h⟩
theorem dB (ha:PE X e te) (hr:PA X es t) (hs:starEach (e :: es) X.env = (false,eval e X.env) :: starEach es X.env:=by rfl):PA X (e :: es) (Gw te t):=by
 intro pos pins s σ H Q I h
 rw [hs]
 show wpAny _ _ (spliced ((false,eval e X.env) :: backTo pos (starEach es X.env))) _ _ s
 refine Calls.spliced_cons (dh (ha pins s σ H _ I h) λu s1 ⟨x,H1,I1,r1,q1⟩=>?_)
 exact dh (hr pos pins s1 σ H1 _ I1 q1) λus s2 ⟨xs,H2,I2,r2,q2⟩=>⟨x :: xs,H2,I2,.cons r1 r2,q2⟩
noncomputable def RM (t:TA):TE:=λσ H Q=>t σ H λxs H1=>xs.length <= sizeLine /\ ∀ p,H1 p = none -> Q (.ref p) (upd H1 p (.tup xs))
noncomputable def RR (t:TA):TE:=λσ H Q=>t σ H λxs H1=>xs.length <= sizeLine /\ ∀ p,H1 p = none -> Q (.ref p) (upd H1 p (.lst xs))
theorem Bw {x1} (h:PA X es t):PE X (.Tuple es x1 pos) (RM t):=by
 intro pins s σ H Q I hq
 refine wpAny_Tuple_spliced (dh (h pos pins s σ H _ I hq) λus s1 ⟨xs,H1,I1,r,z,q⟩=>⟨by rw [<- r.length];exact z,?_⟩)
 have hf:H1 s1.heap.objs.size = none:=I1.cX.fresh (Nat.le_refl _)
 refine ⟨.ref s1.heap.objs.size,upd H1 s1.heap.objs.size (.tup xs),I1.laid (t':=s1.toks) (λb u e=>Heap.get?_push_of_some _ e) (Nat.le_refl _) ?_,rfl,q _ hf⟩
 exact ⟨z,us,r,⟨_,Heap.get?_push_size _ rfl,rfl,_,rfl⟩⟩
theorem IJ (h:PA X es t):PE X (.List es pos) (RR t):=by
 intro pins s σ H Q I hq
 refine wpAny_List_spliced (dh (h pos pins s σ H _ I hq) λus s1 ⟨xs,H1,I1,r,z,q⟩=>⟨by rw [<- r.length];exact z,?_⟩)
 have hf:H1 s1.heap.objs.size = none:=I1.cX.fresh (Nat.le_refl _)
 refine ⟨.ref s1.heap.objs.size,upd H1 s1.heap.objs.size (.lst xs),I1.laid (t':=s1.toks) (λb u e=>Heap.get?_push_of_some _ e) (Nat.le_refl _) ?_,rfl,q _ hf⟩
 exact ⟨z,us,0,r,Heap.get?_push_size _ rfl⟩
end
noncomputable abbrev Sp:=List V -> Hp -> VK -> XK -> Prop
noncomputable abbrev AF:=List Env -> Hp -> Shared -> XK -> Value -> Shared -> Prop
structure Gi (P:Program) (w:World) (K:PySem.W.Frag) (mg:Str -> Option Value) (base:Heap) (A:Around) (outer:List Env) (s:Shared) (H:Hp):Prop where
 frames:A.frames = some outer
 mod:Mod K mg base
 bs:∀ b o,base.get? b = some o -> s.heap.get? b = some o /\ H b = none
 Hl:base.objs.size <= s.heap.objs.size
 mL:s.heap.FunFrames base outer
 LY:∀ b ∈ AB outer,H b = none
 cX:l_ P w H s.heap
 bare:AllBare s.gens
noncomputable def CE (outer:List Env) (P:Program) (w:World) (H:Hp) (s:Shared) (Q:VK) (u:Value) (s':Shared):Prop :=
 ∃ v H',s'.os = s.os /\ AllBare s'.gens /\ Un (AB outer) [] H H' s.heap s'.heap /\ l_ P w H' s'.heap /\ RelV v u /\ Q v H'
noncomputable def CR (CX:AF) (outer:List Env) (P:Program) (w:World) (H:Hp) (s:Shared) (Q:VK) (E:XK) (r:Result) (s':Shared):Prop :=
 match r with
 | .ok (.ret u)=>CE outer P w H s Q u s'
 | .ok _=>False
 | .error e=>CX outer H s E e s'
structure jZ (P:Program) (w:World) (K:PySem.W.Frag) (mg:Str -> Option Value) (base:Heap) (CX:AF) (k:Nat) (f:Addr) (fd:FuncData) (ps:List Str) (sp:Sp):Prop where
 len:∀ vs H Q E,sp vs H Q E -> vs.length = ps.length
 run:∀ (A:Around) (outer:List Env) (s:Shared) (H:Hp) (args:Args) (us:List Value) (vs:List V) (Q:VK) (E:XK),gQ k A -> Gi P w K mg base A outer s H -> BindsTo s fd args (ps.zip us) -> Vals vs us -> sp vs H Q E ->
  codeAny (model P w) A (.call (.ref f) args) (CR CX outer P w H s Q E) s
theorem jZ.mono {P:Program} {w:World} {K:PySem.W.Frag} {mg:Str -> Option Value} {base:Heap} {CX:AF} {j k:Nat} {f:Addr} {fd:FuncData} {ps:List Str} {sp:Sp} (F:jZ P w K mg base CX j f fd ps sp) (h:j <= k) :
  jZ P w K mg base CX k f fd ps sp:=⟨F.len,λA outer s H args us vs Q E hr=>F.run A outer s H args us vs Q E (hr.mono h)⟩
section
variable {X:Cx} {pins:List (Addr × Obj)} {σ:St} {H:Hp} {s s':Shared}
theorem Inv.Yj (I:Inv X pins σ H s):Gi X.prog X.w X.K X.mg X.base X.A X.stack s H :=
 ⟨I.ok.frames,I.ok.mod,I.bs,Nat.le_trans I.ok.Hl I.sz,I.stack,I.xB,I.cX,I.bare⟩
theorem Inv.after {Q:VK} {u:Value} (I:Inv X pins σ H s) (h:CE X.stack X.prog X.w H s Q u s'):EP X pins σ Q u s':=by
 obtain ⟨v,H',os,bare,un,cX,r,q⟩:=h
 obtain ⟨hh,g,d,t,Uc⟩:=s'
 obtain rfl:Uc = s.os:=os
 exact ⟨v,H',I.call (h':=hh) (g':=g) (d':=d) (t':=t) (ch:=[]) un cX bare (λb z=>absurd z (by simp)),r,q⟩
end
noncomputable def MB (sp:Sp) (fL:List V) (E:XK) (t:TA):TE:=λσ H Q=>t σ H λvs H1=>sp (vs ++ fL) H1 Q E
noncomputable def Binds (K:PySem.W.Frag) (fd:FuncData) (ps:List Str) (ds:List Value):Prop :=
 ∀ (s:Shared) (us:List Value),K.In s.heap -> (us ++ ds).length = ps.length -> BindsTo s fd ⟨us,[]⟩ (ps.zip (us ++ ds))
theorem Binds.all {K:PySem.W.Frag} {fd:FuncData} {ps:List Str} (h:∀ us:List Value,us.length = ps.length -> bindArgs fd ⟨us,[]⟩ = pure (ps.zip us)):Binds K fd ps []:=λs us _ hl=>by
 rw [List.append_nil] at hl ⊢
 exact .of_eq (h us hl)
noncomputable def Passes (CX:AF) (X:Cx) (E:XK):Prop:=∀ (pins:List (Addr × Obj)) (σ:St) (H:Hp) (s:Shared) (e:Value) (s':Shared),Inv X pins σ H s -> CX X.stack H s E e s' -> X.xe e s'
section
variable {X:Cx} {CX:AF} {k:Nat} {f C:Addr} {fd:FuncData} {ps:List Str} {sp:Sp} {fL:List V} {ds:List Value} {E:XK} {x m:Str} {p pos apos:Pos} {e o:Expr} {es:List Expr} {ta:TE} {t:TA}
theorem Ir {pins:List (Addr × Obj)} {σ:St} {H:Hp} {s:Shared} {Q:VK} {us:List Value} {vs:List V} (F:jZ X.prog X.w X.K X.mg X.base CX k f fd ps sp) (hr:gQ k X.A) (hb:Binds X.K fd ps ds) (hd:Vals fL ds) (hx:Passes CX X E)
  (I:Inv X pins σ H s) (r:Vals vs us) (h:sp (vs ++ fL) H Q E):wpAny (model X.prog X.w) X.A (call (.ref f) us) (EP X pins σ Q) X.xe s:=by
 have r2:Vals (vs ++ fL) (us ++ ds):=r.append hd
 have hl:(us ++ ds).length = ps.length:=by rw [<- r2.length];exact F.len _ _ _ _ h
 refine wpAny_call (codeAny_mono (F.run X.A X.stack s H ⟨us,[]⟩ (us ++ ds) (vs ++ fL) Q E hr I.Yj (hb s us I.zE hl) r2 h) λr s' hq=>?_)
 cases r with
 | error e=>exact hx pins σ H s e s' I hq
 | ok fl =>
  cases fl with
  | ret u=>exact I.after hq
  | next=>exact False.elim hq
  | brk=>exact False.elim hq
  | cont=>exact False.elim hq
theorem Et (F:jZ X.prog X.w X.K X.mg X.base CX k f fd ps sp) (hr:gQ k X.A) (hg:Gl X x) (hm:X.mg x = some (.ref f)) (hk:PySem.W.keepIn X.K (.ref f) = true) (hb:Binds X.K fd ps ds) (hd:Vals fL ds) (hx:Passes CX X E)
  (ha:PA X (e :: es) t) (Ox:(x == ("__debug__" : Str)) = false:=by decide) (he:starEach (e :: es) X.env = (false,eval e X.env) :: starEach es X.env:=by rfl) (hpl:(backTo pos (starEach es X.env)).any (·.1) = false:=by rfl) :
  PE X (.Call (.Name x p) (e :: es) [] pos) (MB sp fL E t):=by
 intro pins s σ H Q I h
 refine wpAny_Call_Name_kw (x8 I hg hm ?_ Ox)
 refine PySem.W.callWith_K (h₀:=X.base) I.ok.mod.Vz hk (dh (ha pos pins s σ H _ I h) λus s1 ⟨vs,H1,I1,r,q⟩=>⟨I1.zE,?_⟩) he hpl
 exact Ir F hr hb hd hx I1 r q
structure Mk (K:PySem.W.Frag) (C f:Addr):Prop where
 makes:PySem.W.makesIn K C = true
 init:PySem.W.findIn K (.ref C) "__init__" = some (some (.ref f))
 fn:PySem.W.isFn K (.ref f) = true
 kp:PySem.W.keepIn K (.ref C) = true
end
section
variable {X:Cx} {CX:AF} {k:Nat} {f C:Addr} {fd:FuncData} {ps ks:List Str} {sp:Sp} {E:XK} {x m:Str} {p pos apos aep:Pos} {e o:Expr} {es:List Expr} {kws:List Keyword} {te ta:TE} {t tk:TA} {nm:Option Str}
structure aaj (K:PySem.W.Frag) (fd:FuncData) (ps ks:List Str) (g:List Value -> List Value -> List Value) (gV:List V -> List V -> List V):Prop where
 to:∀ (s:Shared) (us ws:List Value),K.In s.heap -> (g us ws).length = ps.length -> BindsTo s fd ⟨us,ks.zip ws⟩ (ps.zip (g us ws))
 rel:∀ {vs:List V} {us:List Value} {zs:List V} {ws:List Value},Vals vs us -> Vals zs ws -> Vals (gV vs zs) (g us ws)
variable {g:List Value -> List Value -> List Value} {gV:List V -> List V -> List V}
end
structure au (N P:List Str) (sc:Scope):Prop where
 kind:sc.kind = .function
 co:sc.isCoroutine = false
 gen:sc.isGenerator = false
 nd:N.Nodup
 pre:N.take P.length = P
 par:∀ x ∈ P,sc.names.lookup x = some .local \/ sc.names.lookup x = some .cell
 Jg:∀ y ∈ sc.names,y.2 ≠ .free
theorem qV {kindOf:Str -> Option NameKind} {x:Str}:∀ {binds:List (Str × Value)} {m:Str -> Option Value},(∀ v,(x,v) ∉ binds) -> bindL kindOf binds m x = m x
 | [],_,_=>rfl
 | (n,v) :: r,m,h=>by
  unfold bindL
  rw [qV λw hw=>h w (List.mem_cons_of_mem _ hw)]
  split
  ·have:x ≠ n:=by rintro rfl;exact h v List.mem_cons_self
   simp [this]
  ·rfl
theorem qX {kindOf:Str -> Option NameKind} {x:Str}:∀ {binds:List (Str × Value)} {m:Str -> Option Value},(∀ v,(x,v) ∉ binds) -> bindC kindOf binds m x = m x
 | [],_,_=>rfl
 | (n,v) :: r,m,h=>by
  unfold bindC
  rw [qX λw hw=>h w (List.mem_cons_of_mem _ hw)]
  split
  ·rfl
  ·have:x ≠ n:=by rintro rfl;exact h v List.mem_cons_self
   simp [this]
theorem qW {kindOf:Str -> Option NameKind} {x:Str} {v:Value}:∀ {P:List Str} {vs:List Value} {i:Nat} {m:Str -> Option Value},P.Nodup -> P[i]? = some x -> vs[i]? = some v -> kindOf x = some .local ->
  bindL kindOf (P.zip vs) m x = some v
 | [],_,_,_,_,h,_,_=>by simp at h
 | _ :: _,[],_,_,_,_,h,_=>by simp at h
 | p :: P,w :: vs,0,m,nd,h1,h2,hk=>by
  simp at h1 h2;subst h1;subst h2
  show bindL kindOf ((p,w) :: P.zip vs) m p = _
  unfold bindL
  rw [qV λv hv=>(List.nodup_cons.mp nd).1 (List.of_mem_zip hv).1,if_pos hk]
  simp
 | p :: P,w :: vs,i + 1,m,nd,h1,h2,hk=>by
  show bindL kindOf ((p,w) :: P.zip vs) m x = _
  unfold bindL
  exact qW (i:=i) (List.nodup_cons.mp nd).2 (by simpa using h1) (by simpa using h2) hk
theorem qY {kindOf:Str -> Option NameKind} {x:Str} {v:Value}:∀ {P:List Str} {vs:List Value} {i:Nat} {m:Str -> Option Value},P.Nodup -> P[i]? = some x -> vs[i]? = some v -> kindOf x ≠ some .local ->
  bindC kindOf (P.zip vs) m x = some v
 | [],_,_,_,_,h,_,_=>by simp at h
 | _ :: _,[],_,_,_,_,h,_=>by simp at h
 | p :: P,w :: vs,0,m,nd,h1,h2,hk=>by
  simp at h1 h2;subst h1;subst h2
  show bindC kindOf ((p,w) :: P.zip vs) m p = _
  unfold bindC
  rw [qX λv hv=>(List.nodup_cons.mp nd).1 (List.of_mem_zip hv).1,if_neg hk]
  simp
 | p :: P,w :: vs,i + 1,m,nd,h1,h2,hk=>by
  show bindC kindOf ((p,w) :: P.zip vs) m x = _
  unfold bindC
  exact qY (i:=i) (List.nodup_cons.mp nd).2 (by simpa using h1) (by simpa using h2) hk
noncomputable def start (N:List Str) (vs:List V):St:=vs.map some ++ List.replicate (N.length - vs.length) none
noncomputable def wY (CX:AF) (P:Program) (w:World) (K:PySem.W.Frag) (mg:Str -> Option Value) (base:Heap) (N:List Str) (qual:Str) (scope:Scope) (f:Addr) (cd:Value) (A:Around) (outer:List Env) (s:Shared) (H:Hp) (E:XK):Cx where
 prog:=P
 w:=w
 K:=K
 mg:=mg
 base:=base
 A:=A.deeper (envOfC qual scope s.heap.objs.size f cd)
 N:=N
 s₀:=s
 H₀:=H
 env:=envOfC qual scope s.heap.objs.size f cd
 outer:=outer
 stack:=envOfC qual scope s.heap.objs.size f cd :: outer
 ex:=[]
 calm:=true
 fn:=λ_=>true
 pn:=[]
 xe:=λe s'=>wpAny (model P w) (A.deeper (envOfC qual scope s.heap.objs.size f cd)) (leaving (envOfC qual scope s.heap.objs.size f cd) e) (λ_ SY=>CX outer H s E e SY) (λe' SY=>CX outer H s E e' SY) s'
theorem vp {sc:Scope} {n:Nat} {x:Str} (h:sc.names.lookup x = some .cell):∃ c,(cellsFrom n sc.names []).lookup x = some c:=by
 have q:=PySem.W.cellsFrom_some sc.names n [] (.inl h)
 exact Option.isSome_iff_exists.mp q
theorem zL {CX:AF} {P:Program} {w:World} {K:PySem.W.Frag} {mg:Str -> Option Value} {base:Heap} {N ps:List Str} {qual:Str} {scope:Scope} {f:Addr} {cd:Value} {A:Around} {outer:List Env} {s s1:Shared} {H:Hp} {E:XK} {us:List Value} {vs:List V}
  (S:au N ps scope) (hd:A.handled = none) (e0:Gi P w K mg base A outer s H) (hl:vs.length = ps.length) (r:Vals vs us)
  (x:InCallC s s.heap.objs.size (bindL (envOfC qual scope s.heap.objs.size f cd).kindOf (ps.zip us) λ_=>none) (cellsFrom (s.heap.objs.size + 1) scope.names []) (bindC (envOfC qual scope s.heap.objs.size f cd).kindOf (ps.zip us) λ_=>none) s1) :
  Inv (wY CX P w K mg base N qual scope f cd A outer s H E) [] (start N vs) H s1:=by
 have hpl:ps.length <= N.length:=by have:=congrArg List.length S.pre;rw [List.length_take] at this;omega
 obtain ⟨h1,tk,rfl,hk⟩:=x.done
 have Nx:∀ b:Addr,b ∉ (wY CX P w K mg base N qual scope f cd A outer s H E).ex:=λb z=>absurd (show b ∈ ([]:List Addr) from z) (by simp)
 refine ⟨⟨e0.mod,S.kind,rfl,rfl,Nat.le_refl _,λy z c h1 h2=>?_,λy hy=>?_,λy c _ h=>?_,λ_=>hd,Around.frames_deeper e0.frames,.inr ⟨rfl,rfl⟩,λb z=>absurd z (Nx b),e0.bs,e0.Hl,λb _ _=>Nx b,λb z=>absurd z (Nx b),e0.mL,e0.LY⟩,
  rfl,e0.bare,Un.kept hk,⟨_,x.toInCall.ns,λi y v h1 h2 h3=>?_⟩,λy c h=>⟨_,x.cell y c h⟩,e0.cX.fresh (Nat.le_refl _),λy c h=>?_,λp hp=>absurd (show p ∈ ([]:List (Addr × Obj)) from hp) (by simp),e0.cX.kept hk,?_⟩
 ·exact name_of_addr x.apart (PySem.mem_of_lookup h1) (PySem.mem_of_lookup h2)
 ·have hy:scope.names.lookup y = some .cell \/ scope.names.lookup y = some .free:=hy
  rcases hy with hy | hy
  ·exact vp hy
  ·exact absurd rfl (S.Jg _ (PySem.mem_of_lookup hy))
 ·exact Nat.le_of_lt (x.above y c (PySem.mem_of_lookup h))
 ·have hi:i < vs.length:=by
   unfold start at h2
   by_cases hi:i < vs.length
   ·exact hi
   ·rw [List.getElem?_append_right (by simpa using hi)] at h2
    rw [List.getElem?_replicate] at h2
    split at h2 <;> cases h2
  have ha:vs[i]? = some v:=by
   unfold start at h2
   rw [List.getElem?_append_left (by simpa using hi),List.getElem?_map] at h2
   cases e:vs[i]? with
   | none=>rw [e] at h2;cases h2
   | some a=>rw [e] at h2;cases h2;rfl
  obtain ⟨u,hu,rv⟩:=r.get ha
  have hp:ps[i]? = some y:=by
   rw [<- S.pre,List.getElem?_take_of_lt (by omega)];exact h1
  have ndP:ps.Nodup:=by rw [<- S.pre];exact S.nd.sublist (List.take_sublist _ _)
  refine ⟨u,rv,?_⟩
  rcases S.par y (List.mem_of_getElem? hp) with k | k
  ·exact .inl ⟨k,qW ndP hp hu k⟩
  ·obtain ⟨c,e⟩:=vp (n:=s.heap.objs.size + 1) k
   refine .inr ⟨.inl k,c,e,?_⟩
   have q:=x.cell y c e
   rw [qY ndP hp hu (by show scope.names.lookup y ≠ _;rw [k];decide)] at q
   exact q
 ·exact e0.cX.fresh (Nat.le_of_lt (x.above y c (PySem.mem_of_lookup h)))
 ·unfold start
  show _ = N.length
  rw [List.length_append,List.length_map,List.length_replicate]
  omega
theorem OZ {CX:AF} {P:Program} {w:World} {K:PySem.W.Frag} {mg:Str -> Option Value} {base:Heap} {k:Nat} {f:Addr} {name qual:Str} {params:Arguments} {body:List Stmt} {scope:Scope} {dV kV doc pm mx ct oc:Value} {an od:Option Addr}
  {Df:Array (Option Value)} {N ps:List Str} {sp:Sp} (lk:K.lookup f = some ⟨oc,od,.func (PySem.W.fnOf name qual params body scope dV kV doc pm an mx ct),Df⟩) (zR:PySem.W.codeIn K mx qual = true) (S:au N ps scope)
  (len:∀ vs H Q E,sp vs H Q E -> vs.length = ps.length)
  (Cg:∀ (A:Around) (outer:List Env) (s:Shared) (H:Hp) (vs:List V) (Q:VK) (E:XK),gQ k (A.deeper (envOfC qual scope s.heap.objs.size f mx)) -> sp vs H Q E ->
   ∃ t,nk (wY CX P w K mg base N qual scope f mx A outer s H E) body t /\ t { nx:=λ_ H'=>Q .bA H',rt:=Q } (start N vs) H) :
  jZ P w K mg base CX (k + 1) f (PySem.W.fnOf name qual params body scope dV kV doc pm an mx ct) ps sp:=by
 refine ⟨len,λA outer s H args us vs Q E hr e0 hb r Di=>?_⟩
 have hl:=len _ _ _ _ Di
 have KX:K.In s.heap:=e0.mod.Vz.keeps λb o e=>(e0.bs b o e).1
 have lim:s.heap.NoLimit:=e0.mod.nolimit.keeps λb o e=>(e0.bs b o e).1
 have Om:∀ y ∈ ps.zip us,scope.names.lookup y.1 = some .local \/ (scope.names.lookup y.1 = some .cell /\ ((cellsFrom (s.heap.objs.size + 1) scope.names []).lookup y.1).isSome = true):=λ⟨n,v⟩ hy=>by
  rcases S.par n (List.of_mem_zip hy).1 with q | q
  ·exact .inl q
  ·exact .inr ⟨q,PySem.W.cellsFrom_some _ _ _ (.inl q)⟩
 refine codeAny_call_function hr.depth (KX _ _ lk) rfl S.co S.gen rfl (PySem.W.codeRec_of KX zR) (hb _ _ _ _ ?_)
 refine wpAny_newFunctionEnv_cells S.kind Om λenv he s1 x=>?_
 subst he
 refine ⟨lim.keeps x.toInCall.keep,codeAny_func ?_⟩
 obtain ⟨t,ht,hq⟩:=Cg A outer s H vs Q E (hr.deeper _) Di
 have I:Inv (wY CX P w K mg base N qual scope f mx A outer s H E) [] (start N vs) H s1:=zL S hr.hd e0 hl r x
 refine wpAny_mono (ht [] s1 (start N vs) H _ I hq) (λfl s' hs=>?_) λe s' hs=>hs
 have fin:∀ {σ':St} {H':Hp} {v:V} {u:Value},Inv (wY CX P w K mg base N qual scope f mx A outer s H E) [] σ' H' s' -> RelV v u -> Q v H' -> CE outer P w H s Q u s' :=
  λ{σ' H' v u} J rv q=>⟨v,H',J.os,J.bare,J.base,J.cX,rv,q⟩
 cases fl with
 | ret u =>
  obtain ⟨v,σ',H',J,rv,q⟩:=hs
  exact fin J rv q
 | next =>
  obtain ⟨σ',H',J,q⟩:=hs
  exact fin (v:=V.bA) (u:=Value.none) J rfl q
 | brk =>
  obtain ⟨_,_,_,q⟩:=hs
  exact False.elim q
 | cont =>
  obtain ⟨_,_,_,q⟩:=hs
  exact False.elim q
end L2
namespace L2
open PySem PySem.Spec PyProof.Rows
section
variable {X:Cx} {x:Str} {p pos:Pos} {e:Expr} {es:List Expr} {t:TA} {id T:String} {r:List V -> Hp -> VK -> Prop}
noncomputable def MC (r:List V -> Hp -> VK -> Prop) (t:TA):TE:=λσ H Q=>t σ H λvs H1=>r vs H1 Q
theorem fD (hc:gi X (.builtin id) r) (hg:Gl X x) (hm:X.mg x = none) (hv:bootBuiltins x = some (.builtin id)) (ha:PA X (e :: es) t) (hn:x ≠ "__name__":=by decide) (Ox:(x == ("__debug__" : Str)) = false:=by decide)
  (he:starEach (e :: es) X.env = (false,eval e X.env) :: starEach es X.env:=by rfl) (hpl:(backTo pos (starEach es X.env)).any (·.1) = false:=by rfl):PE X (.Call (.Name x p) (e :: es) [] pos) (MC r t):=by
 intro pins s σ H Q I h
 refine wpAny_Call_Name_kw (eB I hg hm hv ?_ hn Ox)
 exact PyProof.Rows.callWith_builtin1 (dh (ha pos pins s σ H _ I h) λus s1 ⟨vs,H1,I1,r1,q1⟩=>hc pins s1 σ H1 vs us Q I1 r1 q1) he hpl
theorem lD (hc:gi X (.type T) r) (hg:Gl X x) (hm:X.mg x = none) (hv:bootBuiltins x = some (.type T)) (ha:PA X (e :: es) t) (hn:x ≠ "__name__":=by decide) (Ox:(x == ("__debug__" : Str)) = false:=by decide)
  (he:starEach (e :: es) X.env = (false,eval e X.env) :: starEach es X.env:=by rfl) (hpl:(backTo pos (starEach es X.env)).any (·.1) = false:=by rfl):PE X (.Call (.Name x p) (e :: es) [] pos) (MC r t):=by
 intro pins s σ H Q I h
 refine wpAny_Call_Name_kw (eB I hg hm hv ?_ hn Ox)
 exact PyProof.Rows.callWith_type1 (dh (ha pos pins s σ H _ I h) λus s1 ⟨vs,H1,I1,r1,q1⟩=>hc pins s1 σ H1 vs us Q I1 r1 q1) he hpl
end
end L2
namespace HT
open PySem PyProof.Rows
noncomputable def lexLt:List Int -> List Int -> Bool
 | [],[]=>false
 | [],_ :: _=>true
 | _ :: _,[]=>false
 | x :: xs,y :: ys=>if x = y then lexLt xs ys else decide (x < y)
theorem dR (x y:Int) (xs ys:List Int):lexLt (x :: xs) (y :: ys) = if x = y then lexLt xs ys else decide (x < y):=rfl
theorem jG:lexLt [] [] = false:=rfl
theorem og (y:Int) (ys:List Int):lexLt [] (y :: ys) = true:=rfl
theorem cR (x:Int) (xs:List Int):lexLt (x :: xs) [] = false:=rfl
theorem uY (A:Around) (s:Shared) (a:Int) (t:Tok) (c:Int) (u:Tok):∃ e,SeqAt.EqAt A s (.int a t) (.int c u) e /\ (e = true ↔ a = c) :=
 ⟨(a == c),SeqAt.EqAt.int_int a t c u,by simp⟩
theorem Bl (A:Around) (s:Shared) (a:Int) (t:Tok) (c:Int) (u:Tok) (prog:Program) (w:World) (E:Value -> Shared -> Prop) (Q:Value -> Shared -> Prop) (h:Q (.bool (decide (a < c))) s) :
  wpAny (model prog w) A (richCompare .Lt (.int a t) (.int c u)) Q E s :=
 (PyProof.Rows.lt_int h:wpAny (model prog w) A (compareOp .Lt (.int a t) (.int c u)) Q E s)
section
open PySem.SeqAt
open PySem.AutoSeq1 (wpAny_loadPart')
open PySem.MeetsSeq PySem.MeetsSeq2 PySem.MeetsSeq3
theorem jE (l b:Addr) (items dm:Array Value) (n n2:Nat) (dd yJ:Option Addr) (sl vD:Array (Option Value)) (ns ms:List Int) (hi:IntsAre items.toList ns) (hj:IntsAre dm.toList ms) :
  Meets (Builtin.«tuple.__lt__» ⟨[.ref l,.ref b],[]⟩)
   (λ_ R s=>s.heap.get? l = some { cls:=.type "tuple",dict:=dd,data:=.seq items n,slots:=sl } /\ s.heap.get? b = some { cls:=.type "tuple",dict:=yJ,data:=.seq dm n2,slots:=vD } /\
    R (.ok (.ret (.bool (lexLt ns ms)))) s) :=
 .of_wp λprog w A R s h=>by
  obtain ⟨hp,g,d,tk,os⟩:=s;obtain ⟨hl,hb,h⟩:=h
  have f2:=AutoSeq1.sub_tuple_tuple
  have z1:items.size = ns.length:=by rw [<- hi.length];simp
  have z2:dm.size = ms.length:=by rw [<- hj.length];simp
  wp_walk using wpAny_loadPart' hl,wpAny_loadPart' hb,wpAny_forIn_list _ (λrest b s'=>b.1 = none /\ s' = ⟨hp,g,d,tk,os⟩ /\ ∃ (vs ws:List Value) (lb Az:List Int),rest = vs.zip ws /\
   IntsAre vs lb /\ IntsAre ws Az /\ lb.length + dm.size = Az.length + items.size /\ R (.ok (.ret (.bool (lexLt lb Az)))) ⟨hp,g,d,tk,os⟩) _
  case turn =>
   rintro ⟨y,x⟩ rest b s' ⟨uI,rfl,vs,ws,lb,Az,hz,JM,G8,hlen,hR⟩
   cases JM with
   | nil=>rw [List.zip_nil_left] at hz;cases hz
   | cons a t hvi' =>
    cases G8 with
    | nil=>rw [List.zip_nil_right] at hz;cases hz
    | cons c u hwi' =>
     rw [List.zip_cons_cons] at hz
     injection hz with Wt Ca
     injection Wt with hy hx
     subst hy hx
     rw [dR] at hR
     simp only [List.length_cons] at hlen
     obtain ⟨e,he,Cd⟩:=uY A.in1 ⟨hp,g,d,tk,os⟩ a t c u
     refine wpAny_bind (he prog w _ _ ?_)
     cases e with
     | true =>
      rw [if_pos (Cd.mp rfl)] at hR
      wp_walk
      exact ⟨rfl,rfl,_,_,_,_,Ca,hvi',hwi',by omega,hR⟩
     | false =>
      rw [if_neg (λq=>absurd (Cd.mpr q) Bool.false_ne_true)] at hR
      have WC:=Bl A.in1 ⟨hp,g,d,tk,os⟩ a t c u prog w
      wp_walk using WC
      exact ⟨_,rfl,by simpa using hR⟩
  case fin =>
   rintro ⟨b1,b2⟩ s' ⟨uI,rfl,vs,ws,lb,Az,hz,JM,G8,hlen,hR⟩
   simp only at uI
   subst uI
   have hv:lexLt lb Az = decide (items.size < dm.size):=by
    cases JM with
    | nil =>
     cases G8 with
     | nil =>
      simp only [List.length_nil] at hlen
      rw [jG]
      exact (decide_eq_false (by omega)).symm
     | cons c u hw =>
      simp only [List.length_nil,List.length_cons] at hlen
      rw [og]
      exact (decide_eq_true (by omega)).symm
    | cons a t hv =>
     cases G8 with
     | nil =>
      simp only [List.length_nil,List.length_cons] at hlen
      rw [cR]
      exact (decide_eq_false (by omega)).symm
     | cons c u hw =>
      rw [List.zip_cons_cons] at hz
      cases hz
   rw [hv] at hR
   wp_walk
   exact ⟨_,rfl,by simpa [Builtin.Tuple.tupleCompareSizes] using hR⟩
  case h =>
   exact ⟨rfl,rfl,items.toList,dm.toList,ns,ms,rfl,hi,hj,by omega,h⟩
end
section
variable {prog:Program} {w:World} {A:Around} {E:Value -> Shared -> Prop} {s:Shared}
theorem wm {l b:Addr} {items dm:Array Value} {ns ms:List Int} {Q:Value -> Shared -> Prop} (hl:IsTup s.heap l items) (hb:IsTup s.heap b dm) (hi:IntsAre items.toList ns) (hj:IntsAre dm.toList ms)
  (hu:A.units < cLine) (h:Q (.bool (lexLt ns ms)) s):wpAny (model prog w) A (compareOp .Lt (.ref l) (.ref b)) Q E s:=by
 obtain ⟨⟨cls,dd,data,sl⟩,ho,hc,n,hd⟩:=id hl
 obtain ⟨⟨FP,yJ,data2,vD⟩,rY,hc2,n2,hd2⟩:=id hb
 simp only at hc hd hc2 hd2
 subst hc hd hc2 hd2
 exact richCompare_meets_room (op:=.Lt) ⟨_,ho,rfl⟩ ⟨_,rY,rfl⟩ PySem.F.slot_tuple_lt PySem.F.entry_tuple_lt (PySem.F.args_tuple_lt_2 _ _) (jE l b items dm n n2 dd yJ sl vD ns ms hi hj)
  ⟨ho,rY,show Value.bool (lexLt ns ms) ≠ Value.notImplemented /\ Q (.bool (lexLt ns ms)) s from ⟨(λx=>nomatch x),h⟩⟩ hu
theorem FR {t b:Addr} {vs ws:List Value} {Q:Value -> Shared -> Prop} (ht:IsTup s.heap t vs.toArray) (hb:IsTup s.heap b ws.toArray) (hv:vs ≠ [])
  (h1:ws = [] -> Q (.ref t) s) (h2:ws ≠ [] -> Q (.ref s.heap.objs.size) { s with heap:=s.heap.push { cls:=.type "tuple",data:=.seq (vs ++ ws).toArray } })
  (hsz:vs.length + ws.length <= sizeLine):wpAny (model prog w) A (binaryOp .Add (.ref t) (.ref b)) Q E s:=by
 obtain ⟨⟨cls,dd,data,sl⟩,ho,hc,n,hd⟩:=id ht
 obtain ⟨⟨FP,yJ,data2,vD⟩,rY,hc2,n2,hd2⟩:=id hb
 simp only at hc hd hc2 hd2
 subst hc hd hc2 hd2
 have e:vs.toArray ++ ws.toArray = (vs ++ ws).toArray:=by simp
 by_cases hw:ws = []
 ·exact concat_meets ⟨_,ho,rfl⟩ ⟨_,rY,rfl⟩ noFill_tuple_add seq_tuple_add PySem.F.slot_tuple_add PySem.F.entry_tuple_add (PySem.F.args_tuple_add_2 _ _)
   (tuple_addW1 t b vs.toArray ws.toArray n n2 dd yJ sl vD (by simpa using hv) (by simp [hw])) ⟨ho,rY,h1 hw⟩
 ·refine concat_meets ⟨_,ho,rfl⟩ ⟨_,rY,rfl⟩ noFill_tuple_add seq_tuple_add PySem.F.slot_tuple_add PySem.F.entry_tuple_add (PySem.F.args_tuple_add_2 _ _)
   (tuple_addW2 t b vs.toArray ws.toArray n n2 dd yJ sl vD (by simpa using hv) (by simpa using hw) (by rw [List.size_toArray,List.size_toArray];exact hsz)) ⟨ho,rY,?_⟩
  rw [e]
  exact h2 hw
noncomputable def v9 (n d:Nat):Option Int -> Nat
 | none=>d
 | some v=>if v < 0 then (v + (n:Int)).toNat else min v.toNat n
end
end HT
namespace L2
open PySem PySem.Spec PyProof.Rows
noncomputable abbrev TO:=St -> Hp -> (Option Int -> Hp -> Prop) -> Prop
noncomputable def PO (X:Cx) (e:Option Expr) (t:TO):Prop :=
 ∀ (pins:List (Addr × Obj)) (s:Shared) (σ:St) (H:Hp) (Q:Option Int -> Hp -> Prop),Inv X pins σ H s -> t σ H Q ->
  wpAny (model X.prog X.w) X.A (evalPart e X.env) (λu s'=>∃ o H',Inv X pins σ H' s' /\ IsPart u o /\ Q o H') X.xe s
noncomputable def DY:TO:=λ_ H Q=>Q none H
noncomputable def Mv (t:TE):TO:=λσ H Q=>t σ H λx H1=>∃ i,x = .int i /\ Q (some i) H1
theorem intsAre_of {ns:List Int}:∀ {us:List Value},Vals (ns.map V.int) us -> IntsAre us ns:=by
 induction ns with
 | nil=>intro us r;rw [List.map_nil] at r;cases r;exact .nil
 | cons n ns ih =>
  intro us r
  rw [List.map_cons] at r
  cases r with
  | cons r1 r2 =>
   obtain ⟨t,e⟩:=r1
   subst e
   exact .cons n t (ih r2)
section
variable {X:Cx} {e:Expr} {te:TE} {lo hi:Option Expr} {tl th:TO} {pos p2:Pos}
theorem xP:PO X none DY:=by
 intro pins s σ H Q I h
 rw [evalPart_none]
 exact wpAny_pure ⟨none,H,I,.none,h⟩
theorem xO (h:PE X e te):PO X (some e) (Mv te):=by
 intro pins s σ H Q I hw
 rw [evalPart_some]
 refine dh (h pins s σ H _ I hw) λu s1 ⟨x,H1,I1,r1,q1⟩=>?_
 obtain ⟨i,rfl,q⟩:=q1
 obtain ⟨t,rfl⟩:=r1
 exact ⟨some i,H1,I1,.int i t,q⟩
noncomputable def SlR (X:Cx) (r:V -> Option Int -> Option Int -> Hp -> VK -> Prop):Prop :=
 ∀ (pins:List (Addr × Obj)) (s:Shared) (σ:St) (H:Hp) (x:V) (v vl vu:Value) (lo hi:Option Int) (sl:Addr) (Q:VK),Inv X pins σ H s -> RelV x v -> s.heap.IsSliceOf sl vl vu .none -> IsPart vl lo -> IsPart vu hi -> r x lo hi H Q ->
  ∃ T id,typeLookup (.type T) "__getitem__" = pure (some (.builtin id)) /\ s.TypeIs v T /\ wpAny (model X.prog X.w) X.A (getItem v (.ref sl)) (EP X pins σ Q) X.xe s
noncomputable def tSl (r:V -> Option Int -> Option Int -> Hp -> VK -> Prop) (te:TE) (tl th:TO):TE:=λσ H Q=>te σ H λx H1=>tl σ H1 λl H2=>th σ H2 λu H3=>r x l u H3 Q
theorem Bx {r:V -> Option Int -> Option Int -> Hp -> VK -> Prop} (hr:SlR X r) (he:PE X e te) (hl:PO X lo tl) (hu:PO X hi th):PE X (.Subscript e (.Slice lo hi none p2) pos) (tSl r te tl th):=by
 intro pins s σ H Q I h
 refine Subscript_ (dh (he pins s σ H _ I h) λv s1 ⟨x,H1,I1,r1,q1⟩=>?_)
 refine wpAny_Slice (dh (hl pins s1 σ H1 _ I1 q1) λvl s2 ⟨l,H2,I2,pl,q2⟩=>dh (hu pins s2 σ H2 _ I2 q2) λvu s3 ⟨u,H3,I3,pu,q3⟩=>?_)
 rw [evalPart_none]
 refine wpAny_pure ?_
 have I4:Inv X pins σ H3 { s3 with heap:=s3.heap.push { cls:=.type "slice",data:=.fields #[vl,vu,.none] } }:=I3.kept (t':=s3.toks) λb ob q=>Heap.get?_push_of_some _ q
 obtain ⟨T,id,hT,ht,hg⟩:=hr pins { s3 with heap:=s3.heap.push { cls:=.type "slice",data:=.fields #[vl,vu,.none] } } σ H3 x v vl vu l u s3.heap.objs.size Q I4 r1 (Heap.IsSliceOf.new ..) pl pu q3
 show wpAny (model X.prog X.w) X.A (subscriptTail e (.Slice lo hi none p2) v (.ref s3.heap.objs.size)) (EP X pins σ Q) X.xe { s3 with heap:=s3.heap.push { cls:=.type "slice",data:=.fields #[vl,vu,.none] } }
 exact tail_any (ops:=[.ref s3.heap.objs.size,v]) ht hT hg (by with_unfolding_all rfl)
noncomputable def FL (xs:List V) (lo hi:Option Int):List V:=(xs.drop (HT.v9 xs.length 0 lo)).take (HT.v9 xs.length xs.length hi - HT.v9 xs.length 0 lo)
theorem va (xs:List V) (lo hi:Option Int):(FL xs lo hi).length <= xs.length:=by
 unfold FL
 rw [List.length_take,List.length_drop]
 omega
noncomputable def M4 (K:PySem.W.Frag):R2:=λx y H Q=>∃ a b xs ys,x = .ref a /\ y = .ref b /\ aC K H a xs /\ aC K H b ys /\ xs ≠ [] /\ xs.length + ys.length <= sizeLine /\
 (ys = [] -> Q (.ref a) H) /\ (ys ≠ [] -> ∀ p,H p = none -> Q (.ref p) (upd H p (.tup (xs ++ ys))))
theorem Vals.rM {xs:List V} {us:List Value} (r:Vals xs us):us = [] ↔ xs = []:=by
 cases r with
 | nil=>simp
 | cons _ _=>simp
theorem EB:jX X (binaryOp .Add) (M4 X.K):=by
 intro pins s σ H x y v u Q I rx ry h
 obtain ⟨a,b,xs,ys,rfl,rfl,ha,hb,hx,hz,q1,q2⟩:=h
 cases rx
 cases ry
 obtain ⟨ai,r1,p1,_⟩:=I.tuple ha
 obtain ⟨wx,r2,p2,_⟩:=I.tuple hb
 refine HT.FR p1 p2 (λz=>hx (r1.rM.mp z)) (λz=>⟨.ref a,H,I,rfl,q1 (r2.rM.mp z)⟩) (λz=>?_) (by rw [<- r1.length,<- r2.length];exact hz)
 refine ⟨.ref s.heap.objs.size,_,I.laid (t':=s.toks) (o:=.tup (xs ++ ys)) (λb ob q=>Heap.get?_push_of_some _ q) (Nat.le_refl _) ?_,rfl,q2 (λw=>z (r2.rM.mpr w)) _ (I.cX.fresh (Nat.le_refl _))⟩
 exact ⟨by rw [List.length_append];exact hz,_,r1.append r2,IsTup.new _ _⟩
end
end L2
namespace L2
open PySem PySem.Spec PyProof.Rows
noncomputable def tm (n:Nat) (i:Int):Option Nat:=if 0 <= i then (if i < n then some i.toNat else none) else if -(n:Int) <= i then some (i + n).toNat else none
noncomputable def L5 {α:Type} (xs:List α) (i:Int):Option α:=(tm xs.length i).bind λj=>xs[j]?
theorem rX {n:Nat} {i:Int} {j:Nat} (h:tm n i = some j):seqIndex? i n = some j /\ j < n /\ -(n:Int) <= i /\ i < n:=by
 unfold tm at h
 by_cases h0:0 <= i
 ·rw [if_pos h0] at h
  by_cases h1:i < n
  ·rw [if_pos h1] at h
   have e:i.toNat = j:=Option.some.inj h
   exact ⟨by rw [seqIndex_of h0 h1,e],by omega,by omega,h1⟩
  ·rw [if_neg h1] at h;cases h
 ·rw [if_neg h0] at h
  by_cases h1:-(n:Int) <= i
  ·rw [if_pos h1] at h
   have e:(i + n).toNat = j:=Option.some.inj h
   exact ⟨by rw [seqIndex_neg (by omega) h1,e],by omega,h1,by omega⟩
  ·rw [if_neg h1] at h;cases h
theorem yW {α:Type} {xs:List α} {i:Int} {v:α} (h:L5 xs i = some v):∃ j,seqIndex? i xs.length = some j /\ xs[j]? = some v /\ j < xs.length /\ -(xs.length:Int) <= i /\ i < xs.length:=by
 unfold L5 at h
 cases e:tm xs.length i with
 | none=>rw [e] at h;cases h
 | some j =>
  rw [e] at h
  obtain ⟨h1,h2,h3,h4⟩:=rX e
  exact ⟨j,h1,h,h2,h3,h4⟩
noncomputable def nj (b:Expr):Prop:=∀ o i,subscripted b false o i = operate [o,i] (getItem o i)
noncomputable def Hv (X:Cx) (r:R2):Prop :=
 ∀ (value slice:Expr) (pins:List (Addr × Obj)) (s:Shared) (σ:St) (H:Hp) (x y:V) (v u:Value) (Q:VK),Inv X pins σ H s -> RelV x v -> RelV y u -> r x y H Q ->
  subscripted slice false v u = operate [v,u] (getItem v u) -> wpAny (model X.prog X.w) X.A (subscriptTail value slice v u) (EP X pins σ Q) X.xe s
noncomputable def MtR (X:Cx) (id:String) (r:V -> List V -> Hp -> VK -> Prop):Prop :=
 ∀ (pins:List (Addr × Obj)) (s:Shared) (σ:St) (H:Hp) (x:V) (xs:List V) (v:Value) (us:List Value) (Q:VK),Inv X pins σ H s -> RelV x v -> Vals xs us -> r x xs H Q ->
  wpAny (model X.prog X.w) X.A (call (.builtin id) (v :: us)) (EP X pins σ Q) X.xe s
section
variable {X:Cx} {a b:Expr} {ta tb:TE} {pos:Pos}
theorem Hv.or {r r':R2} (h:Hv X r) (h':Hv X r'):Hv X (λx y H Q=>r x y H Q \/ r' x y H Q):=by
 intro value slice pins s σ H x y v u Q I rx ry q hs
 rcases q with q | q
 ·exact h value slice pins s σ H x y v u Q I rx ry q hs
 ·exact h' value slice pins s σ H x y v u Q I rx ry q hs
theorem GS {r:R2} (hr:Hv X r) (ha:PE X a ta) (hb:PE X b tb) (hs:nj b):PE X (.Subscript a b pos) (Gu r ta tb):=by
 intro pins s σ H Q I h
 exact Subscript_ (Lg ha hb I h λv u s2 x y H2 I2 rx ry q=>hr a b pins s2 σ H2 x y v u Q I2 rx ry q (hs _ _))
noncomputable def Td (K:PySem.W.Frag):R2:=λx y H Q=>∃ p xs i v,x = .ref p /\ y = .int i /\ dw K H p xs /\ L5 xs i = some v /\ Q v H
noncomputable def Tc (K:PySem.W.Frag):R2:=λx y H Q=>∃ p xs i v,x = .ref p /\ y = .int i /\ aC K H p xs /\ L5 xs i = some v /\ Q v H
theorem EV:Hv X (Td X.K):=by
 intro value slice pins s σ H x y v u Q I rx ry h hs
 obtain ⟨p,xs,i,z,rfl,rfl,hq,he,q⟩:=h
 cases rx
 obtain ⟨t,rfl⟩:=ry
 obtain ⟨ai,r,pl,hz⟩:=I.list hq
 obtain ⟨j,h1,h2,h3,h4,h5⟩:=yW he
 obtain ⟨w,ew,mT⟩:=r.get h2
 have hl:=r.length
 have hn:=rR
 have fin:EP X pins σ Q w s:=⟨z,H,I,mT,q⟩
 by_cases h0:0 <= i
 ·have hj:i.toNat = j:=by
   rw [seqIndex_of h0 h5] at h1
   exact Option.some.inj h1
  exact item_listR pl.isList h0 (by omega) (by rw [hj];simpa using ew) fin hs
 ·have hj:(i + (ai.toArray.size:Int)).toNat = j:=by
   rw [seqIndex_neg (by omega) h4] at h1
   rw [List.size_toArray,<- hl]
   exact Option.some.inj h1
  exact subscriptTail_builtinR (x:=w) pl.isList.typeIs slot_list_getitem.lookup
   (wpAny_getItem_list_neg (Q:=λr s'=>r = w /\ EP X pins σ Q r s') pl.isList (by omega) (by rw [List.size_toArray] <;> omega) (by omega) (by rw [hj];simpa using ew) ⟨rfl,fin⟩) hs
theorem Jz:Hv X (Tc X.K):=by
 intro value slice pins s σ H x y v u Q I rx ry h hs
 obtain ⟨p,xs,i,z,rfl,rfl,hq,he,q⟩:=h
 cases rx
 obtain ⟨t,rfl⟩:=ry
 obtain ⟨ai,r,pl,hz⟩:=I.tuple hq
 obtain ⟨j,h1,h2,h3,h4,h5⟩:=yW he
 obtain ⟨w,ew,mT⟩:=r.get h2
 have hl:=r.length
 have hn:=rR
 have fin:EP X pins σ Q w s:=⟨z,H,I,mT,q⟩
 exact subscriptTail_builtinR (x:=w) pl.typeIs slot_tuple_getitem.lookup
  (getItem_tuple (j:=j) (Q:=λr s'=>r = w /\ EP X pins σ Q r s') pl (by omega) (by omega) (by rw [List.size_toArray,<- hl];exact h1) (by simpa using ew) ⟨rfl,fin⟩) hs
theorem wg (ai:List Value) (n j:Nat) (u:Value):Obj.mapSeq (·.setIfInBounds j u) { cls:=.type "list",data:=.seq ai.toArray n } = { cls:=.type "list",data:=.seq (ai.set j u).toArray n }:=by
 simp [Obj.mapSeq]
theorem Inv.lst {pins:List (Addr × Obj)} {σ:St} {H:Hp} {s:Shared} {p:Addr} {xs:List V} (I:Inv X pins σ H s) (h:H p = some (.lst xs)) :
  ∃ (ai:List Value) (n:Nat),Vals xs ai /\ s.heap.get? p = some { cls:=.type "list",data:=.seq ai.toArray n } /\ xs.length <= sizeLine:=by
 obtain ⟨z,ai,n,r,e⟩:=I.cX p _ h
 exact ⟨ai,n,r,e,z⟩
theorem Inv.Jp {pins:List (Addr × Obj)} {σ:St} {H:Hp} {s:Shared} {p:Addr} {xs ys:List V} {ai its':List Value} {n n':Nat} {f:Obj -> Obj} (I:Inv X pins σ H s) (h:H p = some (.lst xs))
  (ho:s.heap.get? p = some { cls:=.type "list",data:=.seq ai.toArray n }) (hf:f { cls:=.type "list",data:=.seq ai.toArray n } = { cls:=.type "list",data:=.seq its'.toArray n' }) (r:Vals ys its') (hz:ys.length <= sizeLine) (t:Nat) :
  Inv X pins σ (upd H p (.lst ys)) { s with heap:=s.heap.update p f,toks:=t }:=by
 have e:(s.heap.update p f).get? p = some { cls:=.type "list",data:=.seq its'.toArray n' }:=by
  rw [Heap.get?_update_self f ho (by rw [hf] <;> rfl),hf]
 refine I.write (x:=p) (e:=p) (by rw [h];trivial) (.inl rfl) (λb u hb q=>(Heap.get?_update_other _ _ (Ne.symm hb)).trans q) ⟨_,e⟩ ?_
 exact ⟨hz,its',n',r,e⟩
noncomputable def M0:V -> V -> V -> Hp -> (Hp -> Prop) -> Prop:=λo i v H Q=>∃ p xs k j,o = .ref p /\ i = .int k /\ H p = some (.lst xs) /\ tm xs.length k = some j /\ Q (upd H p (.lst (xs.set j v)))
theorem set_list:Ql X M0:=by
 intro pins s σ H o i v ov iv u Q I ro ri rv h
 obtain ⟨p,xs,k,j,rfl,rfl,hp,hj,q⟩:=h
 cases ro
 obtain ⟨t,rfl⟩:=ri
 obtain ⟨ai,n,r,ho,hz⟩:=I.lst hp
 obtain ⟨h1,h2,h3,h4⟩:=rX hj
 have hl:=r.length
 have hn:=rR
 have I':Inv X pins σ (upd H p (.lst (xs.set j v))) { s with heap:=s.heap.update p (Obj.mapSeq (·.setIfInBounds j u)) } :=
  I.Jp hp ho (wg ai n j u) (r.set rv j) (by rw [List.length_set];exact hz) s.toks
 by_cases h0:0 <= k
 ·have hk:k.toNat = j:=by
   rw [seqIndex_of h0 h4] at h1
   exact Option.some.inj h1
  exact PySem.W.ki_setAt ho h0 (by omega) (by rw [List.size_toArray,<- hl];exact h4) (by rw [hk];exact ⟨_,I',q⟩)
 ·have hk:(k + (ai.toArray.size:Int)).toNat = j:=by
   rw [seqIndex_neg (by omega) h3] at h1
   rw [List.size_toArray,<- hl]
   exact Option.some.inj h1
  exact PySem.W.ki_setBack ho (by omega) (by rw [List.size_toArray,<- hl];exact h3) (by omega) (by rw [hk];exact ⟨_,I',q⟩)
theorem rn (lo hi:Option Int) (n:Nat):(sliceBounds lo hi none n).1 = ((HT.v9 n 0 lo:Nat):Int) /\ (sliceBounds lo hi none n).2.1 = ((HT.v9 n n hi:Nat):Int) /\ (sliceBounds lo hi none n).2.2 = 1:=by
 refine ⟨?_,?_,rfl⟩
 ·cases lo with
  | none=>simp [sliceBounds,HT.v9]
  | some i =>
   simp only [sliceBounds,HT.v9,Option.getD_none,show (1:Int) > 0 by decide,if_true]
   by_cases h:i < 0
   ·simp only [h,if_true] <;> omega
   ·simp only [h,if_false] <;> omega
 ·cases hi with
  | none=>simp [sliceBounds,HT.v9]
  | some i =>
   simp only [sliceBounds,HT.v9,Option.getD_none,show (1:Int) > 0 by decide,if_true]
   by_cases h:i < 0
   ·simp only [h,if_true] <;> omega
   ·simp only [h,if_false] <;> omega
theorem pJ (ai:List Value) (lo hi:Option Int):slicePick ai.toArray lo hi none = ((ai.drop (HT.v9 ai.length 0 lo)).take (HT.v9 ai.length ai.length hi - HT.v9 ai.length 0 lo)).toArray:=by
 obtain ⟨h1,h2,h3⟩:=rn lo hi ai.toArray.size
 unfold slicePick
 rw [h1,h2,h3]
 simp only [sliceRange_one,pick_run,List.size_toArray] <;> rfl
noncomputable def Ta (K:PySem.W.Frag):V -> Option Int -> Option Int -> Hp -> VK -> Prop:=λx lo hi H Q=>∃ a xs,x = .ref a /\ dw K H a xs /\ ∀ p,H p = none -> Q (.ref p) (upd H p (.lst (FL xs lo hi)))
theorem xE:SlR X (Ta X.K):=by
 intro pins s σ H x v vl vu lo hi sl Q I rx hs pl pu h
 obtain ⟨a,xs,rfl,hx,q⟩:=h
 cases rx
 obtain ⟨ai,r,ht,hz⟩:=I.list hx
 have hlen:=r.length
 refine ⟨"list",_,slot_list_getitem.lookup,ht.isList.typeIs,?_⟩
 refine wpAny_getItem_list_slice ht.isList hs pl pu .none (by simp) ?_ (by rw [List.size_toArray] <;> omega)
 rw [pJ,<- hlen]
 refine ⟨.ref s.heap.objs.size,_,I.laid (t':=s.toks) (o:=.lst (FL xs lo hi)) (λb ob q=>Heap.get?_push_of_some _ q) (Nat.le_refl _) ?_,rfl,q _ (I.cX.fresh (Nat.le_refl _))⟩
 exact ⟨Nat.le_trans (va xs lo hi) hz,_,0,(r.drop (HT.v9 xs.length 0 lo)).take (HT.v9 xs.length xs.length hi - HT.v9 xs.length 0 lo),Heap.get?_push_size _ rfl⟩
noncomputable def i7:V -> Bool
 | .bA=>true
 | .bl _=>true
 | .int _=>true
 | .str _=>true
 | _=>false
noncomputable def Dt:V -> V -> Bool
 | .bA,.bA=>true
 | .bl a,.bl b=>a == b
 | .bl a,.int b=>(if a then 1 else 0) == b
 | .int a,.bl b=>a == (if b then 1 else 0)
 | .int a,.int b=>a == b
 | .str a,.str b=>a == b
 | _,_=>false
theorem KQ {A:Around} {s:Shared} {y x:V} {u v:Value} (ry:RelV y u) (rx:RelV x v) (fy:i7 y = true) (fx:i7 x = true):SeqAt.EqAt A s u v (Dt y x):=by
 cases y with
 | bA =>
  cases ry
  cases x with
  | bA=>cases rx;exact SeqAt.EqAt.same _
  | bl b=>cases rx;exact SeqAt.EqAt.none_bool b
  | int b=>obtain ⟨t,rfl⟩:=rx;exact SeqAt.EqAt.none_int b t
  | str b=>obtain ⟨t,rfl⟩:=rx;exact SeqAt.EqAt.none_str b t
  | _=>exact absurd (show false = true from fx) Bool.false_ne_true
 | bl a =>
  cases ry
  cases x with
  | bA=>cases rx;exact SeqAt.EqAt.bool_none a
  | bl b=>cases rx;exact SeqAt.EqAt.bool_bool a b
  | int b=>obtain ⟨t,rfl⟩:=rx;exact SeqAt.EqAt.bool_int a b t
  | str b=>obtain ⟨t,rfl⟩:=rx;exact SeqAt.EqAt.bool_str a b t
  | _=>exact absurd (show false = true from fx) Bool.false_ne_true
 | int a =>
  obtain ⟨t',rfl⟩:=ry
  cases x with
  | bA=>cases rx;exact SeqAt.EqAt.int_none a t'
  | bl b=>cases rx;exact SeqAt.EqAt.int_bool a t' b
  | int b=>obtain ⟨t,rfl⟩:=rx;exact SeqAt.EqAt.int_int a t' b t
  | str b=>obtain ⟨t,rfl⟩:=rx;exact SeqAt.EqAt.int_str a t' b t
  | _=>exact absurd (show false = true from fx) Bool.false_ne_true
 | str a =>
  obtain ⟨t',rfl⟩:=ry
  cases x with
  | bA=>cases rx;exact SeqAt.EqAt.str_none a t'
  | bl b=>cases rx;exact SeqAt.EqAt.str_bool a t' b
  | int b=>obtain ⟨t,rfl⟩:=rx;exact SeqAt.EqAt.str_int a t' b t
  | str b=>obtain ⟨t,rfl⟩:=rx;exact SeqAt.EqAt.str_str a t' b t
  | _=>exact absurd (show false = true from fx) Bool.false_ne_true
 | _=>exact absurd (show false = true from fy) Bool.false_ne_true
noncomputable def wQ (x:V) (u:Value):Bool:=match u with
 | .none=>Dt .bA x
 | .bool b=>Dt (.bl b) x
 | .int i _=>Dt (.int i) x
 | .str z _=>Dt (.str z) x
 | _=>false
theorem Cu {x y:V} {u:Value} (r:RelV y u) (f:i7 y = true):wQ x u = Dt y x:=by
 cases y with
 | bA=>cases r;rfl
 | bl b=>cases r;rfl
 | int i=>obtain ⟨t,rfl⟩:=r;rfl
 | str z=>obtain ⟨t,rfl⟩:=r;rfl
 | _=>exact absurd (show false = true from f) Bool.false_ne_true
theorem kX {x:V}:∀ {xs:List V} {us:List Value},Vals xs us -> xs.all i7 = true -> us.any (wQ x) = xs.any λy=>Dt y x
 | _,_,.nil,_=>rfl
 | y :: xs,u :: us,.cons r t,f=>by
  rw [List.all_cons,Bool.and_eq_true] at f
  rw [List.any_cons,List.any_cons,Cu r f.1,kX t f.2]
theorem iW {A:Around} {s:Shared} {x:V} {v:Value} (rx:RelV x v) (fx:i7 x = true):∀ {xs:List V} {us:List Value},Vals xs us -> xs.all i7 = true -> ∀ u ∈ us,SeqAt.EqAt A s u v (wQ x u)
 | _,_,.nil,_=>λu hu=>by cases hu
 | y :: xs,u :: us,.cons r t,f=>λu' hu=>by
  rw [List.all_cons,Bool.and_eq_true] at f
  rcases List.mem_cons.mp hu with rfl | hu
  ·rw [Cu r f.1];exact KQ r rx f.1 fx
  ·exact iW rx fx t f.2 u' hu
noncomputable def QU (x:V) (xs:List V):Bool:=xs.any λy=>Dt y x
noncomputable def Tf (K:PySem.W.Frag) (neg:Bool):R2:=λx y H Q=>∃ p xs,y = .ref p /\ (dw K H p xs \/ aC K H p xs) /\ i7 x = true /\ xs.all i7 = true /\ Q (.bl (if neg then !QU x xs else QU x xs)) H
theorem zA:jX X (compareOp .In) (Tf X.K false):=by
 intro pins s σ H x y v u Q I rx ry h
 obtain ⟨p,xs,rfl,hq,fx,fs,q⟩:=h
 cases ry
 rcases hq with hq | hq
 ·obtain ⟨ai,r,pl,hz⟩:=I.list hq
  refine SeqAt.in_listAt (wQ x) pl.isList (λw hw=>iW rx fx r fs w (by simpa using hw)) ⟨.bl _,H,I,rfl,?_⟩
  rw [show ai.toArray.any (wQ x) = ai.any (wQ x) by simp,kX r fs]
  exact q
 ·obtain ⟨ai,r,pl,hz⟩:=I.tuple hq
  refine SeqAt.in_tupleAt (wQ x) pl (λw hw=>iW rx fx r fs w (by simpa using hw)) ⟨.bl _,H,I,rfl,?_⟩
  rw [show ai.toArray.any (wQ x) = ai.any (wQ x) by simp,kX r fs]
  exact q
theorem Ez:jX X (compareOp .NotIn) (Tf X.K true):=by
 intro pins s σ H x y v u Q I rx ry h
 obtain ⟨p,xs,rfl,hq,fx,fs,q⟩:=h
 cases ry
 rcases hq with hq | hq
 ·obtain ⟨ai,r,pl,hz⟩:=I.list hq
  refine SeqAt.notIn_listAt (wQ x) pl.isList (λw hw=>iW rx fx r fs w (by simpa using hw)) ⟨.bl _,H,I,rfl,?_⟩
  rw [show ai.toArray.any (wQ x) = ai.any (wQ x) by simp,kX r fs]
  exact q
 ·obtain ⟨ai,r,pl,hz⟩:=I.tuple hq
  refine SeqAt.notIn_tupleAt (wQ x) pl (λw hw=>iW rx fx r fs w (by simpa using hw)) ⟨.bl _,H,I,rfl,?_⟩
  rw [show ai.toArray.any (wQ x) = ai.any (wQ x) by simp,kX r fs]
  exact q
theorem sP:gi X (.builtin "len") (λxs H Q=>∃ p ys,xs = [.ref p] /\ (dw X.K H p ys \/ aC X.K H p ys) /\ Q (.int ys.length) H):=by
 intro pins s σ H xs us Q I r h
 obtain ⟨p,ys,rfl,hq,q⟩:=h
 obtain ⟨u,rfl,rx⟩:=vals1 r
 cases rx
 have hn:=rR
 rcases hq with hq | hq
 ·obtain ⟨ai,r',pl,hz⟩:=I.list hq
  have hlen:=r'.length
  exact Calls.call_len_list pl.isList (by simp only [List.size_toArray] <;> omega) ⟨.int ys.length,H,I.tok _,⟨s.toks + 1,by rw [List.size_toArray,hlen]⟩,q⟩
 ·obtain ⟨ai,r',pl,hz⟩:=I.tuple hq
  have hlen:=r'.length
  exact len_tuple pl (by simp only [List.size_toArray] <;> omega) ⟨.int ys.length,H,I.tok _,⟨s.toks + 1,by rw [List.size_toArray,hlen]⟩,q⟩
theorem sO:gi X (.type "list") (λxs H Q=>∃ p ys,xs = [.ref p] /\ (dw X.K H p ys \/ aC X.K H p ys) /\ ∀ l,H l = none -> Q (.ref l) (upd H l (.lst ys))):=by
 intro pins s σ H xs us Q I r h
 obtain ⟨p,ys,rfl,hq,q⟩:=h
 obtain ⟨u,rfl,rx⟩:=vals1 r
 cases rx
 have fin:∀ (ai:List Value),Vals ys ai -> ys.length <= sizeLine -> ∀ (h':Heap) (c':Nat),(∀ b o',s.heap.get? b = some o' -> h'.get? b = some o') ->
   h'.get? s.heap.objs.size = some { cls:=.type "list",dict:=none,data:=.seq ai.toArray c',slots:=#[] } -> EP X pins σ Q (.ref s.heap.objs.size) { s with heap:=h' }:=λai r' hz h' c' kp e =>
  ⟨.ref s.heap.objs.size,_,I.laid (t':=s.toks) kp (Nat.le_refl _) (show cF X.prog X.w _ h' _ (.lst ys) from ⟨hz,ai,c',r',e⟩),rfl,q _ (I.cX.fresh (Nat.le_refl _))⟩
 rcases hq with hq | hq
 ·obtain ⟨ai,r',pl,hz⟩:=I.list hq
  have hlen:=r'.length
  obtain ⟨o,ho,hc,n,hd⟩:=pl.isList
  exact call_list_seq p (.inl rfl) ho hc hd (λh' c' kp e=>fin ai r' hz h' c' kp e) (by simp only [List.size_toArray] <;> omega)
 ·obtain ⟨ai,r',pl,hz⟩:=I.tuple hq
  have hlen:=r'.length
  obtain ⟨o,ho,hc,n,hd⟩:=pl
  exact call_list_seq p (.inr rfl) ho hc hd (λh' c' kp e=>fin ai r' hz h' c' kp e) (by simp only [List.size_toArray] <;> omega)
theorem qj:gi X (.type "tuple") (λxs H Q=>∃ p ys,xs = [.ref p] /\ ((dw X.K H p ys /\ ∀ l,H l = none -> Q (.ref l) (upd H l (.tup ys))) \/ (aC X.K H p ys /\ Q (.ref p) H))):=by
 intro pins s σ H xs us Q I r h
 obtain ⟨p,ys,rfl,h⟩:=h
 obtain ⟨u,rfl,rx⟩:=vals1 r
 cases rx
 rcases h with ⟨hq,q⟩ | ⟨hq,q⟩
 ·obtain ⟨ai,r',pl,hz⟩:=I.list hq
  have hlen:=r'.length
  refine call_tuple_list pl.isList (λh' kp=>?_) (by simp only [List.size_toArray] <;> omega)
  have I1:Inv X pins σ H { s with heap:=h' }:=I.kept (t':=s.toks) kp
  have I2:Inv X pins σ (upd H h'.objs.size (.tup ys)) { s with heap:=h'.push { cls:=.type "tuple",data:=.seq ai.toArray } } :=
   I1.laid (t':=s.toks) (λb o e=>Heap.get?_push_of_some _ e) (Nat.le_refl _) (show cF X.prog X.w _ _ _ (.tup ys) from ⟨hz,ai,r',IsTup.new _ _⟩)
  exact ⟨.ref h'.objs.size,_,I2,rfl,q _ (I1.cX.fresh (Nat.le_refl _))⟩
 ·obtain ⟨ai,r',pl,hz⟩:=I.tuple hq
  exact call_tuple_same pl ⟨.ref p,H,I,rfl,q⟩
noncomputable def tyV (K:PySem.W.Frag) (T:String) (x:V) (H:Hp):Prop:=match x with
 | .str _=>T = "str"
 | .int _=>T = "int"
 | .ref p=>(T = "list" /\ ∃ xs,dw K H p xs) \/ (T = "tuple" /\ ∃ o,K.lookup p = some o /\ o.cls = .type "tuple" /\ o.dict = none) \/
   (T = "dict" /\ ((∃ oi,H p = some (.dK oi)) \/ ∃ oi,H p = some (.dT oi))) \/ (T = "set" /\ ∃ S n,H p = some (.set S n))
 | _=>False
theorem HJ {pins:List (Addr × Obj)} {σ:St} {H:Hp} {s:Shared} {T:String} {x:V} {v:Value} (I:Inv X pins σ H s) (r:RelV x v) (ty:tyV X.K T x H) :
  s.TypeIs v T /\ ∀ a,v = .ref a -> ∃ ob,s.heap.get? a = some ob /\ ob.dict = none:=by
 cases x with
 | str z =>
  obtain ⟨t,rfl⟩:=r
  cases (show T = "str" from ty)
  exact ⟨typeIs_str s z t,λ_ e=>nomatch e⟩
 | int i =>
  obtain ⟨t,rfl⟩:=r
  cases (show T = "int" from ty)
  exact ⟨typeIs_int s i t,λ_ e=>nomatch e⟩
 | ref p =>
  cases r
  rcases ty with ⟨rfl,xs,hq⟩ | ⟨rfl,o,hk,hc,hd⟩ | ⟨rfl,hk⟩ | ⟨rfl,S,n,hk⟩
  ·obtain ⟨ai,_,pl,_⟩:=I.list hq
   refine ⟨pl.isList.typeIs,λa e=>?_⟩
   cases e
   obtain ⟨o,n,e,c,hd,_⟩:=pl
   exact ⟨o,e,hd⟩
  ·refine ⟨⟨o,I.zE p o hk,hc⟩,λa e=>?_⟩
   cases e
   exact ⟨o,I.zE _ o hk,hd⟩
  ·have z:∃ o,s.heap.get? p = some o /\ o.ExactDict:=by
    rcases hk with ⟨oi,hk⟩ | ⟨oi,hk⟩
    ·obtain ⟨_,_,_,_,o,_,_,e,ex,_⟩:=I.cX p _ hk
     exact ⟨o,e,ex⟩
    ·obtain ⟨_,_,_,_,o,_,_,e,ex,_⟩:=I.cX p _ hk
     exact ⟨o,e,ex⟩
   obtain ⟨o,e,ex⟩:=z
   refine ⟨⟨o,e,ex.1⟩,λa e2=>?_⟩
   cases e2
   exact ⟨o,e,ex.2.1⟩
  ·obtain ⟨o,_,_,_,e,ex,_⟩:=I.cX p _ hk
   refine ⟨⟨o,e,ex.1⟩,λa e2=>?_⟩
   cases e2
   exact ⟨o,e,ex.2.1⟩
 | _=>exact False.elim ty
noncomputable def tBM (K:PySem.W.Frag) (T:String) (r:V -> List V -> Hp -> VK -> Prop) (to:TE) (t:TA):TE:=λσ H Q=>to σ H λx H1=>tyV K T x H1 /\ t σ H1 λxs H2=>r x xs H2 Q
variable {o e:Expr} {es:List Expr} {to:TE} {t:TA} {name:Str} {apos wZ:Pos} {T id:String} {r:V -> List V -> Hp -> VK -> Prop}
theorem GU (pa:PlainAttrs T) (slot:Slot T name id) (hty:typeOf (.builtin id) = pure (.type "method_descriptor")) (hm:MtR X id r) (ho:PE X o to) (ha:PA X (e :: es) t)
  (OC:attributeBase o name X.env (eval o X.env) = eval o X.env:=by rfl)
  (hfew:((backTo wZ (starEach (e :: es) X.env)).all (λx=>!x.1) && (backToKw wZ (keywordEach [] X.env)).all (λx=>x.1.isSome)
   && decide ((e :: es).length + ([]:List Keyword).length + (if ([]:List Keyword).isEmpty then 0 else 1) < 30)) = true:=by rfl)
  (hline:(apos.endLine == wZ.line) = true:=by rfl) (hs:starEach (e :: es) X.env = (false,eval e X.env) :: starEach es X.env:=by rfl) (JQ:(backTo wZ (starEach es X.env)).any (·.1) = false:=by rfl) :
  PE X (.Call (.Attribute o name apos) (e :: es) [] wZ) (tBM X.K T r to t):=by
 intro pins s σ H Q I h
 refine wpAny_Call_method_late OC hfew hline rfl (dh (ho pins s σ H _ I h) λv s1 ⟨x,H1,I1,r1,ty,q1⟩=>?_)
 obtain ⟨h1,h2⟩:=HJ I1 r1 ty
 refine ⟨T,id,pa,slot,hty,h1,h2,?_⟩
 have hA:=ha wZ pins s1 σ H1 _ I1 q1
 rw [hs] at hA ⊢
 refine Calls.callWith_builtin (by show (false || (backTo wZ (starEach es X.env)).any (·.1)) = false;rw [JQ] <;> rfl) (Calls.evalArgs_plain ?_)
 exact dh hA λus s2 ⟨vs,H2,I2,r2,q2⟩=>hm pins s2 σ H2 x vs v us Q I2 r1 r2 q2
/- xs.append(e),list.index on a module's tuple .. are MtR facts of 06m -/
end
end L2
namespace L2
open PySem PySem.Spec PyProof.Rows
noncomputable def MtM (X:Cx) (id:String) (r:V -> List V -> Hp -> VK -> Prop):Prop :=
 ∀ (pins:List (Addr × Obj)) (s:Shared) (σ:St) (H:Hp) (x:V) (xs:List V) (v:Value) (us:List Value) (Q:VK),Inv X pins σ H s -> RelV x v -> Vals xs us -> r x xs H Q ->
  wpAny (model X.prog X.w) X.A (call (.builtin id) (v :: us)) (EP X pins σ Q) X.xe s
theorem Vals.one:∀ {x:V} {us:List Value},Vals [x] us -> ∃ u,us = [u] /\ RelV x u
 | _,_,.cons r .nil=>⟨_,rfl,r⟩
theorem Vals.eraseIdx:∀ {xs:List V} {us:List Value} (i:Nat),Vals xs us -> Vals (xs.eraseIdx i) (us.eraseIdx i)
 | _,_,_,.nil=>.nil
 | _,_,0,.cons _ t=>t
 | _,_,i + 1,.cons r t=>.cons r (Vals.eraseIdx i t)
theorem Vals.rep {xs:List V} {us:List Value} (h:Vals xs us):∀ k:Nat,Vals (List.replicate k xs).flatten (List.replicate k us).flatten
 | 0=>.nil
 | k + 1=>by
  rw [List.replicate_succ,List.replicate_succ,List.flatten_cons,List.flatten_cons]
  exact Vals.append h (Vals.rep h k)
theorem qJ {α:Type}:∀ (l:List α) (i:Nat),(l.eraseIdx i).length <= l.length
 | [],_=>Nat.le_refl _
 | _ :: _,0=>Nat.le_succ _
 | _ :: r,i + 1=>Nat.succ_le_succ (qJ r i)
theorem foldl_rep (ai:List Value):∀ (k:Nat) (acc:List Value),
  List.foldl (λx1 x2=>x1 ++ x2) acc.toArray (List.replicate k ai.toArray) = (acc ++ (List.replicate k ai).flatten).toArray
 | 0,acc=>by simp
 | k + 1,acc=>by
  have e:acc.toArray ++ ai.toArray = (acc ++ ai).toArray:=by simp
  have e2:(acc ++ ai) ++ (List.replicate k ai).flatten = acc ++ (List.replicate (k + 1) ai).flatten:=by
   rw [List.replicate_succ,List.flatten_cons,List.append_assoc]
  rw [<- e2,<- foldl_rep ai k (acc ++ ai),<- e,List.replicate_succ,List.foldl_cons]
section
variable {X:Cx} {pins:List (Addr × Obj)} {σ:St} {H:Hp} {s:Shared} {l b:Addr} {xs ys zs:List V}
theorem Inv.lH {ai its':List Value} {n:Nat} {f:Array Value -> Array Value} {t':Nat} (I:Inv X pins σ H s) (hH:H l = some (.lst xs))
  (e:s.heap.get? l = some { cls:=.type "list",data:=.seq ai.toArray n }) (hf:f ai.toArray = its'.toArray) (hv:Vals ys its') (hz:ys.length <= sizeLine) :
  Inv X pins σ (upd H l (.lst ys)) { s with heap:=s.heap.update l (Obj.mapSeq f),toks:=t' }:=by
 have q:=PySem.IsL.update e f
 rw [hf] at q
 refine I.write (x:=l) (e:=l) (by rw [hH];exact trivial) (.inl rfl) (λb' u hb hu=>(Heap.get?_update_other s.heap (Obj.mapSeq f) (Ne.symm hb)).trans hu) ⟨_,q⟩ ?_
 exact ⟨hz,its',_,hv,q⟩
theorem Inv.Js {ai:List Value} {t':Nat} (I:Inv X pins σ H s) (hv:Vals ys ai) (hz:ys.length <= sizeLine) :
  Inv X pins σ (upd H s.heap.objs.size (.lst ys)) { s with heap:=s.heap.push { cls:=.type "list",data:=.seq ai.toArray },toks:=t' } :=
 I.laid (λ_ _ q=>Heap.get?_push_of_some _ q) (Nat.le_refl _) ⟨hz,ai,0,hv,Heap.get?_push_size _ rfl⟩
theorem Inv.fresh (I:Inv X pins σ H s):H s.heap.objs.size = none:=I.cX.fresh (Nat.le_refl _)
theorem Inv.BU (I:Inv X pins σ H s) (hH:H l = some (.lst xs)):xs.length <= sizeLine /\ ∃ (ai:List Value) (n:Nat),Vals xs ai /\ xs.length = ai.length /\ s.heap.get? l = some { cls:=.type "list",data:=.seq ai.toArray n }:=by
 obtain ⟨z,ai,n,r,e⟩:=I.cX l _ hH
 exact ⟨z,ai,n,r,r.length,e⟩
theorem BF {n:Nat} (h:n <= sizeLine):Builtin.List.listTooLong n = false:=by
 unfold Builtin.List.listTooLong
 exact decide_eq_false (by omega)
end
section
variable {X:Cx}
noncomputable def Ej:V -> List V -> Hp -> VK -> Prop:=λx vs H Q=>∃ l xs y,x = .ref l /\ vs = [y] /\ H l = some (.lst xs) /\ xs.length < sizeLine /\ Q .bA (upd H l (.lst (xs ++ [y])))
theorem zB:MtM X "list.append" Ej:=by
 intro pins s σ H x vs v us Q I rx rv h
 obtain ⟨l,xs,y,rfl,rfl,hH,hz,q⟩:=h
 cases rx
 obtain ⟨u,rfl,ru⟩:=rv.one
 obtain ⟨z,ai,n,r,hl,e⟩:=I.BU hH
 refine call_meets F.slot_list_append ⟨_,e,rfl⟩ F.entry_list_append (F.args_list_append_2 _ _) (PySem.list_append l ai.toArray n u (by rw [List.size_toArray];omega)) ⟨e,?_⟩
 refine ⟨.bA,_,I.lH (its':=ai ++ [u]) hH e (by simp) (r.append (.cons ru .nil)) ?_,rfl,q⟩
 rw [List.length_append,List.length_singleton]
 omega
noncomputable def Iv:V -> List V -> Hp -> VK -> Prop:=λx vs H Q=>∃ l xs i k y,x = .ref l /\ vs = [.int i] /\ H l = some (.lst xs) /\ -(2 ^ 63) <= i /\ i < 2 ^ 63 /\ seqIndex? i xs.length = some k /\ xs[k]? = some y /\ Q y (upd H l (.lst (xs.eraseIdx k)))
theorem BN:MtM X "list.pop" Iv:=by
 intro pins s σ H x vs v us Q I rx rv h
 obtain ⟨l,xs,i,k,y,rfl,rfl,hH,h1,h2,hk,hy,q⟩:=h
 cases rx
 obtain ⟨u,rfl,ru⟩:=rv.one
 obtain ⟨t,rfl⟩:=ru
 obtain ⟨z,ai,n,r,hl,e⟩:=I.BU hH
 obtain ⟨w,hw,mT⟩:=r.get hy
 refine call_meets F.slot_list_pop ⟨_,e,rfl⟩ F.entry_list_pop (F.args_list_pop_2 _ _)
  (MeetsSeq.list_pop_at l ai.toArray n i t k w (fitsIndex_both h1 h2) (by rw [List.size_toArray,<- hl];exact hk) (by rw [<- Array.getElem?_toList];exact hw) (by rw [List.size_toArray];omega)) ⟨e,?_⟩
 refine ⟨y,_,I.lH (its':=ai.eraseIdx k) hH e ?_ (r.eraseIdx k) ?_,mT,q⟩
 ·show ai.toArray.eraseIdxIfInBounds k = (ai.eraseIdx k).toArray
  rw [List.eraseIdxIfInBounds_toArray]
 ·have:=qJ xs k
  omega
noncomputable def Th:R2:=λx y H Q=>∃ l b xs zs,x = .ref l /\ y = .ref b /\ H l = some (.lst xs) /\ H b = some (.lst zs) /\ xs.length + zs.length <= sizeLine /\ ∀ p,H p = none -> Q (.ref p) (upd H p (.lst (xs ++ zs)))
theorem I_:jX X (binaryOp .Add) Th:=by
 intro pins s σ H x y v u Q I rx ry h
 obtain ⟨l,b,xs,zs,rfl,rfl,hH,hB,hz,q⟩:=h
 cases rx
 cases ry
 obtain ⟨z,ai,n,r,hl,e⟩:=I.BU hH
 obtain ⟨z2,wx,n2,r2,wD,e2⟩:=I.BU hB
 refine PySem.P.add_list e e2 ?_ (by rw [List.size_toArray,List.size_toArray];omega)
 have ea:ai.toArray ++ wx.toArray = (ai ++ wx).toArray:=by simp
 rw [ea]
 exact ⟨.ref _,_,I.Js (t':=s.toks) (r.append r2) (by rw [List.length_append];omega),rfl,q _ I.fresh⟩
noncomputable def Tb:R2:=λx y H Q=>∃ l k xs,x = .ref l /\ y = .int k /\ H l = some (.lst xs) /\ -(2 ^ 63) <= k /\ k < 2 ^ 63 /\ xs.length * k.toNat <= sizeLine /\
 ∀ p,H p = none -> Q (.ref p) (upd H p (.lst (List.replicate k.toNat xs).flatten))
theorem len_rep {α:Type} (xs:List α) (k:Nat):(List.replicate k xs).flatten.length = k * xs.length:=by
 induction k with
 | zero=>simp
 | succ k ih=>rw [List.replicate_succ,List.flatten_cons,List.length_append,ih,Nat.succ_mul,Nat.add_comm]
theorem IY:jX X (binaryOp .Mult) Tb:=by
 intro pins s σ H x y v u Q I rx ry h
 obtain ⟨l,k,xs,rfl,rfl,hH,h1,h2,hz,q⟩:=h
 cases rx
 obtain ⟨t,rfl⟩:=ry
 obtain ⟨z,ai,n,r,hl,e⟩:=I.BU hH
 have hlen:ai.toArray.size * k.toNat <= sizeLine:=by rw [List.size_toArray,<- hl];exact hz
 have pT:¬ ai.toArray.size * k.toNat > (2 ^ 63 - 1) / 8:=by
  have:(sizeLine:Nat) <= (2 ^ 63 - 1) / 8:=by decide
  omega
 have W3:¬ (!Builtin.List.listFitsIndex k) = true:=by
  rw [fitsIndex_both h1 h2]
  exact Bool.false_ne_true
 have Ol:¬ Builtin.List.listTooLong (ai.toArray.size * k.toNat) = true:=by
  rw [BF hlen]
  exact Bool.false_ne_true
 have JT:List.foldl (λx1 x2=>x1 ++ x2) #[] (List.replicate (if ai.toArray.isEmpty = true then 0 else k.toNat) ai.toArray) = (List.replicate k.toNat ai).flatten.toArray:=by
  have f0:∀ m:Nat,List.foldl (λx1 x2=>x1 ++ x2) #[] (List.replicate m ai.toArray) = (List.replicate m ai).flatten.toArray:=λm=>by
   have:=foldl_rep ai m []
   rw [List.nil_append] at this
   exact this
  rw [f0]
  cases ai with
  | nil=>simp
  | cons a r'=>rw [if_neg (by simp)]
 refine wpAny_binaryOp_repeat_ref (T:="list") (U:="int") (by decide) ⟨_,e,rfl⟩ (λs'=>typeIs_int s' k t) noFill_list_mul F.fills_int_mul F.slot_int_rmul repeat_list F.slot_int_index.lookup
  (call_meets F.slot_int_rmul (typeIs_int s k t) F.entry_int_rmul (F.args_int_rmul_2 _ _) (int___rmul___int_list k t l ai.toArray n)
   ⟨e,rfl,⟨_,e,rfl⟩,call_meets F.slot_list_mul ⟨_,e,rfl⟩ F.entry_list_mul (F.args_list_mul_2 _ _) (AutoListH.list___mul___list_int_3 l ai.toArray n k t W3 pT Ol) ⟨e,?_⟩⟩)
 rw [JT]
 exact ⟨.ref _,_,I.Js (t':=s.toks) (r.rep k.toNat) (by rw [len_rep,Nat.mul_comm];exact hz),rfl,q _ I.fresh⟩
end
section
variable {prog:Program} {w:World} {A:Around} {E:Value -> Shared -> Prop} {s:Shared}
set_option maxRecDepth 100000 in
end
section
variable {X:Cx}
end
end L2
namespace Att
open PySem PySem.W PySem.Calls PyProof.Rows
theorem mJ {P:Params} {h:Heap}:∀ (ns:List Int) (vs:List Value),WellAll P h vs (ns.map WData.int) -> IntsAre vs ns:=by
 intro ns
 induction ns with
 | nil =>
  intro vs w
  rw [List.map_nil] at w
  cases w
  exact .nil
 | cons n ns ih =>
  intro vs w
  rw [List.map_cons] at w
  cases w with
  | cons a b =>
   cases a
   exact .cons _ _ (ih _ b)
theorem zo {l:OpenLaw} {n:Nat} (hn:l.most = some n) {P:Params} {h:Heap} {args:List WData} {vals:List Value}
  (Fd:l.row.toRowW.claim.pre args = true) (Ww:WellAll P h vals args) :
  ∃ a vs ns,vals = [Value.ref a] /\ args = [WData.list (ns.map WData.int)] /\ h.get? a = some { cls:=.type "list",data:=.seq vs.toArray } /\ IntsAre vs ns /\ ns.length <= n:=by
 have hsh:WShape.hasAll [] args [.list .int] = true:=(pre_splitW Fd).1
 have hc:l.pre.holds [] { args:=args } = true:=(pre_splitW Fd).2
 obtain ⟨d,r,rfl,h1,h2⟩:=hasAllW_cons hsh
 obtain rfl:=hasAllW_nil h2
 obtain ⟨xs,rfl,h3⟩:=hasW_list h1
 obtain ⟨ns,rfl⟩:=items_int h3
 have hlen:ns.length <= n:=by
  unfold OpenLaw.pre at hc
  have h4:(WTm.not (.lt (.lit (.int (n:Int))) (.len (.arg 0)))).holds [] { args:=[.list (ns.map .int)] } = true:=by
   have h4:=(holds_andW hc).1
   rw [hn] at h4
   exact h4
  have h5:=condW_of h4 (w_not (w_lt w_lit (w_len_list (w_arg rfl))))
  rw [List.length_map] at h5
  refine Nat.le_of_not_lt λq=>?_
  have q':(n:Int) < ((ns.length:Nat):Int):=by omega
  first
   | (rw [decide_eq_true q'] at h5;exact absurd h5 (by decide))
   | (simp at h5;omega)
 cases Ww with
 | cons w1 w2 =>
  cases w2
  cases w1 with
  | list ho hall=>exact ⟨_,_,ns,rfl,rfl,ho,mJ ns _ hall,hlen⟩
theorem zx (l:OpenLaw) (args:List WData):l.row.toRowW.claim.post args (.bool true) args = true :=
 postW_of (r:=l.row.toRowW) (X:=(true == true))
  (show WShape.has [] (.bool true) .bool = true by first | rfl | decide | simp [WShape.has,WShape.arms,WShape.armsAll])
  (show (WTm.eq .res (.lit (.bool true))).value [] { args:=args,res:=some (.bool true),after:=args } = some (.bool (true == true)) from w_eq_bool (w_res rfl) w_lit) rfl
theorem vw {l:OpenLaw} {n:Nat} {q:Program} {loose:List Str} {XP:(Str -> Option Value) -> Heap -> Prop} {YP:World -> Heap -> Prop} {d:DefRec}
  (hn:l.most = some n) (Ov:d.params.defaults = [])
  (call:∀ (w:World) (s₀ s₁:Shared) (mg mb:Str -> Option Value) (fa:Addr) (o:Obj) (pm cd doc:Value) (a:Addr) (vs:List Value) (ns:List Int),
   Ground q loose [] XP w s₀ mg mb s₁.heap -> YP w s₁.heap ->
   s₁.heap.get? fa = some o -> o.data = .func (docDef d.name d.params d.body d.scope pm cd doc) -> s₁.heap.CodeRec cd d.name -> mg d.name = some (.ref fa) ->
   s₁.heap.get? a = some { cls:=.type "list",data:=.seq vs.toArray } -> IntsAre vs ns -> ns.length <= n -> s₁.gens = #[] ->
   codeAny (model l.prog w) callerA (.call (.ref fa) ⟨[.ref a],[]⟩) (λr s'=>r = .ok (.ret (.bool true)) /\ OldK s₁.heap s'.heap /\ s'.os = s₁.os /\ AllBare s'.gens) s₁) :
  WalkO q loose XP YP l.row.toRowW d [] (λf vs=>PySem.call f vs):=by
 intro w s₀ s₁ mg mb G Y fa o pm cd doc dV kV ho hd zR hD hmg hg args vals as Fd aeX hrd Ww hlo
 obtain rfl:dV = .none:=Dflts.none hD Ov
 obtain rfl:kV = .none:=Dflts.noKw hD
 obtain ⟨a,vs,ns,rfl,rfl,JS,hints,hlen⟩:=zo hn Fd Ww
 refine enter_call (codeAny_mono (call w s₀ s₁ mg mb fa o pm cd doc a vs ns G Y ho (fd_plain hd) zR hmg JS hints hlen hg) λr s' hq=>?_)
 obtain ⟨rfl,h2,h3,h4⟩:=hq
 exact ⟨.inl ⟨.bool true,.bool true,[],rfl,λ_=>rfl,.bool true,zx l _,λ_=>⟨List.Pairwise.nil,λ_ hm=>(nomatch hm)⟩⟩,h2,h3,h4⟩
section
variable {prog:Program} {w:World} {A:Around} {E:Value -> Shared -> Prop} {s:Shared} {K:Frag}
noncomputable def ledger (h:Heap) (L d:Addr):List (Addr × Obj):=(List.range h.objs.size).filterMap λa=>if a = L \/ a = d then none else (h.get? a).map λo=>(a,o)
end
end Att
namespace L2
open PySem PySem.Spec PyProof.Rows
theorem lh:∀ {vs:List Value} {ns:List Int},IntsAre vs ns -> Vals (ns.map V.int) vs
 | _,_,.nil=>.nil
 | _,_,.cons n t h=>.cons ⟨t,rfl⟩ (lh h)
noncomputable def Gh (H:Hp):Prop:=∀ b,H b = none \/ ∃ o xs,H b = some (.i6 o (.lst xs))
theorem BY {P:Program} {w:World} {K:PySem.W.Frag} {mg mb:Str -> Option Value} {CX:AF} {k:Nat} {fa a:Addr} {fd:FuncData} {x:Str} {sp:Sp} {s₁:Shared} {vs:List Value} {ns:List Int}
  (KX:K.In s₁.heap) (zO:s₁.heap.Ns mainGlobals mg) (hb:s₁.heap.Ns builtinsNs mb) (hbb:∀ x:Str,x ≠ "__name__" -> mb x = bootBuiltins x) (WU:s₁.heap.NoLimit) (hg:s₁.gens = #[])
  (ha:s₁.heap.get? a = some { cls:=.type "list",data:=.seq vs.toArray }) (hi:IntsAre vs ns) (hl:ns.length <= sizeLine) (hr:gQ k callerA)
  (F:∀ base:Heap,K.In base -> base.Ns mainGlobals mg -> jZ P w K mg base CX k fa fd [x] sp) (OB:∀ (s:Shared) (u:Value),BindsTo s fd ⟨[u],[]⟩ [(x,u)])
  (Di:∀ H:Hp,Gh H -> dw K H a (ns.map V.int) -> sp [.ref a] H (λv _=>v = .bl true) λ_ _ _=>False)
  (Xf:∀ H e s',CX [] H s₁ (λ_ _ _=>False) e s' -> False) :
  codeAny (model P w) callerA (.call (.ref fa) ⟨[.ref a],[]⟩) (λr s'=>r = .ok (.ret (.bool true)) /\ OldK s₁.heap s'.heap /\ s'.os = s₁.os /\ AllBare s'.gens) s₁:=by
 have rv:=lh hi
 have Vy:=hi.length
 have core:∀ H:Hp,Gh H -> dw K H a (ns.map V.int) -> l_ P w H s₁.heap -> (∀ b,H b ≠ none -> b = a) -> (H a ≠ none -> K.lookup a = none) ->
   codeAny (model P w) callerA (.call (.ref fa) ⟨[.ref a],[]⟩) (λr s'=>r = .ok (.ret (.bool true)) /\ OldK s₁.heap s'.heap /\ s'.os = s₁.os /\ AllBare s'.gens) s₁:=by
  intro H hO hS cX hA hK
  have yQ:∀ {b:Addr} {o:Obj},s₁.heap.get? b = some o -> H b = none -> (r6 s₁.heap H).get? b = some o:=λe n=>Ce e n
  have Nx:∀ {b:Addr} {o:Obj} {es:Array DictEntry} {ep:Nat},s₁.heap.get? b = some o -> o.data = .dict es ep -> H b = none:=λ{b o es ep} e d=>by
   cases q:H b with
   | none=>rfl
   | some u =>
    have e':b = a:=hA b (by rw [q];simp)
    subst e'
    rw [ha] at e;cases e
    have d':Data.seq vs.toArray _ = Data.dict es ep:=d
    cases d'
  have QO:∀ {b:Addr} {m:Str -> Option Value},s₁.heap.Ns b m -> (r6 s₁.heap H).Ns b m:=λ{b m} ⟨o,es,ep,e,d,r⟩=>⟨o,es,ep,yQ e (Nx e d),d,r⟩
  have hKb:K.In (r6 s₁.heap H):=λb o e=>yQ (KX b o e) (by
   cases q:H b with
   | none=>rfl
   | some u =>
    have e':b = a:=hA b (by rw [q];simp)
    subst e'
    rw [hK (by rw [q];simp)] at e;cases e)
  have hM:Mod K mg (r6 s₁.heap H):=⟨hKb,QO zO,⟨mb,QO hb,hbb⟩,let ⟨mc,h1,h2⟩:=WU;⟨mc,QO h1,h2⟩⟩
  have e0:Gi P w K mg (r6 s₁.heap H) callerA [] s₁ H:=⟨rfl,hM,λb o e=>ED e,Nat.le_of_eq (zP _ _),trivial,λb hb=>absurd (show b ∈ ([]:List Addr) from hb) (by simp),cX,.of_eq hg⟩
  refine codeAny_mono ((F _ hKb (QO zO)).run callerA [] s₁ H ⟨[.ref a],[]⟩ [.ref a] [.ref a] _ _ hr e0 (OB s₁ (.ref a)) (.cons rfl .nil) (Di H hO hS)) λr s' h=>?_
  cases r with
  | error e=>exact (Xf H e s' h).elim
  | ok fl =>
   cases fl with
   | next=>exact False.elim h
   | brk=>exact False.elim h
   | cont=>exact False.elim h
   | ret u =>
    obtain ⟨v,H',os,bare,un,WM,r',q⟩:=h
    have q':v = .bl true:=q
    subst q'
    obtain rfl:u = Value.bool true:=r'
    refine ⟨rfl,OldK.of_keep λb o e=>?_,os,bare⟩
    cases q:H b with
    | none=>exact un.keep b o e q (by intro z;exact absurd (show b ∈ ([]:List Addr) from z) (by simp)) (by simp)
    | some u =>
     rcases hO b with z | ⟨ob,xs,z⟩
     ·rw [q] at z;cases z
     ·have z2:=un.p8 b ob _ z
      obtain ⟨e1,_⟩:=cX b _ z
      obtain ⟨e2,_⟩:=WM b _ z2
      rw [e] at e1;cases e1
      exact e2
 cases hk:K.lookup a with
 | some o =>
  have e:=KX a o hk
  rw [ha] at e
  cases e
  refine core (λ_=>none) (λ_=>.inl rfl) (.inr ⟨_,vs.toArray,_,hk,rfl,rfl,rfl,by rw [List.size_toArray,Vy];exact hl,by simpa using rv⟩) (λb u z=>by have z':(none:Option HO) = some u:=z;cases z') (λb z=>absurd rfl z) λz=>absurd rfl z
 | none =>
  refine core (λb=>if b = a then some (.i6 { cls:=.type "list",data:=.seq vs.toArray } (.lst (ns.map V.int))) else none) (λb=>?_) (.inl (.inr ⟨{ cls:=.type "list",data:=.seq vs.toArray },if_pos rfl⟩)) (λb u z=>?_) (λb z=>?_) λ_=>hk
  ·by_cases hb:b = a
   ·exact .inr ⟨_,_,if_pos hb⟩
   ·exact .inl (if_neg hb)
  ·by_cases hb:b = a
   ·have z':=(if_pos hb).symm.trans z
    cases z'
    subst hb
    exact ⟨ha,by rw [List.length_map];exact hl,vs,_,rv,ha⟩
   ·have z':=(if_neg hb).symm.trans z
    cases z'
  ·by_cases hb:b = a
   ·exact hb
   ·exact absurd (if_neg hb) z
end L2
namespace L2
open PySem PySem.Spec PyProof.Rows
theorem DE {l:PySem.W.OpenLaw} {n k:Nat} {q:Program} {loose:List Str} {XP:(Str -> Option Value) -> Heap -> Prop} {YP:World -> Heap -> Prop} {d:DefRec} {K:Params -> PySem.W.Frag} {CX:World -> AF} {sp:World -> Sp} {x:Str}
  (hn:l.most = some n) (LQ:n <= sizeLine) (Ov:d.params.defaults = []) (hr:gQ k callerA)
  (hY:∀ (w:World) (h:Heap),YP w h -> (K w.params).In h)
  (F:∀ (w:World) (mg:Str -> Option Value) (fa:Addr) (h:Heap),(K w.params).In h -> h.Ns mainGlobals mg -> mg d.name = some (.ref fa) ->
   ∃ fd:FuncData,(∀ (s:Shared) (u:Value),BindsTo s fd ⟨[u],[]⟩ [(x,u)]) /\
    ∀ base:Heap,(K w.params).In base -> base.Ns mainGlobals mg -> jZ l.prog w (K w.params) mg base (CX w) k fa fd [x] (sp w))
  (Di:∀ (w:World) (H:Hp) (a:Addr) (ns:List Int),ns.length <= n -> Gh H -> dw (K w.params) H a (ns.map V.int) -> sp w [.ref a] H (λv _=>v = .bl true) λ_ _ _=>False)
  (Xf:∀ (w:World) (H:Hp) (s:Shared) (e:Value) (s':Shared),CX w [] H s (λ_ _ _=>False) e s' -> False) :
  PySem.W.WalkO q loose XP YP l.row.toRowW d [] (λf vs=>PySem.call f vs):=by
 refine Att.vw hn Ov λw s₀ s₁ mg mb fa o pm cd doc a vs ns G Y ho hd zR hmg JS hints hlen hg=>?_
 have KX:=hY w _ Y
 obtain ⟨fd,hb,hF⟩:=F w mg fa _ KX G.T.g hmg
 exact BY KX G.T.g G.T.b G.T.builtins G.T.nolimit hg JS hints (Nat.le_trans hlen LQ) hr hF hb (λH hO hS=>Di w H a ns hlen hO hS) λH e s'=>Xf w H s₁ e s'
end L2
namespace L2
open PySem PySem.Spec PyProof.Rows
noncomputable def aq (s:Stmt):Arguments:=match s with
 | .FunctionDef _ a _ _ _ _ _ _ _ _=>a
 | _=>{ posonlyargs:=[],args:=[],vararg:=none,kwonlyargs:=[],kw_defaults:=[],kwarg:=none,defaults:=[] }
noncomputable def ae (s:Stmt):List Stmt:=match s with
 | .FunctionDef _ _ b _ _ _ _ _ _ _=>b
 | _=>[]
noncomputable def aa (s:Stmt):Scope:=match s with
 | .FunctionDef _ _ _ _ _ _ sc _ _ _=>sc
 | _=>{ kind:=.function,names:=[],isGenerator:=false,isCoroutine:=false }
noncomputable abbrev C8:AF:=λ_ _ _ _ _ _=>False
noncomputable abbrev E0:XK:=λ_ _ _=>False
theorem Nj {X:Cx}:Passes C8 X E0:=λ_ _ _ _ _ _ _ h=>h.elim
structure Ln (K:PySem.W.Frag) (x qual:Str) (st:Stmt) (f:Addr) (fd:FuncData):Prop where
 ex:∃ (oc:Value) (od:Option Addr) (kV doc pm:Value) (an:Option Addr) (mx ct:Value) (Df:Array (Option Value)),
  fd = PySem.W.fnOf x qual (aq st) (ae st) (aa st) .none kV doc pm an mx ct /\ K.lookup f = some ⟨oc,od,.func fd,Df⟩ /\ PySem.W.codeIn K mx qual = true
 kp:PySem.W.keepIn K (.ref f) = true
section
variable {P:Program} {w:World} {K:PySem.W.Frag} {mg:Str -> Option Value} {base:Heap}
theorem Ln.ok {x qual:Str} {st:Stmt} {f:Addr} {fd:FuncData} {N ps:List Str} {k:Nat} {sp:Sp} (F:Ln K x qual st f fd) (S:au N ps (aa st)) (len:∀ vs H Q E,sp vs H Q E -> vs.length = ps.length)
  (Cg:∀ (mx:Value) (A:Around) (outer:List Env) (s:Shared) (H:Hp) (vs:List V) (Q:VK) (E:XK),gQ k (A.deeper (envOfC qual (aa st) s.heap.objs.size f mx)) -> sp vs H Q E ->
   ∃ t,nk (wY C8 P w K mg base N qual (aa st) f mx A outer s H E).Nu (ae st) t /\ t { nx:=λ_ H'=>Q .bA H',rt:=Q } (start N vs) H):jZ P w K mg base C8 (k + 1) f fd ps sp:=by
 obtain ⟨oc,od,kV,doc,pm,an,mx,ct,Df,rfl,lk,zR⟩:=F.ex
 refine OZ lk zR S len λA outer s H vs Q E hr Di=>?_
 obtain ⟨t,h,q⟩:=Cg mx A outer s H vs Q E hr Di
 exact ⟨t,h.Nu,q⟩
theorem Ln.binds {x qual:Str} {st:Stmt} {f:Addr} {fd:FuncData} {ps:List Str} (F:Ln K x qual st f fd)
  (h:∀ (kV doc pm:Value) (an:Option Addr) (mx ct:Value) (us:List Value),us.length = ps.length -> bindArgs (PySem.W.fnOf x qual (aq st) (ae st) (aa st) .none kV doc pm an mx ct) ⟨us,[]⟩ = pure (ps.zip us)):Binds K fd ps []:=by
 obtain ⟨oc,od,kV,doc,pm,an,mx,ct,Df,rfl,lk,zR⟩:=F.ex
 exact .all (h kV doc pm an mx ct)
theorem aG {x qual:Str} {st:Stmt} {f:Addr} {oc:Value} {od an:Option Addr} {Df:Array (Option Value)} {kV doc pm mx ct:Value} (l:K.lookup f = some ⟨oc,od,.func (PySem.W.fnOf x qual (aq st) (ae st) (aa st) .none kV doc pm an mx ct),Df⟩)
  (c:PySem.W.codeIn K mx qual = true) (k:PySem.W.keepIn K (.ref f) = true):Ln K x qual st f (PySem.W.fnOf x qual (aq st) (ae st) (aa st) .none kV doc pm an mx ct):=⟨⟨oc,od,kV,doc,pm,an,mx,ct,Df,rfl,l,c⟩,k⟩
end
theorem B7 {A:Around} {k:Nat} (hr:gQ k A):A.units + 1 < cLine:=Nat.lt_of_le_of_lt (Nat.add_le_add_left (by decide:1 <= 64) _) hr.units
section
variable {X:Cx}
theorem pv (i:Nat) {x:Str} {pos:Pos} (hN:X.N[i]? = some x:=by rfl) (hv:Ht X.env.scope x:=by first | exact Or.inl rfl | exact Or.inr (Or.inl rfl) | exact Or.inr (Or.inr rfl)) (hd:(x == ("__debug__" : Str)) = false:=by decide)
  (zR:(x == ("__classdict__" : Str)) = false:=by decide):PE X (.Name x pos) (A3 i):=rK hN hv hd zR
end
noncomputable def aj (H H':Hp):Prop:=∀ b o,H b = some o -> H' b = some o
theorem aj.refl (H:Hp):aj H H:=λ_ _ h=>h
theorem aj.trans {H H1 H2:Hp} (a:aj H H1) (b:aj H1 H2):aj H H2:=λc o h=>b c o (a c o h)
theorem aj.free {H H':Hp} (e:aj H H') {l:Addr} (h:H' l = Option.none):H l = Option.none:=by
 cases q:H l with
 | none=>rfl
 | some o =>
  rw [e l o q] at h
  cases h
theorem aj.seq {K:PySem.W.Frag} {H H':Hp} {a:Addr} {xs:List V} (e:aj H H') (h:dw K H a xs):dw K H' a xs:=by
 rcases h with (h | ⟨o,h⟩) | h
 ·exact .inl (.inl (e _ _ h))
 ·exact .inl (.inr ⟨o,e _ _ h⟩)
 ·exact .inr h
end L2
set_option autoImplicit false
set_option linter.all false
set_option Elab.async false
set_option maxRecDepth 100000
set_option maxHeartbeats 4000000
section
namespace DI
open PySem (Str Expr Stmt Scope NameKind)
inductive Fl where | ow | fz | al | sc
 deriving DecidableEq
inductive D where
 | bA | bl (b:Bool) | int (i:Int)
 | tup (ds:List D)
 | lst (f:Fl) (ds:List D)
 | cg (f:Fl) (ks:List (List Int)) (vs:List D)
 | kb (f:Fl) (ks:List Int) (vs:List D)
mutual
noncomputable def aA (g:Fl -> Fl):D -> D
 | .tup ds=>.tup (af g ds)
 | .lst f ds=>.lst (g f) (af g ds)
 | .cg f ks vs=>.cg (g f) ks (af g vs)
 | .kb f ks vs=>.kb (g f) ks (af g vs)
 | .bA=>.bA
 | .bl b=>.bl b
 | .int i=>.int i
noncomputable def af (g:Fl -> Fl):List D -> List D
 | []=>[]
 | d :: ds=>aA g d :: af g ds
end
theorem av (g:Fl -> Fl):∀ ds:List D,af g ds = ds.map (aA g)
 | []=>rfl
 | d :: ds=>by rw [af,av g ds];rfl
noncomputable def ba:Fl -> Fl | .ow=>.al | f=>f
noncomputable def jB:Fl -> Fl | .fz=>.al | f=>f
noncomputable def aI:Fl -> Fl | .sc=>.sc | _=>.fz
noncomputable def wz:Fl -> Bool | .sc=>true | _=>false
mutual
noncomputable def aH (p:Fl -> Bool):D -> Bool
 | .tup ds=>aw p ds
 | .lst f ds=>p f || aw p ds
 | .cg f ks vs=>p f || aw p vs
 | .kb f ks vs=>p f || aw p vs
 | _=>false
noncomputable def aw (p:Fl -> Bool):List D -> Bool
 | []=>false
 | d :: ds=>aH p d || aw p ds
end
noncomputable def b_:Fl -> Bool | .al=>true | _=>false
noncomputable def eC:Fl -> Bool | .ow=>true | _=>false
noncomputable def anyF:Fl -> Bool:=λ_=>true
mutual
noncomputable def kc:D -> D -> Bool
 | .bA,.bA=>true
 | .bl a,.bl b=>a == b
 | .bl a,.int b=>(if a then 1 else 0) == b
 | .int a,.bl b=>a == (if b then 1 else 0)
 | .int a,.int b=>a == b
 | .tup a,.tup b=>dq a b
 | .lst _ a,.lst _ b=>dq a b
 | _,_=>false
noncomputable def dq:List D -> List D -> Bool
 | [],[]=>true
 | a :: as,b :: bs=>kc a b && dq as bs
 | _,_=>false
end
noncomputable def cK:Nat -> D -> Bool
 | _,.bA=>true
 | _,.bl _=>true
 | _,.int _=>true
 | n + 1,.tup ds=>ds.all (cK n)
 | n + 1,.lst _ ds=>ds.all (cK n)
 | _,_=>false
noncomputable abbrev O (α:Type):=Option (Except Nat α)
noncomputable def ok {α:Type} (a:α):O α:=some (.ok a)
noncomputable def bd {α β:Type} (x:O α) (f:α -> O β):O β:=match x with
 | some (.ok a)=>f a
 | some (.error c)=>some (.error c)
 | none=>none
@[simp] theorem QQ {α:Type} {a:α}:((none:O α) = ok a) = False:=by simp [ok]
@[simp] theorem Uh {α:Type} {a b:α}:(ok a = ok b) = (a = b):=by simp [ok]
@[simp] theorem Yh {α:Type} {a:α} {c:Nat}:((some (.error c):O α) = ok a) = False:=by simp [ok]
@[simp] theorem G6 {α:Type} {p:Prop} [Decidable p] {a b:α}:((if p then ok a else none) = ok b) = (p /\ a = b):=by
 by_cases h:p <;> simp [h]
@[simp] theorem Wr {α:Type} {p:Prop} [Decidable p] {a b:α}:((if p then none else ok a) = ok b) = (¬ p /\ a = b):=by
 by_cases h:p <;> simp [h]
theorem ah {α β:Type} {x:O α} {f:α -> O β} {b:β} (h:bd x f = ok b):∃ a,x = ok a /\ f a = ok b:=by
 unfold bd at h
 match x,h with
 | some (.ok a),h=>exact ⟨a,rfl,h⟩
 | some (.error c),h=>cases h
 | none,h=>cases h
inductive Gj where | add | sub | mul | fdiv | mod | pow | shr | band
 deriving DecidableEq
inductive AG where | eq | ne | lt | le | gt | ge | NW | BE | wd (b:Bool) | NZ
 deriving DecidableEq
inductive Ty where | int | bool | list | tuple
 deriving DecidableEq
inductive Bf where | len | abs | B6 | list1 | tuple1 | iM | all1 | fS
 deriving DecidableEq
inductive Tg where | nm (i:Nat) | tp (is:List Nat)
 deriving DecidableEq
inductive IK where | lC | seq | du (p:Nat)
 deriving DecidableEq
inductive GK where | i (z:Int) | t (zs:List Int)
 deriving DecidableEq
inductive CE where
 | bA | bl (b:Bool) | int (i:Int) | glo (x:Str) (i:Int) | glt (x:Str) (zs:List Int)
 | v (i:Nat)
 | bin (op:Gj) (a b:CE)
 | neg (a:CE) | not (a:CE) | and (es:List CE) | or (es:List CE) | ite (c a b:CE)
 | cmp (op:AG) (a b:CE)
 | oo (a:CE) (t:Ty)
 | call (f:Nat) (es:List CE)
 | bf (f:Bf) (es:List CE)
 | ix (a b:CE)
 | lH (a:CE)
 | tup (es:List CE) | lst (es:List CE)
 | du (p:Nat) (es:List CE)
 | comp (n:Nat) (t:Tg) (caps:List Nat) (ik:IK) (es a_:List CE) (elt:CE)
inductive CI where | lC (a:CE) | seq (a:CE) | De (p:Nat) (es:List CE)
inductive CS where
 | asg (t:Tg) (e:CE) | par (i j:Nat) (a b:CE) | ret (e:CE) | rs (c:Nat) | ex (e:CE)
 | mut (p i:Nat) (es:List CE) | pop2 (i j:Nat) (e:CE) | app (i:Nat) (e:CE) | setI (i:Nat) (k e:CE)
 | ifs (c:CE) (a b:List CS)
 | HD (c:CE) (b:List CS)
 | fr (t:Tg) (it:CI) (b:List CS)
noncomputable abbrev aB:=List (Option D)
noncomputable abbrev az:=Nat -> List D -> O D
noncomputable def big:Nat:=2 ^ 9000
noncomputable def gH (i j:Int):Bool:=decide (i.natAbs < 2 ^ 64) || decide (j.natAbs < 2 ^ 64) || (decide (i.natAbs < big) && decide (j.natAbs < big))
noncomputable def qR (j:Int):Bool:=decide (j ≠ 0) && decide (j.natAbs < big)
noncomputable def xN (i j:Int):Bool:=decide (0 <= j) && decide (j <= 1000000) && decide (i.natAbs < 2 ^ 64)
noncomputable def eM:Nat:=1000000
theorem qK {α:Type} {c:Prop} [inst:Decidable c] {v d:α} (h:(if c then ok v else none) = ok d):c /\ v = d:=by
 cases inst with
 | isTrue hc=>exact ⟨hc,Except.ok.inj (Option.some.inj h)⟩
 | isFalse hc=>cases h
noncomputable def dc:Gj -> D -> D -> O D
 | .add,.int i,.int j=>ok (.int (i + j))
 | .add,.lst f a,.lst g b=>if wz f = false /\ wz g = false /\ a.length + b.length <= eM then ok (.lst .ow (af ba (a ++ b))) else none
 | .add,.tup a,.tup b=>if a.length + b.length <= eM then ok (.tup (af ba (a ++ b))) else none
 | .sub,.int i,.int j=>ok (.int (i - j))
 | .mul,.int i,.int j=>if gH i j then ok (.int (i * j)) else none
 | .mul,.lst f a,.int k=>if wz f = false /\ a.length * k.toNat <= eM /\ k <= eM /\ -eM <= k then ok (.lst .ow (af ba (List.replicate k.toNat a).flatten)) else none
 | .fdiv,.int i,.int j=>if qR j then ok (.int (i.fdiv j)) else none
 | .mod,.int i,.int j=>if j ≠ 0 then ok (.int (i.fmod j)) else none
 | .pow,.int i,.int j=>if xN i j then ok (.int (i ^ j.toNat)) else none
 | .shr,.int i,.int j=>if 0 <= j then ok (.int (i / 2 ^ j.toNat)) else none
 | .band,.int i,.int j=>if j = 1 then ok (.int (i % 2)) else none
 | _,_,_=>none
noncomputable def inD (x:D):List D -> Bool
 | []=>false
 | y :: ys=>kc y x || inD x ys
noncomputable def oQ:D -> Bool
 | .bA=>true | .bl _=>true | .int _=>true | _=>false
noncomputable def JB:D -> Option (List D)
 | .tup ds=>some ds
 | .lst _ ds=>some ds
 | _=>none
noncomputable def eG:AG -> D -> D -> O D
 | .eq,a,b=>if cK 40 a && cK 40 b then ok (.bl (kc a b)) else none
 | .ne,a,b=>if cK 40 a && cK 40 b then ok (.bl (!kc a b)) else none
 | .lt,.int i,.int j=>ok (.bl (decide (i < j)))
 | .le,.int i,.int j=>ok (.bl (decide (i <= j)))
 | .gt,.int i,.int j=>ok (.bl (decide (j < i)))
 | .ge,.int i,.int j=>ok (.bl (decide (j <= i)))
 | .NW,a,.bA=>ok (.bl (match a with | .bA=>true | _=>false))
 | .BE,a,.bA=>ok (.bl (match a with | .bA=>false | _=>true))
 | .wd _,.bl a,.bl c=>ok (.bl (!(a == c)))
 | .NZ,a,b=>match JB b with
  | some ds=>if oQ a && ds.all oQ then ok (.bl (inD a ds)) else none
  | none=>none
 | _,_,_=>none
noncomputable def dS:Ty -> D -> Bool
 | .int,.int _=>true | .int,.bl _=>true
 | .bool,.bl _=>true
 | .list,.lst _ _=>true
 | .tuple,.tup _=>true
 | _,_=>false
noncomputable def tm (n:Nat) (i:Int):Option Nat:=if 0 <= i then (if i < n then some i.toNat else none) else if -(n:Int) <= i then some (i + n).toNat else none
noncomputable def qZ (ds:List D) (i:Int):O D:=match (tm ds.length i).bind λj=>ds[j]? with
 | some d=>ok (aA ba d)
 | none=>none
noncomputable def zF:D -> D -> O D
 | .tup ds,.int i=>qZ ds i
 | .lst _ ds,.int i=>qZ ds i
 | _,_=>none
noncomputable def intsOf:List D -> Option (List Int)
 | []=>some []
 | .int i :: ds=>(intsOf ds).map (i :: ·)
 | _ :: _=>none
noncomputable def ja:List D -> Option (List Bool)
 | []=>some []
 | .bl i :: ds=>(ja ds).map (i :: ·)
 | _ :: _=>none
theorem cZ:∀ {ds:List D} {ns:List Int},intsOf ds = some ns -> ds = ns.map D.int
 | [],ns,h=>by simp [intsOf] at h;subst h;rfl
 | d :: ds,ns,h=>by
  cases d <;> simp [intsOf] at h
  obtain ⟨ms,h1,rfl⟩:=h
  rw [cZ h1];rfl
theorem vt:∀ {ds:List D} {bs:List Bool},ja ds = some bs -> ds = bs.map D.bl
 | [],bs,h=>by simp [ja] at h;subst h;rfl
 | d :: ds,bs,h=>by
  cases d <;> simp [ja] at h
  obtain ⟨ms,h1,rfl⟩:=h
  rw [vt h1];rfl
theorem aZ:∀ ns:List Int,intsOf (ns.map D.int) = some ns
 | []=>rfl
 | n :: ns=>by simp [intsOf,aZ ns]
theorem lS:∀ bs:List Bool,ja (bs.map D.bl) = some bs
 | []=>rfl
 | b :: bs=>by simp [ja,lS bs]
noncomputable def sortI (ns:List Int):List Int:=ns.mergeSort (λa b=>decide (a <= b))
noncomputable def qv (ds:List D):O D:=match intsOf ds with
 | some ns=>if ns.length < 64 then ok (.lst .ow ((sortI ns).map D.int)) else none
 | none=>none
noncomputable def qk:Bf -> List D -> O D
 | .len,xs=>match xs with
  | [.tup ds]=>ok (.int ds.length)
  | [.lst _ ds]=>ok (.int ds.length)
  | _=>none
 | .abs,xs=>match xs with
  | [.int i]=>ok (.int (if i < 0 then -i else i))
  | _=>none
 | .B6,xs=>match xs with
  | [.int i]=>ok (.int i)
  | [.bl b]=>ok (.int (if b then 1 else 0))
  | _=>none
 | .list1,xs=>match xs with
  | [.lst _ ds]=>ok (.lst .ow (af ba ds))
  | [.tup ds]=>ok (.lst .ow (af ba ds))
  | _=>none
 | .tuple1,xs=>match xs with
  | [.lst _ ds]=>ok (.tup (af ba ds))
  | [.tup ds]=>ok (.tup (af ba ds))
  | _=>none
 | .iM,xs=>match xs with
  | [.lst _ ds]=>(match intsOf ds with
   | some ns=>ok (.int ns.sum)
   | none=>none)
  | _=>none
 | .all1,xs=>match xs with
  | [.lst _ ds]=>(match ja ds with
   | some bs=>ok (.bl (bs.all id))
   | none=>none)
  | _=>none
 | .fS,xs=>match xs with
  | [.lst _ ds]=>qv ds
  | [.tup ds]=>qv ds
  | _=>none
noncomputable def sC (ns:List Int):List Int:=ns.foldl (λ(m:List Int) (k:Int)=>if m.any (· == k) then m else m ++ [k]) []
noncomputable def x5:D -> O D
 | .tup ds=>(match intsOf ds with
  | some ns=>if ns.length < 4000 then ok (.int (sC ns).length) else none
  | none=>none)
 | _=>none
noncomputable def gX:D -> O Bool
 | .bl b=>ok b
 | _=>none
noncomputable def intD:D -> O Int
 | .int i=>ok i
 | _=>none
noncomputable def um:Option (Option D) -> Option (List D)
 | some (some (.lst .ow ds))=>some ds
 | _=>none
theorem rL {o:Option (Option D)} {ds:List D} (h:um o = some ds):o = some (some (.lst .ow ds)):=by
 unfold um at h
 split at h <;> cases h
 rfl
theorem yb {d:D} {i:Int} (h:intD d = ok i):d = .int i:=by
 cases d <;> simp [intD] at h
 rw [h]
noncomputable def EG:D -> O D
 | .int i=>ok (.int (-i))
 | _=>none
noncomputable def iI:List Nat -> List D -> aB -> O aB
 | [],[],ρ=>ok ρ
 | i :: is,d :: ds,ρ=>if i < ρ.length then iI is ds (ρ.set i (some d)) else none
 | _,_,_=>none
noncomputable def cC:Tg -> D -> aB -> O aB
 | .nm i,d,ρ=>if i < ρ.length then ok (ρ.set i (some d)) else none
 | .tp is,.tup ds,ρ=>if aw eC ds then none else iI is ds ρ
 | _,_,_=>none
noncomputable def ku:D -> O (List D)
 | .lst _ ds=>ok (af aI ds)
 | _=>none
noncomputable def dk (Φ:az):IK -> List D -> O (List D)
 | .du p,xs=>bd (Φ p xs) ku
 | .lC,[.int n]=>if n <= eM /\ -eM <= n then ok ((List.range n.toNat).map λ(k:Nat)=>D.int (k:Int)) else none
 | .seq,[.tup ds]=>ok (af aI ds)
 | .seq,[.lst _ ds]=>ok (af aI ds)
 | _,_=>none
noncomputable def gL (bind:D -> O aB) (test:aB -> O Bool) (el:aB -> O D):List D -> O (List D)
 | []=>ok []
 | x :: xs=>bd (bind x) λρ=>bd (test ρ) λb=>if b then bd (el ρ) λy=>bd (gL bind test el xs) λys=>ok (y :: ys) else gL bind test el xs
noncomputable def bc (n:Nat) (caps:List Nat) (ρ:aB):aB:=List.replicate n none ++ caps.map λi=>(ρ[i]?.getD none).map (aA aI)
noncomputable def xD (o:Option (Option D)):O D:=match o with
 | some (some d)=>ok (aA ba d)
 | _=>none
theorem Bb {o:Option (Option D)} {d:D} (h:xD o = ok d):∃ d',o = some (some d') /\ d = aA ba d':=by
 cases o with
 | none=>cases h
 | some z=>cases z with
  | none=>cases h
  | some z=>cases h;exact ⟨z,rfl,rfl⟩
mutual
noncomputable def aQ (Φ:az):CE -> aB -> O D
 | .bA,_=>ok .bA
 | .bl b,_=>ok (.bl b)
 | .int i,_=>ok (.int i)
 | .glo _ i,_=>ok (.int i)
 | .glt _ zs,_=>ok (.tup (zs.map D.int))
 | .v i,ρ=>xD ρ[i]?
 | .bin op a b,ρ=>bd (aQ Φ a ρ) λx=>bd (aQ Φ b ρ) λy=>dc op x y
 | .neg a,ρ=>bd (aQ Φ a ρ) EG
 | .not a,ρ=>bd (bd (aQ Φ a ρ) gX) λb=>ok (.bl (!b))
 | .and es,ρ=>qQ Φ es ρ
 | .or es,ρ=>Ac Φ es ρ
 | .ite c a b,ρ=>bd (bd (aQ Φ c ρ) gX) λk=>if k then aQ Φ a ρ else aQ Φ b ρ
 | .cmp op a b,ρ=>bd (aQ Φ a ρ) λx=>bd (aQ Φ b ρ) λy=>eG op x y
 | .oo a t,ρ=>bd (aQ Φ a ρ) λx=>ok (.bl (dS t x))
 | .call f es,ρ=>bd (cD Φ es ρ) λxs=>bd (Φ f (af aI xs)) λr=>ok (aA jB r)
 | .bf f es,ρ=>bd (cD Φ es ρ) λxs=>qk f xs
 | .ix a b,ρ=>bd (aQ Φ a ρ) λx=>bd (aQ Φ b ρ) λy=>zF x y
 | .lH a,ρ=>bd (aQ Φ a ρ) λx=>x5 x
 | .du p es,ρ=>bd (cD Φ es ρ) λxs=>Φ p xs
 | .tup es,ρ=>bd (cD Φ es ρ) λxs=>ok (.tup xs)
 | .lst es,ρ=>bd (cD Φ es ρ) λxs=>ok (.lst .ow xs)
 | .comp n t caps ik es a_ elt,ρ=>bd (cD Φ es ρ) λxs=>bd (dk Φ ik xs) λitems =>
   bd (gL (λd=>cC t d (bc n caps ρ)) (λρ'=>iK Φ a_ ρ') (λρ'=>aQ Φ elt ρ') items) λds=>if ds.length <= eM then ok (.lst .ow (af jB ds)) else none
noncomputable def cD (Φ:az):List CE -> aB -> O (List D)
 | [],_=>ok []
 | e :: es,ρ=>bd (aQ Φ e ρ) λx=>bd (cD Φ es ρ) λxs=>ok (x :: xs)
noncomputable def iK (Φ:az):List CE -> aB -> O Bool
 | [],_=>ok true
 | e :: es,ρ=>bd (bd (aQ Φ e ρ) gX) λb=>if b then iK Φ es ρ else ok false
noncomputable def qQ (Φ:az):List CE -> aB -> O D
 | [],_=>none
 | e :: es,ρ=>bd (bd (aQ Φ e ρ) gX) λc=>match es with
  | []=>ok (.bl c)
  | _ :: _=>if c then qQ Φ es ρ else ok (.bl false)
noncomputable def Ac (Φ:az):List CE -> aB -> O D
 | [],_=>none
 | e :: es,ρ=>bd (bd (aQ Φ e ρ) gX) λc=>match es with
  | []=>ok (.bl c)
  | _ :: _=>if c then ok (.bl true) else Ac Φ es ρ
end
noncomputable def vG (Φ:az) (e:CE) (ρ:aB):O Bool:=bd (aQ Φ e ρ) gX
inductive Fo where | nx | rt (d:D) | bk | ct
noncomputable def cU {α β:Type} (n:Nat) (step:α -> O (α ⊕ β)) (a:α):O β:=match n with
 | 0=>none
 | n + 1=>bd (step a) λr=>match r with
  | .inl a'=>cU n step a'
  | .inr b=>ok b
open Classical in
noncomputable def fA {α β:Type} (step:α -> O (α ⊕ β)) (a:α):O β :=
 if h:∃ n,cU n step a ≠ none then cU (Classical.choose h) step a else none
theorem i3 {α β:Type} (step:α -> O (α ⊕ β)):∀ (n m:Nat) (a:α),n <= m -> cU n step a ≠ none -> cU m step a = cU n step a
 | 0,_,_,_,h=>absurd rfl h
 | n + 1,0,_,hl,_=>by omega
 | n + 1,m + 1,a,hl,h=>by
  unfold cU at h ⊢
  match hs:step a with
  | none=>rw [hs] at h;exact absurd rfl h
  | some (.error c)=>rfl
  | some (.ok (.inr b))=>rfl
  | some (.ok (.inl a')) =>
   rw [hs] at h
   exact i3 step n m a' (by omega) h
theorem lg {α β:Type} {step:α -> O (α ⊕ β)} {a:α} {n:Nat} {r:Except Nat β} (h:cU n step a = some r):fA step a = some r:=by
 have hx:∃ n,cU n step a ≠ none:=⟨n,by rw [h];simp⟩
 unfold fA
 rw [dif_pos hx]
 have hc:=Classical.choose_spec hx
 rcases Nat.le_total n (Classical.choose hx) with hl | hl
 ·rw [i3 step _ _ a hl (by rw [h];simp),h]
 ·rw [<- i3 step _ _ a hl hc,h]
theorem lF {α β:Type} {step:α -> O (α ⊕ β)} {a:α} {r:Except Nat β} (h:fA step a = some r):∃ n,cU n step a = some r:=by
 unfold fA at h
 split at h
 ·exact ⟨_,h⟩
 ·cases h
theorem ny {α β:Type} {step:α -> O (α ⊕ β)} {a a':α} (h:step a = ok (.inl a')):fA step a = fA step a':=by
 match hr:fA step a' with
 | some r =>
  obtain ⟨n,hn⟩:=lF hr
  refine lg (n:=n + 1) ?_
  unfold cU;rw [h];exact hn
 | none =>
  match hq:fA step a with
  | none=>rfl
  | some r =>
   obtain ⟨n,hn⟩:=lF hq
   match n,hn with
   | n + 1,hn =>
    unfold cU at hn;rw [h] at hn
    rw [lg (n:=n) hn] at hr;cases hr
theorem gW {α β:Type} {step:α -> O (α ⊕ β)} {a:α} {b:β} (h:step a = ok (.inr b)):fA step a = ok b :=
 lg (n:=1) (by unfold cU;rw [h];rfl)
mutual
noncomputable def iJ:CE -> List Nat
 | .v i=>[i]
 | .bin _ a b=>iJ a ++ iJ b
 | .neg a=>iJ a
 | .not a=>iJ a
 | .and es=>dy es
 | .or es=>dy es
 | .ite c a b=>iJ c ++ (iJ a ++ iJ b)
 | .cmp _ a b=>iJ a ++ iJ b
 | .oo a _=>iJ a
 | .call _ es=>dy es
 | .bf _ es=>dy es
 | .ix a b=>iJ a ++ iJ b
 | .lH a=>iJ a
 | .tup es=>dy es
 | .lst es=>dy es
 | .du _ es=>dy es
 | .comp _ _ caps _ es _ _=>caps ++ dy es
 | _=>[]
noncomputable def dy:List CE -> List Nat
 | []=>[]
 | e :: es=>iJ e ++ dy es
end
noncomputable def i6 (is:List Nat) (ρ:aB):aB:=ρ.mapIdx λi d=>if i ∈ is then d.map (aA aI) else d
noncomputable def keep (e:CE) (d:D) (ρ:aB):D × aB:=if aH b_ d then (aA aI d,i6 (iJ e) ρ) else (d,ρ)
noncomputable def jC (Φ:az) (e:CE) (ρ:aB):O (D × aB):=match e with
 | .v i=>match ρ[i]? with
  | some (some d)=>if aH eC d then ok (d,ρ.set i none) else ok (d,ρ)
  | _=>none
 | _=>bd (aQ Φ e ρ) λd=>ok (keep e d ρ)
noncomputable def gn (Φ:az) (it:CI) (ρ:aB):O (List D × aB):=match it with
 | .De p es=>bd (cD Φ es ρ) λxs=>bd (Φ p xs) λd=>bd (ku d) λitems=>ok (items,if aw b_ xs then i6 (dy es) ρ else ρ)
 | .lC a=>bd (aQ Φ a ρ) λx=>match x with
  | .int n=>if n <= eM /\ -eM <= n then ok ((List.range n.toNat).map λ(k:Nat)=>D.int (k:Int),ρ) else none
  | _=>none
 | .seq a=>bd (aQ Φ a ρ) λx=>match x with
  | .tup ds=>ok (af aI ds,if aH b_ x then i6 (iJ a) ρ else ρ)
  | .lst f ds=>ok (af aI ds,if aH b_ x then i6 (iJ a) ρ else ρ)
  | _=>none
noncomputable def om (es:List CE) (xs:List D) (ρ:aB):List D × aB:=if aw b_ xs then (af aI xs,i6 (dy es) ρ) else (xs,ρ)
noncomputable def we (Φ:az) (p i:Nat) (r:List D × aB):O (Fo × aB):=match r.2[i]? with
 | some (some d)=>bd (Φ p (d :: r.1)) λd'=>ok (.nx,r.2.set i (some d'))
 | _=>none
noncomputable def qC (i j:Nat) (ρ:aB) (z:Int):O (Fo × aB):=match ρ[i]? with
 | some (some (.tup ds))=>match um ρ[j]? with
  | some es=>match intsOf ds with
   | some ns=>match intsOf es with
    | some ms=>match tm ms.length z with
     | some m=>if ns.length < 1000 /\ ms.length < 1000 /\ i ≠ j then ok (.nx,(ρ.set j (some (.lst .ow ((ms.eraseIdx m).map D.int)))).set i (some (.tup ((ns ++ [ms.getD m 0]).map D.int)))) else none
     | none=>none
    | none=>none
   | none=>none
  | none=>none
 | _=>none
noncomputable def eW (bind:D -> aB -> O aB) (body:aB -> O (Fo × aB)):List D -> aB -> O (Fo × aB)
 | [],ρ=>ok (.nx,ρ)
 | d :: ds,ρ=>bd (bind d ρ) λρ1=>bd (body ρ1) λr=>match r with
  | (.nx,ρ2)=>eW bind body ds ρ2
  | (.ct,ρ2)=>eW bind body ds ρ2
  | (.bk,ρ2)=>ok (.nx,ρ2)
  | (.rt d,ρ2)=>ok (.rt d,ρ2)
mutual
noncomputable def p9 (Φ:az):CS -> aB -> O (Fo × aB)
 | .asg t e,ρ=>bd (jC Φ e ρ) λr=>bd (cC t r.1 r.2) λρ'=>ok (.nx,ρ')
 | .par i j a b,ρ=>bd (aQ Φ a ρ) λx=>bd (aQ Φ b ρ) λy=>if aH anyF x = false /\ aH anyF y = false /\ i < ρ.length /\ j < ρ.length then ok (.nx,(ρ.set i (some x)).set j (some y)) else none
 | .ret e,ρ=>bd (jC Φ e ρ) λr=>ok (.rt r.1,r.2)
 | .rs c,_=>some (.error c)
 | .ex e,ρ=>bd (aQ Φ e ρ) λ_=>ok (.nx,ρ)
 | .mut p i es,ρ=>bd (cD Φ es ρ) λxs=>we Φ p i (om es xs ρ)
 | .pop2 i j e,ρ=>bd (bd (aQ Φ e ρ) intD) (qC i j ρ)
 | .app i e,ρ=>bd (jC Φ e ρ) λr=>match um r.2[i]? with
  | some ds=>if ds.length < eM then ok (.nx,r.2.set i (some (.lst .ow (ds ++ [r.1])))) else none
  | none=>none
 | .setI i k e,ρ=>bd (jC Φ e ρ) λr=>bd (bd (aQ Φ k r.2) intD) λz=>match um r.2[i]? with
  | some ds=>match tm ds.length z with
   | some j=>ok (.nx,r.2.set i (some (.lst .ow (ds.set j r.1))))
   | none=>none
  | none=>none
 | .ifs c a b,ρ=>bd (vG Φ c ρ) λk=>if k then bM Φ a ρ else bM Φ b ρ
 | .HD c b,ρ=>fA (λρ=>bd (vG Φ c ρ) λk=>if k then bd (bM Φ b ρ) λr=>match r with
   | (.nx,ρ')=>ok (.inl ρ')
   | (.ct,ρ')=>ok (.inl ρ')
   | (.bk,ρ')=>ok (.inr (.nx,ρ'))
   | (.rt d,ρ')=>ok (.inr (.rt d,ρ'))
  else ok (.inr (.nx,ρ))) ρ
 | .fr t it b,ρ=>bd (gn Φ it ρ) λr=>eW (λd ρ=>cC t d ρ) (λρ=>bM Φ b ρ) r.1 r.2
noncomputable def bM (Φ:az):List CS -> aB -> O (Fo × aB)
 | [],ρ=>ok (.nx,ρ)
 | s :: ss,ρ=>bd (p9 Φ s ρ) λr=>match r with
  | (.nx,ρ')=>bM Φ ss ρ'
  | r=>ok r
end
noncomputable def v_ (Φ:az) (n:Nat) (b:List CS) (ds:List D):O D:=bd (bM Φ b (ds.map some ++ List.replicate (n - ds.length) none)) λr=>match r.1 with
 | .nx=>ok .bA
 | .rt d=>ok d
 | _=>none
noncomputable def nr:List D -> O D
 | [.lst _ a,.lst _ b]=>ok (.lst .ow (List.zipWith (λx y=>.tup [x,y]) a b))
 | _=>none
end DI
end
section
namespace DI
open PySem PySem.Spec PyProof.Rows L2
noncomputable abbrev aJ:=List Nat
noncomputable abbrev St:=L2.St
noncomputable abbrev jJ:=Addr -> List V -> Prop
inductive Nd where | l (xs:List V) | d (cs:List (List Int)) (as:List Addr) (xs:List V) (ep:Nat)
 | ei (ks:List Int) (xs:List V) (ep:Nat)
noncomputable abbrev iQ:=aJ -> Addr -> Nd -> Fl -> Prop
structure eU (T:jJ) (as:List Addr) (cs:List (List Int)):Prop where
 len:as.length = cs.length
 tup:∀ (j:Nat) (a:Addr) (c:List Int),as[j]? = some a -> cs[j]? = some c -> T a (c.map V.int)
theorem eU.imp {T T':jJ} {as:List Addr} {cs:List (List Int)} (h:eU T as cs) (hT:∀ p xs,T p xs -> T' p xs):eU T' as cs:=⟨h.len,λj a c h1 h2=>hT _ _ (h.tup j a c h1 h2)⟩
mutual
inductive Rep (T:jJ) (N:iQ):aJ -> V -> D -> Prop where
 | bA {q:aJ}:Rep T N q .bA .bA
 | bl {q:aJ} (b:Bool):Rep T N q (.bl b) (.bl b)
 | int {q:aJ} (i:Int):Rep T N q (.int i) (.int i)
 | tup {q:aJ} {p:Addr} {xs:List V} {ds:List D} (h:T p xs) (r:ag T N q 0 xs ds):Rep T N q (.ref p) (.tup ds)
 | lst {q:aJ} {p:Addr} {xs:List V} {f:Fl} {ds:List D} (h:N q p (.l xs) f) (r:ag T N q 0 xs ds):Rep T N q (.ref p) (.lst f ds)
 | cg {q:aJ} {p:Addr} {cs:List (List Int)} {as:List Addr} {xs:List V} {ep:Nat} {f:Fl} {ds:List D} (h:N q p (.d cs as xs ep) f) (k:eU T as cs) (r:ag T N q 0 xs ds):Rep T N q (.ref p) (.cg f cs ds)
 | kb {q:aJ} {p:Addr} {ks:List Int} {xs:List V} {ep:Nat} {f:Fl} {ds:List D} (h:N q p (.ei ks xs ep) f) (r:ag T N q 0 xs ds):Rep T N q (.ref p) (.kb f ks ds)
inductive ag (T:jJ) (N:iQ):aJ -> Nat -> List V -> List D -> Prop where
 | nil {q:aJ} {n:Nat}:ag T N q n [] []
 | cons {q:aJ} {n:Nat} {v:V} {d:D} {vs:List V} {ds:List D} (h:Rep T N (n :: q) v d) (t:ag T N q (n + 1) vs ds):ag T N q n (v :: vs) (d :: ds)
end
mutual
theorem r9:∀ d:D,aH (λ_=>false) d = false
 | .bA=>rfl
 | .bl _=>rfl
 | .int _=>rfl
 | .tup ds=>fI ds
 | .lst _ ds=>fI ds
 | .cg _ _ ds=>fI ds
 | .kb _ _ ds=>fI ds
theorem fI:∀ ds:List D,aw (λ_=>false) ds = false
 | []=>rfl
 | d :: ds=>by show (aH _ d || aw _ ds) = false;rw [r9 d,fI ds];rfl
end
theorem Dg {a b:Bool} (h:(a || b) = false):a = false /\ b = false:=by cases a <;> cases b <;> first | exact ⟨rfl,rfl⟩ | cases h
section
variable {T T':jJ} {N N':iQ} {g:Fl -> Fl} {P:Fl -> Bool} {C:aJ -> aJ -> Prop} {I:Nat -> Nat -> Prop}
mutual
theorem Rep.gen (hT:∀ p xs,T p xs -> T' p xs) (h0:I 0 0) (hI:∀ n n',I n n' -> I (n + 1) (n' + 1)) (hC:∀ k k' n n',C k k' -> I n n' -> C (n :: k) (n' :: k')) (hN:∀ k k' p xs f,C k k' -> P f = false -> N k p xs f -> N' k' p xs (g f)) :
  ∀ {k:aJ} {v:V} {d:D},Rep T N k v d -> ∀ {k':aJ},C k k' -> aH P d = false -> Rep T' N' k' v (aA g d)
 | _,_,_,.bA,_,_,_=>.bA
 | _,_,_,.bl b,_,_,_=>.bl b
 | _,_,_,.int i,_,_,_=>.int i
 | _,_,_,.tup h r,_,c,e=>.tup (hT _ _ h) (ag.gen hT h0 hI hC hN r c h0 e)
 | _,_,_,.lst h r,_,c,e=>.lst (hN _ _ _ _ _ c (Dg e).1 h) (ag.gen hT h0 hI hC hN r c h0 (Dg e).2)
 | _,_,_,.cg h k r,_,c,e=>.cg (hN _ _ _ _ _ c (Dg e).1 h) (k.imp hT) (ag.gen hT h0 hI hC hN r c h0 (Dg e).2)
 | _,_,_,.kb h r,_,c,e=>.kb (hN _ _ _ _ _ c (Dg e).1 h) (ag.gen hT h0 hI hC hN r c h0 (Dg e).2)
theorem ag.gen (hT:∀ p xs,T p xs -> T' p xs) (h0:I 0 0) (hI:∀ n n',I n n' -> I (n + 1) (n' + 1)) (hC:∀ k k' n n',C k k' -> I n n' -> C (n :: k) (n' :: k')) (hN:∀ k k' p xs f,C k k' -> P f = false -> N k p xs f -> N' k' p xs (g f)) :
  ∀ {k:aJ} {n:Nat} {vs:List V} {ds:List D},ag T N k n vs ds -> ∀ {k':aJ} {n':Nat},C k k' -> I n n' -> aw P ds = false -> ag T' N' k' n' vs (af g ds)
 | _,_,_,_,.nil,_,_,_,_,_=>.nil
 | _,_,_,_,.cons h t,_,_,c,i,e=>.cons (Rep.gen hT h0 hI hC hN h (hC _ _ _ _ c i) (Dg e).1) (ag.gen hT h0 hI hC hN t c (hI _ _ i) (Dg e).2)
end
theorem Rep.map {q q':aJ} (hT:∀ p xs,T p xs -> T' p xs) (hN:∀ c p xs f,N (c ++ q) p xs f -> N' (c ++ q') p xs (g f)) {k:aJ} {v:V} {d:D} (h:Rep T N k v d) (c:aJ) (e:k = c ++ q):Rep T' N' (c ++ q') v (aA g d) :=
 Rep.gen (P:=λ_=>false) (C:=λk k'=>∃ c,k = c ++ q /\ k' = c ++ q') (I:=λn n'=>n = n') hT rfl (λ_ _ e=>by rw [e]) (λ_ _ n _ ⟨c,e1,e2⟩ e=>⟨n :: c,by rw [e1];rfl,by rw [e2,<- e];rfl⟩) (λ_ _ p xs f ⟨c,e1,e2⟩ _ h=>by subst e1;subst e2;exact hN c p xs f h) h ⟨c,e,rfl⟩ (r9 d)
theorem ag.map {q q':aJ} (hT:∀ p xs,T p xs -> T' p xs) (hN:∀ c p xs f,N (c ++ q) p xs f -> N' (c ++ q') p xs (g f)) {k:aJ} {n:Nat} {vs:List V} {ds:List D} (h:ag T N k n vs ds) (c:aJ) (e:k = c ++ q):ag T' N' (c ++ q') n vs (af g ds) :=
 ag.gen (P:=λ_=>false) (C:=λk k'=>∃ c,k = c ++ q /\ k' = c ++ q') (I:=λn n'=>n = n') hT rfl (λ_ _ e=>by rw [e]) (λ_ _ n _ ⟨c,e1,e2⟩ e=>⟨n :: c,by rw [e1];rfl,by rw [e2,<- e];rfl⟩) (λ_ _ p xs f ⟨c,e1,e2⟩ _ h=>by subst e1;subst e2;exact hN c p xs f h) h ⟨c,e,rfl⟩ rfl (fI ds)
theorem Rep.iX (hT:∀ p xs,T p xs -> T' p xs) (hN:∀ k k' p xs f,N k p xs f -> N' k' p xs (g f)) {k:aJ} {v:V} {d:D} (h:Rep T N k v d) (k':aJ):Rep T' N' k' v (aA g d) :=
 Rep.gen (P:=λ_=>false) (C:=λ_ _=>True) (I:=λ_ _=>True) hT trivial (λ_ _ e=>e) (λ_ _ _ _ e _=>e) (λk k' p xs f _ _ h=>hN k k' p xs f h) h trivial (r9 d)
theorem ag.iX (hT:∀ p xs,T p xs -> T' p xs) (hN:∀ k k' p xs f,N k p xs f -> N' k' p xs (g f)) {k:aJ} {n:Nat} {vs:List V} {ds:List D} (h:ag T N k n vs ds) (k':aJ) (n':Nat):ag T' N' k' n' vs (af g ds) :=
 ag.gen (P:=λ_=>false) (C:=λ_ _=>True) (I:=λ_ _=>True) hT trivial (λ_ _ e=>e) (λ_ _ _ _ e _=>e) (λk k' p xs f _ _ h=>hN k k' p xs f h) h trivial trivial (fI ds)
end
mutual
theorem eL:∀ d:D,aA id d = d
 | .bA=>rfl
 | .bl _=>rfl
 | .int _=>rfl
 | .tup ds=>by rw [aA,d8 ds]
 | .lst f ds=>by rw [aA,d8 ds];rfl
 | .cg f ks vs=>by rw [aA,d8 vs];rfl
 | .kb f ks vs=>by rw [aA,d8 vs];rfl
theorem d8:∀ ds:List D,af id ds = ds
 | []=>rfl
 | d :: ds=>by rw [af,eL d,d8 ds]
end
section
variable {T T':jJ} {N N':iQ}
theorem Rep.imp {q q':aJ} (hT:∀ p xs,T p xs -> T' p xs) (hN:∀ c p xs f,N (c ++ q) p xs f -> N' (c ++ q') p xs f) {v:V} {d:D} (h:Rep T N q v d):Rep T' N' q' v d:=by
 have:=Rep.map (g:=id) hT hN h [] rfl
 rw [eL] at this;exact this
theorem ag.imp {q q':aJ} {n:Nat} (hT:∀ p xs,T p xs -> T' p xs) (hN:∀ c p xs f,N (c ++ q) p xs f -> N' (c ++ q') p xs f) {vs:List V} {ds:List D} (h:ag T N q n vs ds):ag T' N' q' n vs ds:=by
 have:=ag.map (g:=id) hT hN h [] rfl
 rw [d8] at this;exact this
theorem ag.length:∀ {k:aJ} {n:Nat} {vs:List V} {ds:List D},ag T N k n vs ds -> vs.length = ds.length
 | _,_,_,_,.nil=>rfl
 | _,_,_,_,.cons _ t=>by simp [ag.length t]
theorem ag.get:∀ {k:aJ} {n j:Nat} {vs:List V} {ds:List D} {d:D},ag T N k n vs ds -> ds[j]? = some d -> ∃ v,vs[j]? = some v /\ Rep T N ((n + j) :: k) v d
 | _,_,_,_,_,_,.nil,e=>by simp at e
 | _,_,0,_,_,_,.cons h t,e=>by simp at e;subst e;exact ⟨_,rfl,h⟩
 | _,n,j + 1,_,_,_,.cons h t,e=>by
  obtain ⟨v,h1,h2⟩:=ag.get (j:=j) t (by simpa using e)
  refine ⟨v,by simpa using h1,?_⟩
  have:n + 1 + j = n + (j + 1):=by omega
  rw [<- this];exact h2
theorem ag.uK:∀ {k:aJ} {n j:Nat} {vs:List V} {ds:List D} {v:V},ag T N k n vs ds -> vs[j]? = some v -> ∃ d,ds[j]? = some d /\ Rep T N ((n + j) :: k) v d
 | _,_,_,_,_,_,.nil,e=>by simp at e
 | _,_,0,_,_,_,.cons h t,e=>by simp at e;subst e;exact ⟨_,rfl,h⟩
 | _,n,j + 1,_,_,_,.cons h t,e=>by
  obtain ⟨v,h1,h2⟩:=ag.uK (j:=j) t (by simpa using e)
  refine ⟨v,by simpa using h1,?_⟩
  have:n + 1 + j = n + (j + 1):=by omega
  rw [<- this];exact h2
theorem ag.nh {k:aJ} (hN:∀ k k' p xs f,N k p xs f -> N k' p xs f):∀ {n m l:Nat} {vs ws:List V} {ds es:List D},ag T N k n vs ds -> ag T N k m ws es -> ag T N k l (vs ++ ws) (ds ++ es)
 | _,_,_,_,_,_,_,.nil,t=>by
  have:=ag.iX (T':=T) (N':=N) (g:=id) (λ_ _ h=>h) hN t
  rw [d8] at this;exact this _ _
 | _,_,_,_,_,_,_,.cons h t,u=>.cons (by
  have:=Rep.iX (T':=T) (N':=N) (g:=id) (λ_ _ h=>h) hN h
  rw [eL] at this;exact this _) (ag.nh hN t u)
end
noncomputable def KL (K:PySem.W.Frag) (a:Addr) (xs:List V):Prop :=
 ∃ (o:Obj) (ai:Array Value) (n:Nat),K.lookup a = some o /\ o.cls = .type "list" /\ o.dict = none /\ o.data = .seq ai n /\ ai.size <= sizeLine /\ Vals xs ai.toList
noncomputable def DO (p:Addr) (cs:List (List Int)) (as:List Addr) (xs:List V) (ep:Nat) (h:Heap):Prop :=
 ∃ (zs:List (List Int × Addr × Value)) (o:Obj) (es:Array DictEntry),zs.map (·.1) = cs /\ zs.map (·.2.1) = as /\ Vals xs (zs.map (·.2.2)) /\ h.get? p = some o /\ o.ExactDict /\ o.data = .dict es ep /\
  es.toList = zs.map (λz=>⟨reduceHash (Builtin.Tuple.tupleHashOf (z.1.map hashInt)),.ref z.2.1,z.2.2⟩) /\ cs.Nodup /\ cs.length <= sizeLine /\ (p == sysModules) = false
noncomputable def IO (p:Addr) (ks:List Int) (xs:List V) (ep:Nat) (h:Heap):Prop :=
 ∃ (zs:List (Int × Tok × Value)) (o:Obj) (es:Array DictEntry),zs.map (·.1) = ks /\ Vals xs (zs.map (·.2.2)) /\ h.get? p = some o /\ o.ExactDict /\ o.data = .dict es ep /\ es.toList = zs.map (λz=>⟨hashInt z.1,.int z.1 z.2.1,z.2.2⟩) /\ ks.Nodup /\ ks.length <= sizeLine /\ (p == sysModules) = false
noncomputable abbrev fO (H:Hp) (p:Addr) (n:Nd):Prop:=match n with
 | .l xs=>H p = some (.lst xs)
 | .d cs as xs ep=>H p = some (.ext (DO p cs as xs ep))
 | .ei ks xs ep=>H p = some (.ext (IO p ks xs ep))
theorem fO.ne {H:Hp} {p:Addr} {n:Nd} (h:fO H p n):H p ≠ none:=by
 cases n with
 | l xs=>intro z;rw [show H p = some (.lst xs) from h] at z;cases z
 | d cs as xs ep=>intro z;rw [show H p = some (.ext (DO p cs as xs ep)) from h] at z;cases z
 | ei ks xs ep=>intro z;rw [show H p = some (.ext (IO p ks xs ep)) from h] at z;cases z
theorem fO.at {H H':Hp} {p:Addr} {n:Nd} (e:∀ o,H p = some o -> H' p = some o) (h:fO H p n):fO H' p n:=by
 cases n with
 | l xs=>exact e _ h
 | d cs as xs ep=>exact e _ h
 | ei ks xs ep=>exact e _ h
theorem fO.same {H H':Hp} {p:Addr} {n:Nd} (e:aj H H') (h:fO H p n):fO H' p n:=h.at (e p)
theorem fO.some {H:Hp} {p:Addr} {n:Nd} (h:fO H p n):∃ o,H p = some o /\ (∀ xs,o ≠ .tup xs) /\ (∀ a u,o ≠ .i6 a u):=by
 cases n with
 | l xs=>exact ⟨_,h,λ_ z=>(nomatch z),λ_ _ z=>(nomatch z)⟩
 | d cs as xs ep=>exact ⟨_,h,λ_ z=>(nomatch z),λ_ _ z=>(nomatch z)⟩
 | ei ks xs ep=>exact ⟨_,h,λ_ z=>(nomatch z),λ_ _ z=>(nomatch z)⟩
noncomputable def nd (K:PySem.W.Frag) (R A:Addr -> Prop) (τ:Addr -> Option aJ) (H:Hp):iQ:=λq p n f=>match f with
 | .ow=>fO H p n /\ τ p = some q
 | .fz=>fO H p n /\ R p
 | .al=>fO H p n /\ A p
 | .sc=>match n with
  | .l xs=>(∃ o,H p = some (.i6 o (.lst xs))) \/ KL K p xs
  | .d _ _ _ _=>False
  | .ei _ _ _=>False
theorem nd.GF {K:PySem.W.Frag} {R A:Addr -> Prop} {τ:Addr -> Option aJ} {H:Hp} {q:aJ} {p:Addr} {n:Nd} (h:nd K R A τ H q p n .sc):∃ xs,n = .l xs /\ ((∃ o,H p = some (.i6 o (.lst xs))) \/ KL K p xs):=by
 cases n with
 | l xs=>exact ⟨xs,rfl,h⟩
 | d _ _ _ _=>exact h.elim
 | ei _ _ _=>exact h.elim
theorem nd.sq {K:PySem.W.Frag} {R A:Addr -> Prop} {τ:Addr -> Option aJ} {H:Hp} {q:aJ} {p:Addr} {xs:List V} {f:Fl} (h:nd K R A τ H q p (.l xs) f):dw K H p xs:=by
 cases f with
 | ow=>exact dw.of h.1
 | fz=>exact dw.of h.1
 | al=>exact dw.of h.1
 | sc=>exact h.elim (λh=>.inl (.inr h)) .inr
theorem nd.lst {K:PySem.W.Frag} {R A:Addr -> Prop} {τ:Addr -> Option aJ} {H:Hp} {q:aJ} {p:Addr} {xs:List V} {f:Fl} (h:nd K R A τ H q p (.l xs) f) (hf:wz f = false):H p = some (.lst xs):=by
 cases f with
 | ow=>exact h.1
 | fz=>exact h.1
 | al=>exact h.1
 | sc=>cases hf
theorem nd.dat {K:PySem.W.Frag} {R A:Addr -> Prop} {τ:Addr -> Option aJ} {H:Hp} {q:aJ} {p:Addr} {cs:List (List Int)} {as:List Addr} {xs:List V} {ep:Nat} {f:Fl} (h:nd K R A τ H q p (.d cs as xs ep) f):H p = some (.ext (DO p cs as xs ep)):=by
 cases f with
 | ow=>exact h.1
 | fz=>exact h.1
 | al=>exact h.1
 | sc=>exact h.elim
theorem nd.iat {K:PySem.W.Frag} {R A:Addr -> Prop} {τ:Addr -> Option aJ} {H:Hp} {q:aJ} {p:Addr} {ks:List Int} {xs:List V} {ep:Nat} {f:Fl} (h:nd K R A τ H q p (.ei ks xs ep) f):H p = some (.ext (IO p ks xs ep)):=by
 cases f with
 | ow=>exact h.1
 | fz=>exact h.1
 | al=>exact h.1
 | sc=>exact h.elim
theorem Rd.same {H H':Hp} {a:Addr} {u:HO} (e:aj H H') (h:Rd H a u):Rd H' a u:=h.elim (λh=>.inl (e _ _ h)) λ⟨o,h⟩=>.inr ⟨o,e _ _ h⟩
theorem aC.same {K:PySem.W.Frag} {H H':Hp} {a:Addr} {xs:List V} (e:aj H H') (h:aC K H a xs):aC K H' a xs:=h.elim (λh=>.inl (Rd.same e h)) .inr
theorem nd.same {K:PySem.W.Frag} {R A:Addr -> Prop} {τ:Addr -> Option aJ} {H H':Hp} {q:aJ} {p:Addr} {n:Nd} {f:Fl} (e:aj H H') (h:nd K R A τ H q p n f):nd K R A τ H' q p n f:=by
 cases f with
 | ow=>exact ⟨h.1.same e,h.2⟩
 | fz=>exact ⟨h.1.same e,h.2⟩
 | al=>exact ⟨h.1.same e,h.2⟩
 | sc=>cases n with
  | l xs=>exact h.elim (λ⟨o,h⟩=>.inl ⟨o,e _ _ h⟩) .inr
  | d _ _ _ _=>exact h.elim
  | ei _ _ _=>exact h.elim
theorem Rd.there {H:Hp} {a:Addr} {u:HO} (h:Rd H a u):H a ≠ none:=by
 rcases h with h | ⟨o,h⟩ <;> (rw [h];simp)
theorem aj.ne {H H':Hp} (e:aj H H') {a:Addr} (h:H a ≠ none):H' a ≠ none:=by
 cases q:H a with
 | none=>exact absurd q h
 | some o=>rw [e a o q];simp
structure SI (X:Cx) (F R:Addr -> Prop) (τ:Addr -> Option aJ) (ρ:aB) (σ:St) (H:Hp):Prop where
 len:ρ.length = σ.length
 rep:∀ (i:Nat) (d:D),ρ[i]? = some (some d) -> ∃ v,σ[i]? = some (some v) /\ Rep (aC X.K H) (nd X.K R (λ_=>False) τ H) [i] v d
 rt:∀ p,R p -> τ p = none
 rh:∀ p,R p -> H p ≠ none
 rf:∀ p,R p -> F p \/ X.H₀ p = none
 th:∀ p q,τ p = some q -> H p ≠ none
 t0:∀ p q,τ p = some q -> X.H₀ p = none
 same:aj X.H₀ H
theorem SI.go {X:Cx} {F R:Addr -> Prop} {τ:Addr -> Option aJ} {ρ:aB} {σ:St} {H H':Hp} (S:SI X F R τ ρ σ H) (e:aj H H'):SI X F R τ ρ σ H' :=
 ⟨S.len,λi d h=>let ⟨v,h1,h2⟩:=S.rep i d h;⟨v,h1,h2.imp (λ_ _ h=>aC.same e h) λ_ _ _ _ h=>nd.same e h⟩,S.rt,λp h=>aj.ne e (S.rh p h),S.rf,λp q h=>aj.ne e (S.th p q h),S.t0,S.same.trans e⟩
noncomputable def jV (G:Addr -> Prop) (τ:Addr -> Option aJ) (fv:List Nat) (p:Addr):Prop:=G p /\ ∀ c i,τ p = some (c ++ [i]) -> i ∈ fv
theorem jV.mono {G:Addr -> Prop} {τ:Addr -> Option aJ} {fv fv':List Nat} {p:Addr} (h:jV G τ fv p) (hs:∀ i ∈ fv,i ∈ fv'):jV G τ fv' p:=⟨h.1,λc i e=>hs i (h.2 c i e)⟩
noncomputable def gP (X:Cx) (F:Addr -> Prop) (p:Addr):Prop:=F p \/ X.H₀ p = none
noncomputable def bG (K:PySem.W.Frag) (G R:Addr -> Prop) (τ:Addr -> Option aJ) (fv:List Nat) (H H':Hp) (v:V) (d:D):Prop :=
 ∃ τt:Addr -> Option aJ,(∀ p q,τt p = some q -> H p = none) /\ Rep (aC K H') (nd K R (jV G τ fv) τt H') [] v d
noncomputable def bT (K:PySem.W.Frag) (G R:Addr -> Prop) (τ:Addr -> Option aJ) (fv:List Nat) (H H':Hp) (vs:List V) (ds:List D):Prop :=
 ∃ τt:Addr -> Option aJ,(∀ p q,τt p = some q -> H p = none) /\ ag (aC K H') (nd K R (jV G τ fv) τt H') [] 0 vs ds
section
variable {K:PySem.W.Frag} {G R:Addr -> Prop} {τ:Addr -> Option aJ} {fv fv':List Nat} {H H1 H2:Hp} {v:V} {d:D} {vs:List V} {ds:List D}
theorem bG.go (h:bG K G R τ fv H H1 v d) (e:aj H1 H2):bG K G R τ fv H H2 v d :=
 let ⟨τt,h1,h2⟩:=h;⟨τt,h1,h2.imp (λ_ _ h=>aC.same e h) λ_ _ _ _ h=>nd.same e h⟩
theorem nd.mono {A A' R':Addr -> Prop} {τ τ':Addr -> Option aJ} {q q':aJ} {p:Addr} {xs:Nd} {f:Fl} (h:nd K R A τ H q p xs f) (hR:R p -> R' p) (hA:A p -> A' p) (ht:τ p = some q -> τ' p = some q'):nd K R' A' τ' H q' p xs f:=by
 cases f with
 | ow=>exact ⟨h.1,ht h.2⟩
 | fz=>exact ⟨h.1,hR h.2⟩
 | al=>exact ⟨h.1,hA h.2⟩
 | sc=>exact h
theorem bG.mono (h:bG K G R τ fv H H1 v d) (hs:∀ i ∈ fv,i ∈ fv'):bG K G R τ fv' H H1 v d :=
 let ⟨τt,h1,h2⟩:=h;⟨τt,h1,h2.imp (λ_ _ h=>h) λ_ _ _ _ h=>h.mono id (λh=>h.mono hs) id⟩
theorem bT.mono (h:bT K G R τ fv H H1 vs ds) (hs:∀ i ∈ fv,i ∈ fv'):bT K G R τ fv' H H1 vs ds :=
 let ⟨τt,h1,h2⟩:=h;⟨τt,h1,h2.imp (λ_ _ h=>h) λ_ _ _ _ h=>h.mono id (λh=>h.mono hs) id⟩
theorem bG.old {H0:Hp} (h:bG K G R τ fv H H1 v d) (e:aj H0 H):bG K G R τ fv H0 H1 v d :=
 let ⟨τt,h1,h2⟩:=h;⟨τt,λp q z=>e.free (h1 p q z),h2⟩
theorem bG.int {i:Int}:bG K G R τ fv H H1 (.int i) (.int i):=⟨λ_=>none,λ_ _ h=>by simp at h,.int i⟩
theorem bG.bl {b:Bool}:bG K G R τ fv H H1 (.bl b) (.bl b):=⟨λ_=>none,λ_ _ h=>by simp at h,.bl b⟩
theorem bG.bA:bG K G R τ fv H H1 .bA .bA:=⟨λ_=>none,λ_ _ h=>by simp at h,.bA⟩
theorem bG.isInt {i:Int} (h:bG K G R τ fv H H1 v (.int i)):v = .int i:=by obtain ⟨_,_,h⟩:=h;cases h;rfl
theorem bG.zK {i:Bool} (h:bG K G R τ fv H H1 v (.bl i)):v = .bl i:=by obtain ⟨_,_,h⟩:=h;cases h;rfl
noncomputable def rq:aJ -> aJ
 | []=>[]
 | [n]=>[n + 1]
 | a :: b :: r=>a :: rq (b :: r)
theorem tS (c:aJ) (n:Nat):rq (c ++ [n]) = c ++ [n + 1]:=by
 induction c with
 | nil=>rfl
 | cons a c ih =>
  cases c with
  | nil=>rfl
  | cons b c=>show a :: rq (b :: c ++ [n]) = _;rw [ih];rfl
theorem ag.shift {T:jJ} {N N':iQ} (hN:∀ c n p xs f,N (c ++ [n]) p xs f -> N' (c ++ [n + 1]) p xs f):∀ {n:Nat} {vs:List V} {ds:List D},ag T N [] n vs ds -> ag T N' [] (n + 1) vs ds
 | _,_,_,.nil=>.nil
 | n,_,_,.cons h t=>.cons (h.imp (q:=[n]) (q':=[n + 1]) (λ_ _ h=>h) λc p xs f h=>hN c n p xs f h) (ag.shift hN t)
theorem bT.nil:bT K G R τ fv H H1 [] []:=⟨λ_=>none,λ_ _ h=>by simp at h,.nil⟩
open Classical in
theorem bT.cons (e1:aj H H1) (e2:aj H1 H2) (h:bG K G R τ fv H H1 v d) (t:bT K G R τ fv H1 H2 vs ds):bT K G R τ fv H H2 (v :: vs) (d :: ds):=by
 obtain ⟨τ1,f1,h1⟩:=h
 obtain ⟨τ2,f2,h2⟩:=t
 refine ⟨λp=>if H1 p = none then (τ2 p).map rq else (τ1 p).map (· ++ [0]),λp q hq=>?_,.cons (h1.imp (q':=[0]) (λ_ _ h=>aC.same e2 h) λc p xs f h=>?_) (ag.shift (λc n p xs f h=>?_) h2)⟩
 ·by_cases hp:H1 p = none
  ·exact e1.free hp
  ·simp only [hp,if_false] at hq
   cases q1:τ1 p with
   | none=>rw [q1] at hq;simp at hq
   | some k=>exact f1 p k q1
 ·have h':nd K R (jV G τ fv) τ1 H2 (c ++ []) p xs f:=nd.same e2 h
  cases f with
  | ow =>
   have hp:H1 p ≠ none:=h.1.ne
   refine ⟨h'.1,?_⟩
   simp only [hp,if_false]
   rw [h.2];simp
  | fz=>exact h'
  | al=>exact h'
  | sc=>exact h'
 ·cases f with
  | ow =>
   have hp:H1 p = none:=f2 p _ h.2
   refine ⟨h.1,?_⟩
   simp only [hp,if_true]
   rw [h.2];simp [tS]
  | fz=>exact h
  | al=>exact h
  | sc=>exact h
end
noncomputable def tD (X:Cx) (F:Addr -> Prop) (Φ:az) (c:CE):TE:=λσ H Q=>∃ R τ ρ d,SI X F R τ ρ σ H /\ aQ Φ c ρ = ok d /\ ∀ v H',aj H H' -> bG X.K (gP X F) R τ (iJ c) H H' v d -> Q v H'
noncomputable def tM (X:Cx) (F:Addr -> Prop) (Φ:az) (cs:List CE):TA:=λσ H Q=>∃ R τ ρ ds,SI X F R τ ρ σ H /\ cD Φ cs ρ = ok ds /\ ∀ vs H',aj H H' -> bT X.K (gP X F) R τ (dy cs) H H' vs ds -> Q vs H'
noncomputable def gY (X:Cx) (F:Addr -> Prop) (Φ:az) (c:CE):TT:=λσ H Q=>∃ R τ ρ b,SI X F R τ ρ σ H /\ vG Φ c ρ = ok b /\ ∀ H',aj H H' -> Q b H'
theorem PE.imp {X:Cx} {e:Expr} {t t':TE} (h:PE X e t) (hi:∀ σ H Q,t' σ H Q -> t σ H Q):PE X e t':=λpins s σ H Q I hw=>h pins s σ H Q I (hi σ H Q hw)
theorem PT.imp {X:Cx} {e:Expr} {t t':TT} (h:PT X e t) (hi:∀ σ H Q,t' σ H Q -> t σ H Q):PT X e t':=λpins s σ H Q I hw=>h pins s σ H Q I (hi σ H Q hw)
theorem PW.imp {X:Cx} {e:Expr} {t t':TT} (h:PW X e t) (hi:∀ σ H Q,t' σ H Q -> t σ H Q):PW X e t':=λwh pins s σ H Q I hw=>h wh pins s σ H Q I (hi σ H Q hw)
theorem PA.imp {X:Cx} {es:List Expr} {t t':TA} (h:PA X es t) (hi:∀ σ H Q,t' σ H Q -> t σ H Q):PA X es t':=λpos pins s σ H Q I hw=>h pos pins s σ H Q I (hi σ H Q hw)
theorem PS.imp {X:Cx} {st:Stmt} {t t':TS} (h:PS X st t) (hi:∀ D σ H,t' D σ H -> t D σ H):PS X st t':=λpins s σ H D I hw=>h pins s σ H D I (hi D σ H hw)
theorem nk.imp {X:Cx} {st:List Stmt} {t t':TS} (h:nk X st t) (hi:∀ D σ H,t' D σ H -> t D σ H):nk X st t':=λpins s σ H D I hw=>h pins s σ H D I (hi D σ H hw)
end DI
end
section
namespace DI
open PySem PySem.Spec PyProof.Rows L2
theorem oV:∀ (as bs:List D),dq as bs = true ↔ as.length = bs.length /\ ∀ (j:Nat) (a b:D),as[j]? = some a -> bs[j]? = some b -> kc a b = true
 | [],[]=>by simp [dq]
 | [],b :: bs=>by simp [dq]
 | a :: as,[]=>by simp [dq]
 | a :: as,b :: bs=>by
  rw [dq,Bool.and_eq_true,oV as bs]
  constructor
  ·rintro ⟨h1,h2,h3⟩
   refine ⟨by simp [h2],λj x y hx hy=>?_⟩
   cases j with
   | zero=>simp at hx hy;subst hx hy;exact h1
   | succ j=>exact h3 j x y (by simpa using hx) (by simpa using hy)
  ·rintro ⟨h2,h3⟩
   exact ⟨h3 0 a b rfl rfl,by simpa using h2,λj x y hx hy=>h3 (j + 1) x y (by simpa using hx) (by simpa using hy)⟩
noncomputable def O9 (as bs:List D) (j:Nat):Bool:=match as[j]?,bs[j]? with
 | some a,some b=>kc a b
 | _,_=>false
theorem jP (as bs:List D):((List.range (min as.length bs.length)).all (O9 as bs) && as.length == bs.length) = dq as bs:=by
 rw [Bool.eq_iff_iff,oV,Bool.and_eq_true,List.all_eq_true,beq_iff_eq]
 constructor
 ·rintro ⟨h1,h2⟩
  refine ⟨h2,λj a b ha hb=>?_⟩
  have hj:j < as.length:=by
   by_cases h:j < as.length
   ·exact h
   ·rw [List.getElem?_eq_none (by omega)] at ha;cases ha
  have:=h1 j (by rw [List.mem_range];omega)
  unfold O9 at this
  rw [ha,hb] at this;exact this
 ·rintro ⟨h2,h1⟩
  refine ⟨λj hj=>?_,h2⟩
  rw [List.mem_range] at hj
  unfold O9
  have ha:as[j]? = some as[j]:=List.getElem?_eq_getElem (by omega)
  have hb:bs[j]? = some bs[j]:=List.getElem?_eq_getElem (by omega)
  rw [ha,hb];exact h1 j _ _ ha hb
section
variable {X:Cx} {pins:List (Addr × Obj)} {σ:St} {H:Hp} {s:Shared} {N N':iQ}
theorem e_ {n:Nat} {ds:List D} (h:cK n (.tup ds) = true):∃ m,n = m + 1 /\ ∀ d ∈ ds,cK m d = true:=by
 cases n with
 | zero=>cases h
 | succ m=>exact ⟨m,rfl,List.all_eq_true.mp h⟩
theorem fb {n:Nat} {f:Fl} {ds:List D} (h:cK n (.lst f ds) = true):∃ m,n = m + 1 /\ ∀ d ∈ ds,cK m d = true:=by
 cases n with
 | zero=>cases h
 | succ m=>exact ⟨m,rfl,List.all_eq_true.mp h⟩
theorem x6 (I:Inv X pins σ H s) {p:Addr} {xs ys:List V} (h:dw X.K H p xs) (h':aC X.K H p ys):False:=by
 obtain ⟨ai,_,pl,_⟩:=I.list h
 obtain ⟨its',_,pt,_⟩:=I.tuple h'
 exact SeqAt.ne_of_list_tuple pl.isList pt rfl
theorem Bd (I:Inv X pins σ H s) (hN:∀ q p xs f,N q p (.l xs) f -> dw X.K H p xs) (Ds:∀ q p xs f,N' q p (.l xs) f -> dw X.K H p xs) :
  ∀ (n:Nat) {k k':aJ} {v:V} {d d':D},Rep (aC X.K H) N k v d -> Rep (aC X.K H) N' k' v d' -> cK n d = true -> cK n d' = true -> kc d d' = true:=by
 intro n
 induction n with
 | zero =>
  intro k k' v d d' h h' ho eT
  cases h with
  | bA=>cases h';rfl
  | bl b=>cases h';exact beq_self_eq_true b
  | int i=>cases h';exact beq_self_eq_true i
  | tup _ _=>obtain ⟨m,hm,_⟩:=e_ ho;omega
  | lst _ _=>obtain ⟨m,hm,_⟩:=fb ho;omega
  | cg _ _=>simp [cK] at ho
  | kb _ _=>simp [cK] at ho
 | succ n ih =>
  have sub:∀ {q q':aJ} {xs:List V} {ds ds':List D},ag (aC X.K H) N q 0 xs ds -> ag (aC X.K H) N' q' 0 xs ds' -> (∀ d ∈ ds,cK n d = true) -> (∀ d ∈ ds',cK n d = true) -> dq ds ds' = true:=by
   intro q q' xs ds ds' r r' ho eT
   rw [oV]
   refine ⟨by rw [<- r.length,<- r'.length],λj a b ha hb=>?_⟩
   obtain ⟨v1,h1,r1⟩:=r.get ha
   obtain ⟨v2,h2,r2⟩:=r'.get hb
   rw [h1] at h2;cases h2
   exact ih r1 r2 (ho a (List.mem_of_getElem? ha)) (eT b (List.mem_of_getElem? hb))
  intro k k' v d d' h h' ho eT
  cases h with
  | bA=>cases h';rfl
  | bl b=>cases h';exact beq_self_eq_true b
  | int i=>cases h';exact beq_self_eq_true i
  | tup h r =>
   obtain ⟨m,hm,ho⟩:=e_ ho
   obtain rfl:n = m:=by omega
   cases h' with
   | tup h' r' =>
    obtain ⟨m,hm,eT⟩:=e_ eT
    obtain rfl:n = m:=by omega
    obtain rfl:=I.lp h h';exact sub r r' ho eT
   | lst h' r'=>exact (x6 I (Ds _ _ _ _ h') h).elim
   | cg _ _=>simp [cK] at eT
   | kb _ _=>simp [cK] at eT
  | lst h r =>
   obtain ⟨m,hm,ho⟩:=fb ho
   obtain rfl:n = m:=by omega
   cases h' with
   | tup h' r'=>exact (x6 I (hN _ _ _ _ h) h').elim
   | lst h' r' =>
    obtain ⟨m,hm,eT⟩:=fb eT
    obtain rfl:n = m:=by omega
    obtain rfl:=I.iY (hN _ _ _ _ h) (Ds _ _ _ _ h');exact sub r r' ho eT
   | cg _ _=>simp [cK] at eT
   | kb _ _=>simp [cK] at eT
  | cg _ _=>simp [cK] at ho
  | kb _ _=>simp [cK] at ho
structure Alike (A:Around) (s:Shared) (u u':Value) (b:Bool):Prop where
 eq:SeqAt.EqAt A s u u' b
 rc:SeqAt.RcAt A s u u' b
 ne:SeqAt.RcNeAt A s u u' (!b)
theorem alike (I:Inv X pins σ H s) (hN:∀ q p xs f,N q p (.l xs) f -> dw X.K H p xs) (Ds:∀ q p xs f,N' q p (.l xs) f -> dw X.K H p xs) :
  ∀ (n:Nat) (A:Around) {k k':aJ} {v v':V} {u u':Value} {d d':D},Rep (aC X.K H) N k v d -> Rep (aC X.K H) N' k' v' d' -> cK n d = true -> cK n d' = true -> RelV v u -> RelV v' u' -> A.units + n < cLine ->
   Alike A s u u' (kc d d'):=by
 intro n
 induction n with
 | zero =>
  intro A k k' v v' u u' d d' h h' ho eT r r' hu
  cases h with
  | tup _ _=>obtain ⟨m,hm,_⟩:=e_ ho;omega
  | lst _ _=>obtain ⟨m,hm,_⟩:=fb ho;omega
  | cg _ _=>simp [cK] at ho
  | kb _ _=>simp [cK] at ho
  | bA =>
   cases r
   cases h' with
   | tup _ _=>obtain ⟨m,hm,_⟩:=e_ eT;omega
   | lst _ _=>obtain ⟨m,hm,_⟩:=fb eT;omega
   | cg _ _=>simp [cK] at eT
   | kb _ _=>simp [cK] at eT
   | bA=>cases r';exact ⟨SeqAt.EqAt.same _,SeqAt.RcAt.none_none,SeqAt.RcNeAt.none_none⟩
   | bl b=>cases r';exact ⟨SeqAt.EqAt.none_bool b,SeqAt.RcAt.none_bool b,SeqAt.RcNeAt.none_bool b⟩
   | int b=>obtain ⟨t,rfl⟩:=r';exact ⟨SeqAt.EqAt.none_int b t,SeqAt.RcAt.none_int b t,SeqAt.RcNeAt.none_int b t⟩
  | bl a =>
   cases r
   cases h' with
   | tup _ _=>obtain ⟨m,hm,_⟩:=e_ eT;omega
   | lst _ _=>obtain ⟨m,hm,_⟩:=fb eT;omega
   | cg _ _=>simp [cK] at eT
   | kb _ _=>simp [cK] at eT
   | bA=>cases r';exact ⟨SeqAt.EqAt.bool_none a,SeqAt.RcAt.bool_none a,SeqAt.RcNeAt.bool_none a⟩
   | bl b=>cases r';exact ⟨SeqAt.EqAt.bool_bool a b,SeqAt.RcAt.bool_bool a b,SeqAt.RcNeAt.bool_bool a b⟩
   | int b=>obtain ⟨t,rfl⟩:=r';exact ⟨SeqAt.EqAt.bool_int a b t,SeqAt.RcAt.bool_int a b t,SeqAt.RcNeAt.bool_int a b t⟩
  | int a =>
   obtain ⟨t',rfl⟩:=r
   cases h' with
   | tup _ _=>obtain ⟨m,hm,_⟩:=e_ eT;omega
   | lst _ _=>obtain ⟨m,hm,_⟩:=fb eT;omega
   | cg _ _=>simp [cK] at eT
   | kb _ _=>simp [cK] at eT
   | bA=>cases r';exact ⟨SeqAt.EqAt.int_none a t',SeqAt.RcAt.int_none a t',SeqAt.RcNeAt.int_none a t'⟩
   | bl b=>cases r';exact ⟨SeqAt.EqAt.int_bool a t' b,SeqAt.RcAt.int_bool a t' b,SeqAt.RcNeAt.int_bool a t' b⟩
   | int b=>obtain ⟨t,rfl⟩:=r';exact ⟨SeqAt.EqAt.int_int a t' b t,SeqAt.RcAt.int_int a t' b t,SeqAt.RcNeAt.int_int a t' b t⟩
 | succ n ih =>
  intro A k k' v v' u u' d d' h h' ho eT r r' hu
  have fu:A.units < cLine:=by omega
  have Wz:A.in1.units + n < cLine:=by show A.units + 1 + n < cLine;omega
  have sub:∀ {q q':aJ} {xs xs':List V} {ds ds':List D} {ai its':List Value},ag (aC X.K H) N q 0 xs ds -> ag (aC X.K H) N' q' 0 xs' ds' -> (∀ d ∈ ds,cK n d = true) -> (∀ d ∈ ds',cK n d = true) -> Vals xs ai -> Vals xs' its' ->
    ∀ (j:Nat) (h1:j < ai.toArray.size) (h2:j < its'.toArray.size),SeqAt.EqAt A.in1 s ai.toArray[j] its'.toArray[j] (O9 ds ds' j):=by
   intro q q' xs xs' ds ds' ai its' rs wa hd JZ rv vE j h1 h2
   have l1:ds.length = ai.length:=by rw [<- rs.length,rv.length]
   have l2:ds'.length = its'.length:=by rw [<- wa.length,vE.length]
   simp only [List.size_toArray] at h1 h2
   have ea:ds[j]? = some ds[j]:=List.getElem?_eq_getElem (by omega)
   have eb:ds'[j]? = some ds'[j]:=List.getElem?_eq_getElem (by omega)
   obtain ⟨w1,g1,p1⟩:=rs.get ea
   obtain ⟨w2,g2,p2⟩:=wa.get eb
   obtain ⟨u1,k1,z1⟩:=rv.get g1
   obtain ⟨u2,k2,z2⟩:=vE.get g2
   have:=(ih A.in1 p1 p2 (hd _ (List.getElem_mem _)) (JZ _ (List.getElem_mem _)) z1 z2 Wz).eq
   unfold O9
   rw [ea,eb]
   rw [List.getElem?_eq_getElem h1] at k1
   rw [List.getElem?_eq_getElem h2] at k2
   cases k1;cases k2
   simpa using this
  cases h with
  | bA =>
   cases r
   cases h' with
   | cg _ _=>simp [cK] at eT
   | kb _ _=>simp [cK] at eT
   | bA=>cases r';exact ⟨SeqAt.EqAt.same _,SeqAt.RcAt.none_none,SeqAt.RcNeAt.none_none⟩
   | bl b=>cases r';exact ⟨SeqAt.EqAt.none_bool b,SeqAt.RcAt.none_bool b,SeqAt.RcNeAt.none_bool b⟩
   | int b=>obtain ⟨t,rfl⟩:=r';exact ⟨SeqAt.EqAt.none_int b t,SeqAt.RcAt.none_int b t,SeqAt.RcNeAt.none_int b t⟩
   | tup h' rr=>cases r';obtain ⟨ai,_,pt,_⟩:=I.tuple h';exact ⟨SeqAt.EqAt.none_tuple pt fu,SeqAt.RcAt.none_tuple pt fu,SeqAt.RcNeAt.none_tuple pt fu⟩
   | lst h' rr=>cases r';obtain ⟨ai,_,pt,_⟩:=I.list (Ds _ _ _ _ h');exact ⟨SeqAt.EqAt.none_list pt.isList fu,SeqAt.RcAt.none_list pt.isList fu,SeqAt.RcNeAt.none_list pt.isList fu⟩
  | bl a =>
   cases r
   cases h' with
   | cg _ _=>simp [cK] at eT
   | kb _ _=>simp [cK] at eT
   | bA=>cases r';exact ⟨SeqAt.EqAt.bool_none a,SeqAt.RcAt.bool_none a,SeqAt.RcNeAt.bool_none a⟩
   | bl b=>cases r';exact ⟨SeqAt.EqAt.bool_bool a b,SeqAt.RcAt.bool_bool a b,SeqAt.RcNeAt.bool_bool a b⟩
   | int b=>obtain ⟨t,rfl⟩:=r';exact ⟨SeqAt.EqAt.bool_int a b t,SeqAt.RcAt.bool_int a b t,SeqAt.RcNeAt.bool_int a b t⟩
   | tup h' rr=>cases r';obtain ⟨ai,_,pt,_⟩:=I.tuple h';exact ⟨SeqAt.EqAt.bool_tuple a pt fu,SeqAt.RcAt.bool_tuple a pt fu,SeqAt.RcNeAt.bool_tuple a pt fu⟩
   | lst h' rr=>cases r';obtain ⟨ai,_,pt,_⟩:=I.list (Ds _ _ _ _ h');exact ⟨SeqAt.EqAt.bool_list a pt.isList fu,SeqAt.RcAt.bool_list a pt.isList fu,SeqAt.RcNeAt.bool_list a pt.isList fu⟩
  | int a =>
   obtain ⟨t',rfl⟩:=r
   cases h' with
   | cg _ _=>simp [cK] at eT
   | kb _ _=>simp [cK] at eT
   | bA=>cases r';exact ⟨SeqAt.EqAt.int_none a t',SeqAt.RcAt.int_none a t',SeqAt.RcNeAt.int_none a t'⟩
   | bl b=>cases r';exact ⟨SeqAt.EqAt.int_bool a t' b,SeqAt.RcAt.int_bool a t' b,SeqAt.RcNeAt.int_bool a t' b⟩
   | int b=>obtain ⟨t,rfl⟩:=r';exact ⟨SeqAt.EqAt.int_int a t' b t,SeqAt.RcAt.int_int a t' b t,SeqAt.RcNeAt.int_int a t' b t⟩
   | tup h' rr=>cases r';obtain ⟨ai,_,pt,_⟩:=I.tuple h';exact ⟨SeqAt.EqAt.int_tuple a t' pt fu,SeqAt.RcAt.int_tuple a t' pt fu,SeqAt.RcNeAt.int_tuple a t' pt fu⟩
   | lst h' rr=>cases r';obtain ⟨ai,_,pt,_⟩:=I.list (Ds _ _ _ _ h');exact ⟨SeqAt.EqAt.int_list a t' pt.isList fu,SeqAt.RcAt.int_list a t' pt.isList fu,SeqAt.RcNeAt.int_list a t' pt.isList fu⟩
  | @tup _ p xs ds h rs =>
   cases r
   obtain ⟨ai,rv,pt,_⟩:=I.tuple h
   have pt:s.heap.IsTuple p ai.toArray:=pt
   cases h' with
   | cg _ _=>simp [cK] at eT
   | kb _ _=>simp [cK] at eT
   | bA=>cases r';exact ⟨SeqAt.EqAt.tuple_none pt fu,SeqAt.RcAt.tuple_none pt fu,SeqAt.RcNeAt.tuple_none pt fu⟩
   | bl b=>cases r';exact ⟨SeqAt.EqAt.tuple_bool b pt fu,SeqAt.RcAt.tuple_bool b pt fu,SeqAt.RcNeAt.tuple_bool b pt fu⟩
   | int b=>obtain ⟨t,rfl⟩:=r';exact ⟨SeqAt.EqAt.tuple_int b t pt fu,SeqAt.RcAt.tuple_int b t pt fu,SeqAt.RcNeAt.tuple_int b t pt fu⟩
   | lst h' rr=>cases r';obtain ⟨its',_,pl,_⟩:=I.list (Ds _ _ _ _ h');exact ⟨SeqAt.EqAt.tuple_list pt pl.isList fu,SeqAt.RcAt.tuple_list pt pl.isList fu,SeqAt.RcNeAt.tuple_list pt pl.isList fu⟩
   | @tup _ p' xs' ds' h' wa =>
    cases r'
    obtain ⟨m,hm,LP⟩:=e_ ho
    obtain rfl:n = m:=by omega
    obtain ⟨m,hm,rY⟩:=e_ eT
    obtain rfl:n = m:=by omega
    obtain ⟨its',vE,QI,_⟩:=I.tuple h'
    have QI:s.heap.IsTuple p' its'.toArray:=QI
    have key:=sub rs wa LP rY rv vE
    have l1:ds.length = ai.toArray.size:=by rw [List.size_toArray,<- rs.length,rv.length]
    have l2:ds'.length = its'.toArray.size:=by rw [List.size_toArray,<- wa.length,vE.length]
    have rc:SeqAt.RcAt A s (.ref p) (.ref p') (kc (.tup ds) (.tup ds')):=by
     have:=SeqAt.RcAt.tuples pt QI fu key
     rw [<- l1,<- l2,jP] at this;exact this
    refine ⟨?_,rc,?_⟩
    ·by_cases hp:p = p'
     ·subst hp
      rw [Bd I hN Ds (n + 1) (Rep.tup h rs) (Rep.tup h' wa) ho eT]
      exact SeqAt.EqAt.same _
     ·exact SeqAt.EqAt.of_refs hp rc
    ·have:=SeqAt.RcNeAt.tuples pt QI fu key
     rw [<- l1,<- l2,jP] at this;exact this
  | @lst _ p xs f ds h rs =>
   cases r
   obtain ⟨ai,rv,pl,_⟩:=I.list (hN _ _ _ _ h)
   have pl:=pl.isList
   cases h' with
   | cg _ _=>simp [cK] at eT
   | kb _ _=>simp [cK] at eT
   | bA=>cases r';exact ⟨SeqAt.EqAt.list_none pl fu,SeqAt.RcAt.list_none pl fu,SeqAt.RcNeAt.list_none pl fu⟩
   | bl b=>cases r';exact ⟨SeqAt.EqAt.list_bool b pl fu,SeqAt.RcAt.list_bool b pl fu,SeqAt.RcNeAt.list_bool b pl fu⟩
   | int b=>obtain ⟨t,rfl⟩:=r';exact ⟨SeqAt.EqAt.list_int b t pl fu,SeqAt.RcAt.list_int b t pl fu,SeqAt.RcNeAt.list_int b t pl fu⟩
   | tup h' rr=>cases r';obtain ⟨its',_,pt,_⟩:=I.tuple h';exact ⟨SeqAt.EqAt.list_tuple pl pt fu,SeqAt.RcAt.list_tuple pl pt fu,SeqAt.RcNeAt.list_tuple pl pt fu⟩
   | @lst _ p' xs' f' ds' h' wa =>
    cases r'
    obtain ⟨m,hm,LP⟩:=fb ho
    obtain rfl:n = m:=by omega
    obtain ⟨m,hm,rY⟩:=fb eT
    obtain rfl:n = m:=by omega
    obtain ⟨its',vE,GQ,_⟩:=I.list (Ds _ _ _ _ h')
    have GQ:=GQ.isList
    have key:=sub rs wa LP rY rv vE
    have l1:ds.length = ai.toArray.size:=by rw [List.size_toArray,<- rs.length,rv.length]
    have l2:ds'.length = its'.toArray.size:=by rw [List.size_toArray,<- wa.length,vE.length]
    have two:SeqAt.RcAt A s (.ref p) (.ref p') (kc (.lst f ds) (.lst f' ds')) /\ SeqAt.RcNeAt A s (.ref p) (.ref p') (!kc (.lst f ds) (.lst f' ds')):=by
     show SeqAt.RcAt A s (.ref p) (.ref p') (dq ds ds') /\ SeqAt.RcNeAt A s (.ref p) (.ref p') (!dq ds ds')
     rw [<- jP]
     by_cases hl:ds.length = ds'.length
     ·have e1:(ds.length == ds'.length) = true:=by simp [hl]
      rw [e1,Bool.and_true,<- hl,Nat.min_self]
      have hz:ai.toArray.size = its'.toArray.size:=by rw [<- l1,<- l2,hl]
      refine ⟨?_,?_⟩
      ·have:=SeqAt.RcAt.lists pl GQ hz fu key
       rw [<- l1] at this;exact this
      ·have:=SeqAt.RcNeAt.lists pl GQ hz fu key
       rw [<- l1] at this;exact this
     ·have e1:(ds.length == ds'.length) = false:=by simp [hl]
      rw [e1,Bool.and_false]
      have hz:(ai.toArray.size != its'.toArray.size) = true:=by rw [<- l1,<- l2];simp [hl]
      exact ⟨SeqAt.RcAt.lists_lengths pl GQ hz fu,SeqAt.RcNeAt.lists_lengths pl GQ hz fu⟩
    refine ⟨?_,two.1,two.2⟩
    by_cases hp:p = p'
    ·subst hp
     rw [Bd I hN Ds (n + 1) (Rep.lst h rs) (Rep.lst h' wa) ho eT]
     exact SeqAt.EqAt.same _
    ·exact SeqAt.EqAt.of_refs hp two.1
  | cg _ _=>simp [cK] at ho
  | kb _ _=>simp [cK] at ho
end
end DI
end
section
namespace DI
open PySem PySem.Spec PyProof.Rows L2
structure Px where
 pe:Nat -> Scope -> List Str -> Expr -> Option (List Expr)
 pi:Nat -> Scope -> List Str -> Expr -> Option (List Expr)
 pm:Nat -> Scope -> List Str -> Stmt -> Option (Expr × List Expr)
structure Sx where
 sc:Scope
 N:List Str
 fn:Nat -> Option Str
 bl:List Str
 cs:List (Str × GK)
 px:Px
noncomputable def Nr:Gj -> Operator
 | .add=>.Add | .sub=>.Sub | .mul=>.Mult | .fdiv=>.FloorDiv | .mod=>.Mod | .pow=>.Pow | .shr=>.RShift | .band=>.BitAnd
noncomputable def Ue:AG -> CmpOp
 | .eq=>.Eq | .ne=>.NotEq | .lt=>.Lt | .le=>.LtE | .gt=>.Gt | .ge=>.GtE | .NW=>.Is | .BE=>.IsNot | .wd _=>.IsNot | .NZ=>.In
noncomputable def tyName:Ty -> String
 | .int=>"int" | .bool=>"bool" | .list=>"list" | .tuple=>"tuple"
noncomputable def sR:Bf -> String
 | .len=>"len" | .abs=>"abs" | .B6=>"int" | .list1=>"list" | .tuple1=>"tuple" | .iM=>"sum" | .all1=>"all" | .fS=>"sorted"
noncomputable def HE (sc:Scope) (x:Str):Bool:=decide (sc.names.lookup x = some .local) || decide (sc.names.lookup x = some .cell) || decide (sc.names.lookup x = some .free)
noncomputable def gT (sc:Scope) (x:Str):Bool:=decide (sc.names.lookup x = some .globalImplicit)
noncomputable def lG (x:Str):Bool:=!(x == ("__debug__" : Str)) && !(x == ("__classdict__" : Str)) && decide (x ≠ ("__name__" : Str))
noncomputable def qH:Expr -> Bool
 | .Set _ _ _=>false
 | _=>true
noncomputable def uh (sc outer:Scope):Scope :=
 { sc with names:=sc.names.map λ(n,k)=>if (k == .free && outer.kind == .function && outer.names.lookup n == some .cell) then (n,.cell) else (n,k) }
noncomputable def bK:Expr -> List Str
 | .Name x _=>[x]
 | .Tuple es _ _=>es.filterMap λe=>match e with | .Name x _=>some x | _=>none
 | _=>[]
noncomputable def gu (S:Sx) (caps:List Nat):List Str:=caps.filterMap λi=>S.N[i]?
noncomputable def Sx.inner (S:Sx) (target:Expr) (caps:List Nat) (sc:Scope):Sx:=⟨uh sc S.sc,bK target ++ gu S caps,S.fn,S.bl,S.cs,S.px⟩
noncomputable def gp:Expr -> Bool
 | .Tuple _ _ _=>true
 | _=>false
noncomputable def isNm:Expr -> Bool
 | .Name _ _=>true
 | _=>false
noncomputable def fR:Expr -> Bool
 | .Call ..=>true
 | .BinOp ..=>true
 | .Subscript ..=>true
 | .Compare ..=>true
 | .Dict ..=>true
 | _=>false
noncomputable def QL:Expr -> Bool
 | .Call ..=>true
 | .Name ..=>true
 | _=>false
theorem ao {a b:Bool} (h:(a && b) = true):a = true /\ b = true:=by
 cases a <;> cases b <;> first | exact ⟨rfl,rfl⟩ | cases h
noncomputable def aM {α:Type} (o:Option α) (f:α -> Bool):Bool:=match o with
 | some a=>f a
 | none=>false
theorem aN {α:Type} {o:Option α} {f:α -> Bool} (h:aM o f = true):∃ a,o = some a /\ f a = true:=by
 cases o with
 | some a=>exact ⟨a,rfl,h⟩
 | none=>cases h
noncomputable def vC:Expr -> Option Const
 | .Constant c _ _=>some c
 | _=>none
theorem AS {e:Expr} {c:Const} (h:vC e = some c):∃ j p,e = .Constant c j p:=by
 cases e <;> first | (cases h;done) | (cases h;exact ⟨_,_,rfl⟩)
noncomputable def B2:Const -> Bool
 | .none=>true
 | _=>false
theorem zH {c:Const} (h:B2 c = true):c = .none:=by cases c <;> first | rfl | cases h
noncomputable def G5 (b:Bool):Const -> Bool
 | .bool c=>decide (b = c)
 | _=>false
theorem B4 {b:Bool} {c:Const} (h:G5 b c = true):c = .bool b:=by cases c <;> first | (cases h;done) | rw [of_decide_eq_true h]
noncomputable def B3 (b:Int):Const -> Bool
 | .int c=>decide (b = c)
 | _=>false
theorem zI {b:Int} {c:Const} (h:B3 b c = true):c = .int b:=by cases c <;> first | (cases h;done) | rw [of_decide_eq_true h]
noncomputable def JG (b:Str):Const -> Bool
 | _=>false
theorem LH {b:Str} {c:Const} (h:JG b c = true):c = .str b:=by cases c <;> first | (cases h;done) | rw [of_decide_eq_true h]
noncomputable def DH:Expr -> Option Str
 | .Name x _=>some x
 | _=>none
theorem lj {e:Expr} {x:Str} (h:DH e = some x):∃ p,e = .Name x p:=by
 cases e <;> first | (cases h;done) | (cases h;exact ⟨_,rfl⟩)
noncomputable def HH:Expr -> Option (Expr × Operator × Expr)
 | .BinOp l o r _=>some (l,o,r)
 | _=>none
theorem xr {e l r:Expr} {o:Operator} (h:HH e = some (l,o,r)):∃ p,e = .BinOp l o r p:=by
 cases e <;> first | (cases h;done) | (cases h;exact ⟨_,rfl⟩)
noncomputable def RF:Expr -> Option (UnaryOp × Expr)
 | .UnaryOp o e _=>some (o,e)
 | _=>none
theorem AO {e x:Expr} {o:UnaryOp} (h:RF e = some (o,x)):∃ p,e = .UnaryOp o x p:=by
 cases e <;> first | (cases h;done) | (cases h;exact ⟨_,rfl⟩)
noncomputable def vBool:Expr -> Option (BoolOp × List Expr)
 | .BoolOp o vs _=>some (o,vs)
 | _=>none
theorem tE {e:Expr} {o:BoolOp} {vs:List Expr} (h:vBool e = some (o,vs)):∃ p,e = .BoolOp o vs p:=by
 cases e <;> first | (cases h;done) | (cases h;exact ⟨_,rfl⟩)
noncomputable def vIf:Expr -> Option (Expr × Expr × Expr)
 | .IfExp t x y _=>some (t,x,y)
 | _=>none
theorem HG {e t x y:Expr} (h:vIf e = some (t,x,y)):∃ p,e = .IfExp t x y p:=by
 cases e <;> first | (cases h;done) | (cases h;exact ⟨_,rfl⟩)
noncomputable def one {α:Type}:List α -> Option α
 | []=>none
 | x :: xs=>match xs with
  | []=>some x
  | _ :: _=>none
theorem bL {α:Type} {l:List α} {x:α} (h:one l = some x):l = [x]:=by
 cases l with
 | nil=>cases h
 | cons y ys=>cases ys with
  | nil=>cases h;rfl
  | cons _ _=>cases h
noncomputable def two {α:Type}:List α -> Option (α × α)
 | []=>none
 | x :: xs=>(one xs).map λy=>(x,y)
theorem jL {α:Type} {l:List α} {x y:α} (h:two l = some (x,y)):l = [x,y]:=by
 cases l with
 | nil=>cases h
 | cons z zs=>cases zs with
  | nil=>cases h
  | cons w ws=>cases ws with
   | nil=>cases h;rfl
   | cons _ _=>cases h
noncomputable def RI {α:Type}:List α -> Option (α × List α)
 | []=>none
 | x :: xs=>some (x,xs)
theorem AV {α:Type} {l xs:List α} {x:α} (h:RI l = some (x,xs)):l = x :: xs:=by
 cases l with
 | nil=>cases h
 | cons y ys=>cases h;rfl
noncomputable def DP:Expr -> Option (Expr × List CmpOp × List Expr)
 | .Compare l os rs _=>some (l,os,rs)
 | _=>none
theorem xq {e l:Expr} {os:List CmpOp} {rs:List Expr} (h:DP e = some (l,os,rs)):∃ p,e = .Compare l os rs p:=by
 cases e <;> first | (cases h;done) | (cases h;exact ⟨_,rfl⟩)
noncomputable def vM:Expr -> Option (Expr × List Expr × List Keyword)
 | .Call f as ks _=>some (f,as,ks)
 | _=>none
theorem ze {e f:Expr} {as:List Expr} {ks:List Keyword} (h:vM e = some (f,as,ks)):∃ p,e = .Call f as ks p:=by
 cases e <;> first | (cases h;done) | (cases h;exact ⟨_,rfl⟩)
noncomputable def eh (e:Expr):Option (Str × List Expr):=match vM e with
 | some (f,as,ks)=>match ks with
  | []=>match DH f with
   | some x=>some (x,as)
   | none=>none
  | _ :: _=>none
 | none=>none
theorem cM {e:Expr} {x:Str} {as:List Expr} (h:eh e = some (x,as)):∃ p pos,e = .Call (.Name x p) as [] pos:=by
 unfold eh at h
 cases hv:vM e with
 | none=>rw [hv] at h;cases h
 | some z =>
  obtain ⟨f,Rt,ks⟩:=z
  rw [hv] at h
  obtain ⟨pos,rfl⟩:=ze hv
  cases ks with
  | cons _ _=>cases h
  | nil =>
   cases hn:DH f with
   | none=>replace h:(match DH f with | some x=>some (x,Rt) | none=>none) = some (x,as):=h;rw [hn] at h;cases h
   | some y =>
    replace h:(match DH f with | some x=>some (x,Rt) | none=>none) = some (x,as):=h
    rw [hn] at h
    obtain ⟨p,rfl⟩:=lj hn
    cases h
    exact ⟨p,pos,rfl⟩
noncomputable def nB:Expr -> Option (Expr × Expr)
 | .Subscript a b _=>some (a,b)
 | _=>none
theorem ki {e a b:Expr} (h:nB e = some (a,b)):∃ p,e = .Subscript a b p:=by
 cases e <;> first | (cases h;done) | (cases h;exact ⟨_,rfl⟩)
noncomputable def vK:Expr -> Option (List Expr)
 | .Tuple es _ _=>some es
 | _=>none
theorem jn {e:Expr} {es:List Expr} (h:vK e = some es):∃ n p,e = .Tuple es n p:=by
 cases e <;> first | (cases h;done) | (cases h;exact ⟨_,_,rfl⟩)
noncomputable def Mg:Expr -> Option (List Expr)
 | .List es _=>some es
 | _=>none
theorem DJ {e:Expr} {es:List Expr} (h:Mg e = some es):∃ p,e = .List es p:=by
 cases e <;> first | (cases h;done) | (cases h;exact ⟨_,rfl⟩)
noncomputable def Gm:Expr -> Option (Expr × List Comprehension × Scope)
 | .ListComp e gs sc _=>some (e,gs,sc)
 | _=>none
theorem AR {e x:Expr} {gs:List Comprehension} {sc:Scope} (h:Gm e = some (x,gs,sc)):∃ p,e = .ListComp x gs sc p:=by
 cases e <;> first | (cases h;done) | (cases h;exact ⟨_,rfl⟩)
theorem nZ {a:Bool} (h:(!a) = true):a = false:=by cases a <;> first | rfl | cases h
noncomputable def sM (S:Sx) (n:Nat) (t:Tg) (caps:List Nat) (target:Expr) (sc:Scope):Bool :=
 decide (sc.kind = .function) && sc.names.all (λ(x,k)=>decide (k ≠ .cell) && (decide (k ≠ .local) || decide (sc.names.lookup x = some .local)) && (decide (k ≠ .free) || decide (S.sc.names.lookup x = some .cell) || decide (S.sc.names.lookup x = some .free))) &&
 decide (n = (bK target).length) && (bK target).all (λx=>decide (sc.names.lookup x = some .local)) && decide (bK target ++ gu S caps).Nodup &&
 caps.all (λi=>match S.N[i]? with | some x=>decide (sc.names.lookup x = some .free) | none=>false) &&
 (match t with
  | .nm i=>decide (i = 0) && isNm target
  | .tp is=>aM (vK target) λes=>decide (is = List.range es.length) && es.all isNm)
mutual
noncomputable def bI (S:Sx):CE -> Expr -> Bool
 | .du p es,e0=>fR e0 && aM (S.px.pe p S.sc S.bl e0) λxs=>bF S es xs
 | .bA,e0=>aM (vC e0) λc=>B2 c
 | .bl b,e0=>aM (vC e0) λc=>G5 b c
 | .int i,e0=>aM (vC e0) λc=>B3 i c
 | .v i,e0=>aM (DH e0) λx=>decide (S.N[i]? = some x) && HE S.sc x && lG x
 | .glo x i,e0=>aM (DH e0) λy=>decide (y = x) && gT S.sc x && decide ((x,GK.i i) ∈ S.cs) && !(x == ("__debug__" : Str))
 | .glt x zs,e0=>aM (DH e0) λy=>decide (y = x) && gT S.sc x && decide ((x,GK.t zs) ∈ S.cs) && !(x == ("__debug__" : Str))
 | .bin op a b,e0=>aM (HH e0) λz=>decide (z.2.1 = Nr op) && bI S a z.1 && bI S b z.2.2
 | .neg a,e0=>aM (RF e0) λz=>decide (z.1 = .USub) && bI S a z.2
 | .not a,e0=>aM (RF e0) λz=>decide (z.1 = .Not) && bI S a z.2
 | .and es,e0=>aM (vBool e0) λz=>decide (z.1 = .And) && bF S es z.2
 | .or es,e0=>aM (vBool e0) λz=>decide (z.1 = .Or) && bF S es z.2
 | .ite c a b,e0=>aM (vIf e0) λz=>bI S c z.1 && bI S a z.2.1 && bI S b z.2.2
 | .cmp op a b,e0=>aM (DP e0) λz=>decide (z.2.1 = [Ue op]) && bI S a z.1 && aM (one z.2.2) λr=>bI S b r && qH r
 | .oo a t,e0=>aM (eh e0) λz=>decide (z.1 = ("isinstance" : Str)) && gT S.sc z.1 && decide (z.1 ∈ S.bl) && aM (two z.2) λy=>bI S a y.1 && aM (DH y.2) λx=>decide (x = (tyName t:Str)) && gT S.sc x && decide (x ∈ S.bl)
 | .call f es,e0=>aM (eh e0) λz=>decide (S.fn f = some z.1) && gT S.sc z.1 && lG z.1 && aM (RI z.2) λy=>bF S es (y.1 :: y.2)
 | .bf f es,e0=>aM (eh e0) λz=>decide (z.1 = (sR f:Str)) && gT S.sc z.1 && decide (z.1 ∈ S.bl) && aM (RI z.2) λy=>bF S es (y.1 :: y.2)
 | .lH a,e0=>aM (eh e0) λz=>decide (z.1 = ("len" : Str)) && gT S.sc z.1 && decide (z.1 ∈ S.bl) && aM (one z.2) λy=>aM (eh y) λw=>decide (w.1 = ("set" : Str)) && gT S.sc w.1 && decide (w.1 ∈ S.bl) && aM (one w.2) λu=>bI S a u
 | .ix a b,e0=>aM (nB e0) λz=>bI S a z.1 && bI S b z.2
 | .tup es,e0=>aM (vK e0) λxs=>bF S es xs && decide (es.length <= 1000)
 | .lst es,e0=>aM (Mg e0) λxs=>bF S es xs && decide (es.length <= 1000)
 | .comp n t caps ik es a_ elt,e0=>aM (Gm e0) λz=>aM (one z.2.1) λg=>decide (g.is_async = 0) && sM S n t caps g.target z.2.2 && qH g.iter && decide (a_.length <= 1) && bF (S.inner g.target caps z.2.2) a_ g.ifs && bI (S.inner g.target caps z.2.2) elt z.1 &&
     (match ik with
      | .lC=>aM (eh g.iter) λw=>decide (w.1 = ("range" : Str)) && gT S.sc w.1 && decide (w.1 ∈ S.bl) && aM (one w.2) λy=>bF S es [y]
      | .seq=>bF S es [g.iter]
      | .du p=>QL g.iter && (decide (1100 <= p) || gp g.target) && aM (S.px.pi p S.sc S.bl g.iter) λxs=>bF S es xs)
noncomputable def bF (S:Sx):List CE -> List Expr -> Bool
 | [],es=>match es with
  | []=>true
  | _ :: _=>false
 | c :: cs,es=>match es with
  | []=>false
  | e :: es=>bI S c e && bF S cs es
end
noncomputable def GA (K:PySem.W.Frag) (n:Nat) (m:List D -> O D):Sp:=λvs H Q _=>∃ (F:Addr -> Prop) (ds:List D) (r:D),vs.length = n /\ ag (aC K H) (nd K F (λ_=>False) (λ_=>none) H) [] 0 vs ds /\ m ds = ok r /\
 ∀ v H',aj H H' -> (∃ τt:Addr -> Option aJ,(∀ p q,τt p = some q -> H p = none) /\ Rep (aC K H') (nd K (λp=>F p \/ H p = none) (λ_=>False) τt H') [] v r) -> Q v H'
structure Lo (X:Cx) (k:Nat) (x:Str) (m:List D -> O D):Prop where
 ex:∃ (f:Addr) (fd:FuncData) (ps:List Str),jZ X.prog X.w X.K X.mg X.base C8 k f fd ps (GA X.K ps.length m) /\ X.mg x = some (.ref f) /\ PySem.W.keepIn X.K (.ref f) = true /\ Binds X.K fd ps [] /\ ∀ ds r,m ds = ok r -> ds.length = ps.length
noncomputable def kinds:List String:=["NoneType","bool","int","str","list","tuple","dict"]
noncomputable def NV:Ty -> String -> Bool
 | .int,s=>s == "int" || s == "bool"
 | t,s=>s == tyName t
theorem aj.upd {H:Hp} {p:Addr} {o:HO} (h:H p = none):aj H (upd H p o):=λb u e=>by
 rw [aE (by rintro rfl;rw [h] at e;cases e)];exact e
theorem BL {i j:Int} (h:gH i j = true):IntMulOk i j:=by
 unfold gH at h
 simp only [Bool.or_eq_true,Bool.and_eq_true,decide_eq_true_eq] at h
 rcases h with (h | h) | ⟨h1,h2⟩
 ·exact .of_left (intBits_le h)
 ·exact .of_right (intBits_le h)
 ·have b1:Builtin.Int.intBits i <= 9000:=intBits_le h1
  have b2:Builtin.Int.intBits j <= 9000:=intBits_le h2
  unfold IntMulOk
  have hb:Builtin.Int.intTooBig ((Builtin.Int.intBits i:Int) + (Builtin.Int.intBits j:Int)) = false:=by
   unfold Builtin.Int.intTooBig
   have:(bitsLine:Int) = 134217728:=by decide
   exact decide_eq_false (by omega)
  rw [hb];simp
section
variable {K:PySem.W.Frag} {R:Addr -> Prop} {τ τt:Addr -> Option aJ} {fv:List Nat} {H H':Hp}
theorem xX {X:Cx}:jX X (binaryOp .Add) (λx y H Q=>∃ a b xs ys,x = .ref a /\ y = .ref b /\ aC X.K H a xs /\ aC X.K H b ys /\ xs.length + ys.length <= sizeLine /\ (xs = [] -> Q (.ref b) H) /\ (ys = [] -> Q (.ref a) H) /\ ∀ p,H p = none -> Q (.ref p) (upd H p (.tup (xs ++ ys)))):=by
 intro pins s σ H x y v u Q I rx ry h
 obtain ⟨a,b,xs,ys,rfl,rfl,ha,hb,hz,q0,q1,q2⟩:=h
 cases rx
 cases ry
 by_cases hx:xs = []
 ·subst hx
  obtain ⟨ai,r1,p1,_⟩:=I.tuple ha
  obtain ⟨wx,r2,p2,_⟩:=I.tuple hb
  cases r1
  obtain ⟨⟨cls,dd,data,sl⟩,ho,hc,n,hd⟩:=id p1
  obtain ⟨⟨FP,yJ,data2,vD⟩,rY,hc2,n2,hd2⟩:=id p2
  simp only at hc hd hc2 hd2
  subst hc hd hc2 hd2
  exact concat_meets ⟨_,ho,rfl⟩ ⟨_,rY,rfl⟩ noFill_tuple_add seq_tuple_add PySem.F.slot_tuple_add PySem.F.entry_tuple_add (PySem.F.args_tuple_add_2 _ _)
   (tuple_addW0 a b [].toArray wx.toArray n n2 dd yJ sl vD rfl) ⟨ho,rY,⟨.ref b,H,I,rfl,q0 rfl⟩⟩
 ·exact EB pins s σ H (.ref a) (.ref b) _ _ Q I rfl rfl ⟨a,b,xs,ys,rfl,rfl,ha,hb,hx,hz,q1,λ_=>q2⟩
theorem nd.oN {A:Addr -> Prop} (k k':aJ) (p:Addr) (xs:Nd) (f:Fl) (h:nd K R A (λ_=>none) H k p xs f):nd K R A (λ_=>none) H k' p xs f:=by
 cases f with
 | ow=>exact nomatch h.2
 | fz=>exact h
 | al=>exact h
 | sc=>exact h
theorem NA {X:Cx} {F:Addr -> Prop} {ρ:aB} {σ:St} (Si:SI X F R τ ρ σ H) (fr:∀ p q,τt p = some q -> H p = none) (k k':aJ) (p:Addr) (xs:Nd) (f:Fl) (h:nd K R (jV (gP X F) τ fv) τt H' k p xs f) :
  nd K R (jV (gP X F) τ fv) (λ_=>none) H' k' p xs (ba f):=by
 cases f with
 | ow=>exact ⟨h.1,.inr (Si.same.free (fr p _ h.2)),λc i e=>absurd (fr p _ h.2) (Si.th p _ e)⟩
 | fz=>exact h
 | al=>exact h
 | sc=>exact h
theorem ag.e9 {X:Cx} {F:Addr -> Prop} {ρ:aB} {σ:St} {k:aJ} {n:Nat} {xs:List V} {ds:List D} (h:ag (aC K H') (nd K R (jV (gP X F) τ fv) τt H') k n xs ds) (Si:SI X F R τ ρ σ H) (fr:∀ p q,τt p = some q -> H p = none) {k':aJ} {n':Nat} :
  ag (aC K H') (nd K R (jV (gP X F) τ fv) (λ_=>none) H') k' n' xs (af ba ds):=ag.iX (λ_ _ h=>h) (NA Si fr) h _ _
theorem Rep.e9 {X:Cx} {F:Addr -> Prop} {ρ:aB} {σ:St} {k:aJ} {v:V} {d:D} (h:Rep (aC K H') (nd K R (jV (gP X F) τ fv) τt H') k v d) (Si:SI X F R τ ρ σ H) (fr:∀ p q,τt p = some q -> H p = none) {k':aJ} :
  Rep (aC K H') (nd K R (jV (gP X F) τ fv) (λ_=>none) H') k' v (aA ba d):=Rep.iX (λ_ _ h=>h) (NA Si fr) h _
theorem ag.rep {A:Addr -> Prop} {xs:List V} {ds:List D} (h:ag (aC K H) (nd K R A (λ_=>none) H) [] 0 xs (af ba ds)):∀ n:Nat,ag (aC K H) (nd K R A (λ_=>none) H) [] 0 (List.replicate n xs).flatten (af ba (List.replicate n ds).flatten)
 | 0=>.nil
 | n + 1=>by
  rw [List.replicate_succ,List.replicate_succ,List.flatten_cons,List.flatten_cons,av,List.map_append,<- av,<- av]
  exact ag.nh nd.oN h (ag.rep h n)
theorem bG.rN {G:Addr -> Prop} {p:Addr} {xs:List V} {ds:List D} (hp:H p = none) (e:aj H H') (hl:H' p = some (.lst xs)) (r:ag (aC K H') (nd K R (jV G τ fv) (λ_=>none) H') [] 0 xs ds):bG K G R τ fv H H' (.ref p) (.lst .ow ds):=by
 refine ⟨λq=>if q = p then some [] else none,λq k hq=>?_,.lst ⟨hl,by simp⟩ (r.imp (λ_ _ h=>h) λc q xs f h=>?_)⟩
 ·by_cases wC:q = p
  ·subst wC;exact hp
  ·simp [wC] at hq
 ·cases f with
  | ow=>exact nomatch h.2
  | fz=>exact h
  | al=>exact h
  | sc=>exact h
end
theorem ET (K:PySem.W.Frag):∀ t:Ty,∀ s ∈ kinds,PySem.W.kitOne K (.type s) (.type (tyName t)) = some (NV t s):=by
 intro t s hs
 simp only [kinds,List.mem_cons,List.not_mem_nil,or_false] at hs
 cases t <;> rcases hs with rfl | rfl | rfl | rfl | rfl | rfl | rfl <;> rfl
structure PX (X:Cx) (sc:Scope) (bl:List Str) (k:Nat):Prop where
 sc:X.env.scope = sc
 calm:X.calm = true
 room:gQ k X.A
 bl:∀ x ∈ bl,X.mg x = none
theorem PX.gl {X:Cx} {sc:Scope} {bl:List Str} {k:Nat} (L:PX X sc bl k) {x:Str} (h:gT sc x = true):Gl X x:=by
 unfold Gl
 show X.env.scope.names.lookup x = some .globalImplicit
 rw [L.sc];exact of_decide_eq_true h
noncomputable def qm (X:Cx) (F:Addr -> Prop) (Φ:az):List CE -> List Expr -> Prop
 | [],[]=>True
 | c :: cs,a :: as=>PE X a (tD X F Φ c) /\ (∀ es,starEach (a :: es) X.env = (false,eval a X.env) :: starEach es X.env) /\ nj a /\ qm X F Φ cs as
 | _,_=>False
structure q_ (K:PySem.W.Frag) (H2:Hp) (vs:List V) (xs:List D) (H':Hp):Prop where
 n0:∃ R0:Addr -> Prop,ag (aC K H2) (nd K R0 (λ_=>False) (λ_=>none) H2) [] 0 vs (af aI xs) /\ ∀ p o,R0 p -> H2 p = some o -> H' p = some o
 tp:∀ a ys,aC K H2 a ys -> aC K H' a ys
structure Hs (K:PySem.W.Frag) (J:It) (H2:Hp) (vs:List V) (xs items:List D):Prop where
 go:∀ i H' R',q_ K H2 vs xs H' -> ag (aC K H') (nd K R' (λ_=>False) (λ_=>none) H') [] 0 vs (af aI xs) -> i < items.length -> J.go i H'
 vA:∀ i H' R' x mC,q_ K H2 vs xs H' -> ag (aC K H') (nd K R' (λ_=>False) (λ_=>none) H') [] 0 vs (af aI xs) -> i < items.length -> J.vA i H' x mC -> aj H' mC /\ ∃ d,items[i]? = some d /\ Rep (aC K mC) (nd K R' (λ_=>False) (λ_=>none) mC) [] x d
 stop:∀ i H' R',q_ K H2 vs xs H' -> ag (aC K H') (nd K R' (λ_=>False) (λ_=>none) H') [] 0 vs (af aI xs) -> items.length <= i -> J.stop i H'
structure Gg (px:Px) (Φ:az):Prop where
 e:∀ (X:Cx) (sc:Scope) (bl:List Str) (k:Nat),PX X sc bl k -> ∀ (p:Nat) (e:Expr) (args:List Expr),px.pe p sc bl e = some args -> ∀ (F:Addr -> Prop) (cs:List CE),qm X F Φ cs args -> PE X e (tD X F Φ (.du p cs)) /\ PT X e (gY X F Φ (.du p cs))
 i:∀ (X:Cx) (sc:Scope) (bl:List Str) (k:Nat),PX X sc bl k -> ∀ (p:Nat) (e:Expr) (args:List Expr),px.pi p sc bl e = some args -> ∀ (F:Addr -> Prop) (cs:List CE) (tg:Expr),(decide (1100 <= p) || gp tg) = true -> qm X F Φ cs args ->
  ∀ (pins:List (Addr × Obj)) (s:Shared) (σ:St) (H:Hp) (R:Addr -> Prop) (τ:Addr -> Option aJ) (ρ:aB) (xs:List D) (d:D) (items:List D),Inv X pins σ H s -> SI X F R τ ρ σ H -> cD Φ cs ρ = ok xs -> Φ p xs = ok d -> ku d = ok items -> ∀ Rr:It -> Hp -> Prop,
   (∀ J H2 vs,aj H H2 -> bT X.K (gP X F) R τ (dy cs) H H2 vs xs -> Hs X.K J H2 vs xs items -> Rr J H2) ->
   wpAny (model X.prog X.w) X.A (eval e X.env) (λv s1=>wpAny (model X.prog X.w) X.A (pyIter v) (AE X pins σ tg Rr) X.xe s1) X.xe s
noncomputable def RA (K:PySem.W.Frag):GK -> Value -> Prop
 | .i i,u=>RelV (.int i) u
 | .t zs,u=>∃ (a:Addr) (o:Obj) (ai:Array Value) (n:Nat),u = .ref a /\ K.lookup a = some o /\ o.cls = .type "tuple" /\ o.data = .seq ai n /\ ai.size <= sizeLine /\ Vals (zs.map V.int) ai.toList
structure Lk (X:Cx) (S:Sx) (k:Nat) (Φ:az):Prop where
 sc:X.env.scope = S.sc
 N:X.N = S.N
 nd:X.N.Nodup
 calm:X.calm = true
 room:gQ k X.A
 bl:∀ x ∈ S.bl,X.mg x = none
 fn:∀ f x,S.fn f = some x -> Lo X k x (Φ f)
 cs:∀ x i,(x,i) ∈ S.cs -> ∃ u,X.mg x = some u /\ RA X.K i u
 pr:Gg S.px Φ
theorem Lk.pX {X:Cx} {S:Sx} {k:Nat} {Φ:az} (L:Lk X S k Φ):PX X S.sc S.bl k:=⟨L.sc,L.calm,L.room,L.bl⟩
section
variable {X:Cx} {S:Sx} {k:Nat} {F:Addr -> Prop} {Φ:az}
theorem Lk.gl (L:Lk X S k Φ) {x:Str} (h:gT S.sc x = true):Gl X x:=by
 unfold Gl
 show X.env.scope.names.lookup x = some .globalImplicit
 rw [L.sc];exact of_decide_eq_true h
theorem Lk.Qp (L:Lk X S k Φ) {x:Str} (h:HE S.sc x = true):Ht X.env.scope x:=by
 unfold Ht;rw [L.sc]
 unfold HE at h
 rw [Bool.or_eq_true,Bool.or_eq_true] at h
 rcases h with (h | h) | h
 ·exact .inl (of_decide_eq_true h)
 ·exact .inr (.inl (of_decide_eq_true h))
 ·exact .inr (.inr (of_decide_eq_true h))
theorem tD.intro {c:CE} {σ:St} {H:Hp} {Q:VK} {R:Addr -> Prop} {τ:Addr -> Option aJ} {ρ:aB} {d:D} (Si:SI X F R τ ρ σ H) (e:aQ Φ c ρ = ok d) (h:∀ v H',aj H H' -> bG X.K (gP X F) R τ (iJ c) H H' v d -> Q v H'):tD X F Φ c σ H Q:=⟨R,τ,ρ,d,Si,e,h⟩
theorem SS (L:Lk X S k Φ) {i:Nat} {x:Str} {pos:Pos} (h:bI S (.v i) (.Name x pos) = true):PE X (.Name x pos) (tD X F Φ (.v i)):=by
 replace h:=ao h
 replace h:=And.intro (ao h.1) h.2
 obtain ⟨⟨h1,h2⟩,h3⟩:=h
 unfold lG at h3
 simp only [Bool.and_eq_true,Bool.not_eq_true'] at h3
 refine PE.imp (rK (i:=i) (by rw [L.N];exact of_decide_eq_true h1) (L.Qp h2) h3.1.1 h3.1.2) λσ H Q hq=>?_
 obtain ⟨R,τ,ρ,d,Si,ev,hq⟩:=hq
 obtain ⟨d',hd,rfl⟩:=Bb ev
 ·obtain ⟨v,hv,hr⟩:=Si.rep i d' hd
  refine ⟨v,hv,hq v H (aj.refl H) ⟨λ_=>none,λ_ _ h=>by simp at h,?_⟩⟩
  refine Rep.map (q:=[i]) (q':=[]) (λ_ _ h=>h) (λc p xs f h=>?_) hr [] rfl
  cases f with
  | ow =>
   refine ⟨h.1,.inr (Si.t0 p _ h.2),λc' j e=>?_⟩
   rw [h.2] at e
   have e':=Option.some.inj e
   have:=congrArg List.getLast? e'
   simp at this
   show _ ∈ [i]
   simp [this]
  | fz=>exact h
  | al=>exact h.2.elim
  | sc=>exact h
theorem jv {op:Gj} {x y d:D} (Oe:op ≠ .add /\ op ≠ .mul) (h:dc op x y = ok d):∃ i j,x = .int i /\ y = .int j:=by
 cases x with
 | int i=>cases y with
  | int j=>exact ⟨i,j,rfl,rfl⟩
  | _=>cases op <;> first | (cases h;done) | (simp at Oe;done)
 | _=>cases op <;> first | (cases h;done) | (simp at Oe;done)
theorem Ij (L:Lk X S k Φ) {op:Gj} {a b:CE} {l r:Expr} {pos:Pos} (ha:PE X l (tD X F Φ a)) (hb:PE X r (tD X F Φ b)):PE X (.BinOp l (Nr op) r pos) (tD X F Φ (.bin op a b)):=by
 have two:∀ {σ:St} {H:Hp} {Q:VK} {r2:R2},(∃ R τ ρ d,SI X F R τ ρ σ H /\ aQ Φ (.bin op a b) ρ = ok d /\ (∀ v H',aj H H' -> bG X.K (gP X F) R τ (iJ (.bin op a b)) H H' v d -> Q v H') /\
   ∀ x y v u H',dc op x y = ok d -> aj H H' -> bG X.K (gP X F) R τ (iJ (.bin op a b)) H H' v x -> bG X.K (gP X F) R τ (iJ (.bin op a b)) H H' u y -> r2 v u H' Q) -> Gu r2 (tD X F Φ a) (tD X F Φ b) σ H Q:=by
  rintro σ H Q r2 ⟨R,τ,ρ,d,Si,ev,hq,hr⟩
  obtain ⟨x,ex,ev⟩:=ah ev
  obtain ⟨y,ey,ev⟩:=ah ev
  refine tD.intro Si ex λv H1 e1 r1=>tD.intro (Si.go e1) ey λu H2 e2 r2=>?_
  exact hr x y v u H2 ev (e1.trans e2) ((r1.go e2).mono λi hi=>List.mem_append_left _ hi) ((r2.old e1).mono λi hi=>List.mem_append_right _ hi)
 have zN:∀ {C:Int -> Int -> Prop} {g:Int -> Int -> Int},jX X (binaryOp (Nr op)) (rI C λi j=>.int (g i j)) -> (∀ x y d,dc op x y = ok d -> ∃ i j,x = .int i /\ y = .int j /\ C i j /\ d = .int (g i j)) ->
   PE X (.BinOp l (Nr op) r pos) (tD X F Φ (.bin op a b)):=by
  intro C g ho hd
  refine PE.imp (xU ho ha hb) λσ H Q hq=>?_
  obtain ⟨R,τ,ρ,d,Si,ev,hq⟩:=hq
  refine two ⟨R,τ,ρ,d,Si,ev,hq,λx y v u H' eb e rv ru=>?_⟩
  obtain ⟨i,j,rfl,rfl,c,rfl⟩:=hd x y d eb
  exact ⟨i,j,rv.isInt,ru.isInt,c,hq _ H' e .int⟩
 cases op with
 | sub =>
  refine zN (C:=λ_ _=>True) (g:=λi j=>i - j) (Jb λ_ _ _ _ _ _ _ _ q=>sub_int q) λx y d h=>?_
  obtain ⟨i,j,rfl,rfl⟩:=jv (by simp) h
  cases h;exact ⟨_,_,rfl,rfl,trivial,rfl⟩
 | mod =>
  refine zN (C:=λ_ j=>j ≠ 0) (g:=λi j=>i.fmod j) EA λx y d h=>?_
  obtain ⟨i,j,rfl,rfl⟩:=jv (by simp) h
  obtain ⟨h1,h⟩:=qK h
  subst h;exact ⟨_,_,rfl,rfl,h1,rfl⟩
 | fdiv =>
  refine zN (C:=λ_ j=>qR j = true) (g:=λi j=>i.fdiv j) (Jb λi j _ _ _ _ _ hc q=>?_) λx y d h=>?_
  ·unfold qR at hc
   rw [Bool.and_eq_true] at hc
   have h1:j ≠ 0:=of_decide_eq_true hc.1
   have h2:j.natAbs < big:=of_decide_eq_true hc.2
   exact floordiv_int h1 q (.inl (PyProof.noPylong_of_log2 ((Nat.log2_lt (by omega)).mpr h2)))
  ·obtain ⟨i,j,rfl,rfl⟩:=jv (by simp) h
   obtain ⟨h1,h⟩:=qK h
   subst h;exact ⟨_,_,rfl,rfl,h1,rfl⟩
 | pow =>
  refine zN (C:=λi j=>xN i j = true) (g:=λi j=>i ^ j.toNat) (Jb λi j _ _ _ _ _ hc q=>?_) λx y d h=>?_
  ·unfold xN at hc
   simp only [Bool.and_eq_true,decide_eq_true_eq] at hc
   exact pow_int_small hc.1.1 hc.1.2 hc.2 q
  ·obtain ⟨i,j,rfl,rfl⟩:=jv (by simp) h
   obtain ⟨h1,h⟩:=qK h
   subst h;exact ⟨_,_,rfl,rfl,h1,rfl⟩
 | shr =>
  refine zN (C:=λ_ j=>0 <= j) (g:=λi j=>i / 2 ^ j.toNat) IW λx y d h=>?_
  obtain ⟨i,j,rfl,rfl⟩:=jv (by simp) h
  obtain ⟨h1,h⟩:=qK h
  subst h;exact ⟨_,_,rfl,rfl,h1,rfl⟩
 | band =>
  refine zN (C:=λ_ j=>j = 1) (g:=λi _=>i % 2) (Jb λi j _ _ _ _ _ hc q=>by subst hc;exact and_int (by rw [bitAnd_m1];exact q)) λx y d h=>?_
  obtain ⟨i,j,rfl,rfl⟩:=jv (by simp) h
  obtain ⟨h1,h⟩:=qK h
  subst h;exact ⟨_,_,rfl,rfl,h1,rfl⟩
 | mul =>
  have hi:jX X (binaryOp .Mult) (rI (λi j=>gH i j = true) λi j=>.int (i * j)):=Jb λi j _ _ _ _ _ hc q=>mul_int q (BL hc)
  refine PE.imp (xU (hi.or IY) ha hb) λσ H Q hq=>?_
  obtain ⟨R,τ,ρ,d,Si,ev,hq⟩:=hq
  refine two ⟨R,τ,ρ,d,Si,ev,hq,λx y v u H' eb e rv ru=>?_⟩
  cases y with
  | int j =>
   cases x with
   | int i =>
    obtain ⟨h1,eb⟩:=qK eb
    subst eb
    exact .inl ⟨i,j,rv.isInt,ru.isInt,h1,hq _ H' e .int⟩
   | lst f a =>
    obtain ⟨hc,eb⟩:=qK eb
    ·subst eb
     obtain ⟨τt,fr,rp⟩:=rv
     cases rp with
     | @lst _ p xs _ _ hn rs =>
      have hz:sizeLine = 16777216:=sizeLine_eq
      have pT:eM = 1000000:=rfl
      refine .inr ⟨p,j,xs,rfl,ru.isInt,hn.lst hc.1,by omega,by omega,by rw [rs.length];omega,λp' uF=>?_⟩
      have es:aj H' (upd H' p' (.lst (List.replicate j.toNat xs).flatten)):=aj.upd uF
      refine hq _ _ (e.trans es) (bG.rN (e.free uF) (e.trans es) (aD) ?_)
      exact (ag.rep (rs.e9 Si fr) j.toNat).imp (λ_ _ h=>aC.same es h) λ_ _ _ _ h=>nd.same es h
   | _=>cases eb
  | _=>cases x <;> cases eb
 | add =>
  refine PE.imp (xU ((Ja.or I_).or xX) ha hb) λσ H Q hq=>?_
  obtain ⟨R,τ,ρ,d,Si,ev,hq⟩:=hq
  refine two ⟨R,τ,ρ,d,Si,ev,hq,λx y v u H' eb e rv ru=>?_⟩
  have hz:sizeLine = 16777216:=sizeLine_eq
  have pT:eM = 1000000:=rfl
  cases x with
  | int i =>
   cases y with
   | int j =>
    cases eb
    exact .inl (.inl ⟨i,j,rv.isInt,ru.isInt,hq _ H' e .int⟩)
   | _=>cases eb
  | lst f a =>
   cases y with
   | lst g b =>
    obtain ⟨hc,eb⟩:=qK eb
    ·subst eb
     obtain ⟨τt,fr,rp⟩:=rv
     obtain ⟨RC,LZ,S9⟩:=ru
     cases rp with
     | @lst _ p xs _ _ hn rs =>
      cases S9 with
      | @lst _ p2 zd _ _ LQ Ay =>
       refine .inl (.inr ⟨p,p2,xs,zd,rfl,rfl,hn.lst hc.1,LQ.lst hc.2.1,by rw [rs.length,Ay.length];omega,λp' uF=>?_⟩)
       have es:aj H' (upd H' p' (.lst (xs ++ zd))):=aj.upd uF
       refine hq _ _ (e.trans es) (bG.rN (e.free uF) (e.trans es) (aD) ?_)
       rw [av,List.map_append,<- av,<- av]
       exact (ag.nh nd.oN (n:=0) (m:=0) (rs.e9 Si fr) (Ay.e9 Si LZ)).imp (λ_ _ h=>aC.same es h) λ_ _ _ _ h=>nd.same es h
   | _=>cases eb
  | tup a =>
   cases y with
   | tup b =>
    obtain ⟨hc,eb⟩:=qK eb
    subst eb
    obtain ⟨τt,fr,rp⟩:=rv
    obtain ⟨RC,LZ,S9⟩:=ru
    cases rp with
    | @tup _ p xs _ hn rs =>
     cases S9 with
     | @tup _ p2 zd _ LQ Ay =>
      have hl:=rs.length
      have wD:=Ay.length
      refine .inr ⟨p,p2,xs,zd,rfl,rfl,hn,LQ,by rw [hl,wD];omega,λz=>?_,λz=>?_,λp' uF=>?_⟩
      ·subst z
       cases rs
       exact hq _ H' e ⟨λ_=>none,λ_ _ h=>by simp at h,.tup LQ (Ay.e9 Si LZ)⟩
      ·subst z
       cases Ay
       refine hq _ H' e ⟨λ_=>none,λ_ _ h=>by simp at h,.tup hn ?_⟩
       rw [List.append_nil]
       exact rs.e9 Si fr
      ·have es:aj H' (upd H' p' (.tup (xs ++ zd))):=aj.upd uF
       refine hq _ _ (e.trans es) ⟨λ_=>none,λ_ _ h=>by simp at h,.tup (aC.of aD) ?_⟩
       rw [av,List.map_append,<- av,<- av]
       exact (ag.nh nd.oN (n:=0) (m:=0) (rs.e9 Si fr) (Ay.e9 Si LZ)).imp (λ_ _ h=>aC.same es h) λ_ _ _ _ h=>nd.same es h
   | _=>cases eb
  | _=>cases y <;> cases eb
end
end DI
end
section
namespace DI
open PySem PySem.Spec PyProof.Rows L2
section
variable {T T':jJ} {N N':iQ} {P:Fl -> Bool}
theorem Rep.without (hT:∀ p xs,T p xs -> T' p xs) (hN:∀ k k' p xs f,P f = false -> N k p xs f -> N' k' p xs f) {k:aJ} {v:V} {d:D} (h:Rep T N k v d) (e:aH P d = false) (k':aJ):Rep T' N' k' v d:=by
 have:=Rep.gen (g:=id) (P:=P) (N':=N') (C:=λ_ _=>True) (I:=λ_ _=>True) hT trivial (λ_ _ e=>e) (λ_ _ _ _ e _=>e) (λk k' p xs f _ e h=>hN k k' p xs f e h) h (k':=k') trivial e
 rw [eL] at this;exact this
theorem ag.without (hT:∀ p xs,T p xs -> T' p xs) (hN:∀ k k' p xs f,P f = false -> N k p xs f -> N' k' p xs f) {k:aJ} {n:Nat} {vs:List V} {ds:List D} (h:ag T N k n vs ds) (e:aw P ds = false) (k':aJ) (n':Nat):ag T' N' k' n' vs ds:=by
 have:=ag.gen (g:=id) (P:=P) (N':=N') (C:=λ_ _=>True) (I:=λ_ _=>True) hT trivial (λ_ _ e=>e) (λ_ _ _ _ e _=>e) (λk k' p xs f _ e h=>hN k k' p xs f e h) h (k':=k') (n':=n') trivial trivial e
 rw [d8] at this;exact this
theorem Rep.kg (hT:∀ p xs,T p xs -> T' p xs) (hN:∀ k p xs f,P f = false -> N k p xs f -> N' k p xs f) {k:aJ} {v:V} {d:D} (h:Rep T N k v d) (e:aH P d = false):Rep T' N' k v d:=by
 have:=Rep.gen (g:=id) (P:=P) (N':=N') (C:=λa b=>a = b) (I:=λa b=>a = b) hT rfl (λ_ _ e=>by rw [e]) (λ_ _ _ _ a b=>by rw [a,b]) (λk k' p xs f c e h=>by subst c;exact hN k p xs f e h) h rfl e
 rw [eL] at this;exact this
theorem ag.kg (hT:∀ p xs,T p xs -> T' p xs) (hN:∀ k p xs f,P f = false -> N k p xs f -> N' k p xs f) {k:aJ} {n:Nat} {vs:List V} {ds:List D} (h:ag T N k n vs ds) (e:aw P ds = false):ag T' N' k n vs ds:=by
 have:=ag.gen (g:=id) (P:=P) (N':=N') (C:=λa b=>a = b) (I:=λa b=>a = b) hT rfl (λ_ _ e=>by rw [e]) (λ_ _ _ _ a b=>by rw [a,b]) (λk k' p xs f c e h=>by subst c;exact hN k p xs f e h) h rfl rfl e
 rw [d8] at this;exact this
end
theorem Rep.rQ {K:PySem.W.Frag} {R:Addr -> Prop} {H:Hp} {k:aJ} {v:V} {d:D} (h:Rep (aC K H) (nd K R (λ_=>False) (λ_=>none) H) k v d) {k':aJ}:Rep (aC K H) (nd K R (λ_=>False) (λ_=>none) H) k' v d:=by
 have:=Rep.iX (g:=id) (λ_ _ h=>h) nd.oN h k'
 rw [eL] at this;exact this
noncomputable def jd (X:Cx) (R:Addr -> Prop) (τ:Addr -> Option aJ) (H:Hp) (v:V) (d:D):Prop :=
 ∃ τt:Addr -> Option aJ,(∀ p q,τt p = some q -> τ p = none /\ ¬ R p /\ X.H₀ p = none /\ H p ≠ none) /\ Rep (aC X.K H) (nd X.K R (λ_=>False) τt H) [] v d
section
variable {X:Cx} {F R:Addr -> Prop} {τ:Addr -> Option aJ} {ρ:aB} {σ:St} {H H':Hp}
theorem SI.set {i:Nat} {v:V} {d:D} (Si:SI X F R τ ρ σ H) (r:jd X R τ H v d) (hi:i < ρ.length):∃ τ',SI X F R τ' (ρ.set i (some d)) (σ.set i (some v)) H:=by
 obtain ⟨τt,ht,rp⟩:=r
 refine ⟨λp=>match τt p with | some q=>some (q ++ [i]) | none=>τ p,⟨by simp [Si.len],λj d' hj=>?_,λp hp=>?_,Si.rh,Si.rf,λp q hq=>?_,λp q hq=>?_,Si.same⟩⟩
 ·by_cases iP:j = i
  ·subst iP
   rw [List.getElem?_set_self hi] at hj
   cases hj
   refine ⟨v,List.getElem?_set_self (by rw [<- Si.len];exact hi),rp.imp (q':=[j]) (λ_ _ h=>h) λc p xs f h=>?_⟩
   cases f with
   | ow=>rw [List.append_nil] at h;exact ⟨h.1,by simp only [h.2]⟩
   | fz=>exact h
   | al=>exact h
   | sc=>exact h
  ·rw [List.getElem?_set_ne (Ne.symm iP)] at hj
   obtain ⟨w,hw,mT⟩:=Si.rep j d' hj
   refine ⟨w,by rw [List.getElem?_set_ne (Ne.symm iP)];exact hw,mT.imp (λ_ _ h=>h) λc p xs f h=>?_⟩
   cases f with
   | ow =>
    refine ⟨h.1,?_⟩
    cases q:τt p with
    | none=>simp only [q];exact h.2
    | some k=>have:=(ht p k q).1;rw [h.2] at this;cases this
   | fz=>exact h
   | al=>exact h
   | sc=>exact h
 ·cases q:τt p with
  | none=>simp only [q];exact Si.rt p hp
  | some k=>exact absurd hp (ht p k q).2.1
 ·cases z:τt p with
  | none=>simp only [z] at hq;exact Si.th p q hq
  | some k=>exact (ht p k z).2.2.2
 ·cases z:τt p with
  | none=>simp only [z] at hq;exact Si.t0 p q hq
  | some k=>exact (ht p k z).2.2.1
theorem zS {k:aJ} {v:V} {d:D} (h:Rep (aC X.K H) (nd X.K R (λ_=>False) τ H) k v d) (ho:aH eC d = false):jd X R τ H v d :=
 ⟨λ_=>none,λ_ _ h=>by simp at h,Rep.without (P:=eC) (λ_ _ h=>h) (λk k' p xs f hf h=>by
  cases f with
  | ow=>cases hf
  | fz=>exact h
  | al=>exact h.2.elim
  | sc=>exact h) h ho _⟩
open Classical in
theorem SI.move {i:Nat} {d:D} (Si:SI X F R τ ρ σ H) (hd:ρ[i]? = some (some d)):∃ v τ',σ[i]? = some (some v) /\ SI X F R τ' (ρ.set i none) σ H /\ jd X R τ' H v d:=by
 obtain ⟨v,hv,rp⟩:=Si.rep i d hd
 refine ⟨v,λp=>match τ p with | some q=>if q.getLast? = some i then none else some q | none=>none,hv,⟨by simp [Si.len],λj d' hj=>?_,λp hp=>?_,Si.rh,Si.rf,λp q hq=>?_,λp q hq=>?_,Si.same⟩,
  λp=>match τ p with | some q=>if q.getLast? = some i then (if H p = none then none else some q.dropLast) else none | none=>none,λp q hq=>?_,rp.imp (q:=[i]) (q':=[]) (λ_ _ h=>h) λc p xs f h=>?_⟩
 ·by_cases iP:j = i
  ·subst iP
   rw [List.getElem?_set] at hj
   simp at hj
  ·rw [List.getElem?_set_ne (Ne.symm iP)] at hj
   obtain ⟨w,hw,mT⟩:=Si.rep j d' hj
   refine ⟨w,hw,mT.imp (q:=[j]) (q':=[j]) (λ_ _ h=>h) λc p xs f h=>?_⟩
   cases f with
   | ow =>
    refine ⟨h.1,?_⟩
    simp only [h.2]
    rw [if_neg (by simp;exact iP)]
   | fz=>exact h
   | al=>exact h
   | sc=>exact h
 ·simp only [Si.rt p hp]
 ·cases z:τ p with
  | none=>simp only [z] at hq;cases hq
  | some k=>exact Si.th p k z
 ·cases z:τ p with
  | none=>simp only [z] at hq;cases hq
  | some k=>exact Si.t0 p k z
 ·cases z:τ p with
  | none=>simp only [z] at hq;cases hq
  | some k =>
   simp only [z] at hq ⊢
   by_cases hl:k.getLast? = some i
   ·rw [if_pos hl]
    exact ⟨rfl,(λhR=>by have:=Si.rt p hR;rw [z] at this;cases this),Si.t0 p k z,Si.th p k z⟩
   ·rw [if_neg hl] at hq;cases hq
 ·cases f with
  | ow =>
   refine ⟨h.1,?_⟩
   have hn:H p ≠ none:=h.1.ne
   simp only [h.2]
   rw [if_pos (by simp),if_neg hn]
   simp
  | fz=>exact h
  | al=>exact h.2.elim
  | sc=>exact h
theorem yv (is:List Nat) (ρ:aB) (j:Nat) (d:D) (h:(i6 is ρ)[j]? = some (some d)):∃ d',ρ[j]? = some (some d') /\ d = (if j ∈ is then aA aI d' else d'):=by
 unfold i6 at h
 rw [List.getElem?_mapIdx] at h
 cases q:ρ[j]? with
 | none=>rw [q] at h;cases h
 | some o =>
  rw [q] at h
  cases o with
  | none=>simp at h
  | some d' =>
   refine ⟨d',rfl,?_⟩
   by_cases hj:j ∈ is
   ·simp [hj] at h ⊢;exact h.symm
   ·simp [hj] at h ⊢;exact h.symm
open Classical in
theorem yw {fv:List Nat} (Si:SI X F R τ ρ σ H) (es:aj H H') :
  ∃ R' τ',(∀ p,R p -> R' p) /\ SI X F R' τ' (i6 fv ρ) σ H' /\ ∀ τt:Addr -> Option aJ,(∀ p q,τt p = some q -> H p = none) -> ∀ (k k':aJ) (p:Addr) (xs:Nd) (f:Fl),nd X.K R (jV (gP X F) τ fv) τt H' k p xs f -> nd X.K R' (λ_=>False) (λ_=>none) H' k' p xs (aI f):=by
 have gU:=Si.go es
 have fresh:∀ p,H p = none -> jV (gP X F) τ fv p:=λp hp=>⟨.inr (Si.same.free hp),λc i e=>absurd hp (Si.th p _ e)⟩
 refine ⟨λp=>R p \/ (H' p ≠ none /\ jV (gP X F) τ fv p),λp=>if jV (gP X F) τ fv p then none else τ p,λp h=>.inl h,⟨by simp [i6,Si.len],λj d' hj=>?_,λp hp=>?_,λp hp=>?_,λp hp=>?_,λp q hq=>?_,λp q hq=>?_,gU.same⟩,λτt fr k k' p xs f h=>?_⟩
 ·obtain ⟨d0,h0,e0⟩:=yv _ _ _ _ hj
  obtain ⟨w,hw,mT⟩:=gU.rep j d0 h0
  refine ⟨w,hw,?_⟩
  by_cases QZ:j ∈ fv
  ·rw [if_pos QZ] at e0
   subst e0
   refine Rep.map (q:=[j]) (q':=[j]) (λ_ _ h=>h) (λc p xs f h=>?_) mT [] rfl
   cases f with
   | ow =>
    refine ⟨h.1,.inr ⟨h.1.ne,.inr (Si.t0 p _ h.2),λc' i' e'=>?_⟩⟩
    rw [h.2] at e'
    have:=congrArg List.getLast? (Option.some.inj e')
    simp at this;subst this;exact QZ
   | fz=>exact ⟨h.1,.inl h.2⟩
   | al=>exact h.2.elim
   | sc=>exact h
  ·rw [if_neg QZ] at e0
   subst e0
   refine mT.imp (q:=[j]) (q':=[j]) (λ_ _ h=>h) λc p xs f h=>?_
   cases f with
   | ow =>
    refine ⟨h.1,?_⟩
    show (if jV (gP X F) τ fv p then none else τ p) = some (c ++ [j])
    rw [if_neg (λz=>QZ (z.2 c j h.2))];exact h.2
   | fz=>exact ⟨h.1,.inl h.2⟩
   | al=>exact h.2.elim
   | sc=>exact h
 ·rcases hp with hp | hp
  ·simp only [Si.rt p hp];split <;> rfl
  ·rw [if_pos hp.2]
 ·rcases hp with hp | hp
  ·exact gU.rh p hp
  ·exact hp.1
 ·rcases hp with hp | hp
  ·exact Si.rf p hp
  ·exact hp.2.1
 ·split at hq
  ·cases hq
  ·exact gU.th p q hq
 ·split at hq
  ·cases hq
  ·exact Si.t0 p q hq
 ·cases f with
  | ow=>exact ⟨h.1,.inr ⟨h.1.ne,fresh p (fr p _ h.2)⟩⟩
  | fz=>exact ⟨h.1,.inl h.2⟩
  | al=>exact ⟨h.1,.inr ⟨h.1.ne,h.2⟩⟩
  | sc=>exact h
theorem sr {fv:List Nat} {v:V} {d:D} (Si:SI X F R τ ρ σ H) (es:aj H H') (r:bG X.K (gP X F) R τ fv H H' v d) :
  ∃ R' τ',(∀ p,R p -> R' p) /\ SI X F R' τ' (i6 fv ρ) σ H' /\ Rep (aC X.K H') (nd X.K R' (λ_=>False) (λ_=>none) H') [] v (aA aI d):=by
 obtain ⟨τt,fr,rp⟩:=r
 obtain ⟨R',τ',h1,h2,h3⟩:=yw (fv:=fv) Si es
 exact ⟨R',τ',h1,h2,Rep.iX (λ_ _ h=>h) (h3 τt fr) rp _⟩
theorem uU {fv:List Nat} {vs:List V} {ds:List D} (Si:SI X F R τ ρ σ H) (es:aj H H') (r:bT X.K (gP X F) R τ fv H H' vs ds) :
  ∃ R' τ',(∀ p,R p -> R' p) /\ SI X F R' τ' (i6 fv ρ) σ H' /\ ag (aC X.K H') (nd X.K R' (λ_=>False) (λ_=>none) H') [] 0 vs (af aI ds):=by
 obtain ⟨τt,fr,rp⟩:=r
 obtain ⟨R',τ',h1,h2,h3⟩:=yw (fv:=fv) Si es
 exact ⟨R',τ',h1,h2,ag.iX (λ_ _ h=>h) (h3 τt fr) rp _ _⟩
theorem mU {v:V} {d:D} {τ':Addr -> Option aJ} (h:Rep (aC X.K H) (nd X.K R (λ_=>False) (λ_=>none) H) [] v d):jd X R τ' H v d:=⟨λ_=>none,λ_ _ h=>by simp at h,h⟩
open Classical in
theorem G3 {e:CE} {v:V} {d:D} (Si:SI X F R τ ρ σ H) (es:aj H H') (r:bG X.K (gP X F) R τ (iJ e) H H' v d) :
  ∃ R' τ',(∀ p,R p -> R' p) /\ SI X F R' τ' (keep e d ρ).2 σ H' /\ jd X R' τ' H' v (keep e d ρ).1:=by
 unfold keep
 by_cases ha:aH b_ d = true
 ·rw [if_pos ha]
  obtain ⟨R',τ',h1,h2,h3⟩:=sr Si es r
  exact ⟨R',τ',h1,h2,mU h3⟩
 ·obtain ⟨τt,fr,rp⟩:=r
  rw [if_neg ha]
  refine ⟨R,τ,λ_ h=>h,Si.go es,λp=>if H' p = none then none else τt p,λp q hq=>?_,?_⟩
  ·dsimp only at hq
   split at hq
   ·cases hq
   ·rename_i hn
    have hf:=fr p q hq
    refine ⟨?_,λhR=>Si.rh p hR hf,Si.same.free hf,hn⟩
    cases z:τ p with
    | none=>rfl
    | some k=>exact absurd hf (Si.th p k z)
  ·have Q4:aH b_ d = false:=by simpa using ha
   have st:∀ {k:aJ} {v:V} {d:D},Rep (aC X.K H') (nd X.K R (jV (gP X F) τ (iJ e)) τt H') k v d -> aH b_ d = false -> Rep (aC X.K H') (nd X.K R (λ_=>False) (λp=>if H' p = none then none else τt p) H') k v d:=by
    intro k v d h ha
    exact Rep.kg (P:=b_) (λ_ _ h=>h) (λk p xs f hf h=>by
     cases f with
     | ow=>exact ⟨h.1,by show (if H' p = none then none else τt p) = _;rw [if_neg (h.1.ne)];exact h.2⟩
     | fz=>exact h
     | al=>cases hf
     | sc=>exact h) h ha
   exact st rp Q4
open Classical in
noncomputable def tK (X:Cx) (F:Addr -> Prop) (Φ:az) (c:CE):TE:=λσ H Q=>∃ R τ ρ r,SI X F R τ ρ σ H /\ jC Φ c ρ = ok r /\ ∀ v H' R' τ',aj H H' -> (∀ p,R p -> R' p) -> SI X F R' τ' r.2 σ H' -> jd X R' τ' H' v r.1 -> Q v H'
end
end DI
end
section
namespace DI
open PySem PySem.Spec PyProof.Rows L2
section
variable {T T':jJ} {N N':iQ}
theorem ag.child {q:aJ} (hT:∀ p xs,T p xs -> T' p xs) (hN:∀ c m p xs f,N (c ++ (m :: q)) p xs f -> N' (c ++ (m :: q)) p xs f):∀ {n:Nat} {vs:List V} {ds:List D},ag T N q n vs ds -> ag T' N' q n vs ds
 | _,_,_,.nil=>.nil
 | n,_,_,.cons h t=>.cons (Rep.imp (q:=n :: q) (q':=n :: q) hT (λc p xs f h=>hN c n p xs f h) h) (ag.child hT hN t)
theorem ag.GB {q:aJ} {v:V} {d:D}:∀ {n:Nat} {vs:List V} {ds:List D},ag T N q n vs ds -> Rep T N ((n + ds.length) :: q) v d -> ag T N q n (vs ++ [v]) (ds ++ [d])
 | n,_,_,.nil,h=>.cons (by simpa using h) .nil
 | n,_,_,.cons (ds:=ds) h t,h'=>.cons h (ag.GB t (by
   have e:n + (ds.length + 1) = n + 1 + ds.length:=by omega
   rw [List.length_cons,e] at h';exact h'))
theorem ag.setAt {q:aJ} {v:V} {d:D}:∀ {n j:Nat} {vs:List V} {ds:List D},ag T N q n vs ds -> Rep T N ((n + j) :: q) v d -> ag T N q n (vs.set j v) (ds.set j d)
 | _,_,_,_,.nil,_=>by simp;exact .nil
 | _,0,_,_,.cons _ t,h'=>.cons (by simpa using h') t
 | n,j + 1,_,_,.cons h t,h'=>.cons h (ag.setAt (j:=j) t (by
   have e:n + (j + 1) = n + 1 + j:=by omega
   rw [e] at h';exact h'))
end
section
variable {X:Cx} {F R:Addr -> Prop} {τ:Addr -> Option aJ} {ρ:aB} {σ:St} {H:Hp}
theorem SI.own {i:Nat} {ds:List D} (Si:SI X F R τ ρ σ H) (hi:ρ[i]? = some (some (.lst .ow ds))):∃ p xs,σ[i]? = some (some (.ref p)) /\ H p = some (.lst xs) /\ xs.length = ds.length /\ τ p = some [i] /\ ag (aC X.K H) (nd X.K R (λ_=>False) τ H) [i] 0 xs ds:=by
 obtain ⟨v,hv,rp⟩:=Si.rep i _ hi
 cases rp with
 | lst h r=>exact ⟨_,_,hv,h.1,r.length,h.2,r⟩
theorem A8 {K:PySem.W.Frag} {H:Hp} {p:Addr} {n:Nd} {o:HO} (hp:fO H p n) {a:Addr} {ys:List V} (h:aC K H a ys):aC K (upd H p o) a ys:=by
 obtain ⟨o0,LO,Oc,LN⟩:=fO.some hp
 have nO:∀ a u,H a = some u -> u ≠ o0 -> a ≠ p:=λa u e h z=>by subst z;rw [LO] at e;cases e;exact h rfl
 rcases h with (h | ⟨o',h⟩) | h
 ·exact .inl (.inl (by rw [aE (nO a _ h λz=>Oc _ z.symm)];exact h))
 ·exact .inl (.inr ⟨o',by rw [aE (nO a _ h λz=>LN _ _ z.symm)];exact h⟩)
 ·exact .inr h
theorem SI.M_ {i m:Nat} {v:V} {d d0 d1:D} {ds ds':List D} {p:Addr} {xs xs':List V} {n n':Nd} {o:HO} (Si:SI X F R τ ρ σ H) (hi:ρ[i]? = some (some d0)) (hv:σ[i]? = some (some (.ref p))) (hp:fO H p n) (ht:τ p = some [i])
  (rs:ag (aC X.K H) (nd X.K R (λ_=>False) τ H) [i] 0 xs ds) (rk:jd X R τ H v d) (ye:fO (upd H p o) p n')
  (mk:∀ {N:iQ},N [i] p n' .ow -> ag (aC X.K (upd H p o)) N [i] 0 xs' ds' -> Rep (aC X.K (upd H p o)) N [i] (.ref p) d1)
  (hb:∀ {N:iQ},ag (aC X.K (upd H p o)) N [i] 0 xs ds -> Rep (aC X.K (upd H p o)) N (m :: [i]) v d -> ag (aC X.K (upd H p o)) N [i] 0 xs' ds') :
  ∃ τ',SI X F R τ' (ρ.set i (some d1)) σ (upd H p o):=by
 obtain ⟨τt,hτ,rp⟩:=rk
 have hil:i < ρ.length:=by
  by_cases z:i < ρ.length
  ·exact z
  ·rw [List.getElem?_eq_none (by omega)] at hi;cases hi
 obtain ⟨o0,LO,Oc,LN⟩:=fO.some hp
 have nR:∀ a,R a -> a ≠ p:=λa ha e=>by subst e;rw [Si.rt _ ha] at ht;cases ht
 have nT:∀ a q,τt a = some q -> a ≠ p:=λa q e z=>by subst z;rw [(hτ _ q e).1] at ht;cases ht
 have nO:∀ a u,H a = some u -> u ≠ o0 -> a ≠ p:=λa u e h z=>by subst z;rw [LO] at e;cases e;exact h rfl
 have keep:∀ a,a ≠ p -> (upd H p o) a = H a:=λa h=>aE h
 have J9:∀ a ys,aC X.K H a ys -> aC X.K (upd H p o) a ys:=λa ys h=>by
  rcases h with (h | ⟨o',h⟩) | h
  ·exact .inl (.inl (by rw [keep a (nO a _ h λz=>Oc _ z.symm)];exact h))
  ·exact .inl (.inr ⟨o',by rw [keep a (nO a _ h λz=>LN _ _ z.symm)];exact h⟩)
  ·exact .inr h
 have Q6:∀ a (z:Nd),a ≠ p -> fO H a z -> fO (upd H p o) a z:=λa z ne h=>h.at λu e=>by rw [keep a ne];exact e
 have hSc:∀ {τ1:Addr -> Option aJ} q q' a (z:Nd),nd X.K R (λ_=>False) τ1 H q a z .sc -> ∀ τ2,nd X.K R (λ_=>False) τ2 (upd H p o) q' a z .sc:=λq q' a z h τ2=>by
  obtain ⟨ys,rfl,h⟩:=h.GF
  exact h.elim (λ⟨o',w⟩=>.inl ⟨o',by rw [keep a (nO a _ w λz=>LN _ _ z.symm)];exact w⟩) .inr
 have hNd:∀ q a ys f,q ≠ [i] -> nd X.K R (λ_=>False) τ H q a ys f -> nd X.K R (λ_=>False) (λa=>match τt a with | some q=>some (q ++ [m,i]) | none=>τ a) (upd H p o) q a ys f:=λq a ys f hq h=>by
  cases f with
  | ow =>
   have ne:a ≠ p:=λz=>by
    subst z
    have:=h.2.symm.trans ht
    exact hq (Option.some.inj this)
   refine ⟨Q6 a ys ne h.1,?_⟩
   cases z:τt a with
   | none=>simp only [z];exact h.2
   | some k=>have:=(hτ a k z).1;rw [h.2] at this;cases this
  | fz=>exact ⟨Q6 a ys (nR a h.2) h.1,h.2⟩
  | al=>exact h.2.elim
  | sc=>exact hSc q q a ys h _
 refine ⟨λa=>match τt a with | some q=>some (q ++ [m,i]) | none=>τ a,⟨by simp [Si.len],λj d' hj=>?_,λa ha=>?_,λa ha=>?_,Si.rf,λa q hq=>?_,λa q hq=>?_,?_⟩⟩
 ·by_cases iP:j = i
  ·subst iP
   rw [List.getElem?_set_self hil] at hj
   cases hj
   refine ⟨.ref p,hv,mk ⟨ye,?_⟩ (hb (ag.child J9 (λc n a ys f h=>hNd _ a ys f (λz=>by
    have:=congrArg List.length z
    simp at this) h) rs) (rp.imp (q:=[]) (q':=[m,j]) J9 λc a ys f h=>?_))⟩
   ·cases z:τt p with
    | none=>simp only [z];exact ht
    | some k=>exact absurd rfl (nT p k z)
   ·cases f with
    | ow =>
     rw [List.append_nil] at h
     exact ⟨Q6 a ys (nT a _ h.2) h.1,by simp only [h.2]⟩
    | fz=>exact ⟨Q6 a ys (nR a h.2) h.1,h.2⟩
    | al=>exact h.2.elim
    | sc=>exact hSc _ _ a ys h _
  ·rw [List.getElem?_set_ne (Ne.symm iP)] at hj
   obtain ⟨u,hu,ru⟩:=Si.rep j d' hj
   refine ⟨u,hu,ru.imp (q:=[j]) (q':=[j]) J9 λc a ys f h=>hNd _ a ys f (λz=>?_) h⟩
   have:=congrArg List.getLast? z
   simp at this
   exact iP this
 ·cases z:τt a with
  | none=>simp only [z];exact Si.rt a ha
  | some k=>exact absurd ha (hτ a k z).2.1
 ·rw [keep a (nR a ha)];exact Si.rh a ha
 ·by_cases hap:a = p
  ·subst hap;rw [aD];simp
  ·rw [keep a hap]
   cases z:τt a with
   | none=>simp only [z] at hq;exact Si.th a q hq
   | some k=>exact (hτ a k z).2.2.2
 ·cases z:τt a with
  | none=>simp only [z] at hq;exact Si.t0 a q hq
  | some k=>exact (hτ a k z).2.2.1
 ·intro a u e
  have ne:a ≠ p:=λz=>by subst z;rw [Si.t0 _ _ ht] at e;cases e
  rw [keep a ne];exact Si.same a u e
theorem SI.put {i m:Nat} {v:V} {d:D} {ds ds':List D} {g:List V -> List V} {p:Addr} {xs:List V} (Si:SI X F R τ ρ σ H) (hi:ρ[i]? = some (some (.lst .ow ds))) (hv:σ[i]? = some (some (.ref p))) (hp:H p = some (.lst xs)) (ht:τ p = some [i])
  (rs:ag (aC X.K H) (nd X.K R (λ_=>False) τ H) [i] 0 xs ds) (rk:jd X R τ H v d)
  (hb:∀ {N:iQ},ag (aC X.K (upd H p (.lst (g xs)))) N [i] 0 xs ds -> Rep (aC X.K (upd H p (.lst (g xs)))) N (m :: [i]) v d -> ag (aC X.K (upd H p (.lst (g xs)))) N [i] 0 (g xs) ds') :
  ∃ τ',SI X F R τ' (ρ.set i (some (.lst .ow ds'))) σ (upd H p (.lst (g xs))) :=
 Si.M_ (n:=.l xs) (n':=.l (g xs)) hi hv hp ht rs rk aD (λh r=>.lst h r) hb
end
end DI
end
section
namespace DI
open PySem PySem.Spec PyProof.Rows L2
theorem jU {env:Env}:∀ (names:List (Str × NameKind)) (acc:List (Str × Addr)),(∀ x,(x,NameKind.free) ∈ names -> ∃ c,env.cells.lookup x = some c) ->
  ∃ cl,(forIn names acc (λ(y:Str × NameKind) (cs:List (Str × Addr))=>do
    let (name,kind):=y
    let mut cs:=cs
    if kind == .free then cs:=(name,<- cellOf env name) :: cs
    pure (ForInStep.yield cs)):Sem (List (Str × Addr))) = pure cl /\
   (∀ x c,cl.lookup x = some c -> acc.lookup x = some c \/ (env.cells.lookup x = some c /\ (x,NameKind.free) ∈ names)) /\ (∀ x,((x,NameKind.free) ∈ names \/ (∃ c,acc.lookup x = some c)) -> ∃ c,cl.lookup x = some c)
 | [],acc,_=>⟨acc,rfl,λx c h=>.inl h,λx h=>h.elim (λh=>nomatch h) id⟩
 | (n,kd) :: names,acc,h=>by
  by_cases hk:kd = .free
  ·subst hk
   obtain ⟨c,hc⟩:=h n List.mem_cons_self
   obtain ⟨cl,e,h1,h2⟩:=jU names ((n,c) :: acc) (λx hx=>h x (List.mem_cons_of_mem _ hx))
   refine ⟨cl,?_,λx c' hx=>?_,λx hx=>?_⟩
   ·rw [List.forIn_cons]
    have e0:cellOf env n = pure c:=by unfold cellOf;rw [hc]
    simp only [beq_self_eq_true,if_true,e0,pure_bind]
    exact e
   ·rcases h1 x c' hx with z | z
    ·by_cases N3:x = n
     ·subst N3
      simp at z;subst z
      exact .inr ⟨hc,List.mem_cons_self⟩
     ·rw [List.lookup_cons] at z
      have:(x == n) = false:=by simpa using N3
      rw [this] at z
      exact .inl z
    ·exact .inr ⟨z.1,List.mem_cons_of_mem _ z.2⟩
   ·refine h2 x ?_
    rcases hx with hx | ⟨c',hx⟩
    ·rcases List.mem_cons.mp hx with z | z
     ·cases z;exact .inr ⟨c,by simp⟩
     ·exact .inl z
    ·by_cases N3:x = n
     ·subst N3;exact .inr ⟨c,by simp⟩
     ·refine .inr ⟨c',?_⟩
      rw [List.lookup_cons]
      have:(x == n) = false:=by simpa using N3
      rw [this];exact hx
  ·obtain ⟨cl,e,h1,h2⟩:=jU names acc (λx hx=>h x (List.mem_cons_of_mem _ hx))
   have hb:(kd == NameKind.free) = false:=by simpa using hk
   refine ⟨cl,?_,λx c' hx=>(h1 x c' hx).imp id λz=>⟨z.1,List.mem_cons_of_mem _ z.2⟩,λx hx=>h2 x ?_⟩
   ·rw [List.forIn_cons]
    simp only [hb,Bool.false_eq_true,if_false,pure_bind]
    exact e
   ·rcases hx with hx | hx
    ·rcases List.mem_cons.mp hx with z | z
     ·cases z;exact absurd rfl hk
     ·exact .inl z
    ·exact .inr hx
theorem w5 {env:Env} {sc:Scope} (h:∀ x,(x,NameKind.free) ∈ sc.names -> ∃ c,env.cells.lookup x = some c) :
  ∃ cl,closureFor sc env = pure cl /\ (∀ x c,cl.lookup x = some c -> env.cells.lookup x = some c) /\ (∀ x,(x,NameKind.free) ∈ sc.names -> ∃ c,cl.lookup x = some c):=by
 obtain ⟨cl,e,h1,h2⟩:=jU (env:=env) sc.names [] h
 refine ⟨cl,?_,λx c hx=>(h1 x c hx).elim (λz=>by simp at z) (·.1),λx hx=>h2 x (.inl hx)⟩
 unfold closureFor
 simp only [bind_pure]
 exact e
theorem sD {prog:Program} {w:World} {A:Around} {R:Result -> Shared -> Prop} {s:Shared} {elt target iter:Expr} {ifs:List Expr} {scope:Scope} {pos:Pos} {it acc:Value} {env:Env} (I:Nat -> Shared -> Prop)
  (turn:∀ n s,I n s -> wpAny (model prog w) A (pyNext it) (λr s₁=>match r with
   | none=>R (.ok .next) s₁
   | some v=>wpAny (model prog w) A (letOwnedTupleGo target it v) (λ_ s₁=>wpAny (model prog w) A (assign target env v) (λ_ s₂ =>
     wpAny (model prog w) A (forIn ifs true λc r=>if r = true then do let ok <- isTrue c env (eval c env);pure (ForInStep.yield ok) else pure (ForInStep.yield r)) (λok s₃ =>
      if ok = true then wpAny (model prog w) A (eval elt env) (λx s₄ =>
       wpAny (model prog w) A (call (.builtin "list.append") [acc,x]) (λ_ s₅=>∃ m,m < n /\ I m s₅) (λ_ _=>False) s₄) (λ_ _=>False) s₃
      else ∃ m,m < n /\ I m s₃) (λ_ _=>False) s₂) (λ_ _=>False) s₁) (λ_ _=>False) s₁) (λ_ _=>False) s)
  (n:Nat) (h:I n s) :
  codeAny (model prog w) A (.compLoop (.ListComp elt [⟨target,iter,ifs,0⟩] scope pos) 0 it acc env) R s:=by
 refine codeAny_loop rfl I (λn s hI=>?_) n h
 show wpAny _ A ((compTurn (.ListComp elt [⟨target,iter,ifs,0⟩] scope pos) 0 it acc env).onRaise (λx=>do noteFrame x env;theTreesLotGoes x)) _ _ s
 refine wpAny_noted ?_
 rw [compTurn_list]
 refine wpAny_bind (wpAny_standAt (wpAny_bind (wpAny_mono (turn n s hI) (λr s₁ h₁=>?_) λ_ _ h'=>h'.elim)))
 cases r with
 | none=>exact wpAny_pure h₁
 | some v =>
  refine wpAny_bind (wpAny_mono h₁ (λ_ s₂ h₂=>?_) λ_ _ h'=>h'.elim)
  refine wpAny_bind (wpAny_mono h₂ (λ_ s₂ h₂=>wpAny_bind (wpAny_mono h₂ (λok s₃ h₃=>?_) λ_ _ h'=>h'.elim)) λ_ _ h'=>h'.elim)
  cases ok with
  | false=>exact wpAny_pure ⟨rfl,h₃⟩
  | true =>
   exact wpAny_bind (wpAny_bind (wpAny_mono h₃ (λx s₄ h₄=>wpAny_bind (wpAny_mono h₄ (λ_ s₅ h₅=>wpAny_pure (wpAny_pure ⟨rfl,h₅⟩)) λ_ _ h'=>h'.elim)) λ_ _ h'=>h'.elim))
noncomputable def eF (X:Cx) (N':List Str) (scope:Scope) (cl:List (Str × Addr)) (C:Addr) (s₀:Shared) (H₀:Hp) (fp:List Addr):Cx :=
 { X with N:=N',s₀:=s₀,H₀:=H₀,env:=compEnvC scope cl C X.env,outer:=X.stack,stack:=X.stack,ex:=fp,fn:=λ_=>false,pn:=[],xe:=λ_ _=>False }
theorem fG {env:Env}:∀ {names:List (Str × NameKind)} {x:Str} {kd:NameKind},(names.map λ(n,k)=>if (k == NameKind.free && env.scope.kind == .function && env.kindOf n == some .cell) then (n,NameKind.cell) else (n,k)).lookup x = some kd ->
  names.lookup x = some kd \/ (kd = .cell /\ names.lookup x = some .free)
 | [],_,_,h=>by simp at h
 | (n,k) :: r,x,kd,h=>by
  rw [List.map_cons] at h
  cases hx:x == n with
  | true =>
   by_cases hc:(k == NameKind.free && env.scope.kind == .function && env.kindOf n == some .cell) = true
   ·simp only [hc,if_true,List.lookup_cons,hx] at h
    cases h
    simp only [Bool.and_eq_true,beq_iff_eq] at hc
    refine .inr ⟨rfl,?_⟩
    rw [List.lookup_cons,hx,hc.1.1]
   ·have Dm:(k == NameKind.free && env.scope.kind == .function && env.kindOf n == some .cell) = false:=by simpa using hc
    simp only [Dm,Bool.false_eq_true,if_false,List.lookup_cons,hx] at h
    cases h
    exact .inl (by rw [List.lookup_cons,hx])
  | false =>
   have:List.lookup x (r.map λ(n,k)=>if (k == NameKind.free && env.scope.kind == .function && env.kindOf n == some .cell) then (n,NameKind.cell) else (n,k)) = some kd:=by
    by_cases hc:(k == NameKind.free && env.scope.kind == .function && env.kindOf n == some .cell) = true
    ·simp only [hc,if_true,List.lookup_cons,hx] at h;exact h
    ·have Dm:(k == NameKind.free && env.scope.kind == .function && env.kindOf n == some .cell) = false:=by simpa using hc
     simp only [Dm,Bool.false_eq_true,if_false,List.lookup_cons,hx] at h;exact h
   rw [List.lookup_cons,hx]
   exact fG this
theorem dj {env:Env}:∀ {names:List (Str × NameKind)} {x:Str},names.lookup x = some .free ->
  (names.map λ(n,k)=>if (k == NameKind.free && env.scope.kind == .function && env.kindOf n == some .cell) then (n,NameKind.cell) else (n,k)).lookup x = some .free \/
  (names.map λ(n,k)=>if (k == NameKind.free && env.scope.kind == .function && env.kindOf n == some .cell) then (n,NameKind.cell) else (n,k)).lookup x = some .cell
 | [],_,h=>by simp at h
 | (n,k) :: r,x,h=>by
  rw [List.map_cons]
  cases hx:x == n with
  | true =>
   rw [List.lookup_cons,hx] at h
   cases h
   by_cases hc:(NameKind.free == NameKind.free && env.scope.kind == .function && env.kindOf n == some .cell) = true
   ·simp only [hc,if_true,List.lookup_cons,hx];exact .inr trivial
   ·have Dm:(NameKind.free == NameKind.free && env.scope.kind == .function && env.kindOf n == some .cell) = false:=by simpa using hc
    simp only [Dm,Bool.false_eq_true,if_false,List.lookup_cons,hx];exact .inl trivial
  | false =>
   rw [List.lookup_cons,hx] at h
   by_cases hc:(k == NameKind.free && env.scope.kind == .function && env.kindOf n == some .cell) = true
   ·simp only [hc,if_true,List.lookup_cons,hx];exact dj h
   ·have Dm:(k == NameKind.free && env.scope.kind == .function && env.kindOf n == some .cell) = false:=by simpa using hc
    simp only [Dm,Bool.false_eq_true,if_false,List.lookup_cons,hx];exact dj h
theorem dY {names:List (Str × NameKind)} {x:Str} {kd:NameKind} (h:names.lookup x = some kd):(x,kd) ∈ names:=PySem.mem_of_lookup h
end DI
end
section
namespace DI
open PySem PySem.Spec PyProof.Rows L2
structure ka (S:Sx) (n:Nat) (t:Tg) (caps:List Nat) (target:Expr) (sc:Scope):Prop where
 kind:sc.kind = .function
 BI:∀ y ∈ sc.names,y.2 ≠ .cell
 loc:∀ y ∈ sc.names,y.2 = .local -> sc.names.lookup y.1 = some .local
 free:∀ x,(x,NameKind.free) ∈ sc.names -> S.sc.names.lookup x = some .cell \/ S.sc.names.lookup x = some .free
 n:n = (bK target).length
 tl:∀ x ∈ bK target,sc.names.lookup x = some .local
 nd:(bK target ++ gu S caps).Nodup
 eM:∀ i ∈ caps,∃ x,S.N[i]? = some x /\ sc.names.lookup x = some .free
 tg:(∃ x p,t = .nm 0 /\ target = .Name x p) \/ (∃ es k p,t = .tp (List.range es.length) /\ target = .Tuple es k p /\ es.all isNm = true)
theorem qS {S:Sx} {n:Nat} {t:Tg} {caps:List Nat} {target:Expr} {sc:Scope} (h:sM S n t caps target sc = true):ka S n t caps target sc:=by
 unfold sM at h
 simp only [Bool.and_eq_true,decide_eq_true_eq,List.all_eq_true,Bool.or_eq_true] at h
 obtain ⟨⟨⟨⟨⟨⟨h1,h2⟩,h3⟩,h4⟩,h5⟩,h6⟩,h7⟩:=h
 refine ⟨h1,λy hy=>(h2 y hy).1.1,λy hy hk=>?_,λx hx=>?_,h3,h4,h5,λi hi=>?_,?_⟩
 ·rcases (h2 y hy).1.2 with z | z
  ·exact absurd hk z
  ·exact z
 ·rcases (h2 _ hx).2 with (z | z) | z
  ·exact absurd rfl z
  ·exact .inl z
  ·exact .inr z
 ·have:=h6 i hi
  split at this
  ·rename_i x e;exact ⟨x,e,of_decide_eq_true this⟩
  ·cases this
 ·cases t with
  | nm i =>
   obtain ⟨g1,g2⟩:=ao h7
   obtain rfl:i = 0:=of_decide_eq_true g1
   cases target <;> first | (cases g2;done) | exact .inl ⟨_,_,rfl,rfl⟩
  | tp is =>
   obtain ⟨es,hv,g⟩:=aN h7
   obtain ⟨k,p,rfl⟩:=jn hv
   obtain ⟨g1,g2⟩:=ao g
   obtain rfl:is = _:=of_decide_eq_true g1
   exact .inr ⟨es,k,p,rfl,rfl,g2⟩
theorem vq {S:Sx}:∀ {caps:List Nat},(∀ i ∈ caps,∃ x,S.N[i]? = some x) -> (gu S caps).length = caps.length /\ ∀ (j i:Nat),caps[j]? = some i -> (gu S caps)[j]? = S.N[i]?
 | [],_=>⟨rfl,λj i h=>by simp at h⟩
 | i :: caps,h=>by
  obtain ⟨x,hx⟩:=h i List.mem_cons_self
  obtain ⟨h1,h2⟩:=vq (caps:=caps) λj hj=>h j (List.mem_cons_of_mem _ hj)
  have e:gu S (i :: caps) = x :: gu S caps:=by unfold gu;rw [List.filterMap_cons,hx]
  rw [e]
  refine ⟨by simp [h1],λj k hj=>?_⟩
  cases j with
  | zero=>simp at hj;subst hj;simp [hx]
  | succ j=>simp at hj ⊢;exact h2 j k hj
section
variable {X:Cx} {S:Sx} {k:Nat} {Φ:az} {pins:List (Addr × Obj)} {σ:St} {H2:Hp} {s₂:Shared}
noncomputable def pK (n:Nat) (caps:List Nat) (σ:St):St:=List.replicate n none ++ caps.map λi=>σ[i]?.getD none
noncomputable def eV (ai:List Value) (n:Nat):Obj:={ cls:=.type "list",data:=.seq ai.toArray n }
theorem FO {n:Nat} {t:Tg} {caps:List Nat} {target:Expr} {sc:Scope} {cl:List (Str × Addr)} {fp:List Addr} (L:Lk X S k Φ) (co:ka S n t caps target sc) (I2:Inv X pins σ H2 s₂)
  (mK:∀ x c,cl.lookup x = some c -> X.env.cells.lookup x = some c) (wF:∀ x,(x,NameKind.free) ∈ sc.names -> ∃ c,cl.lookup x = some c) (Fg:∀ b ∈ fp,pw X pins H2 b) (JY:∀ b ∈ fp,b < s₂.heap.objs.size) :
  (eF X (bK target ++ gu S caps) sc cl (s₂.heap.objs.size + 1) s₂ H2 fp).Ok:=by
 have N7:=I2.lq
 refine ⟨I2.ok.mod,co.kind,I2.ok.glob,I2.ok.blt,Nat.le_succ _,λx y c h1 h2=>I2.ok.inj x y c (mK x c h1) (mK y c h2),λx hx=>?_,(λ_ _ z=>by cases z),I2.ok.hd,I2.ok.frames,.inl rfl,λb hb=>⟨?_,λx c e=>(Fg b hb).2.2.2.2.1 x c (mK x c e)⟩,I2.bs,Nat.le_trans I2.ok.Hl I2.sz,λb o e hb=>?_,λb hb z=>?_,I2.stack,I2.xB⟩
 ·have JL:(relabel sc X.env).names.lookup x = some .cell \/ (relabel sc X.env).names.lookup x = some .free:=hx
  rcases JL with JL | JL
  ·rcases fG JL with z | z
   ·exact absurd rfl (co.BI _ (dY z))
   ·exact wF x (dY z.2)
  ·rcases fG JL with z | z
   ·exact wF x (dY z)
   ·cases z.1
 ·exact Nat.ne_of_lt (Nat.lt_succ_of_lt (JY b hb))
 ·rcases (Fg b hb).2.2.2.1 with z | z
  ·exact I2.ok.BH b o e z
  ·exact absurd (Nat.lt_of_lt_of_le (Heap.lt_size e) (Nat.le_trans I2.ok.Hl z)) (Nat.lt_irrefl _)
 ·rcases List.mem_cons.mp (N7 b z) with w | w
  ·exact (Fg b hb).2.1 w
  ·exact (Fg b hb).2.2.1 w
theorem B5 {n:Nat} {t:Tg} {caps:List Nat} {target:Expr} {sc:Scope} {cl:List (Str × Addr)} {fp:List Addr} {h₁:Heap} {tk:Nat} (L:Lk X S k Φ) (co:ka S n t caps target sc) (I2:Inv X pins σ H2 s₂)
  (mK:∀ x c,cl.lookup x = some c -> X.env.cells.lookup x = some c) (wF:∀ x,(x,NameKind.free) ∈ sc.names -> ∃ c,cl.lookup x = some c) (Fg:∀ b ∈ fp,pw X pins H2 b) (JY:∀ b ∈ fp,b < s₂.heap.objs.size)
  (zO:h₁.Ns (s₂.heap.objs.size + 1) λ_=>none) (old:∀ b o,s₂.heap.get? b = some o -> h₁.get? b = some o) (fe:h₁.get? s₂.heap.objs.size = some (eV [] 0)) :
  Inv (eF X (bK target ++ gu S caps) sc cl (s₂.heap.objs.size + 1) s₂ H2 fp) [(s₂.heap.objs.size,eV [] 0)] (pK n caps σ) H2 { s₂ with heap:=h₁,toks:=tk }:=by
 have pT:∀ i ∈ caps,∃ x,S.N[i]? = some x:=λi hi=>let ⟨x,e,_⟩:=co.eM i hi;⟨x,e⟩
 obtain ⟨cl1,cl2⟩:=vq pT
 refine ⟨FO L co I2 mK wF Fg JY,rfl,I2.bare,Un.kept old,⟨_,zO,λi x v e1 e2 e3=>?_⟩,λx c e=>?_,I2.cX.fresh (Nat.le_succ _),λx c e=>I2.jH x c (mK x c e),λp hp=>?_,I2.cX.kept old,?_⟩
 ·unfold pK at e2
  have hi:n <= i:=by
   by_cases hi:i < n
   ·rw [List.getElem?_append_left (by simpa using hi),List.getElem?_replicate,if_pos hi] at e2;cases e2
   ·omega
  have Rl:(bK target ++ gu S caps)[i]? = some x:=e1
  rw [List.getElem?_append_right (by rw [<- co.n];exact hi),<- co.n] at Rl
  rw [List.getElem?_append_right (by simpa using hi),List.length_replicate,List.getElem?_map] at e2
  cases hc:caps[i - n]? with
  | none=>rw [hc] at e2;cases e2
  | some ci =>
   rw [hc] at e2
   rw [cl2 _ _ hc] at Rl
   obtain ⟨x',O6,Q0⟩:=co.eM ci (List.mem_of_getElem? hc)
   rw [O6] at Rl;cases Rl
   have e2':σ[ci]? = some (some v):=by
    have O_:σ[ci]?.getD none = some v:=Option.some.inj e2
    cases q:σ[ci]? with
    | none=>rw [q] at O_;cases O_
    | some o=>rw [q] at O_;simp at O_;rw [O_]
   have Wx:Ht X.env.scope x:=by
    unfold Ht;rw [L.sc]
    rcases co.free x (dY Q0) with z | z
    ·exact .inr (.inl z)
    ·exact .inr (.inr z)
   obtain ⟨m,hn,hl⟩:=I2.loc
   obtain ⟨u,r,lk⟩:=hl ci x v (by rw [L.N];exact O6) e2' Wx
   refine ⟨u,r,.inr ⟨?_,?_⟩⟩
   ·rcases dj (env:=X.env) Q0 with z | z
    ·exact .inr z
    ·exact .inl z
   ·have hcx:∃ c,X.env.cells.lookup x = some c /\ s₂.heap.IsCell c (some u):=by
     rcases lk with ⟨z,_⟩ | ⟨_,z⟩
     ·have z':X.env.scope.names.lookup x = some .local:=z
      rw [L.sc] at z'
      rcases co.free x (dY Q0) with w | w <;> (rw [w] at z';cases z')
     ·exact z
    obtain ⟨c,ec,o,ho,hd⟩:=hcx
    obtain ⟨c',ec'⟩:=wF x (dY Q0)
    have:=mK x c' ec'
    rw [ec] at this;cases this
    exact ⟨c,ec',o,old _ _ ho,hd⟩
 ·obtain ⟨v,o,ho,hd⟩:=I2.cell x c (mK x c e)
  exact ⟨v,o,old _ _ ho,hd⟩
 ·have uF:p = (s₂.heap.objs.size,eV [] 0):=by simpa [eF] using hp
  subst uF
  refine ⟨fe,I2.cX.fresh (Nat.le_refl _),Nat.ne_of_lt (Nat.lt_succ_self _),λz=>?_,λv z=>by cases z⟩
  rcases List.mem_cons.mp (I2.lq _ z) with w | w
  ·exact absurd w (Nat.ne_of_gt I2.lt)
  ·exact I2.Jf (Nat.le_refl _) w
 ·show (pK n caps σ).length = (bK target ++ gu S caps).length
  unfold pK
  rw [List.length_append,List.length_append,List.length_replicate,List.length_map,cl1,co.n]
end
end DI
end
section
namespace DI
open PySem PySem.Spec PyProof.Rows L2
theorem ag.snoc {T:jJ} {N:iQ} {k:aJ}:∀ {n:Nat} {vs:List V} {ds:List D} {v:V} {d:D},ag T N k n vs ds -> Rep T N ((n + ds.length) :: k) v d -> ag T N k n (vs ++ [v]) (ds ++ [d])
 | n,_,_,_,_,.nil,h=>.cons h .nil
 | n,_,_,_,_,.cons (ds:=ds) h t,r=>.cons h (ag.snoc t (by
  have e:n + (ds.length + 1) = n + 1 + ds.length:=by omega
  rw [List.length_cons,e] at r;exact r))
open Classical in
theorem bT.snoc {K:PySem.W.Frag} {G R:Addr -> Prop} {τ:Addr -> Option aJ} {fv:List Nat} {H H1 H2:Hp} {v:V} {d:D} {vs:List V} {ds:List D} (e1:aj H H1) (e2:aj H1 H2) (h:bT K G R τ fv H H1 vs ds) (t:bG K G R τ fv H1 H2 v d) :
  bT K G R τ fv H H2 (vs ++ [v]) (ds ++ [d]):=by
 obtain ⟨τ1,f1,h1⟩:=h
 obtain ⟨τ2,f2,h2⟩:=t
 refine ⟨λp=>if H1 p = none then (τ2 p).map (· ++ [ds.length]) else τ1 p,λp q hq=>?_,ag.snoc (h1.imp (q:=[]) (q':=[]) (λ_ _ h=>aC.same e2 h) λc p xs f h=>?_) ((Nat.zero_add ds.length).symm ▸ h2.imp (q:=[]) (q':=[ds.length]) (λ_ _ h=>h) λc p xs f h=>?_)⟩
 ·dsimp only at hq
  by_cases hp:H1 p = none
  ·exact e1.free hp
  ·rw [if_neg hp] at hq;exact f1 p q hq
 ·have h':=nd.same e2 h
  cases f with
  | ow =>
   refine ⟨h'.1,?_⟩
   show (if H1 p = none then (τ2 p).map (· ++ [ds.length]) else τ1 p) = _
   rw [if_neg (h.1.ne)];exact h.2
  | fz=>exact h'
  | al=>exact h'
  | sc=>exact h'
 ·cases f with
  | ow =>
   refine ⟨h.1,?_⟩
   show (if H1 p = none then (τ2 p).map (· ++ [ds.length]) else τ1 p) = _
   rw [if_pos (f2 p _ h.2),h.2];simp
  | fz=>exact h
  | al=>exact h
  | sc=>exact h
structure Yl (K:PySem.W.Frag) (J:It) (R:Addr -> Prop) (H1:Hp) (items:List D):Prop where
 go:∀ i H',aj H1 H' -> i < items.length -> J.go i H'
 vA:∀ i H' x mC,aj H1 H' -> i < items.length -> J.vA i H' x mC -> aj H' mC /\ ∃ d,items[i]? = some d /\ Rep (aC K mC) (nd K R (λ_=>False) (λ_=>none) mC) [] x d
 stop:∀ i H',aj H1 H' -> items.length <= i -> J.stop i H'
section
variable {X:Cx} {S:Sx} {k:Nat} {F:Addr -> Prop} {Φ:az}
noncomputable def lu (X:Cx) (F:Addr -> Prop) (τ:Addr -> Option aJ) (fv:List Nat) (H2:Hp) (p:Addr):Prop:=H2 p ≠ none /\ jV (gP X F) τ fv p
theorem vV {R:Addr -> Prop} {τ τt:Addr -> Option aJ} {ρ:aB} {σ:St} {H H2:Hp} {fv fv':List Nat} (Si:SI X F R τ ρ σ H) (fr:∀ p q,τt p = some q -> H p = none) (hs:∀ i ∈ fv,i ∈ fv') (kp kq:aJ) (p:Addr) (xs:Nd) (f:Fl)
  (h:nd X.K R (jV (gP X F) τ fv) τt H2 kp p xs f):nd X.K (lu X F τ fv' H2) (λ_=>False) (λ_=>none) H2 kq p xs (aI f):=by
 cases f with
 | ow=>exact ⟨h.1,h.1.ne,.inr (Si.same.free (fr p _ h.2)),λc i e=>absurd (fr p _ h.2) (Si.th p _ e)⟩
 | fz=>exact ⟨h.1,h.1.ne,Si.rf p h.2,λc i e=>by rw [Si.rt p h.2] at e;cases e⟩
 | al=>exact ⟨h.1,h.1.ne,h.2.mono hs⟩
 | sc=>exact h
theorem DD {a:Addr} {xs:List V} {items:List D} {R:Addr -> Prop} {H1:Hp} {q:aJ} (hl:dw X.K H1 a xs) (rs:ag (aC X.K H1) (nd X.K R (λ_=>False) (λ_=>none) H1) q 0 xs items):Yl X.K (L8 X.K a) R H1 items where
 go:=λi H' e hi=>⟨xs,xs[i]'(by rw [rs.length];exact hi),e.seq hl,List.getElem?_eq_getElem _⟩
 vA:=λi H' x mC e hi y=>by
  obtain ⟨rfl,y⟩:=y
  obtain ⟨d,hd,rd⟩:=rs.uK (y xs (e.seq hl))
  refine ⟨aj.refl _,d,hd,?_⟩
  have:=Rep.iX (g:=id) (λ_ _ h=>h) nd.oN rd []
  rw [eL] at this
  exact this.imp (λ_ _ h=>aC.same e h) λ_ _ _ _ h=>nd.same e h
 stop:=λi H' e hi=>⟨xs,e.seq hl,by rw [rs.length];exact hi⟩
theorem Hz {a:Addr} {xs:List V} {items:List D} {R:Addr -> Prop} {H1:Hp} {q:aJ} (hl:aC X.K H1 a xs) (rs:ag (aC X.K H1) (nd X.K R (λ_=>False) (λ_=>none) H1) q 0 xs items):Yl X.K (L7 X.K a) R H1 items where
 go:=λi H' e hi=>⟨xs,xs[i]'(by rw [rs.length];exact hi),aC.same e hl,List.getElem?_eq_getElem _⟩
 vA:=λi H' x mC e hi y=>by
  obtain ⟨rfl,y⟩:=y
  obtain ⟨d,hd,rd⟩:=rs.uK (y xs (aC.same e hl))
  refine ⟨aj.refl _,d,hd,?_⟩
  have:=Rep.iX (g:=id) (λ_ _ h=>h) nd.oN rd []
  rw [eL] at this
  exact this.imp (λ_ _ h=>aC.same e h) λ_ _ _ _ h=>nd.same e h
 stop:=λi H' e hi=>⟨xs,aC.same e hl,by rw [rs.length];exact hi⟩
theorem HA {lo:Int} {n:Nat} {R:Addr -> Prop} {H1:Hp}:Yl X.K (Ax lo n) R H1 ((List.range n).map λ(k:Nat)=>D.int (lo + (k:Int))) where
 go:=λi H' e hi=>by simpa [Ax] using hi
 vA:=λi H' x mC e hi y=>by
  obtain ⟨rfl,rfl⟩:=y
  have mX:i < n:=by simpa using hi
  exact ⟨aj.refl _,.int (lo + i),by rw [List.getElem?_map,List.getElem?_range mX];rfl,.int _⟩
 stop:=λi H' e hi=>by simpa [Ax] using hi
theorem Bc {n:Nat} {t:Tg} {caps fv:List Nat} {target:Expr} {sc:Scope} {cl:List (Str × Addr)} {fp:List Addr} {R:Addr -> Prop} {τ:Addr -> Option aJ} {ρ:aB} {σ:St} {H2:Hp} {s₂:Shared} {C:Addr} (Si:SI X F R τ ρ σ H2) (hs:∀ i ∈ caps,i ∈ fv) :
  SI (eF X (bK target ++ gu S caps) sc cl C s₂ H2 fp) (jV (gP X F) τ fv) (lu X F τ fv H2) (λ_=>none) (bc n caps ρ) (pK n caps σ) H2:=by
 refine ⟨by simp [bc,pK],λi d hi=>?_,λ_ _=>rfl,λp h=>h.1,λp h=>.inl h.2,λ_ _ h=>by simp at h,λ_ _ h=>by simp at h,aj.refl _⟩
 unfold bc at hi
 have hn:n <= i:=by
  by_cases hn:i < n
  ·rw [List.getElem?_append_left (by simpa using hn),List.getElem?_replicate,if_pos hn] at hi;cases hi
  ·omega
 rw [List.getElem?_append_right (by simpa using hn),List.length_replicate,List.getElem?_map] at hi
 cases hc:caps[i - n]? with
 | none=>rw [hc] at hi;cases hi
 | some ci =>
  rw [hc] at hi
  have mX:(ρ[ci]?.getD none).map (aA aI) = some d:=Option.some.inj hi
  have hr:∃ d0,ρ[ci]? = some (some d0) /\ aA aI d0 = d:=by
   cases q:ρ[ci]? with
   | none=>rw [q] at mX;cases mX
   | some o =>
    cases o with
    | none=>rw [q] at mX;cases mX
    | some d0=>rw [q] at mX;exact ⟨d0,rfl,Option.some.inj mX⟩
  obtain ⟨d0,h0,rfl⟩:=hr
  obtain ⟨v,hv,rv⟩:=Si.rep ci d0 h0
  refine ⟨v,?_,Rep.iX (λ_ _ h=>h) (λkp kq p xs f h=>?_) ((rv.imp (q:=[ci]) (q':=[ci]) (N':=λq p xs f=>nd X.K R (λ_=>False) τ H2 q p xs f /\ (f = .ow -> ∃ c,q = c ++ [ci])) (λ_ _ h=>h) λc p xs f h=>⟨h,λ_=>⟨c,rfl⟩⟩)) [i]⟩
  ·unfold pK
   rw [List.getElem?_append_right (by simpa using hn),List.length_replicate,List.getElem?_map,hc]
   simp [hv]
  ·obtain ⟨h,hq⟩:=h
   cases f with
   | ow =>
    obtain ⟨c,rfl⟩:=hq rfl
    refine ⟨h.1,h.1.ne,.inr (Si.t0 p _ h.2),λc' i' e=>?_⟩
    rw [h.2] at e
    have:=congrArg List.getLast? (Option.some.inj e)
    simp at this;subst this
    exact hs _ (List.mem_of_getElem? hc)
   | fz=>exact ⟨h.1,h.1.ne,Si.rf p h.2,λc i e=>by rw [Si.rt p h.2] at e;cases e⟩
   | al=>exact h.2.elim
   | sc=>exact h
theorem BK:∀ {es:List Expr},es.all isNm = true -> ∃ xs:List (Str × Pos),es = xs.map λx=>Expr.Name x.1 x.2
 | [],_=>⟨[],rfl⟩
 | e :: es,h=>by
  rw [List.all_cons,Bool.and_eq_true] at h
  obtain ⟨xs,rfl⟩:=BK h.2
  cases e <;> simp [isNm] at h
  exact ⟨(_,_) :: xs,rfl⟩
theorem vS (xs:List (Str × Pos)):(xs.map λx=>Expr.Name x.1 x.2).filterMap (λe=>match e with | .Name x _=>some x | _=>none) = xs.map (·.1):=by
 induction xs with
 | nil=>rfl
 | cons x xs ih=>simp [ih]
noncomputable def Co (i:Nat):Nat -> Gf
 | 0=>Kh
 | n + 1=>Cp (qO i) (Co (i + 1) n)
theorem xT {X:Cx} (hN:X.N.Nodup):∀ (xs:List (Str × Pos)) (i:Nat),(∀ (j:Nat) x,xs[j]? = some x -> X.N[i + j]? = some x.1 /\ X.env.scope.names.lookup x.1 = some .local) ->
  L6 X (xs.map λx=>Expr.Name x.1 x.2) (Co i xs.length) /\ (assignEach (xs.map λx=>Expr.Name x.1 x.2) X.env).length = xs.length /\ (assignEach (xs.map λx=>Expr.Name x.1 x.2) X.env).findIdx? (·.1) = none
 | [],_,_=>⟨xR,rfl,rfl⟩
 | x :: xs,i,h=>by
  obtain ⟨h1,h2,h3⟩:=xT hN xs (i + 1) λj y hy=>by
   have:=h (j + 1) y (by simpa using hy)
   rwa [show i + (j + 1) = i + 1 + j by omega] at this
  obtain ⟨g1,g2⟩:=h 0 x rfl
  refine ⟨uk (rJ hN g1 (.inl g2) (.inr g2)) h1 rfl,?_,?_⟩
  ·show (_ :: assignEach _ X.env).length = _
   rw [List.length_cons,h2];rfl
  ·show (((false,assign (.Name x.1 x.2) X.env) :: assignEach (xs.map λx=>Expr.Name x.1 x.2) X.env)).findIdx? (·.1) = none
   rw [List.findIdx?_cons]
   simp [h3]
end
end DI
end
section
namespace DI
open PySem PySem.Spec PyProof.Rows L2
section
variable {X:Cx} {F R:Addr -> Prop} {τ:Addr -> Option aJ} {ρ:aB} {σ σ':St} {H:Hp}
theorem SI.MO {i:Nat} {v:V} {d:D} (Si:SI X F R τ ρ σ H) (rp:Rep (aC X.K H) (nd X.K R (λ_=>False) (λ_=>none) H) [] v d) (hi:i < ρ.length):SI X F R τ (ρ.set i (some d)) (σ.set i (some v)) H:=by
 refine ⟨by simp [Si.len],λj d' hj=>?_,Si.rt,Si.rh,Si.rf,Si.th,Si.t0,Si.same⟩
 by_cases iP:j = i
 ·subst iP
  rw [List.getElem?_set_self hi] at hj
  cases hj
  refine ⟨v,List.getElem?_set_self (by rw [<- Si.len];exact hi),rp.imp (q':=[j]) (λ_ _ h=>h) λc p xs f h=>?_⟩
  cases f with
  | ow=>exact nomatch h.2
  | fz=>exact h
  | al=>exact h
  | sc=>exact h
 ·rw [List.getElem?_set_ne (Ne.symm iP)] at hj
  obtain ⟨w,hw,mT⟩:=Si.rep j d' hj
  exact ⟨w,by rw [List.getElem?_set_ne (Ne.symm iP)];exact hw,mT⟩
theorem SI.sig (Si:SI X F R τ ρ σ H) (hl:σ'.length = σ.length) (h:∀ (i:Nat) d,ρ[i]? = some (some d) -> σ'[i]? = σ[i]?):SI X F R τ ρ σ' H :=
 ⟨by rw [hl];exact Si.len,λi d hi=>let ⟨v,hv,r⟩:=Si.rep i d hi;⟨v,by rw [h i d hi];exact hv,r⟩,Si.rt,Si.rh,Si.rf,Si.th,Si.t0,Si.same⟩
theorem nK {Q:St -> Hp -> Prop} (σ0:St) (hi:Nat):∀ {m i:Nat} {vs:List V} {ds:List D} {kp:aJ} {q:Nat} {σ:St} {ρ ρ':aB},i + m = hi -> ag (aC X.K H) (nd X.K R (λ_=>False) (λ_=>none) H) kp q vs ds -> SI X F R τ ρ σ H -> iI (List.range' i m) ds ρ = ok ρ' ->
  σ.length = σ0.length -> (∀ j,hi <= j -> σ[j]? = σ0[j]?) -> (∀ σ',σ'.length = σ0.length -> (∀ j,hi <= j -> σ'[j]? = σ0[j]?) -> SI X F R τ ρ' σ' H -> Q σ' H) -> Co i m vs σ H Q
 | 0,_,_,_,_,_,σ,_,_,_,.nil,Si,e,h1,h2,hq=>by
  cases e
  exact ⟨rfl,hq σ h1 h2 Si⟩
 | 0,_,_,_,_,_,_,_,_,_,.cons _ _,_,e,_,_,_=>by cases e
 | m + 1,_,_,_,_,_,_,_,_,_,.nil,_,e,_,_,_=>by cases e
 | m + 1,i,_,_,_,_,σ,ρ,_,him,.cons (v:=v) (d:=d) h t,Si,e,h1,h2,hq=>by
  change (if _ then _ else _) = _ at e
  split at e
  ·rename_i mX
   have gU:=Si.MO (i:=i) (Rep.rQ h) mX
   refine ⟨_,_,rfl,nK σ0 hi (by omega) t gU e (by simpa using h1) (λj hj=>?_) hq⟩
   rw [List.getElem?_set_ne (by omega)];exact h2 j hj
  ·cases e
end
section
variable {X:Cx} {S:Sx} {k:Nat} {F:Addr -> Prop} {Φ:az}
theorem HK {n:Nat} {t:Tg} {caps:List Nat} {target:Expr} {sc:Scope} {cl:List (Str × Addr)} {fp:List Addr} {s₂:Shared} {H2:Hp} {C:Addr} (OA:X.calm = true) (co:ka S n t caps target sc) :
  ∃ g,PG (eF X (bK target ++ gu S caps) sc cl C s₂ H2 fp) target g /\ ∀ (F' R':Addr -> Prop) (x:V) (d:D) (σ':St) (mC:Hp) (Q:St -> Hp -> Prop) (ρb ρ1:aB),
   SI (eF X (bK target ++ gu S caps) sc cl C s₂ H2 fp) F' R' (λ_=>none) ρb σ' mC -> Rep (aC X.K mC) (nd X.K R' (λ_=>False) (λ_=>none) mC) [] x d -> aH eC d = false -> cC t d ρb = ok ρ1 ->
   (∀ σ2,σ2.length = σ'.length -> (∀ j,n <= j -> σ2[j]? = σ'[j]?) -> SI (eF X (bK target ++ gu S caps) sc cl C s₂ H2 fp) F' R' (λ_=>none) ρ1 σ2 mC -> Q σ2 mC) -> g x σ' mC Q:=by
 have JW:∀ x ∈ bK target,(relabel sc X.env).names.lookup x = some .local:=λx hx=>lookup_relabel_local (co.tl x hx)
 rcases co.tg with ⟨x,p,rfl,rfl⟩ | ⟨es,kk,p,rfl,rfl,zQ⟩
 ·have hn:n = 1:=co.n
  subst hn
  refine ⟨qO 0,rJ co.nd rfl (.inl (JW x (List.mem_singleton.mpr rfl:x ∈ [x]))) (.inr (JW x (List.mem_singleton.mpr rfl:x ∈ [x]))),λF' R' v d σ' mC Q ρb ρ1 Si rp _ e hq=>?_⟩
  simp only [cC] at e
  split at e
  ·rename_i hi
   cases e
   refine hq _ (by simp) (λj hj=>?_) (Si.MO rp hi)
   rw [List.getElem?_set_ne (by omega)]
  ·cases e
 ·obtain ⟨xs,rfl⟩:=BK zQ
  have hN:bK (.Tuple (xs.map λx=>Expr.Name x.1 x.2) kk p) = xs.map (·.1):=vS xs
  have hn:n = xs.length:=by rw [co.n,hN,List.length_map]
  have:=xT (X:=eF X (bK (.Tuple (xs.map λx=>Expr.Name x.1 x.2) kk p) ++ gu S caps) sc cl C s₂ H2 fp) co.nd xs 0 (λj y hy=>by
   refine ⟨?_,JW y.1 (by rw [hN];exact List.mem_map.mpr ⟨y,List.mem_of_getElem? hy,rfl⟩)⟩
   show (bK (.Tuple (xs.map λx=>Expr.Name x.1 x.2) kk p) ++ gu S caps)[0 + j]? = _
   have hj:j < xs.length:=by
    by_cases hj:j < xs.length
    ·exact hj
    ·rw [List.getElem?_eq_none (by omega)] at hy;cases hy
   rw [hN,Nat.zero_add,List.getElem?_append_left (by simpa using hj),List.getElem?_map,hy];rfl)
  obtain ⟨h1,h2,h3⟩:=this
  refine ⟨_,Bt OA h1 h2 h3,λF' R' v d σ' mC Q ρb ρ1 Si rp ho e hq=>?_⟩
  cases d <;> try (simp [cC] at e;done)
  rename_i ds
  simp only [cC] at e
  split at e
  ·cases e
  ·cases rp with
   | @tup _ a ys _ hp rs =>
    rw [List.length_map] at e
    have e':iI (List.range' 0 xs.length) ds ρb = ok ρ1:=by rw [<- List.range_eq_range'];exact e
    refine ⟨a,ys,rfl,hp,?_,nK (X:=eF X (bK (.Tuple (xs.map λx=>Expr.Name x.1 x.2) kk p) ++ gu S caps) sc cl C s₂ H2 fp) σ' n (by omega) rs Si e' rfl (λ_ _=>rfl) hq⟩
    rw [rs.length]
    have:∀ (is:List Nat) (ds:List D) (ρ ρ':aB),iI is ds ρ = ok ρ' -> ds.length = is.length:=by
     intro is
     induction is with
     | nil=>intro ds ρ ρ' e;cases ds with | nil=>rfl | cons _ _=>cases e
     | cons i is ih=>intro ds ρ ρ' e;cases ds with
      | nil=>cases e
      | cons d ds =>
       change (if _ then _ else _) = _ at e
       split at e
       ·simp [ih ds _ _ e]
       ·cases e
    rw [this _ _ _ _ e',List.length_range']
theorem Ub:∀ f:Fl,eC (aI f) = false:=by intro f;cases f <;> rfl
mutual
theorem EE:∀ d:D,aH eC (aA aI d) = false
 | .bA=>by simp [aA,aH]
 | .bl _=>by simp [aA,aH]
 | .int _=>by simp [aA,aH]
 | .tup ds=>by simp [aA,aH,fE ds]
 | .lst f ds=>by simp [aA,aH,fE ds,Ub]
 | .cg f ks vs=>by simp [aA,aH,fE vs,Ub]
 | .kb f ks vs=>by simp [aA,aH,fE vs,Ub]
theorem fE:∀ ds:List D,aw eC (af aI ds) = false
 | []=>by simp [af,aw]
 | d :: ds=>by simp [af,aw,EE d,fE ds]
end
theorem yd {P:Program} {w:World} {H:Hp} {h:Heap} {a:Addr} {o:HO} (x:l_ P w H h) (hn:H a = none) (new:cF P w (upd H a o) h a o):l_ P w (upd H a o) h:=λb u e=>by
 by_cases hb:b = a
 ·subst hb;rw [aD] at e;cases e;exact new
 ·rw [aE hb] at e
  exact (x b u e).ko (λc v _ q=>q) (λc q=>by rw [aE (bZ q hn)];exact q) λc xs q=>by rw [aE (bZ q hn)];exact q
structure CAt (X X':Cx) (F' R':Addr -> Prop) (n:Nat) (base:aB) (σ0:St) (fp:List Addr) (tn:Nat -> Heap -> Prop) (H2:Hp) (D:Addr) (items:List DI.D) (bind:DI.D -> O aB) (test:aB -> O Bool) (el:aB -> O DI.D) (all:List DI.D) (m:Nat) (s':Shared):Prop where
 ex:∃ (i:Nat) (vs:List V) (ai:List Value) (nn:Nat) (σ':St) (H':Hp) (dn rest:List DI.D),m = items.length - i /\ i <= items.length /\ Inv X' [(D,eV ai nn)] σ' H' s' /\ tn i s'.heap /\ (∀ b ∈ fp,H' b = none) /\ Vals vs ai /\ aj H2 H' /\
  SI X' F' R' (λ_=>none) base σ' H' /\ bT X.K (gP X' F') R' (λ_=>none) [] H2 H' vs dn /\ gL bind test el (items.drop i) = ok rest /\ dn ++ rest = all
end
end DI
end
section
namespace DI
open PySem PySem.Spec PyProof.Rows L2
theorem bT.go {K:PySem.W.Frag} {G R:Addr -> Prop} {τ:Addr -> Option aJ} {fv:List Nat} {H H1 H2:Hp} {vs:List V} {ds:List D} (h:bT K G R τ fv H H1 vs ds) (e:aj H1 H2):bT K G R τ fv H H2 vs ds :=
 let ⟨τt,h1,h2⟩:=h;⟨τt,h1,h2.imp (λ_ _ h=>aC.same e h) λ_ _ _ _ h=>nd.same e h⟩
theorem n5:∀ {ds:List D} {d:D},aw eC ds = false -> d ∈ ds -> aH eC d = false
 | [],_,_,h=>nomatch h
 | e :: ds,d,h,hm=>by
  rw [aw,Bool.or_eq_false_iff] at h
  rcases List.mem_cons.mp hm with rfl | z
  ·exact h.1
  ·exact n5 h.2 z
theorem zm {d:D} {items:List D} (h:ku d = ok items):∀ d ∈ items,aH eC d = false:=by
 unfold ku at h
 split at h
 ·cases h;exact λd hd=>n5 (fE _) hd
 ·cases h
theorem wy {Φ:az} {ik:IK} {xs items:List D} (h:dk Φ ik xs = ok items):∀ d ∈ items,aH eC d = false:=by
 cases ik with
 | du p=>obtain ⟨d,_,h⟩:=ah h;exact zm h
 | lC =>
  cases xs with
  | nil=>cases h
  | cons x t=>cases x <;> first | (cases h;done) | (cases t with
   | cons _ _=>cases h
   | nil =>
    obtain ⟨_,h⟩:=qK h
    subst h
    intro d hd
    obtain ⟨k,_,rfl⟩:=List.mem_map.mp hd
    rfl)
 | seq =>
  cases xs with
  | nil=>cases h
  | cons x t=>cases x <;> first | (cases h;done) | (cases t with
   | cons _ _=>cases h
   | nil=>cases h;exact λd hd=>n5 (fE _) hd)
theorem wA {n:Nat} {caps:List Nat} {ρ:aB} {i:Nat} {d:D} (h:(bc n caps ρ)[i]? = some (some d)):n <= i:=by
 unfold bc at h
 by_cases hn:i < n
 ·rw [List.getElem?_append_left (by simpa using hn),List.getElem?_replicate,if_pos hn] at h;cases h
 ·omega
section
variable {X:Cx} {S:Sx} {k:Nat} {F:Addr -> Prop} {Φ:az}
theorem BV {n:Nat} {t:Tg} {caps:List Nat} {target:Expr} {sc:Scope} {cl:List (Str × Addr)} {fp:List Addr} {s₂:Shared} {H2:Hp} {C:Addr} (L:Lk X S k Φ) (co:ka S n t caps target sc) :
  Lk (eF X (bK target ++ gu S caps) sc cl C s₂ H2 fp) (S.inner target caps sc) k Φ:=by
 refine ⟨?_,rfl,co.nd,L.calm,L.room,L.bl,λf x h=>⟨(L.fn f x h).ex⟩,L.cs,L.pr⟩
 show relabel sc X.env = uh sc S.sc
 rw [<- L.sc];rfl
theorem vd (L:Lk X S k Φ) {n:Nat} {t:Tg} {caps:List Nat} {ik:IK} {es a_:List CE} {elt:CE} {target iter iN:Expr} {ifs:List Expr} {sc:Scope} {pos:Pos} (co:ka S n t caps target sc) (zO:qH iter = true)
    (hE:∀ (X':Cx) (F':Addr -> Prop),Lk X' (S.inner target caps sc) k Φ -> PE X' iN (tD X' F' Φ elt))
    (hC:(a_ = [] /\ ifs = []) \/ ∃ c e,a_ = [c] /\ ifs = [e] /\ ∀ (X':Cx) (F':Addr -> Prop),Lk X' (S.inner target caps sc) k Φ -> PT X' e (gY X' F' Φ c))
    (hI:∀ (pins:List (Addr × Obj)) (s:Shared) (σ:St) (H:Hp) (R:Addr -> Prop) (τ:Addr -> Option aJ) (ρ:aB) (xs items:List D),Inv X pins σ H s -> SI X F R τ ρ σ H -> cD Φ es ρ = ok xs -> dk Φ ik xs = ok items -> ∀ Rr:It -> Hp -> Prop,
      (∀ J H2,aj H H2 -> Yl X.K J (lu X F τ (caps ++ dy es) H2) H2 items -> Rr J H2) -> wpAny (model X.prog X.w) X.A (eval iter X.env) (λv s1=>wpAny (model X.prog X.w) X.A (pyIter v) (AE X pins σ target Rr) X.xe s1) X.xe s)
    {use:Option (Value -> Sem Unit)} {Post:Value -> Shared -> Prop} {pins:List (Addr × Obj)} {s:Shared} {σ:St} {H:Hp} {R:Addr -> Prop} {τ:Addr -> Option aJ} {ρ:aB} {d:D} {XA:Pos} (I:Inv X pins σ H s) (Si:SI X F R τ ρ σ H) (ev:aQ Φ (.comp n t caps ik es a_ elt) ρ = ok d)
    (Od:∀ (acc C:Addr) (H1:Hp) (s1:Shared) (m:Str -> Option Value),s1.heap.Ns C m -> (C ≠ X.env.locals /\ X.s₀.heap.objs.size <= C /\ (∀ x c,X.env.cells.lookup x = some c -> c ≠ C) /\ (∀ p ∈ X.pn ++ pins,p.1 ≠ C) /\ H1 C = none) -> (∀ h',Heap.SameBut C s1.heap h' -> Inv X pins σ H1 { s1 with heap:=h' }) -> aj H H1 ->
      bG X.K (gP X F) R τ (iJ (.comp n t caps ik es a_ elt)) H H1 (.ref acc) d -> compPost (model X.prog X.w) X.A X.xe use Post (.ref acc) C (.ok .next) s1) :
    wpAny (model X.prog X.w) X.A (comprehension (.ListComp iN [⟨target,iter,ifs,0⟩] sc pos) sc X.env XA (newList []) false (eval iter X.env) use) Post X.xe s:=by
  obtain ⟨xs,c_,ev⟩:=ah ev
  obtain ⟨items,wR,ev⟩:=ah ev
  obtain ⟨ds,KR,ev⟩:=ah ev
  simp only [G6] at ev
  obtain ⟨pT,rfl⟩:=ev
  have Oj:=wy wR
  obtain ⟨cl,Oz,mK,wF⟩:=w5 (env:=X.env) (sc:=sc) (λx hx=>I.ok.has x (by
    show X.env.scope.names.lookup x = some .cell \/ X.env.scope.names.lookup x = some .free
    rw [L.sc];exact co.free x hx))
  have oy:∀ x,foldedSetIterable iter X.env x = pure x:=by intro x;cases iter <;> first | rfl | (cases zO;done)
  refine wpAny_comprehension_free (use:=use) rfl oy Oz co.kind co.loc (wpAny_mono (hI pins s σ H R τ ρ xs items I Si c_ wR (λJ H2=>aj H H2 /\ Yl X.K J (lu X F τ (caps ++ dy es) H2) H2 items) (λJ H2 e y=>⟨e,y⟩)) (λxv s₁ h₁=>wpAny_mono h₁ (λWg s₂ h₂=>?_) λ_ _ e=>e) λ_ _ e=>e)
  obtain ⟨it,fp,tn,J,H2,rfl,I2,T,DZ,f2,e2,yl⟩:=h₂
  have vz:=Si.go e2
  have JY:∀ b ∈ fp,b < s₂.heap.objs.size:=λb hb=>let ⟨o,ho,_⟩:=T.obj 0 _ DZ b hb;Heap.lt_size ho
  refine wpAny_newObj_type (wpAny_newFunctionEnv co.BI (by intro y hy;simp at hy) (λh₁ rZ ox=>?_) co.kind)
  dsimp only at rZ ox ⊢
  generalize Xd:s₂.heap.push { cls:=.type "list",dict:=none,data:=.seq ([]:List Value).toArray } = G2 at rZ ox ⊢
  have hGC:G2.objs.size = s₂.heap.objs.size + 1:=by rw [<- Xd,Heap.size_push]
  have Q5:s₂.heap.objs.size ≠ s₂.heap.objs.size + 1:=Nat.ne_of_lt (Nat.lt_succ_self _)
  rw [hGC] at rZ ox
  have old:∀ b o,s₂.heap.get? b = some o -> h₁.get? b = some o:=λb o e=>ox.extBut b o (Nat.ne_of_lt (Nat.lt_succ_of_lt (Heap.lt_size e))) (Heap.get?_push_of_some _ (Xd ▸ Heap.get?_push_of_some _ e))
  have fe:h₁.get? s₂.heap.objs.size = some (eV [] 0):=ox.extBut _ _ Q5 (Heap.get?_push_of_some _ (Xd ▸ Heap.get?_push_size _ rfl))
  let X':=eF X (bK target ++ gu S caps) sc cl (s₂.heap.objs.size + 1) s₂ H2 fp
  let F':=jV (gP X F) τ (caps ++ dy es)
  let R':=lu X F τ (caps ++ dy es) H2
  have L':Lk X' (S.inner target caps sc) k Φ:=BV L co
  have I4:=λtk=>B5 (h₁:=h₁) (tk:=tk) L co I2 mK wF f2 JY (by simpa using rZ) old fe
  have S4:SI X' F' R' (λ_=>none) (bc n caps ρ) (pK n caps σ) H2:=Bc (t:=t) vz (λi hi=>by simp [hi])
  obtain ⟨g,hg,Cf⟩:=HK (X:=X) (S:=S) (cl:=cl) (fp:=fp) (s₂:=s₂) (H2:=H2) (C:=s₂.heap.objs.size + 1) L.calm co
  have Xe:s₂.heap.objs.size ∉ X'.fs:=λz=>by
    rcases List.mem_cons.mp (I2.lq _ z) with w | w
    · exact absurd w (Nat.ne_of_gt I2.lt)
    · exact I2.Jf (Nat.le_refl _) w
  have J1:∀ x c,cl.lookup x = some c -> c ≠ s₂.heap.objs.size:=λx c e=>by
    obtain ⟨v,q⟩:=I2.cell x c (mK x c e)
    exact Nat.ne_of_lt q.lt
  have Ff:∀ b ∈ fp,b ≠ X'.env.locals /\ b ∉ X'.fs /\ (b ∈ X'.ex \/ X'.s₀.heap.objs.size <= b) /\ (∀ x c,X'.env.cells.lookup x = some c -> c ≠ b):=λb hb =>
    ⟨Nat.ne_of_lt (Nat.lt_succ_of_lt (JY b hb)),λz=>by
      rcases List.mem_cons.mp (I2.lq b z) with w | w
      · exact (f2 b hb).2.1 w
      · exact (f2 b hb).2.2.1 w,.inl hb,λx c e=>(f2 b hb).2.2.2.2.1 x c (mK x c e)⟩
  have Ot:∀ b ∈ fp,b ≠ s₂.heap.objs.size:=λb hb=>Nat.ne_of_lt (JY b hb)
  have fin:∀ (vs:List V) (ai:List Value) (nn:Nat) (σ':St) (H':Hp) (s1:Shared),Inv X' [(s₂.heap.objs.size,eV ai nn)] σ' H' s1 -> Vals vs ai -> aj H2 H' -> bT X.K (gP X' F') R' (λ_=>none) [] H2 H' vs ds ->
      compPost (model X.prog X.w) X.A X.xe use Post (.ref s₂.heap.objs.size) (s₂.heap.objs.size + 1) (.ok .next) s1:=by
    intro vs ai nn σ' H' s1 I1 rv sm Ee
    obtain ⟨m,hn,_⟩:=I1.loc
    obtain ⟨pD,nD,_,_,_⟩:=I1.pin (s₂.heap.objs.size,eV ai nn) (List.mem_append_right _ List.mem_cons_self)
    have bs:=I1.base
    have GY:∀ b o,s₂.heap.get? b = some o -> b ≠ s₂.heap.objs.size + 1:=λb o e=>Nat.ne_of_lt (Nat.lt_succ_of_lt (Heap.lt_size e))
    have neD:∀ b o,s₂.heap.get? b = some o -> b ≠ s₂.heap.objs.size:=λb o e=>Nat.ne_of_lt (Heap.lt_size e)
    have RH:∀ b u,H' b = some u -> upd H' s₂.heap.objs.size (.lst vs) b = some u:=λb u e=>by rw [aE (bZ e nD)];exact e
    have hlen:vs.length <= sizeLine:=by
      obtain ⟨_,_,rr⟩:=Ee
      have hz:sizeLine = 16777216:=sizeLine_eq
      have hc:eM = 1000000:=rfl
      rw [rr.length];omega
    have IX:∀ h',Heap.SameBut (s₂.heap.objs.size + 1) s1.heap h' -> Inv X pins σ (upd H' s₂.heap.objs.size (.lst vs)) { s1 with heap:=h' }:=λh' B_=>by
      have un:Un (AB X.stack) fp H2 (upd H' s₂.heap.objs.size (.lst vs)) s₂.heap h' :=
        ⟨λb o e n hb hx=>B_.extBut b o (GY b o e) (bs.keep b o e n hb hx),
         λb o e n hb hx=>let ⟨sl,q⟩:=bs.slot b o e n hb hx;⟨sl,B_.extBut b _ (GY b o e) q⟩,
         λb o e n hx=>by rw [aE (neD b o e)];exact bs.free b o e n hx,
         λb o e hx=>let ⟨o',q⟩:=bs.there b o e hx;⟨o',B_.extBut b _ (GY b o e) q⟩,
         λb xs e=>RH b _ (bs.ra b xs e),λb o u e=>RH b _ (bs.p8 b o u e),λb ps e=>let ⟨more,q⟩:=bs.rg b ps e;⟨more,RH b _ q⟩⟩
      have WL:l_ X.prog X.w H' h':=λa o e=>(I1.cX a o e).ko (λb u hb q=>B_.extBut b u (by
        rintro rfl
        have hf:H' (s₂.heap.objs.size + 1) = none:=I1.free
        rcases hb with z | z
        · rw [<- z,hf] at e;cases e
        · rw [hf] at z;cases z) q) (λ_ q=>q) λ_ _ q=>q
      have WK:l_ X.prog X.w (upd H' s₂.heap.objs.size (.lst vs)) h':=yd WL nD ⟨hlen,ai,nn,rv,B_.extBut _ _ Q5 pD⟩
      exact I2.P_ (ch:=fp) I1.os un WK I1.bare λb hb=>⟨(f2 b hb).2.2.2.1,(f2 b hb).2.1,(f2 b hb).2.2.2.2.1,(f2 b hb).2.2.2.2.2⟩
    have eS:aj H' (upd H' s₂.heap.objs.size (.lst vs)):=aj.upd nD
    obtain ⟨τt,fr,rs⟩:=Ee
    have Vv:s₂.heap.objs.size + 1 ≠ s₂.heap.objs.size:=Nat.succ_ne_self _
    refine Od s₂.heap.objs.size (s₂.heap.objs.size + 1) _ s1 m hn ⟨Nat.ne_of_gt (Nat.lt_succ_of_lt I2.lt),Nat.le_succ_of_le I2.sz,λx c e=>?_,λp hp=>?_,?_⟩ IX ((e2.trans sm).trans eS) ⟨λq=>if q = s₂.heap.objs.size then some [] else τt q,λq z hz=>?_,.lst ⟨aD,by simp⟩ (ag.map (q:=[]) (q':=[]) (λ_ _ h=>aC.same eS h) (λc p ys f h=>?_) rs [] rfl)⟩
    · obtain ⟨v,z⟩:=I2.cell x c e
      exact Nat.ne_of_lt (Nat.lt_succ_of_lt z.lt)
    · exact Nat.ne_of_lt (Nat.lt_succ_of_lt (Heap.lt_size (I2.pin p hp).1))
    · rw [aE Vv];exact I1.free
    · by_cases wC:q = s₂.heap.objs.size
      · rw [wC];exact e2.free (sm.free nD)
      · simp only [wC,if_false] at hz;exact e2.free (fr q z hz)
    · have h':=nd.same eS h
      have aad:∀ p,gP X' F' p -> jV (gP X F) τ (caps ++ dy es) p:=λp hp=>hp.elim id λz=>⟨.inr (vz.same.free z),λc i e=>absurd z (vz.th p _ e)⟩
      cases f with
      | ow =>
        have wC:p ≠ s₂.heap.objs.size:=by
          intro z;subst z
          exact h.1.ne nD
        refine ⟨h'.1,?_⟩
        show (if p = s₂.heap.objs.size then some [] else τt p) = _
        rw [if_neg wC];exact h'.2
      | fz=>exact ⟨h'.1,h'.2.2⟩
      | al=>exact ⟨h'.1,aad p h'.2.1⟩
      | sc=>exact h'
  have tst:∀ (P:List (Addr × Obj)) (ρ1:aB) (b:Bool) (σ2:St) (H5:Hp) (s6:Shared),iK Φ a_ ρ1 = ok b -> Inv X' P σ2 H5 s6 -> SI X' F' R' (λ_=>none) ρ1 σ2 H5 ->
      wpAny (model X.prog X.w) X.A (forIn ifs true λc r=>if r = true then do let ok <- isTrue c X'.env (eval c X'.env);pure (ForInStep.yield ok) else pure (ForInStep.yield r)) (λUg s7=>Ug = b /\ ∃ H7,Inv X' P σ2 H7 s7 /\ aj H5 H7) (λ_ _=>False) s6:=by
    intro P ρ1 b σ2 H5 s6 eb I6 S6
    rcases hC with ⟨rfl,rfl⟩ | ⟨c,e,rfl,rfl,hPT⟩
    · rw [iK] at eb;cases eb
      exact wpAny_tests_nil ⟨rfl,H5,I6,aj.refl _⟩
    · rw [iK] at eb
      obtain ⟨b',eb',eb⟩:=ah eb
      have hb:b' = b:=by
        cases b' with
        | true=>rw [if_pos rfl,iK] at eb;cases eb;rfl
        | false=>rw [if_neg (by simp)] at eb;cases eb;rfl
      subst hb
      refine wpAny_tests_one (wpAny_mono (hPT X' F' L' P s6 σ2 H5 (λb'' H7=>b'' = b' /\ aj H5 H7) I6 ⟨R',_,ρ1,b',S6,eb',λH7 e7=>⟨rfl,e7⟩⟩) (λb'' s7 ⟨H7,I7,hb,e7⟩=>⟨hb,H7,I7,e7⟩) λ_ _ e=>e)
  have loop:∀ tk,codeAny (model X.prog X.w) X.A (.compLoop (.ListComp iN [⟨target,iter,ifs,0⟩] sc pos) 0 (.ref it) (.ref s₂.heap.objs.size) X'.env)
      (compPost (model X.prog X.w) X.A X.xe use Post (.ref s₂.heap.objs.size) (s₂.heap.objs.size + 1)) { s₂ with heap:=h₁,toks:=tk }:=by
    intro tk
    refine sD (CAt X X' F' R' n (bc n caps ρ) (pK n caps σ) fp tn H2 s₂.heap.objs.size items (λd=>cC t d (bc n caps ρ)) (λρ'=>iK Φ a_ ρ') (λρ'=>aQ Φ elt ρ') ds) ?_ items.length
      ⟨0,[],[],0,pK n caps σ,H2,[],ds,rfl,Nat.zero_le _,I4 tk,T.keep _ _ _ DZ (λb _ o e=>old b o e),λb hb=>(f2 b hb).1,.nil,aj.refl _,S4,.nil,by rw [List.drop_zero];exact KR,rfl⟩
    rintro m s' ⟨i,vs,ai,nn,σ',H',dn,rest,hm,hi,I',mE,fr',rv,sm,gU,Ee,fK,eall⟩
    have Kj:∀ b ∈ fp,pw X' [(s₂.heap.objs.size,eV ai nn)] H' b:=λb hb=>⟨fr' b hb,(Ff b hb).1,(Ff b hb).2.1,(Ff b hb).2.2.1,(Ff b hb).2.2.2,λp hp=>by
      have uF:p = (s₂.heap.objs.size,eV ai nn):=by simpa [X',eF] using hp
      rw [uF];exact (Ot b hb).symm⟩
    by_cases hV:i < items.length
    · refine wpAny_mono (T.item X' rfl rfl rfl L.calm i _ s' σ' H' (λ_ _=>False) I' Kj mE (yl.go i H' sm hV)) (λr s1 h4=>?_) λ_ _ e=>e
      obtain ⟨u,hr,h4⟩:=h4
      subst hr
      refine wpAny_mono h4 (λ_ s5 h5=>?_) λ_ _ e=>e
      obtain ⟨x,H5,I5,r5,y5,HW,Xz⟩:=h5
      obtain ⟨e5,dd,hd,rd⟩:=yl.vA i H' x H5 sm hV y5
      have I5':=I5.pinned (fp:=fp) (λb hb=>⟨Xz b hb,(Kj b hb).2⟩) (T.obj _ _ HW)
      have uH:items.drop i = dd :: items.drop (i + 1):=by
        rw [List.drop_eq_getElem_cons hV]
        rw [List.getElem?_eq_getElem hV] at hd
        cases hd;rfl
      rw [uH,gL] at fK
      obtain ⟨ρ1,eb,fK⟩:=ah fK
      obtain ⟨bb,et,fK⟩:=ah fK
      refine wpAny_mono (hg _ s5 σ' H5 x u (λσ2 H6=>H6 = H5 /\ σ2.length = σ'.length /\ (∀ j,n <= j -> σ2[j]? = σ'[j]?) /\ SI X' F' R' (λ_=>none) ρ1 σ2 H5) I5' r5
        (Cf F' R' x dd σ' H5 _ (bc n caps ρ) ρ1 (gU.go e5) rd (Oj dd (List.mem_of_getElem? hd)) eb λσ2 g1 g2 g3=>⟨rfl,g1,g2,g3⟩)) (λ_ s6 h6=>?_) λ_ _ e=>e
      obtain ⟨σ2,H6,I6,rfl,g1,g2,S6⟩:=h6
      refine wpAny_mono (tst _ ρ1 bb σ2 H6 s6 et I6 S6) (λUg s7 h7=>?_) λ_ _ e=>e
      obtain ⟨rfl,H7,I7,e7⟩:=h7
      have RK:∀ {P:List (Addr × Obj)} {σ3:St} {H8:Hp} {s8:Shared},Inv X' (P ++ iV fp s5.heap) σ3 H8 s8 -> tn (i + 1) s8.heap /\ ∀ b ∈ fp,H8 b = none:=λ{P σ3 H8 s8} I8 =>
        ⟨T.keep _ _ _ HW λb hb o e=>(I8.pin (b,o) (List.mem_append_right _ (List.mem_append_right _ (hJ hb e)))).1,λb hb=>by
          obtain ⟨o,e,_⟩:=T.obj _ _ HW b hb
          exact (I8.pin (b,o) (List.mem_append_right _ (List.mem_append_right _ (hJ hb e)))).2.1⟩
      have Hn:∀ {H8:Hp},aj H7 H8 -> SI X' F' R' (λ_=>none) (bc n caps ρ) σ2 H8:=λ{H8} e8=>(gU.go ((e5.trans e7).trans e8)).sig g1 λj d hj=>g2 j (wA hj)
      cases Ug with
      | false =>
        rw [if_neg (by simp)] at fK ⊢
        exact ⟨items.length - (i + 1),by omega,i + 1,vs,ai,nn,σ2,H7,dn,rest,rfl,hV,I7.kl,(RK I7).1,(RK I7).2,rv,(sm.trans e5).trans e7,Hn (aj.refl _),Ee.go (e5.trans e7),fK,eall⟩
      | true =>
        rw [if_pos rfl] at fK ⊢
        obtain ⟨y,ey,fK⟩:=ah fK
        obtain ⟨ys,wN,fK⟩:=ah fK
        cases fK
        refine wpAny_mono (hE X' F' L' _ s7 σ2 H7 (λv H8=>aj H7 H8 /\ bG X.K (gP X' F') R' (λ_=>none) [] H7 H8 v y) I7 ⟨R',_,ρ1,y,S6.go e7,ey,λv H8 e8 r8=>⟨e8,?_⟩⟩) (λu8 s8 h8=>?_) λ_ _ e=>e
        · obtain ⟨τt,fr,rr⟩:=r8
          exact ⟨τt,fr,rr.imp (q:=[]) (q':=[]) (λ_ _ h=>h) λc p ys f h=>h.mono id (λh=>⟨h.1,λ_ _ e=>by cases e⟩) id⟩
        · obtain ⟨v8,H8,I8,rv8,e8,r8⟩:=h8
          obtain ⟨pD,nD,_,_,_⟩:=I8.pin (s₂.heap.objs.size,eV ai nn) (List.mem_append_right _ (List.mem_append_left _ List.mem_cons_self))
          have hlen:ai.length <= 1000000:=by
            obtain ⟨_,_,rr⟩:=Ee
            have h1:dn.length <= ds.length:=by rw [<- eall,List.length_append];omega
            have hc:eM = 1000000:=rfl
            rw [<- rv.length,rr.length];omega
          have hz:sizeLine = 16777216:=sizeLine_eq
          refine call_meets PySem.F.slot_list_append ⟨_,pD,rfl⟩ PySem.F.entry_list_append (PySem.F.args_list_append_2 _ _) (PySem.list_append s₂.heap.objs.size ai.toArray nn u8 (by rw [List.size_toArray];omega)) ⟨pD,?_⟩
          have q:=PySem.IsL.update pD (λx=>x.push u8)
          have Ob:ai.toArray.push u8 = (ai ++ [u8]).toArray:=by simp
          rw [Ob] at q
          obtain ⟨QR,q'⟩:∃ QR,(s8.heap.update s₂.heap.objs.size (Obj.mapSeq λx=>x.push u8)).get? s₂.heap.objs.size = some (eV (ai ++ [u8]) QR):=⟨_,q⟩
          have I8d:Inv X' (iV fp s5.heap) σ2 H8 s8:=I8.jr λp hp=>I8.pin p (List.mem_append_right _ (List.mem_append_right _ hp))
          have I8t:Inv X' (iV fp s5.heap) σ2 H8 { s8 with heap:=s8.heap.update s₂.heap.objs.size (Obj.mapSeq λx=>x.push u8),toks:=s8.toks } :=
            I8d.turned (it:=s₂.heap.objs.size) (λb o hb e=>(Heap.get?_update_other s8.heap (Obj.mapSeq λx=>x.push u8) (Ne.symm hb)).trans e) nD Q5 (.inr (Nat.le_refl _)) J1 λp hp=>by
              have uF:p ∈ iV fp s5.heap:=by simpa [X',eF] using hp
              exact Ot p.1 (qG uF).1
          have kp:=RK (P:=[]) (by rw [List.nil_append];exact I8t)
          refine ⟨items.length - (i + 1),by omega,i + 1,vs ++ [v8],ai ++ [u8],QR,σ2,H8,dn ++ [y],ys,rfl,hV,I8t.jr (λp hp=>?_),kp.1,kp.2,rv.append (.cons rv8 .nil),((sm.trans e5).trans e7).trans e8,Hn e8,bT.snoc ((sm.trans e5).trans e7) e8 (Ee.go (e5.trans e7)) r8,wN,by rw [List.append_assoc];exact eall⟩
          have uF:p = (s₂.heap.objs.size,eV (ai ++ [u8]) QR):=by simpa using hp
          rw [uF]
          exact ⟨q',nD,Q5,Xe,λv z=>by cases z⟩
    · refine wpAny_mono (T.done X' rfl rfl rfl L.calm i _ s' σ' H' (λ_ _=>False) I' Kj mE (yl.stop i H' sm (by omega))) (λr s1 h1=>?_) λ_ _ e=>e
      obtain ⟨hr,I1⟩:=h1
      subst hr
      have WQ:items.drop i = []:=List.drop_eq_nil_of_le (by omega)
      rw [WQ,gL] at fK
      cases fK
      rw [List.append_nil] at eall
      subst eall
      exact fin vs ai nn σ' H' s1 I1 rv sm Ee
  have key:=λtk=>codeAny_compStart_list (loop tk) (T.self X.A 0 _ _ _ (T.keep _ _ _ DZ λb _ o e=>old b o e) (loop tk))
  rw [hGC]
  exact key _
theorem D_ (L:Lk X S k Φ) {n:Nat} {t:Tg} {caps:List Nat} {ik:IK} {es a_:List CE} {elt:CE} {target iter iN:Expr} {ifs:List Expr} {sc:Scope} {pos:Pos} (co:ka S n t caps target sc) (zO:qH iter = true)
  (hE:∀ (X':Cx) (F':Addr -> Prop),Lk X' (S.inner target caps sc) k Φ -> PE X' iN (tD X' F' Φ elt))
  (hC:(a_ = [] /\ ifs = []) \/ ∃ c e,a_ = [c] /\ ifs = [e] /\ ∀ (X':Cx) (F':Addr -> Prop),Lk X' (S.inner target caps sc) k Φ -> PT X' e (gY X' F' Φ c))
  (hI:∀ (pins:List (Addr × Obj)) (s:Shared) (σ:St) (H:Hp) (R:Addr -> Prop) (τ:Addr -> Option aJ) (ρ:aB) (xs items:List D),Inv X pins σ H s -> SI X F R τ ρ σ H -> cD Φ es ρ = ok xs -> dk Φ ik xs = ok items -> ∀ Rr:It -> Hp -> Prop,
   (∀ J H2,aj H H2 -> Yl X.K J (lu X F τ (caps ++ dy es) H2) H2 items -> Rr J H2) -> wpAny (model X.prog X.w) X.A (eval iter X.env) (λv s1=>wpAny (model X.prog X.w) X.A (pyIter v) (AE X pins σ target Rr) X.xe s1) X.xe s) :
  PE X (.ListComp iN [⟨target,iter,ifs,0⟩] sc pos) (tD X F Φ (.comp n t caps ik es a_ elt)):=by
 intro pins s σ H Q I hq
 obtain ⟨R,τ,ρ,d,Si,ev,hq⟩:=hq
 rw [eval_ListComp]
 refine vd L co zO hE hC hI (use:=none) (Post:=EP X pins σ Q) I Si ev λacc C H1 s1 m hn _ IX sm rt=>?_
 exact ⟨m,hn,λh' B_=>⟨.ref acc,H1,IX h' B_,rfl,hq _ _ sm rt⟩⟩
end
end DI
end
section
namespace DI
open PySem PySem.Spec PyProof.Rows L2
section
variable {X:Cx} {pins:List (Addr × Obj)} {s:Shared} {σ:L2.St} {H:Hp}
theorem uD {A:Around} {E:Value -> Shared -> Prop} {l:Addr} {items:Array Value} {prog:Program} {w:World} {Q:Value -> Shared -> Prop} {s:Shared} (hl:s.heap.IsList l items)
  (h:∀ s₂:Shared,s₂ = { s with heap:=s.heap.push { cls:=.type "list_iterator",data:=.fields #[.ref l,.int 0 0] } } -> s₂.heap.IsListIter s.heap.objs.size l 0 /\ s₂.heap.IsList l items -> (∀ b ∈ [s.heap.objs.size,l],b < s₂.heap.objs.size) -> l ≠ s.heap.objs.size -> Q (.ref s.heap.objs.size) s₂) :
  wpAny (model prog w) A (pyIter (.ref l)) Q E s:=by
 have hV:l < s.heap.objs.size:=by obtain ⟨_,e,_⟩:=hl;exact Heap.lt_size e
 refine wpAny_pyIter_list hl (h _ rfl ⟨⟨_,Heap.get?_push_size _ rfl,rfl,rfl⟩,hl.push _⟩ (λb hb=>?_) (Nat.ne_of_lt hV))
 have hz:(s.heap.push { cls:=.type "list_iterator",data:=.fields #[.ref l,.int 0 0] }).objs.size = s.heap.objs.size + 1:=Heap.size_push ..
 have uI:b = s.heap.objs.size \/ b = l:=by simpa using hb
 show b < _
 rw [hz]
 rcases uI with e | e
 ·rw [e];exact Nat.lt_succ_self _
 ·rw [e];exact Nat.lt_succ_of_lt hV
theorem uB {h':Heap} {o₀:Obj} {s:Shared} (hk:∀ b o,b ∉ [s.heap.objs.size] -> (s.heap.push o₀).get? b = some o -> h'.get? b = some o):∀ b o,s.heap.get? b = some o -> h'.get? b = some o:=λb o e =>
 hk b o (λhm=>absurd ((by simpa using hm:b = s.heap.objs.size) ▸ Heap.lt_size e) (Nat.lt_irrefl _)) (Heap.get?_push_of_some _ e)
theorem eK {h:Heap} {a:Addr} {ai:Array Value} (p:PlainL h a ai):h.IsList a ai:=let ⟨o,n,h1,h2,_,h4⟩:=p;⟨o,h1,h2,n,h4⟩
theorem ml (val:Nat -> Int) (ns:List Int) (hv:∀ i,val i = ns.getD i 0):∀ k,k <= ns.length -> preSum val k = (ns.take k).sum
 | 0,_=>by simp [preSum]
 | k + 1,h=>by
  have hk:k < ns.length:=by omega
  rw [preSum,ml val ns hv k (by omega),hv k,List.take_add_one,List.sum_append]
  simp [List.getD,hk]
theorem Ao (hc:X.calm = true):gi X (.builtin "sum") (λxs H Q=>∃ (p:Addr) (ns:List Int),xs = [.ref p] /\ dw X.K H p (ns.map V.int) /\ Q (.int ns.sum) H):=by
 intro pins s σ H xs us Q I r h
 obtain ⟨p,ns,rfl,hq,q⟩:=h
 obtain ⟨u,rfl,ru⟩:=r.one
 cases ru
 obtain ⟨ai,rv,pl,hz⟩:=I.list hq
 have hlen:ai.length = ns.length:=by have:=rv.length;simpa using this.symm
 refine call_sum_walkG (uD (eK pl) λs₂ e st Fg WV=>?_)
 subst e
 refine ⟨_,_,_,_,_,_,λi=>ns.getD i 0,rfl,Walks.list (A:=X.A.in1) (I.ok.hd hc) _ p WV ai.toArray,st,Fg,λi v hP=>?_,λh' tk t' hk=>?_⟩
 ·have hv:ai[i]? = some v:=by simpa using hP
  have hi:i < ai.length:=by
   by_cases z:i < ai.length
   ·exact z
   ·rw [List.getElem?_eq_none (by omega)] at hv;cases hv
  have hn:(ns.map V.int)[i]? = some (.int (ns.getD i 0)):=by
   rw [List.getElem?_map,List.getElem?_eq_getElem (by omega)]
   simp [List.getD,show i < ns.length by omega]
  obtain ⟨u,hu,ru⟩:=rv.get hn
  rw [hv] at hu
  cases hu
  exact ru
 ·refine ⟨.int ns.sum,H,I.kept (t':=tk) (uB hk),⟨t',?_⟩,q⟩
  have hz:preSum (λi=>ns.getD i 0) ai.toArray.size = ns.sum:=by
   rw [List.size_toArray,hlen,ml _ ns (λ_=>rfl) _ (Nat.le_refl _),List.take_length]
  rw [hz]
theorem range_all {α:Type} (l:List α) (f:α -> Bool) (tr:Nat -> Bool) (h:∀ i a,l[i]? = some a -> tr i = f a):(List.range l.length).all tr = l.all f:=by
 rw [Bool.eq_iff_iff,List.all_eq_true,List.all_eq_true]
 constructor
 ·intro z a ha
  obtain ⟨i,hi,e⟩:=List.mem_iff_getElem.mp ha
  have:=z i (List.mem_range.mpr hi)
  rw [h i a (by rw [List.getElem?_eq_getElem hi,e])] at this
  exact this
 ·intro z i hi
  have hi:=List.mem_range.mp hi
  rw [h i l[i] (List.getElem?_eq_getElem hi)]
  exact z _ (List.getElem_mem hi)
theorem Aq (hc:X.calm = true):gi X (.builtin "all") (λxs H Q=>∃ (p:Addr) (bs:List Bool),xs = [.ref p] /\ dw X.K H p (bs.map V.bl) /\ Q (.bl (bs.all id)) H):=by
 intro pins s σ H xs us Q I r h
 obtain ⟨p,bs,rfl,hq,q⟩:=h
 obtain ⟨u,rfl,ru⟩:=r.one
 cases ru
 obtain ⟨ai,rv,pl,hz⟩:=I.list hq
 have hlen:ai.length = bs.length:=by have:=rv.length;simpa using this.symm
 refine call_all_walk (uD (eK pl) λs₂ e st Fg WV=>?_)
 subst e
 refine ⟨_,_,_,_,_,_,λi=>bs.getD i false,rfl,Walks.list (A:=X.A.in1) (I.ok.hd hc) _ p WV ai.toArray,st,λi v s' Q' E' hP hQ=>?_,λh' tk hk=>?_⟩
 ·have hv:ai[i]? = some v:=by simpa using hP
  have hi:i < ai.length:=by
   by_cases z:i < ai.length
   ·exact z
   ·rw [List.getElem?_eq_none (by omega)] at hv;cases hv
  have hn:(bs.map V.bl)[i]? = some (.bl (bs.getD i false)):=by
   rw [List.getElem?_map,List.getElem?_eq_getElem (by omega)]
   simp [List.getD,show i < bs.length by omega]
  obtain ⟨u,hu,ru⟩:=rv.get hn
  rw [hv] at hu
  cases hu
  cases ru
  exact wpAny_truthy_bool hQ
 ·refine ⟨.bl (bs.all id),H,I.kept (t':=tk) (uB hk),?_,q⟩
  show Value.bool _ = Value.bool _
  rw [List.size_toArray,hlen,range_all bs id _ λi a e=>by simp [List.getD,e]]
end
end DI
end
section
namespace DI
open PySem PySem.Spec PyProof.Rows L2
section
variable {prog:Program} {w:World} {A:Around} {E:Value -> Shared -> Prop} {s:Shared}
theorem oZ {l:Addr} {vs:List Value} {Q:List Value -> Shared -> Prop} {o:Obj} {n:Nat} (ho:s.heap.get? l = some o) (hc:o.cls = .type "tuple") (hd:o.data = .seq vs.toArray n)
  (h:Q vs { s with heap:=(s.heap.push (seqObj "list" #[] 0)).update s.heap.objs.size (Obj.mapSeq (· ++ vs.toArray)) }) (hsz:vs.length <= sizeLine):wpAny (model prog w) A (collect (.ref l)) Q E s:=by
 unfold collect
 refine wpAny_bind (wpAny_runValue (codeAny_builtin entry_proto_collect' ?_))
 show wpAny _ _ (newList [] >>= λz=>again (.builtin "list.__iadd__" ⟨[z,.ref l],[]⟩)) _ _ s
 refine wpAny_bind (wpAny_newList (wpAny_pure ⟨Code.quiet_builtin _ (by decide +kernel),codeAny_builtin entry_list_iadd' ?_⟩))
 have z1:(s.heap.push (seqObj "list" #[] 0)).get? l = some o:=Heap.get?_push_of_some _ ho
 have z2:(s.heap.push (seqObj "list" #[] 0)).get? s.heap.objs.size = some (seqObj "list" #[] 0):=Heap.get?_push_size _ rfl
 show wpAny _ _ (Builtin.List.listExtendWith (.ref s.heap.objs.size) (.ref l) (.ref s.heap.objs.size)) _ _ ({ s with heap:=s.heap.push (seqObj "list" #[] 0) }:Shared)
 unfold Builtin.List.listExtendWith
 refine wpAny_bind (wpAny_typeOf (T:="tuple") ⟨o,z1,hc⟩ ?_)
 rw [if_pos (by rw [show (Value.type "tuple" == Value.type "tuple") = true from rfl,Bool.or_true])]
 refine wpAny_bind (listItems_at z1 hd (wpAny_bind (listItems_at z2 rfl ?_)))
 rw [if_neg (by simp)]
 refine wpAny_bind (listUpdate_at z2 rfl ?_ (Nat.zero_le _) (by
  show (#[] ++ vs.toArray).size <= sizeLine + 1
  rw [Array.size_append,List.size_toArray]
  exact Nat.le_succ_of_le (by simpa using hsz)))
 refine wpAny_pure ?_
 show wpAny (model prog w) A (load s.heap.objs.size >>= λo=>match o.data with
   | .seq xs _=>pure xs.toList
   | _=>unsupported "internal:collect") Q E ({ s with heap:=(s.heap.push (seqObj "list" #[] 0)).update s.heap.objs.size (Obj.mapSeq (· ++ vs.toArray)) }:Shared)
 refine wpAny_bind (wpAny_load (get?_update_seq z2 _) ?_)
 show wpAny _ _ (pure ((#[]:Array Value) ++ vs.toArray).toList) Q E _
 rw [show ((#[]:Array Value) ++ vs.toArray).toList = vs by simp]
 exact wpAny_pure h
theorem pI {l:Addr} {vs:List Value} {ns:List Int} {Q:Value -> Shared -> Prop} {o:Obj} {n:Nat} (ho:s.heap.get? l = some o) (hc:o.cls = .type "tuple") (hd:o.data = .seq vs.toArray n) (hI:IntsAre vs ns) (tq:vs.length < 64)
  (h:∀ (out:Array Value) (lb:List Int),IntsAre out.toList lb -> lb.Perm ns -> lb.Pairwise (· <= ·) -> Q (.ref (s.heap.objs.size + 1)) { s with heap:=sortedAll s.heap vs out }):wpAny (model prog w) A (call (.builtin "sorted") [.ref l]) Q E s:=by
 refine Calls.call_function_entry kind_sorted plain_sorted entry_sorted (args_sorted1 _) ?_
 unfold Builtin.«sorted»
 have hz:vs.length <= sizeLine:=by rw [sizeLine_eq];omega
 refine wpAny_bind (m:=checkCount "sorted" 1 1 _) (wpAny_pure (wpAny_bind (oZ ho hc hd (wpAny_bind (wpAny_newList ?_)) hz)))
 have e1:((s.heap.push (seqObj "list" #[] 0)).update s.heap.objs.size (Obj.mapSeq (· ++ vs.toArray))).objs.size = s.heap.objs.size + 1:=by rw [Heap.size_update,size_push']
 have e2:(((s.heap.push (seqObj "list" #[] 0)).update s.heap.objs.size (Obj.mapSeq (· ++ vs.toArray))).push (seqObj "list" vs.toArray 0)).get? (s.heap.objs.size + 1) = some (seqObj "list" vs.toArray 0):=by
  rw [<- e1];exact Heap.get?_push_size _ rfl
 show wpAny _ _ _ _ _ ({ s with heap:=((s.heap.push (seqObj "list" #[] 0)).update s.heap.objs.size (Obj.mapSeq (· ++ vs.toArray))).push (seqObj "list" vs.toArray 0) }:Shared)
 rw [e1]
 refine wpAny_bind (wpAny_holding (wpAny_call_entry slot_list_sort ⟨_,e2,rfl⟩ entry_list_sort (list_sort_tree e2 hI tq λout lb a1 a2 a3=>⟨_,rfl,wpAny_pure ⟨_,rfl,h out lb a1 a2 a3⟩⟩) (args_list_sort _)))
end
theorem sortI_perm (ns:List Int):(sortI ns).Perm ns:=List.mergeSort_perm ..
theorem tR (ns:List Int):(sortI ns).Pairwise (· <= ·):=by
 have:=List.pairwise_mergeSort (le:=λa b:Int=>decide (a <= b)) (by intro a b c;simp;omega) (by intro a b;simp;omega) ns
 unfold sortI
 simpa using this
theorem d9:∀ {vs:List Value} {ns:List Int},Vals (ns.map V.int) vs -> IntsAre vs ns
 | _,[],h=>by cases h;exact .nil
 | _,n :: ns,h=>by
  cases h with
  | cons r t=>obtain ⟨tk,rfl⟩:=r;exact .cons n tk (d9 t)
theorem sN {X:Cx}:gi X (.builtin "sorted") (λxs H Q=>∃ (p:Addr) (ns:List Int),xs = [.ref p] /\ (dw X.K H p (ns.map V.int) \/ aC X.K H p (ns.map V.int)) /\ ns.length < 64 /\ ∀ l,H l = none -> Q (.ref l) (upd H l (.lst ((sortI ns).map V.int)))):=by
 intro pins s σ H xs us Q I r h
 obtain ⟨p,ns,rfl,hq,tq,q⟩:=h
 obtain ⟨u,rfl,ru⟩:=r.one
 cases ru
 have fin:∀ (vs:List Value) (out:Array Value) (lb:List Int),IntsAre out.toList lb -> lb.Perm ns -> lb.Pairwise (· <= ·) -> EP X pins σ Q (.ref (s.heap.objs.size + 1)) { s with heap:=sortedAll s.heap vs out }:=by
  intro vs out lb h1 h2 h3
  obtain rfl:lb = sortI ns:=PySem.W.ksm_same (h2.trans (sortI_perm ns).symm) h3 (tR ns)
  obtain ⟨e,he⟩:=sortedAll_at s.heap vs out
  have hn:H (s.heap.objs.size + 1) = none:=I.cX.fresh (Nat.le_succ _)
  refine ⟨.ref (s.heap.objs.size + 1),upd H (s.heap.objs.size + 1) (.lst ((sortI ns).map V.int)),I.laid (t':=s.toks) (λb u z=>sortedAll_old z) (Nat.le_succ _) ⟨?_,out.toList,e,lh h1,by simpa using he⟩,rfl,q _ hn⟩
  rw [List.length_map,(sortI_perm ns).length_eq,sizeLine_eq]
  omega
 rcases hq with hq | hq
 ·obtain ⟨ai,rv,pl,hz⟩:=I.list hq
  have hl:ai.length < 64:=by rw [<- rv.length];simpa using tq
  exact sorted_ints (eK pl) (d9 rv) hl λout lb h1 h2 h3=>fin ai out lb h1 h2 h3
 ·obtain ⟨ai,rv,⟨o,ho,hc,n,hd⟩,hz⟩:=I.tuple hq
  have hl:ai.length < 64:=by rw [<- rv.length];simpa using tq
  exact pI ho hc hd (d9 rv) hl λout lb h1 h2 h3=>fin ai out lb h1 h2 h3
end DI
end
section
namespace DI
open PySem PySem.Spec PyProof.Rows L2
theorem AX:isSubtype (.type "tuple") (.type "set") = pure false:=by rw [isSubtype_type];kernel_rfl
theorem tH:isSubtype (.type "tuple") (.type "frozenset") = pure false:=by rw [isSubtype_type];kernel_rfl
noncomputable abbrev mG (led:Bool):Obj:={ cls:=.type "set",dict:=none,data:=.set #[] 0 (.fresh 0 0 led) }
noncomputable abbrev dist (ns:List Int):List Int:=firstMet (λi=>ns.getD i 0) ns.length
section
variable {prog:Program} {w:World} {A:Around} {E:Value -> Shared -> Prop} {s:Shared}
theorem vU {l:Addr} {ai:List Value} {ns:List Int} {Q:Value -> Shared -> Prop} (hh:A.handled = none) (hl:s.heap.IsTuple l ai.toArray) (hi:IntsAre ai ns) (hb:ai.length + 1 < scanBound)
  (h:∀ (h':Heap) (tk:Nat),h'.SetOf (intKind prog w) s.heap.objs.size (λk=>(dist ns).any (· == k)) (dist ns).length -> (∀ b o,b < s.heap.objs.size -> s.heap.get? b = some o -> h'.get? b = some o) -> Q (.ref s.heap.objs.size) { s with heap:=h',toks:=tk }) :
  wpAny (model prog w) A (call (.type "set") [.ref l]) Q E s:=by
 have hnl:ai.length = ns.length:=hi.length
 obtain ⟨c,tl,k1⟩:=F.called_set.mro
 have k2:=F.called_set.made
 have k3:=F.called_set.sub
 have k4:=F.called_set.notType
 have k5:=F.called_set.canCreate
 have k6:=F.typeCall_set_1 (.ref l)
 refine wpAny_call (codeAny_of_tree (show wpAny _ _ (callAny (.type "set") _) _ _ _ from wpAny_pure ⟨Code.quiet_builtin _ (by decide +kernel),codeAny_builtin F.entry_type_call ?_⟩))
 rw [Around.under_plain (weight_type_call_type "set" [.ref l] []) rfl]
 repeat (any_goals (first | assumption | wp_step))
 refine codeAny_mono (code_set_new_1 (.ref l) (E:=E) (Q₁:=λz s₁=>∃ led:Bool,z = .ref s.heap.objs.size /\ s₁ = { s with heap:=s.heap.push (mG led) }) λled=>⟨led,rfl,rfl⟩) λr s₁ hr=>?_
 cases r with
 | error e=>exact hr
 | ok fl =>
  cases fl with
  | next=>exact hr.elim
  | brk=>exact hr.elim
  | cont=>exact hr.elim
  | ret z =>
   obtain ⟨led,rfl,rfl⟩:=hr
   have g1:(s.heap.push (mG led)).get? s.heap.objs.size = some (mG led):=Heap.get?_push_size _ rfl
   have g2:Shared.TypeIs { s with heap:=s.heap.push (mG led) } (.ref s.heap.objs.size) "set":=⟨_,g1,rfl⟩
   have g3:=F.called_set.init.lookup
   have g4:=F.called_set.init.bind (.ref s.heap.objs.size)
   repeat (any_goals (first | assumption | wp_step))
   refine codeAny_mono (codeAny_call_builtin (R:=wants (λr s₂=>r = .none /\ ∃ h' tk,s₂ = { s with heap:=h',toks:=tk } /\ h'.SetOf (intKind prog w) s.heap.objs.size (λk=>(dist ns).any (· == k)) (dist ns).length /\ ∀ b o,b < s.heap.objs.size -> s.heap.get? b = some o -> h'.get? b = some o) E) F.called_set.init.plain F.entry_set_init (check_set_init_1 g2 ?_)) λr₂ s₂ uE=>?_
   ·obtain ⟨ot,hot,hct,nt,hdt⟩:=hl
    obtain ⟨oc,od,odt,Df⟩:=ot
    simp only at hct hdt
    subst hct
    subst hdt
    have u1:(s.heap.push (mG led)).get? l = some { cls:=.type "tuple",dict:=od,data:=.seq ai.toArray nt,slots:=Df }:=Heap.get?_push_of_some _ hot
    have u2:=AX
    have u3:=tH
    have u4:(Value.type "tuple" == Value.type "dict") = false:=by decide
    have u5:(s.heap.push (mG led)).IsTuple l ai.toArray:=⟨_,u1,rfl,nt,rfl⟩
    unfold Builtin.«set.__init__» noKeywords Builtin.Frozenset.updateFrom
    generalize hPI:pyIter = PI
    wp_walk
    subst hPI
    refine wpAny_pyIter_tuple u5 (wpAny_bind (wpAny_runValue ?_))
    have u6:l < s.heap.objs.size:=Heap.lt_size hot
    have u7:A.in1.in1.in1.handled = none:=by simp [hh]
    have hz:(s.heap.push (mG led)).objs.size = s.heap.objs.size + 1:=Heap.size_push ..
    have u8:l ≠ (s.heap.push (mG led)).objs.size:=by rw [hz];exact Nat.ne_of_lt (Nat.lt_succ_of_lt u6)
    have u9:s.heap.objs.size ∉ [(s.heap.push (mG led)).objs.size,l]:=by
     rw [hz]
     intro m
     simp at m
     exact absurd m (Nat.ne_of_gt u6)
    have v1:∀ (i:Nat) (v:Value),ai.toArray[i]? = some v -> ∃ t,v = .int ((λi=>ns.getD i 0) i) t:=λi v hv=>hi.int_at i v (by simpa using hv)
    refine codeAny_set_update_loopS ((Walks.tuple u7 _ l u8 ai.toArray).toS) s.heap.objs.size u9 (λi=>ns.getD i 0) v1 (by rw [List.size_toArray];exact hb) (ai.toArray.size - 0) 0 _ (by omega) (Nat.zero_le _) ⟨⟨_,Heap.get?_push_size _ rfl,rfl,rfl⟩,u5.push _⟩ ?hS0 ?hR
    case hS0 =>
     have y1:((s.heap.push (mG led)).push { cls:=.type "tuple_iterator",data:=.fields #[.ref l,.int 0 0] }).get? s.heap.objs.size = some (mG led):=Heap.get?_push_of_some _ g1
     exact SetOf_congr ((setObjOf_fresh (knd:=intKind prog w) led).setOf y1 (by unfold scanBound;omega)) (λ_=>rfl) rfl
    case hR =>
     intro s' hm zV
     obtain ⟨h',g',d',RL,Uc⟩:=s'
     cases (show g' = s.gens from hm.gens)
     cases (show d' = s.drawn from hm.drawn)
     cases (show Uc = s.os from hm.os)
     have zV:h'.SetOf (intKind prog w) s.heap.objs.size (λk=>(dist ns).any (· == k)) (dist ns).length:=by
      have e:ai.toArray.size = ns.length:=by rw [List.size_toArray,hnl]
      rw [e] at zV
      exact zV
     refine wpAny_pure (show wpAny _ _ (ret Value.none) _ _ _ from wpAny_pure ⟨rfl,h',RL,rfl,zV,λb o hb e=>hm.heap b o (λm=>?_) (Heap.get?_push_of_some _ (Heap.get?_push_of_some _ e))⟩)
     rcases List.mem_cons.mp m with m | m
     ·exact Nat.ne_of_lt hb m
     ·have m:b = (s.heap.push (mG led)).objs.size:=by simpa using m
      rw [hz] at m
      exact Nat.ne_of_lt (Nat.lt_succ_of_lt hb) m
   ·cases r₂ with
    | error e=>exact uE
    | ok O2 =>
     cases O2 with
     | ret r =>
      obtain ⟨rfl,h',tk,rfl,zV,hk'⟩:=uE
      repeat (any_goals (first | assumption | wp_step))
      exact h _ _ zV hk'
     | next=>exact uE.elim
     | brk=>exact uE.elim
     | cont=>exact uE.elim
end
theorem CC (ns:List Int):dist ns = sC ns:=by
 unfold dist firstMet sC
 have e:(List.range ns.length).map (λi=>ns.getD i 0) = ns:=by
  refine List.ext_getElem (by simp) λi h1 h2=>?_
  simp at h1
  simp [h1]
 rw [e]
 rfl
noncomputable def rLs (K:PySem.W.Frag):List V -> Hp -> VK -> Prop:=λxs H Q=>∃ (p:Addr) (ns:List Int),xs = [.ref p] /\ aC K H p (ns.map V.int) /\ ns.length < 4000 /\ Q (.int (sC ns).length) H
theorem boot_set:bootBuiltins ("set" : Str) = some (.type "set"):=by decide +kernel
theorem Er {X:Cx} {e:Expr} {t:TA} {p p' pos pos':Pos} (hc:X.calm = true) (W0:Gl X ("len" : Str)) (hm1:X.mg ("len" : Str) = none) (hg2:Gl X ("set" : Str)) (hm2:X.mg ("set" : Str) = none) (ha:PA X [e] t)
  (qL:∀ es,starEach (e :: es) X.env = (false,eval e X.env) :: starEach es X.env):PE X (.Call (.Name ("len" : Str) p) [.Call (.Name ("set" : Str) p') [e] [] pos'] [] pos) (MC (rLs X.K) t):=by
 intro pins s σ H Q I h
 refine wpAny_Call_Name_kw (eB I W0 hm1 PySem.boot_len ?_ (by decide) (by decide))
 refine PyProof.Rows.callWith_builtin1 ?_ rfl rfl
 show wpAny _ _ (spliced ((false,eval (.Call (.Name ("set" : Str) p') [e] [] pos') X.env) :: [])) _ _ s
 refine Calls.spliced_cons ?_
 refine wpAny_Call_Name_kw (eB I hg2 hm2 boot_set ?_ (by decide) (by decide))
 refine PyProof.Rows.callWith_type1 (dh (ha pos' pins s σ H _ I h) λus s1 ⟨vs,H1,I1,r1,q1⟩=>?_) (qL _) rfl
 obtain ⟨a,ns,rfl,hq,hl,q⟩:=q1
 obtain ⟨u,rfl,ru⟩:=r1.one
 cases ru
 obtain ⟨ai,rv,it,hz⟩:=I1.tuple hq
 have hle:ai.length = ns.length:=by rw [<- rv.length];simp
 refine vU (I1.ok.hd hc) it (d9 rv) (by unfold scanBound;omega) λh' tk hS kp=>Calls.spliced_nil ?_
 rw [CC] at hS
 obtain ⟨o,es,ep,tb,g1,g2,g3,_,_,g6,g7,g8⟩:=hS
 refine call_len_set g1 g2 g3 g7 (by unfold scanBound at g6;omega) ?_
 exact ⟨.int (sC ns).length,H1,I1.kept (t':=tk + 1 + 1) λb u z=>kp b u (Heap.lt_size z) z,⟨_,by rw [g8]⟩,q⟩
end DI
end
section
namespace DI
open PySem PySem.Spec PyProof.Rows L2
section
variable {X:Cx} {S:Sx} {k:Nat} {F:Addr -> Prop} {Φ:az}
theorem Lk.u40 (L:Lk X S k Φ):X.A.units + 40 < cLine:=by have:=L.room.units;omega
noncomputable def QE (K:PySem.W.Frag) (neg:Bool):R2:=λv u H Q=>∃ (d d':D) (N N':iQ) (k k':aJ),Rep (aC K H) N k v d /\ Rep (aC K H) N' k' u d' /\ (∀ q p xs f,N q p (.l xs) f -> dw K H p xs) /\ (∀ q p xs f,N' q p (.l xs) f -> dw K H p xs) /\ cK 40 d = true /\ cK 40 d' = true /\
 Q (.bl (if neg then !kc d d' else kc d d')) H
theorem I9 (hu:X.A.units + 40 < cLine):jX X (compareOp .Eq) (QE X.K false):=by
 intro pins s σ H x y v u Q I rx ry h
 obtain ⟨d,d',N,N',k,k',r1,r2,n1,n2,o1,o2,q⟩:=h
 exact (alike I n1 n2 40 X.A r1 r2 o1 o2 rx ry hu).rc X.prog X.w X.xe _ ⟨.bl _,H,I,rfl,q⟩
theorem IZ (hu:X.A.units + 40 < cLine):jX X (compareOp .NotEq) (QE X.K true):=by
 intro pins s σ H x y v u Q I rx ry h
 obtain ⟨d,d',N,N',k,k',r1,r2,n1,n2,o1,o2,q⟩:=h
 exact (alike I n1 n2 40 X.A r1 r2 o1 o2 rx ry hu).ne X.prog X.w X.xe _ ⟨.bl _,H,I,rfl,q⟩
theorem Bk {T T':jJ} {N N':iQ} {k k':aJ} {v v':V} {d d':D} (h:Rep T N k v d) (h':Rep T' N' k' v' d') (f:oQ d = true) (f':oQ d' = true):i7 v = true /\ Dt v v' = kc d d':=by
 cases h <;> first | (cases f;done) | (cases h' <;> first | (cases f';done) | exact ⟨rfl,by simp [Dt,kc]⟩)
theorem qA {T:jJ} {N:iQ} {k:aJ} {v:V} {d:D} (h:Rep T N k v d) (f:oQ d = true):i7 v = true:=by
 cases h <;> first | (cases f;done) | rfl
theorem rF {T T':jJ} {N N':iQ} {k':aJ} {v:V} {d:D} (hv:Rep T' N' k' v d) (f:oQ d = true):∀ {k:aJ} {n:Nat} {xs:List V} {ds:List D},ag T N k n xs ds -> ds.all oQ = true -> xs.all i7 = true /\ QU v xs = inD d ds
 | _,_,_,_,.nil,_=>⟨rfl,rfl⟩
 | _,_,_,_,.cons h t,fs=>by
  rw [List.all_cons,Bool.and_eq_true] at fs
  obtain ⟨h1,h2⟩:=rF hv f t fs.2
  obtain ⟨g1,g2⟩:=Bk h hv fs.1 f
  refine ⟨by rw [List.all_cons,g1,h1];rfl,?_⟩
  unfold QU at h2 ⊢
  rw [List.any_cons,g2,h2];rfl
noncomputable def Iw (K:PySem.W.Frag) (op:AG):R2:=match op with
 | .eq=>QE K false
 | .ne=>QE K true
 | .lt=>Bo λi j=>.bl (decide (i < j))
 | .le=>Bo λi j=>.bl (decide (i <= j))
 | .gt=>Bo λi j=>.bl (decide (j < i))
 | .ge=>Bo λi j=>.bl (decide (j <= i))
 | .NW=>λx y H Q=>y = .bA /\ Q (.bl (decide (x = .bA))) H
 | .BE=>λx y H Q=>y = .bA /\ Q (.bl (!decide (x = .bA))) H
 | .NZ=>Tf K false
 | .wd _=>λx y H Q=>∃ a c,x = .bl a /\ y = .bl c /\ Q (.bl (!(a == c))) H
theorem BC (L:Lk X S k Φ) (op:AG):jX X (compareOp (Ue op)) (Iw X.K op):=by
 cases op with
 | eq=>exact I9 L.u40
 | ne=>exact IZ L.u40
 | lt=>exact Nm
 | le=>exact Nn
 | gt=>exact Np
 | ge=>exact Nq
 | NW=>exact I0
 | BE=>exact Ey
 | NZ=>exact zA
 | wd b =>
  intro pins s σ H x y v u Q I rx ry h
  obtain ⟨a,c,rfl,rfl,q⟩:=h
  cases rx;cases ry
  refine wpAny_isNot_plain rfl (wM I q ?_)
  cases a <;> cases c <;> rfl
theorem BJ {op:CmpOp} {r:Expr} (h:qH r = true):behindInMarks op r = false:=by
 cases r <;> first | rfl | (cases h;done)
theorem m7 {op:AG} {x y d:D} (Oe:op = .lt \/ op = .le \/ op = .gt \/ op = .ge) (h:eG op x y = ok d):∃ i j,x = .int i /\ y = .int j:=by
 cases x with
 | int i=>cases y with
  | int j=>exact ⟨i,j,rfl,rfl⟩
  | _=>rcases Oe with rfl | rfl | rfl | rfl <;> cases h
 | _=>rcases Oe with rfl | rfl | rfl | rfl <;> cases h
theorem ve {op:AG} {a b:CE} {σ:St} {H:Hp} {Q:VK} (hq:tD X F Φ (.cmp op a b) σ H Q):Gu (Iw X.K op) (tD X F Φ a) (tD X F Φ b) σ H Q:=by
 obtain ⟨R,τ,ρ,d,Si,ev,hq⟩:=hq
 obtain ⟨x,ex,ev⟩:=ah ev
 obtain ⟨y,ey,ev⟩:=ah ev
 refine tD.intro Si ex λv H1 e1 r1=>tD.intro (Si.go e1) ey λu H2 e2 r2=>?_
 have e:=e1.trans e2
 have rv:=r1.go e2
 have ru:=r2
 obtain ⟨τ1,f1,p1⟩:=rv
 obtain ⟨τ2,f2,p2⟩:=ru
 have sq:∀ {A:Addr -> Prop} {τ:Addr -> Option aJ} (q:aJ) (p:Addr) (xs:List V) (f:Fl),nd X.K R A τ H2 q p (.l xs) f -> dw X.K H2 p xs:=λq p xs f h=>h.sq
 cases op with
 | eq =>
  obtain ⟨hc,ev⟩:=qK ev
  ·subst ev
   rw [Bool.and_eq_true] at hc
   exact ⟨x,y,_,_,_,_,p1,p2,sq,sq,hc.1,hc.2,hq _ H2 e .bl⟩
 | ne =>
  obtain ⟨hc,ev⟩:=qK ev
  ·subst ev
   rw [Bool.and_eq_true] at hc
   exact ⟨x,y,_,_,_,_,p1,p2,sq,sq,hc.1,hc.2,hq _ H2 e .bl⟩
 | lt=>obtain ⟨i,j,rfl,rfl⟩:=m7 (by simp) ev;cases ev;cases p1;cases p2;exact ⟨_,_,rfl,rfl,hq _ H2 e .bl⟩
 | le=>obtain ⟨i,j,rfl,rfl⟩:=m7 (by simp) ev;cases ev;cases p1;cases p2;exact ⟨_,_,rfl,rfl,hq _ H2 e .bl⟩
 | gt=>obtain ⟨i,j,rfl,rfl⟩:=m7 (by simp) ev;cases ev;cases p1;cases p2;exact ⟨_,_,rfl,rfl,hq _ H2 e .bl⟩
 | ge=>obtain ⟨i,j,rfl,rfl⟩:=m7 (by simp) ev;cases ev;cases p1;cases p2;exact ⟨_,_,rfl,rfl,hq _ H2 e .bl⟩
 | NW =>
  cases y <;> simp [eG] at ev
  cases p2
  refine ⟨rfl,hq _ H2 e ?_⟩
  cases ev
  cases p1 <;> exact .bl
 | BE =>
  cases y <;> simp [eG] at ev
  cases p2
  refine ⟨rfl,hq _ H2 e ?_⟩
  cases ev
  cases p1 <;> exact .bl
 | NZ =>
  simp only [eG] at ev
  split at ev
  ·rename_i ds hi
   split at ev
   ·rename_i hc
    rw [Bool.and_eq_true] at hc
    cases ev
    cases p2 with
    | tup h rs=>cases hi;obtain ⟨g1,g2⟩:=rF p1 hc.1 rs hc.2;exact ⟨_,_,rfl,.inr h,qA p1 hc.1,g1,by rw [g2];exact hq _ H2 e .bl⟩
    | lst h rs=>cases hi;obtain ⟨g1,g2⟩:=rF p1 hc.1 rs hc.2;exact ⟨_,_,rfl,.inl h.sq,qA p1 hc.1,g1,by rw [g2];exact hq _ H2 e .bl⟩
    | _=>cases hi
   ·cases ev
  ·cases ev
 | wd b=>cases x <;> cases y <;> simp [eG] at ev;subst ev;cases p1;cases p2;exact ⟨_,_,rfl,rfl,hq _ H2 e .bl⟩
theorem A4 {c:CE} {σ:St} {H:Hp} {Q:Bool -> Hp -> Prop} (h:gY X F Φ c σ H Q):tB (tD X F Φ c) σ H Q:=by
 obtain ⟨R,τ,ρ,b,Si,ev,hq⟩:=h
 unfold vG at ev
 obtain ⟨d,ed,et⟩:=ah ev
 refine tD.intro Si ed λv H' e r=>?_
 cases d <;> simp [gX] at et
 cases et
 exact ⟨_,r.zK,hq H' e⟩
theorem cP {c:CE} {e:Expr} (h:PE X e (tD X F Φ c)) (he:∀ whole,isTrue e X.env whole = (do let v <- whole;standAt e.pos;holding [v] (truthy v))):PT X e (gY X F Φ c) :=
 PT.imp (IA h he) λ_ _ _ h=>A4 h
theorem zj {op:AG} {a b:CE} {σ:St} {H:Hp} {Q:Bool -> Hp -> Prop} (h:gY X F Φ (.cmp op a b) σ H Q):Gr (Gu (Iw X.K op) (tD X F Φ a) (tD X F Φ b)) σ H Q :=
 ve (A4 h)
theorem dictAt {pins:List (Addr × Obj)} {σ:St} {H:Hp} {s:Shared} {p:Addr} {cs:List (List Int)} {as:List Addr} {xs:List V} {ep:Nat} (I:Inv X pins σ H s) (h:H p = some (.ext (DO p cs as xs ep))):∃ o,s.heap.get? p = some o /\ o.cls = .type "dict":=by
 obtain ⟨⟨zs,o,es,_,_,_,ho,hx,_⟩,_⟩:=(show cF X.prog X.w H s.heap p (.ext (DO p cs as xs ep)) from I.cX p _ h)
 exact ⟨o,ho,hx.1⟩
theorem Fb {pins:List (Addr × Obj)} {σ:St} {H:Hp} {s:Shared} {p:Addr} {ks:List Int} {xs:List V} {ep:Nat} (I:Inv X pins σ H s) (h:H p = some (.ext (IO p ks xs ep))):∃ o,s.heap.get? p = some o /\ o.cls = .type "dict":=by
 obtain ⟨⟨zs,o,es,_,_,ho,hx,_⟩,_⟩:=(show cF X.prog X.w H s.heap p (.ext (IO p ks xs ep)) from I.cX p _ h)
 exact ⟨o,ho,hx.1⟩
theorem Ju (L:Lk X S k Φ) (t:Ty):gi X (.builtin "isinstance") (λxs H Q=>∃ (x:V) (d:D) (N:iQ) (k:aJ),xs = [x,.ty (tyName t)] /\ Rep (aC X.K H) N k x d /\ (∀ q p xs f,N q p (.l xs) f -> dw X.K H p xs) /\ (∀ q p cs as xs ep f,N q p (.d cs as xs ep) f -> H p = some (.ext (DO p cs as xs ep))) /\ (∀ q p ks xs ep f,N q p (.ei ks xs ep) f -> H p = some (.ext (IO p ks xs ep))) /\ Q (.bl (dS t d)) H):=by
 intro pins s σ H xs us Q I r h
 obtain ⟨x,d,N,k,rfl,rp,hN,hND,hNI,q⟩:=h
 obtain ⟨u,w',rfl,ru,mT⟩:=vals2 r
 cases (show w' = Value.type (tyName t) from mT)
 have kt:=ET X.K t
 have fin:∀ b:Bool,b = dS t d -> ∀ tk,EP X pins σ Q (.bool b) { s with toks:=tk }:=λb e tk=>⟨.bl b,H,I.tok tk,rfl,by rw [e];exact q⟩
 cases rp with
 | bA=>cases ru;exact PySem.W.kia_one PySem.W.kitx_none I.zE True.intro (kt "NoneType" (by simp [kinds])) (λz=>nomatch z) (fin _ (by cases t <;> rfl))
 | bl b=>cases ru;exact PySem.W.kia_one PySem.W.kitx_bool I.zE True.intro (kt "bool" (by simp [kinds])) (λz=>nomatch z) (fin _ (by cases t <;> rfl))
 | int i=>obtain ⟨t',rfl⟩:=ru;exact PySem.W.kia_one PySem.W.kitx_int I.zE True.intro (kt "int" (by simp [kinds])) (λz=>nomatch z) (fin _ (by cases t <;> rfl))
 | tup h _ =>
  cases ru
  obtain ⟨ai,_,⟨o,h1,h2,_⟩,_⟩:=I.tuple h
  exact PySem.W.kia_one PySem.W.kitx_tuple I.zE ⟨o,h1,h2⟩ (kt "tuple" (by simp [kinds])) (λz=>nomatch z) (fin _ (by cases t <;> rfl))
 | lst h _ =>
  cases ru
  obtain ⟨ai,_,⟨o,n,h1,h2,_⟩,_⟩:=I.list (hN _ _ _ _ h)
  exact PySem.W.kia_one PySem.W.kitx_list I.zE ⟨o,h1,h2⟩ (kt "list" (by simp [kinds])) (λz=>nomatch z) (fin _ (by cases t <;> rfl))
 | cg h _ _ =>
  cases ru
  obtain ⟨o,h1,h2⟩:∃ o,s.heap.get? _ = some o /\ o.cls = .type "dict":=dictAt I (hND _ _ _ _ _ _ _ h)
  exact PySem.W.kia_one PySem.W.kitx_dict I.zE ⟨o,h1,h2⟩ (kt "dict" (by simp [kinds])) (λz=>nomatch z) (fin _ (by cases t <;> rfl))
 | kb h _ =>
  cases ru
  obtain ⟨o,h1,h2⟩:∃ o,s.heap.get? _ = some o /\ o.cls = .type "dict":=Fb I (hNI _ _ _ _ _ _ h)
  exact PySem.W.kia_one PySem.W.kitx_dict I.zE ⟨o,h1,h2⟩ (kt "dict" (by simp [kinds])) (λz=>nomatch z) (fin _ (by cases t <;> rfl))
theorem FV (t:Ty):bootBuiltins (tyName t:Str) = some (.type (tyName t)):=by
 cases t <;> decide +kernel
theorem qr (t:Ty):(tyName t:Str) ≠ "__name__" /\ ((tyName t:Str) == ("__debug__" : Str)) = false:=by
 cases t <;> decide +kernel
theorem Ii (L:Lk X S k Φ) {a:CE} {t:Ty} {e:Expr} {p p' pos:Pos} (hf:gT S.sc ("isinstance" : Str) = true) (W4:("isinstance" : Str) ∈ S.bl) (hg:gT S.sc (tyName t:Str) = true) (WZ:(tyName t:Str) ∈ S.bl)
  (ha:PE X e (tD X F Φ a)) (qL:∀ es,starEach (e :: es) X.env = (false,eval e X.env) :: starEach es X.env):PE X (.Call (.Name ("isinstance" : Str) p) [e,.Name (tyName t:Str) p'] [] pos) (tD X F Φ (.oo a t)):=by
 have hT:PE X (.Name (tyName t:Str) p') (tC (.ty (tyName t))):=Eu (L.gl hg) (L.bl _ WZ) (FV t) rfl (qr t).1 (qr t).2
 refine PE.imp (fD (Ju L t) (L.gl hf) (L.bl _ W4) PyProof.Rows.boot_isinstance (dB ha (dB hT gm) (qL _)) (he:=qL _)) λσ H Q hq=>?_
 obtain ⟨R,τ,ρ,d,Si,ev,hq⟩:=hq
 obtain ⟨x,ex,ev⟩:=ah ev
 cases ev
 refine tD.intro Si ex λv H1 e1 r1=>?_
 obtain ⟨τ1,f1,p1⟩:=r1
 exact ⟨v,x,_,_,rfl,p1,λq p xs f h=>h.sq,λq p cs as xs ep f h=>h.dat,λq p ks xs ep f h=>h.iat,hq _ H1 e1 .bl⟩
theorem JA:@DI.tm = @L2.tm:=rfl
theorem MP (L:Lk X S k Φ) {a b:CE} {e i:Expr} {pos:Pos} (ha:PE X e (tD X F Φ a)) (hb:PE X i (tD X F Φ b)) (hp:nj i):PE X (.Subscript e i pos) (tD X F Φ (.ix a b)):=by
 refine PE.imp (GS (EV.or Jz) ha hb hp) λσ H Q hq=>?_
 obtain ⟨R,τ,ρ,d,Si,ev,hq⟩:=hq
 obtain ⟨x,ex,ev⟩:=ah ev
 obtain ⟨y,ey,ev⟩:=ah ev
 refine tD.intro Si ex λv H1 e1 r1=>tD.intro (Si.go e1) ey λu H2 e2 r2=>?_
 have ee:=e1.trans e2
 have rv:=(r1.go e2).mono (fv':=iJ (.ix a b)) λj hj=>List.mem_append_left _ hj
 have item:∀ {q:aJ} {xs:List V} {ds:List D} {τt:Addr -> Option aJ} {j:Int},(∀ p q,τt p = some q -> H p = none) -> ag (aC X.K H2) (nd X.K R (jV (gP X F) τ (iJ (.ix a b))) τt H2) q 0 xs ds -> qZ ds j = ok d -> ∃ w,L2.L5 xs j = some w /\ Q w H2:=by
  intro q xs ds τt j fr rs h
  unfold qZ at h
  split at h
  ·rename_i d' hd
   cases h
   cases hx:DI.tm ds.length j with
   | none=>rw [hx] at hd;cases hd
   | some m =>
    rw [hx] at hd
    obtain ⟨w,hw,mT⟩:=rs.get (show ds[m]? = some d' from hd)
    refine ⟨w,?_,hq w H2 ee ⟨λ_=>none,λ_ _ h=>by simp at h,mT.e9 Si fr⟩⟩
    unfold L2.L5
    rw [<- JA,rs.length,hx];exact hw
  ·cases h
 cases y with
 | int j =>
  obtain ⟨τt,fr,rp⟩:=rv
  cases r2.isInt
  cases x with
  | tup ds =>
   cases rp with
   | @tup _ p xs _ h rs=>obtain ⟨w,h1,h2⟩:=item fr rs ev;exact .inr ⟨p,xs,j,w,rfl,rfl,h,h1,h2⟩
  | lst f ds =>
   cases rp with
   | @lst _ p xs _ _ h rs=>obtain ⟨w,h1,h2⟩:=item fr rs ev;exact .inl ⟨p,xs,j,w,rfl,rfl,h.sq,h1,h2⟩
  | _=>cases ev
 | _=>cases x <;> cases ev
theorem oS:∀ (cs:List CE) {ρ:aB} {ds:List D},cD Φ cs ρ = ok ds -> ds.length = cs.length
 | [],_,_,h=>by cases h;rfl
 | c :: cs,_,_,h=>by
  obtain ⟨x,_,h⟩:=ah h
  obtain ⟨xs,hx,h⟩:=ah h
  cases h
  simp [oS cs hx]
theorem Ib {cs:List CE} {es:List Expr} {n:Nat} {pos:Pos} (h:PA X es (tM X F Φ cs)) (hl:cs.length <= 1000):PE X (.Tuple es n pos) (tD X F Φ (.tup cs)):=by
 refine PE.imp (Bw h) λσ H Q hq=>?_
 obtain ⟨R,τ,ρ,d,Si,ev,hq⟩:=hq
 obtain ⟨ds,KR,ev⟩:=ah ev
 cases ev
 refine ⟨R,τ,ρ,ds,Si,KR,λvs H1 e1 r1=>?_⟩
 obtain ⟨τt,fr,rs⟩:=r1
 have hz:sizeLine = 16777216:=sizeLine_eq
 refine ⟨by rw [rs.length,oS cs KR];omega,λp hp=>?_⟩
 have es:aj H1 (upd H1 p (.tup vs)):=aj.upd hp
 exact hq _ _ (e1.trans es) ⟨τt,fr,.tup (aC.of aD) (rs.imp (λ_ _ h=>aC.same es h) λ_ _ _ _ h=>nd.same es h)⟩
theorem Ig {cs:List CE} {es:List Expr} {pos:Pos} (h:PA X es (tM X F Φ cs)) (hl:cs.length <= 1000):PE X (.List es pos) (tD X F Φ (.lst cs)):=by
 refine PE.imp (IJ h) λσ H Q hq=>?_
 obtain ⟨R,τ,ρ,d,Si,ev,hq⟩:=hq
 obtain ⟨ds,KR,ev⟩:=ah ev
 cases ev
 refine ⟨R,τ,ρ,ds,Si,KR,λvs H1 e1 r1=>?_⟩
 obtain ⟨τt,fr,rs⟩:=r1
 have hz:sizeLine = 16777216:=sizeLine_eq
 refine ⟨by rw [rs.length,oS cs KR];omega,λp hp=>?_⟩
 have es:aj H1 (upd H1 p (.lst vs)):=aj.upd hp
 refine hq _ _ (e1.trans es) ⟨λq=>if q = p then some [] else τt q,λq z hq=>?_,.lst ⟨aD,by simp⟩ (rs.imp (λ_ _ h=>aC.same es h) λc q xs f h=>?_)⟩
 ·by_cases wC:q = p
  ·subst wC;exact e1.free hp
  ·simp only [wC,if_false] at hq;exact fr q z hq
 ·have h':=nd.same es h
  cases f with
  | ow =>
   have wC:q ≠ p:=by
    intro z;subst z
    exact h.1.ne hp
   exact ⟨h'.1,by simp only [wC,if_false];exact h'.2⟩
  | fz=>exact h'
  | al=>exact h'
  | sc=>exact h'
theorem Ea (L:Lk X S k Φ) {f:Nat} {x:Str} {cs:List CE} {y:Expr} {ys:List Expr} {p pos:Pos} (hf:S.fn f = some x) (hg:gT S.sc x = true) (hn:lG x = true) (ha:PA X (y :: ys) (tM X F Φ cs))
  (qL:∀ es,starEach (y :: es) X.env = (false,eval y X.env) :: starEach es X.env) (hpl:∀ pos,(backTo pos (starEach ys X.env)).any (·.1) = false):PE X (.Call (.Name x p) (y :: ys) [] pos) (tD X F Φ (.call f cs)):=by
 obtain ⟨a,fd,ps,Fo,hm,hk,hb,hl⟩:=(L.fn f x hf).ex
 unfold lG at hn
 simp only [Bool.and_eq_true,Bool.not_eq_true'] at hn
 refine PE.imp (Et Fo L.room (L.gl hg) hm hk hb .nil (Nj (X:=X)) ha hn.1.1 (qL _) (hpl _)) λσ H Q hq=>?_
 obtain ⟨R,τ,ρ,d,Si,ev,hq⟩:=hq
 obtain ⟨xs,c_,ev⟩:=ah ev
 obtain ⟨r,er,ev⟩:=ah ev
 cases ev
 refine ⟨R,τ,ρ,xs,Si,c_,λvs H1 e1 r1=>?_⟩
 obtain ⟨τt,fr,rs⟩:=r1
 have fresh:∀ p,H p = none -> jV (gP X F) τ (dy cs) p:=λp hp=>⟨.inr (Si.same.free hp),λc i e=>absurd hp (Si.th p _ e)⟩
 have hR:∀ p,R p -> jV (gP X F) τ (dy cs) p:=λp hp=>⟨Si.rf p hp,λc i e=>by rw [Si.rt p hp] at e;cases e⟩
 rw [List.append_nil]
 refine ⟨jV (gP X F) τ (dy cs),af aI xs,r,by rw [rs.length,<- hl _ _ er,av,List.length_map],ag.iX (λ_ _ h=>h) (λk k' p xs f h=>?_) rs _ _,er,λv H2 e2 rr=>?_⟩
 ·cases f with
  | ow=>exact ⟨h.1,fresh p (fr p _ h.2)⟩
  | fz=>exact ⟨h.1,hR p h.2⟩
  | al=>exact h
  | sc=>exact h
 ·obtain ⟨τ2,LZ,rp⟩:=rr
  refine hq v H2 (e1.trans e2) ⟨τ2,λp q h=>e1.free (LZ p q h),Rep.map (q:=[]) (q':=[]) (λ_ _ h=>h) (λc p xs f h=>?_) rp [] rfl⟩
  cases f with
  | ow=>exact h
  | fz=>exact ⟨h.1,h.2.elim id λz=>fresh p (e1.free z)⟩
  | al=>exact h.2.elim
  | sc=>exact h
noncomputable def rBf (K:PySem.W.Frag) (f:Bf):List V -> Hp -> VK -> Prop:=match f with
 | .len=>λxs H Q=>∃ p ys,xs = [.ref p] /\ (dw K H p ys \/ aC K H p ys) /\ Q (.int ys.length) H
 | .abs=>λxs H Q=>∃ i,xs = [.int i] /\ Q (.int (if i < 0 then -i else i)) H
 | .B6=>λxs H Q=>(∃ i,xs = [.int i] /\ Q (.int i) H) \/ ∃ k,xs = [.bl k] /\ Q (.int (if k then 1 else 0)) H
 | .list1=>λxs H Q=>∃ p ys,xs = [.ref p] /\ (dw K H p ys \/ aC K H p ys) /\ ∀ l,H l = none -> Q (.ref l) (upd H l (.lst ys))
 | .tuple1=>λxs H Q=>∃ p ys,xs = [.ref p] /\ ((dw K H p ys /\ ∀ l,H l = none -> Q (.ref l) (upd H l (.tup ys))) \/ (aC K H p ys /\ Q (.ref p) H))
 | .iM=>λxs H Q=>∃ (p:Addr) (ns:List Int),xs = [.ref p] /\ dw K H p (ns.map V.int) /\ Q (.int ns.sum) H
 | .all1=>λxs H Q=>∃ (p:Addr) (bs:List Bool),xs = [.ref p] /\ dw K H p (bs.map V.bl) /\ Q (.bl (bs.all id)) H
 | .fS=>λxs H Q=>∃ (p:Addr) (ns:List Int),xs = [.ref p] /\ (dw K H p (ns.map V.int) \/ aC K H p (ns.map V.int)) /\ ns.length < 64 /\ ∀ l,H l = none -> Q (.ref l) (upd H l (.lst ((sortI ns).map V.int)))
theorem ag.one {T:jJ} {N:iQ} {k:aJ} {n:Nat} {vs:List V} {d:D} (h:ag T N k n vs [d]):∃ v,vs = [v] /\ Rep T N (n :: k) v d:=by
 cases h with
 | cons h t=>cases t;exact ⟨_,rfl,h⟩
theorem ag.two {T:jJ} {N:iQ} {k:aJ} {n:Nat} {vs:List V} {d e:D} (h:ag T N k n vs [d,e]):∃ v w,vs = [v,w] /\ Rep T N (n :: k) v d /\ Rep T N ((n + 1) :: k) w e:=by
 cases h with
 | cons h t=>obtain ⟨w,rfl,h'⟩:=t.one;exact ⟨_,_,rfl,h,h'⟩
theorem ag.ints1 {T:jJ} {N:iQ} {k:aJ} {n:Nat} {vs:List V} {i:Int} (h:ag T N k n vs [.int i]):vs = [.int i]:=by
 obtain ⟨v,rfl,z⟩:=h.one;cases z;rfl
theorem ag.ints2 {T:jJ} {N:iQ} {k:aJ} {n:Nat} {vs:List V} {i j:Int} (h:ag T N k n vs [.int i,.int j]):vs = [.int i,.int j]:=by
 obtain ⟨v,w,rfl,z,z'⟩:=h.two;cases z;cases z';rfl
noncomputable def Bf.one:Bf -> Bool
 | _=>true
theorem Hm {f:Bf} {xs:List D} {d:D} (hf:f.one = true) (h:qk f xs = ok d):∃ x,xs = [x]:=by
 cases xs with
 | nil=>cases f <;> cases h
 | cons x xs=>cases xs with
  | nil=>exact ⟨x,rfl⟩
  | cons y ys=>cases f <;> first | (cases hf;done) | (cases x <;> cases h)
theorem ag.ofInts {T:jJ} {N:iQ} {k:aJ}:∀ {ns:List Int} {n:Nat} {vs:List V},ag T N k n vs (ns.map D.int) -> vs = ns.map V.int
 | [],_,_,h=>by cases h;rfl
 | i :: ns,_,_,h=>by
  cases h with
  | cons h t=>cases h;rw [ag.ofInts t];rfl
theorem ag.GV {T:jJ} {N:iQ} {k:aJ}:∀ {ns:List Bool} {n:Nat} {vs:List V},ag T N k n vs (ns.map D.bl) -> vs = ns.map V.bl
 | [],_,_,h=>by cases h;rfl
 | i :: ns,_,_,h=>by
  cases h with
  | cons h t=>cases h;rw [ag.GV t];rfl
theorem eD {T:jJ} {N:iQ} {k:aJ}:∀ (ns:List Int) {n:Nat},ag T N k n (ns.map V.int) (ns.map D.int)
 | [],_=>.nil
 | i :: ns,_=>.cons (.int i) (eD ns)
theorem FW {f:Bf} {cs:List CE} {σ:St} {H:Hp} {Q:VK} (hq:tD X F Φ (.bf f cs) σ H Q):MC (rBf X.K f) (tM X F Φ cs) σ H Q:=by
 obtain ⟨R,τ,ρ,d,Si,ev,hq⟩:=hq
 obtain ⟨xs,c_,ev⟩:=ah ev
 refine ⟨R,τ,ρ,xs,Si,c_,λvs H1 e1 r1=>?_⟩
 obtain ⟨τt,fr,rs⟩:=r1
 cases f with
 | len =>
  obtain ⟨x,rfl⟩:=Hm rfl ev
  obtain ⟨v,rfl,rv⟩:=rs.one
  cases x with
  | tup ds=>cases ev;cases rv with | tup h r=>exact ⟨_,_,rfl,.inr h,by rw [r.length];exact hq _ H1 e1 .int⟩
  | lst f ds=>cases ev;cases rv with | lst h r=>exact ⟨_,_,rfl,.inl h.sq,by rw [r.length];exact hq _ H1 e1 .int⟩
  | _=>cases ev
 | abs =>
  obtain ⟨x,rfl⟩:=Hm rfl ev
  cases x with
  | int i=>cases ev;cases rs.ints1;exact ⟨_,rfl,hq _ H1 e1 .int⟩
  | _=>cases ev
 | B6 =>
  obtain ⟨x,rfl⟩:=Hm rfl ev
  obtain ⟨v,rfl,rv⟩:=rs.one
  cases x with
  | int i=>cases ev;cases rv;exact .inl ⟨_,rfl,hq _ H1 e1 .int⟩
  | bl i=>cases ev;cases rv;exact .inr ⟨_,rfl,hq _ H1 e1 .int⟩
  | _=>cases ev
 | list1 =>
  obtain ⟨x,rfl⟩:=Hm rfl ev
  obtain ⟨v,rfl,rv⟩:=rs.one
  cases x with
  | tup ds =>
   cases ev
   cases rv with
   | tup h r =>
    refine ⟨_,_,rfl,.inr h,λl hl=>?_⟩
    exact hq _ _ (e1.trans (aj.upd hl)) (bG.rN (e1.free hl) (e1.trans (aj.upd hl)) aD ((r.e9 Si fr).imp (λ_ _ h=>aC.same (aj.upd hl) h) λ_ _ _ _ h=>nd.same (aj.upd hl) h))
  | lst f ds =>
   cases ev
   cases rv with
   | lst h r =>
    refine ⟨_,_,rfl,.inl h.sq,λl hl=>?_⟩
    exact hq _ _ (e1.trans (aj.upd hl)) (bG.rN (e1.free hl) (e1.trans (aj.upd hl)) aD ((r.e9 Si fr).imp (λ_ _ h=>aC.same (aj.upd hl) h) λ_ _ _ _ h=>nd.same (aj.upd hl) h))
  | _=>cases ev
 | tuple1 =>
  obtain ⟨x,rfl⟩:=Hm rfl ev
  obtain ⟨v,rfl,rv⟩:=rs.one
  cases x with
  | tup ds =>
   cases ev
   cases rv with
   | tup h r =>
    exact ⟨_,_,rfl,.inr ⟨h,hq _ H1 e1 ⟨λ_=>none,λ_ _ h=>by simp at h,.tup h (r.e9 Si fr)⟩⟩⟩
  | lst f ds =>
   cases ev
   cases rv with
   | lst h r =>
    refine ⟨_,_,rfl,.inl ⟨h.sq,λl hl=>?_⟩⟩
    exact hq _ _ (e1.trans (aj.upd hl)) ⟨λ_=>none,λ_ _ h=>by simp at h,.tup (aC.of aD) ((r.e9 Si fr).imp (λ_ _ h=>aC.same (aj.upd hl) h) λ_ _ _ _ h=>nd.same (aj.upd hl) h)⟩
  | _=>cases ev
 | iM =>
  obtain ⟨x,rfl⟩:=Hm rfl ev
  obtain ⟨v,rfl,rv⟩:=rs.one
  cases x with
  | lst f ds =>
   have ev:(match intsOf ds with | some ns=>ok (.int ns.sum) | none=>none) = ok d:=ev
   cases hn:intsOf ds with
   | none=>rw [hn] at ev;cases ev
   | some ns =>
    rw [hn] at ev
    cases ev
    cases cZ hn
    cases rv with
    | lst h r=>cases r.ofInts;exact ⟨_,ns,rfl,h.sq,hq _ H1 e1 .int⟩
  | _=>cases ev
 | all1 =>
  obtain ⟨x,rfl⟩:=Hm rfl ev
  obtain ⟨v,rfl,rv⟩:=rs.one
  cases x with
  | lst f ds =>
   have ev:(match ja ds with | some bs=>ok (.bl (bs.all id)) | none=>none) = ok d:=ev
   cases hn:ja ds with
   | none=>rw [hn] at ev;cases ev
   | some ns =>
    rw [hn] at ev
    cases ev
    cases vt hn
    cases rv with
    | lst h r=>cases r.GV;exact ⟨_,ns,rfl,h.sq,hq _ H1 e1 .bl⟩
  | _=>cases ev
 | fS =>
  obtain ⟨x,rfl⟩:=Hm rfl ev
  obtain ⟨v,rfl,rv⟩:=rs.one
  have fin:∀ ds,qv ds = ok d -> ∃ ns:List Int,ds = ns.map D.int /\ ns.length < 64 /\ ∀ l,H1 l = none -> Q (.ref l) (upd H1 l (.lst ((sortI ns).map V.int))):=by
   intro ds e
   unfold qv at e
   split at e
   ·rename_i ns hn
    split at e
    ·rename_i tq
     cases e
     refine ⟨ns,cZ hn,tq,λl hl=>hq _ _ (e1.trans (aj.upd hl)) (bG.rN (e1.free hl) (e1.trans (aj.upd hl)) aD (eD _))⟩
    ·cases e
   ·cases e
  cases x with
  | tup ds =>
   obtain ⟨ns,rfl,tq,q⟩:=fin ds ev
   cases rv with
   | tup h r=>cases r.ofInts;exact ⟨_,ns,rfl,.inr h,tq,q⟩
  | lst f ds =>
   obtain ⟨ns,rfl,tq,q⟩:=fin ds ev
   cases rv with
   | lst h r=>cases r.ofInts;exact ⟨_,ns,rfl,.inl h.sq,tq,q⟩
  | _=>cases ev
theorem MQ (L:Lk X S k Φ) {f:Bf} {cs:List CE} {y:Expr} {ys:List Expr} {p pos:Pos} (hg:gT S.sc (sR f:Str) = true) (hb:(sR f:Str) ∈ S.bl) (ha:PA X (y :: ys) (tM X F Φ cs))
  (qL:∀ es,starEach (y :: es) X.env = (false,eval y X.env) :: starEach es X.env) (hpl:∀ pos,(backTo pos (starEach ys X.env)).any (·.1) = false):PE X (.Call (.Name (sR f:Str) p) (y :: ys) [] pos) (tD X F Φ (.bf f cs)):=by
 refine PE.imp (t:=MC (rBf X.K f) (tM X F Φ cs)) ?_ λσ H Q hq=>FW hq
 cases f with
 | len=>exact fD sP (L.gl hg) (L.bl _ hb) PySem.boot_len ha (he:=qL _) (hpl:=hpl _)
 | abs=>exact fD CN (L.gl hg) (L.bl _ hb) (by decide +kernel) ha (he:=qL _) (hpl:=hpl _)
 | B6=>exact lD Ap (L.gl hg) (L.bl _ hb) (by decide +kernel) ha (he:=qL _) (hpl:=hpl _)
 | list1=>exact lD sO (L.gl hg) (L.bl _ hb) (by decide +kernel) ha (he:=qL _) (hpl:=hpl _)
 | tuple1=>exact lD qj (L.gl hg) (L.bl _ hb) (by decide +kernel) ha (he:=qL _) (hpl:=hpl _)
 | iM=>exact fD (Ao L.calm) (L.gl hg) (L.bl _ hb) (by decide +kernel) ha (he:=qL _) (hpl:=hpl _)
 | fS=>exact fD sN (L.gl hg) (L.bl _ hb) (by decide +kernel) ha (he:=qL _) (hpl:=hpl _)
 | all1=>exact fD (Aq L.calm) (L.gl hg) (L.bl _ hb) (by decide +kernel) ha (he:=qL _) (hpl:=hpl _)
theorem D9 (L:Lk X S k Φ) {a:CE} {e:Expr} {p p' pos pos':Pos} (hf:gT S.sc ("len" : Str) = true) (W4:("len" : Str) ∈ S.bl) (hg:gT S.sc ("set" : Str) = true) (WZ:("set" : Str) ∈ S.bl)
  (ha:PE X e (tD X F Φ a)) (qL:∀ es,starEach (e :: es) X.env = (false,eval e X.env) :: starEach es X.env):PE X (.Call (.Name ("len" : Str) p) [.Call (.Name ("set" : Str) p') [e] [] pos'] [] pos) (tD X F Φ (.lH a)):=by
 refine PE.imp (Er L.calm (L.gl hf) (L.bl _ W4) (L.gl hg) (L.bl _ WZ) (dB ha gm (qL _)) qL) λσ H Q hq=>?_
 obtain ⟨R,τ,ρ,d,Si,ev,hq⟩:=hq
 obtain ⟨x,ex,ev⟩:=ah ev
 refine tD.intro Si ex λv H1 e1 r1=>?_
 obtain ⟨τ1,f1,rv⟩:=r1
 cases x with
 | tup ds =>
  simp only [x5] at ev
  split at ev
  ·rename_i ns hn
   split at ev
   ·rename_i hl
    cases ev
    cases cZ hn
    cases rv with
    | tup h r=>cases r.ofInts;exact ⟨_,ns,rfl,h,hl,hq _ H1 e1 .int⟩
   ·cases ev
  ·cases ev
 | _=>cases ev
theorem Ic {a:CE} {e:Expr} {pos:Pos} (h:PE X e (tD X F Φ a)):PE X (.UnaryOp .Not e pos) (tD X F Φ (.not a)):=by
 refine PE.imp (IH h) λσ H Q hq=>?_
 obtain ⟨R,τ,ρ,d,Si,ev,hq⟩:=hq
 obtain ⟨b,eb,ev⟩:=ah ev
 obtain ⟨x,ex,eb⟩:=ah eb
 cases ev
 refine tD.intro Si ex λv H1 e1 r1=>?_
 cases x <;> simp [gX] at eb
 cases eb
 exact ⟨_,r1.zK,hq _ H1 e1 .bl⟩
theorem HU {a:CE} {e:Expr} {pos:Pos} (h:PT X e (gY X F Φ a)):PT X (.UnaryOp .Not e pos) (gY X F Φ (.not a)):=by
 refine PT.imp (IB h) λσ H Q hq=>?_
 obtain ⟨R,τ,ρ,b,Si,ev,hq⟩:=hq
 unfold vG at ev
 obtain ⟨d,ed,ev⟩:=ah ev
 obtain ⟨c,ec,ed⟩:=ah ed
 cases ed
 have Yg:b = !c:=by
  have e2:ok (!c) = ok b:=ev
  exact (Except.ok.inj (Option.some.inj e2)).symm
 subst Yg
 exact ⟨R,τ,ρ,c,Si,ec,λH' e=>hq H' e⟩
theorem Ih {c a b:CE} {t x y:Expr} {pos:Pos} (hc:PT X t (gY X F Φ c)) (ha:PE X x (tD X F Φ a)) (hb:PE X y (tD X F Φ b)):PE X (.IfExp t x y pos) (tD X F Φ (.ite c a b)):=by
 refine PE.imp (Bz hc ha hb) λσ H Q hq=>?_
 obtain ⟨R,τ,ρ,d,Si,ev,hq⟩:=hq
 obtain ⟨w,ew,ev⟩:=ah ev
 refine ⟨R,τ,ρ,w,Si,ew,λH1 e1=>?_⟩
 cases w with
 | true=>exact tD.intro (Si.go e1) ev λv H' e r=>hq v H' (e1.trans e) ((r.old e1).mono λi hi=>by simp [iJ,hi])
 | false=>exact tD.intro (Si.go e1) ev λv H' e r=>hq v H' (e1.trans e) ((r.old e1).mono λi hi=>by simp [iJ,hi])
theorem HV {c a b:CE} {t x y:Expr} {pos:Pos} (hc:PT X t (gY X F Φ c)) (ha:PT X x (gY X F Φ a)) (hb:PT X y (gY X F Φ b)):PT X (.IfExp t x y pos) (gY X F Φ (.ite c a b)):=by
 intro pins s σ H Q I hq
 obtain ⟨R,τ,ρ,d,Si,ev,hq⟩:=hq
 unfold vG at ev
 obtain ⟨x',O6,et⟩:=ah ev
 obtain ⟨w,ew,ev⟩:=ah O6
 refine isTrue_IfExp (dh (hc pins s σ H (λw' H1=>w' = w /\ aj H H1) I ⟨R,τ,ρ,w,Si,ew,λH1 e1=>⟨rfl,e1⟩⟩) λw' s1 ⟨H1,I1,hw,e1⟩=>?_)
 subst hw
 cases w' with
 | true=>exact ha pins s1 σ H1 Q I1 ⟨R,τ,ρ,d,Si.go e1,by unfold vG;rw [show aQ Φ a ρ = ok x' from ev];exact et,λH' e=>hq H' (e1.trans e)⟩
 | false=>exact hb pins s1 σ H1 Q I1 ⟨R,τ,ρ,d,Si.go e1,by unfold vG;rw [show aQ Φ b ρ = ok x' from ev];exact et,λH' e=>hq H' (e1.trans e)⟩
theorem Ie {a:CE} {e:Expr} {pos:Pos} (h:PE X e (tD X F Φ a)):PE X (.UnaryOp .USub e pos) (tD X F Φ (.neg a)):=by
 refine PE.imp (Ng HI h) λσ H Q hq=>?_
 obtain ⟨R,τ,ρ,d,Si,ev,hq⟩:=hq
 obtain ⟨x,ex,ev⟩:=ah ev
 refine tD.intro Si ex λv H1 e1 r1=>?_
 cases x <;> simp [EG] at ev
 cases ev
 exact ⟨_,r1.isInt,hq _ H1 e1 .int⟩
theorem F_ {c:CE} {σ:St} {H:Hp} {Q:VK} (hq:tD X F Φ (.and [c]) σ H Q):tD X F Φ c σ H Q:=by
 obtain ⟨R,τ,ρ,d,Si,ev,hq⟩:=hq
 obtain ⟨b,eb,ev⟩:=ah ev
 obtain ⟨x,ex,eb⟩:=ah eb
 cases ev
 refine tD.intro Si ex λv H1 e1 r1=>?_
 cases x <;> simp [gX] at eb
 cases eb
 rw [r1.zK];exact hq _ H1 e1 .bl
theorem IV {c:CE} {σ:St} {H:Hp} {Q:VK} (hq:tD X F Φ (.or [c]) σ H Q):tD X F Φ c σ H Q:=by
 obtain ⟨R,τ,ρ,d,Si,ev,hq⟩:=hq
 obtain ⟨b,eb,ev⟩:=ah ev
 obtain ⟨x,ex,eb⟩:=ah eb
 cases ev
 refine tD.intro Si ex λv H1 e1 r1=>?_
 cases x <;> simp [gX] at eb
 cases eb
 rw [r1.zK];exact hq _ H1 e1 .bl
theorem CV {c:CE} {σ:St} {H:Hp} {Q:Bool -> Hp -> Prop} (hq:gY X F Φ (.and [c]) σ H Q):gY X F Φ c σ H Q:=by
 obtain ⟨R,τ,ρ,d,Si,ev,hq⟩:=hq
 unfold vG at ev
 obtain ⟨b,eb,ev⟩:=ah ev
 obtain ⟨x,ex,eb⟩:=ah eb
 cases eb;cases ev
 exact ⟨R,τ,ρ,_,Si,ex,hq⟩
theorem Ew {c:CE} {σ:St} {H:Hp} {Q:Bool -> Hp -> Prop} (hq:gY X F Φ (.or [c]) σ H Q):gY X F Φ c σ H Q:=by
 obtain ⟨R,τ,ρ,d,Si,ev,hq⟩:=hq
 unfold vG at ev
 obtain ⟨b,eb,ev⟩:=ah ev
 obtain ⟨x,ex,eb⟩:=ah eb
 cases eb;cases ev
 exact ⟨R,τ,ρ,_,Si,ex,hq⟩
theorem CW {c c':CE} {cs:List CE} {σ:St} {H:Hp} {Q:VK} (hq:tD X F Φ (.and (c :: c' :: cs)) σ H Q):Gx (tD X F Φ c) (tD X F Φ (.and (c' :: cs))) σ H Q:=by
 obtain ⟨R,τ,ρ,d,Si,ev,hq⟩:=hq
 obtain ⟨b,eb,ev⟩:=ah ev
 obtain ⟨x,ex,eb⟩:=ah eb
 refine tD.intro Si ex λv H1 e1 r1=>?_
 cases x <;> simp [gX] at eb
 cases eb
 refine ⟨_,r1.zK,?_⟩
 cases b with
 | true =>
  rw [if_pos rfl] at ev ⊢
  exact tD.intro (Si.go e1) ev λv H' e r=>hq v H' (e1.trans e) ((r.old e1).mono λi hi=>List.mem_append_right _ hi)
 | false =>
  rw [if_neg (by simp)] at ev ⊢
  cases ev
  exact hq _ H1 e1 .bl
theorem Ex {c c':CE} {cs:List CE} {σ:St} {H:Hp} {Q:VK} (hq:tD X F Φ (.or (c :: c' :: cs)) σ H Q):Mw (tD X F Φ c) (tD X F Φ (.or (c' :: cs))) σ H Q:=by
 obtain ⟨R,τ,ρ,d,Si,ev,hq⟩:=hq
 obtain ⟨b,eb,ev⟩:=ah ev
 obtain ⟨x,ex,eb⟩:=ah eb
 refine tD.intro Si ex λv H1 e1 r1=>?_
 cases x <;> simp [gX] at eb
 cases eb
 refine ⟨_,r1.zK,?_⟩
 cases b with
 | false =>
  rw [if_neg (by simp)] at ev ⊢
  exact tD.intro (Si.go e1) ev λv H' e r=>hq v H' (e1.trans e) ((r.old e1).mono λi hi=>List.mem_append_right _ hi)
 | true =>
  rw [if_pos rfl] at ev ⊢
  cases ev
  exact hq _ H1 e1 .bl
theorem Av {c c':CE} {cs:List CE} {σ:St} {H:Hp} {Q:Bool -> Hp -> Prop} (hq:gY X F Φ (.and (c :: c' :: cs)) σ H Q):MD (gY X F Φ c) (gY X F Φ (.and (c' :: cs))) σ H Q:=by
 obtain ⟨R,τ,ρ,d,Si,ev,hq⟩:=hq
 unfold vG at ev
 obtain ⟨x,ex,et⟩:=ah ev
 obtain ⟨b,eb,ev⟩:=ah ex
 refine ⟨R,τ,ρ,b,Si,eb,λH1 e1=>?_⟩
 cases b with
 | true =>
  rw [if_pos rfl] at ev ⊢
  exact ⟨R,τ,ρ,d,Si.go e1,by unfold vG;rw [show aQ Φ (.and (c' :: cs)) ρ = ok x from ev];exact et,λH' e=>hq H' (e1.trans e)⟩
 | false =>
  rw [if_neg (by simp)] at ev ⊢
  cases ev;cases et
  exact hq H1 e1
theorem BA {c c':CE} {cs:List CE} {σ:St} {H:Hp} {Q:Bool -> Hp -> Prop} (hq:gY X F Φ (.or (c :: c' :: cs)) σ H Q):tOr (gY X F Φ c) (gY X F Φ (.or (c' :: cs))) σ H Q:=by
 obtain ⟨R,τ,ρ,d,Si,ev,hq⟩:=hq
 unfold vG at ev
 obtain ⟨x,ex,et⟩:=ah ev
 obtain ⟨b,eb,ev⟩:=ah ex
 refine ⟨R,τ,ρ,b,Si,eb,λH1 e1=>?_⟩
 cases b with
 | false =>
  rw [if_neg (by simp)] at ev ⊢
  exact ⟨R,τ,ρ,d,Si.go e1,by unfold vG;rw [show aQ Φ (.or (c' :: cs)) ρ = ok x from ev];exact et,λH' e=>hq H' (e1.trans e)⟩
 | true =>
  rw [if_pos rfl] at ev ⊢
  cases ev;cases et
  exact hq H1 e1
theorem km {σ:St} {H:Hp} {Q:List V -> Hp -> Prop} (hq:tM X F Φ [] σ H Q):My σ H Q:=by
 obtain ⟨R,τ,ρ,d,Si,ev,hq⟩:=hq
 cases ev
 exact hq _ H (aj.refl H) .nil
theorem gG {c:CE} {cs:List CE} {σ:St} {H:Hp} {Q:List V -> Hp -> Prop} (hq:tM X F Φ (c :: cs) σ H Q):Gw (tD X F Φ c) (tM X F Φ cs) σ H Q:=by
 obtain ⟨R,τ,ρ,d,Si,ev,hq⟩:=hq
 obtain ⟨x,ex,ev⟩:=ah ev
 obtain ⟨xs,c_,ev⟩:=ah ev
 cases ev
 refine tD.intro Si ex λv H1 e1 r1=>⟨R,τ,ρ,xs,Si.go e1,c_,λvs H2 e2 r2=>hq _ H2 (e1.trans e2) (bT.cons e1 e2 (r1.mono λi hi=>List.mem_append_left _ hi) (r2.mono λi hi=>List.mem_append_right _ hi))⟩
theorem bt {c:CE} {e:Expr} (h:bI S c e = true) (es:List Expr) (env:Env):starEach (e :: es) env = (false,eval e env) :: starEach es env:=by
 cases e <;> first | rfl | (cases c <;> exact (Bool.false_ne_true h).elim)
theorem xa:∀ {cs:List CE} {es:List Expr},bF S cs es = true -> ∀ (pos:Pos) (env:Env),(backTo pos (starEach es env)).any (·.1) = false
 | [],[],_,_,_=>rfl
 | [],_ :: _,h,_,_=>by exact (Bool.false_ne_true h).elim
 | _ :: _,[],h,_,_=>by exact (Bool.false_ne_true h).elim
 | c :: cs,e :: es,h,pos,env=>by
  replace h:=ao h
  rw [bt h.1]
  have:=xa h.2 pos env
  unfold backTo at this ⊢
  simp only [List.map_cons,List.any_cons,Bool.false_or]
  exact this
theorem qT {c:CE} {e:Expr} (h:bI S c e = true):nj e:=by
 intro o i
 cases e <;> first | rfl | (cases c <;> exact (Bool.false_ne_true h).elim)
theorem Be {j:Nat} {pos:Pos}:PE X (.Constant .none j pos) (tD X F Φ .bA):=PE.imp II λσ H Q ⟨R,τ,ρ,d,Si,ev,hq⟩=>by cases ev;exact hq _ H (aj.refl H) .bA
theorem GD {b:Bool} {j:Nat} {pos:Pos}:PE X (.Constant (.bool b) j pos) (tD X F Φ (.bl b)):=PE.imp Ni λσ H Q ⟨R,τ,ρ,d,Si,ev,hq⟩=>by cases ev;exact hq _ H (aj.refl H) .bl
theorem Bh {i:Int} {j:Nat} {pos:Pos}:PE X (.Constant (.int i) j pos) (tD X F Φ (.int i)):=PE.imp IL λσ H Q ⟨R,τ,ρ,d,Si,ev,hq⟩=>by cases ev;exact hq _ H (aj.refl H) .int
theorem JE (L:Lk X S k Φ) {es:List CE} {y target:Expr} {caps:List Nat} {p JI:Pos} (g1:gT S.sc ("range" : Str) = true) (g2:("range" : Str) ∈ S.bl) (pa:PA X [y] (tM X F Φ es)) (zQ:bF S es [y] = true)
  (pins:List (Addr × Obj)) (s:Shared) (σ:St) (H:Hp) (R:Addr -> Prop) (τ:Addr -> Option aJ) (ρ:aB) (xs items:List D) (I:Inv X pins σ H s) (Si:SI X F R τ ρ σ H) (c_:cD Φ es ρ = ok xs) (wR:dk Φ .lC xs = ok items) (Rr:It -> Hp -> Prop)
  (hR:∀ J H2,aj H H2 -> Yl X.K J (lu X F τ (caps ++ dy es) H2) H2 items -> Rr J H2) :
  wpAny (model X.prog X.w) X.A (eval (.Call (.Name ("range" : Str) p) [y] [] JI) X.env) (λv s1=>wpAny (model X.prog X.w) X.A (pyIter v) (AE X pins σ target Rr) X.xe s1) X.xe s:=by
 match es,zQ with
 | [c],zQ =>
  replace zQ:=ao zQ
  refine qE (L.gl g1) (L.bl _ g2) pa (bt zQ.1 _ _) pins s σ H Rr I ⟨R,τ,ρ,xs,Si,c_,λvs H1 e1 rv=>?_⟩
  obtain ⟨τt,fr,rs⟩:=rv
  obtain ⟨n,rfl⟩:∃ n,xs = [.int n]:=by
   cases xs with
   | nil=>cases wR
   | cons x t=>cases x <;> first | (cases wR;done) | (cases t with | nil=>exact ⟨_,rfl⟩ | cons _ _=>cases wR)
  cases rs.ints1
  ·obtain ⟨⟨c1,c2⟩,wR⟩:=qK wR
   subst wR
   have pT:(eM:Int) = 1000000:=rfl
   refine ⟨n,rfl,by omega,by omega,hR _ H1 e1 ?_⟩
   have:=HA (X:=X) (lo:=0) (n:=n.toNat) (R:=lu X F τ (caps ++ dy [c]) H1) (H1:=H1)
   simpa using this
 | [],zQ=>exact (Bool.false_ne_true zQ).elim
 | _ :: _ :: _,zQ=>exact (Bool.false_ne_true (ao zQ).2).elim
theorem JD (L:Lk X S k Φ) {c:CE} {y target:Expr} {caps:List Nat} (pe:PE X y (tD X F Φ c))
  (pins:List (Addr × Obj)) (s:Shared) (σ:St) (H:Hp) (R:Addr -> Prop) (τ:Addr -> Option aJ) (ρ:aB) (xs items:List D) (I:Inv X pins σ H s) (Si:SI X F R τ ρ σ H) (c_:cD Φ [c] ρ = ok xs) (wR:dk Φ .seq xs = ok items) (Rr:It -> Hp -> Prop)
  (hR:∀ J H2,aj H H2 -> Yl X.K J (lu X F τ (caps ++ dy [c]) H2) H2 items -> Rr J H2) :
  wpAny (model X.prog X.w) X.A (eval y X.env) (λv s1=>wpAny (model X.prog X.w) X.A (pyIter v) (AE X pins σ target Rr) X.xe s1) X.xe s:=by
 obtain ⟨x,ex,c_⟩:=ah c_
 obtain ⟨xs',Yd,c_⟩:=ah c_
 cases Yd
 cases c_
 have hfv:∀ i ∈ iJ c,i ∈ caps ++ dy [c]:=λi hi=>List.mem_append_right _ (List.mem_append_left _ hi)
 cases x with
 | tup ds =>
  cases wR
  refine Bs pe pins s σ H Rr I (tD.intro Si ex λv H1 e1 rv=>?_)
  obtain ⟨τt,fr,rp⟩:=rv
  cases rp with
  | @tup _ p ys _ hp rs=>exact ⟨p,rfl,⟨ys,hp⟩,hR _ H1 e1 (Hz (q:=[]) hp (ag.iX (λ_ _ h=>h) (vV Si fr hfv) rs _ _))⟩
 | lst f ds =>
  cases wR
  refine xQ pe pins s σ H Rr I (tD.intro Si ex λv H1 e1 rv=>?_)
  obtain ⟨τt,fr,rp⟩:=rv
  cases rp with
  | @lst _ p ys _ _ hp rs=>exact ⟨p,rfl,⟨ys,hp.sq⟩,hR _ H1 e1 (DD (q:=[]) hp.sq (ag.iX (λ_ _ h=>h) (vV Si fr hfv) rs _ _))⟩
 | _=>cases wR
theorem L_ {fv fv':List Nat} {R:Addr -> Prop} {τ:Addr -> Option aJ} {ρ:aB} {σ:St} {H H2:Hp} {vs:List V} {xs items:List D} {J:It} (Si:SI X F R τ ρ σ H) (hs:∀ i ∈ fv,i ∈ fv') (r:bT X.K (gP X F) R τ fv H H2 vs xs) (y:Hs X.K J H2 vs xs items) :
  Yl X.K J (lu X F τ fv' H2) H2 items:=by
 obtain ⟨τt,fr,rs⟩:=r
 have at':∀ H',aj H2 H' -> ag (aC X.K H') (nd X.K (lu X F τ fv' H2) (λ_=>False) (λ_=>none) H') [] 0 vs (af aI xs):=λH' e =>
  (ag.iX (T':=aC X.K H2) (λ_ _ h=>h) (vV Si fr hs) rs [] 0).imp (λ_ _ h=>aC.same e h) λ_ _ _ _ h=>nd.same e h
 have st:∀ H',aj H2 H' -> q_ X.K H2 vs xs H':=λH' e=>⟨⟨_,at' H2 (aj.refl H2),λp o _ h=>e p o h⟩,λ_ _ h=>aC.same e h⟩
 exact ⟨λi H' e hi=>y.go i H' _ (st H' e) (at' H' e) hi,λi H' x mC e hi hy=>y.vA i H' _ x mC (st H' e) (at' H' e) hi hy,λi H' e hi=>y.stop i H' _ (st H' e) (at' H' e) hi⟩
theorem JF (L:Lk X S k Φ) {p:Nat} {es:List CE} {args:List Expr} {y target:Expr} {caps:List Nat} (hp:S.px.pi p S.sc S.bl y = some args) (ht:(decide (1100 <= p) || gp target) = true) (hs:qm X F Φ es args)
  (pins:List (Addr × Obj)) (s:Shared) (σ:St) (H:Hp) (R:Addr -> Prop) (τ:Addr -> Option aJ) (ρ:aB) (xs items:List D) (I:Inv X pins σ H s) (Si:SI X F R τ ρ σ H) (c_:cD Φ es ρ = ok xs) (wR:dk Φ (.du p) xs = ok items) (Rr:It -> Hp -> Prop)
  (hR:∀ J H2,aj H H2 -> Yl X.K J (lu X F τ (caps ++ dy es) H2) H2 items -> Rr J H2) :
  wpAny (model X.prog X.w) X.A (eval y X.env) (λv s1=>wpAny (model X.prog X.w) X.A (pyIter v) (AE X pins σ target Rr) X.xe s1) X.xe s:=by
 obtain ⟨d,ed,ei⟩:=ah (show bd (Φ p xs) ku = ok items from wR)
 exact L.pr.i X _ _ k L.pX p y args hp F es target ht hs pins s σ H R τ ρ xs d items I Si c_ ed ei Rr λJ H2 vs e2 r yz=>hR J H2 e2 (L_ Si (λi hi=>by simp [hi]) r yz)
theorem vb {S':Sx} {a_:List CE} {ifs:List Expr} (h3:a_.length <= 1) (h4:bF S' a_ ifs = true)
  (Fh:∀ (X':Cx) (F':Addr -> Prop),Lk X' S' k Φ -> ∀ (j:Nat) (c:CE) (e:Expr),a_[j]? = some c -> ifs[j]? = some e -> PE X' e (tD X' F' Φ c) /\ PT X' e (gY X' F' Φ c)) :
  (a_ = [] /\ ifs = []) \/ ∃ c e,a_ = [c] /\ ifs = [e] /\ ∀ (X':Cx) (F':Addr -> Prop),Lk X' S' k Φ -> PT X' e (gY X' F' Φ c):=by
 cases a_ with
 | nil=>cases ifs with
  | nil=>exact .inl ⟨rfl,rfl⟩
  | cons _ _=>exact (Bool.false_ne_true h4).elim
 | cons c cs=>cases cs with
  | cons _ _=>simp at h3
  | nil=>cases ifs with
   | nil=>exact (Bool.false_ne_true h4).elim
   | cons e ifs=>cases ifs with
    | cons _ _=>exact (Bool.false_ne_true (ao h4).2).elim
    | nil=>exact .inr ⟨c,e,rfl,rfl,λX' F' L'=>(Fh X' F' L' 0 c e rfl rfl).2⟩
noncomputable def Ph (S:Sx) (ik:IK) (es:List CE) (target iter:Expr):Bool:=match ik with
 | .lC=>aM (eh iter) λw=>decide (w.1 = ("range" : Str)) && gT S.sc w.1 && decide (w.1 ∈ S.bl) && aM (one w.2) λy=>bF S es [y]
 | .seq=>bF S es [iter]
 | .du p=>QL iter && (decide (1100 <= p) || gp target) && aM (S.px.pi p S.sc S.bl iter) λxs=>bF S es xs
theorem B1 (L:Lk X S k Φ) {ik:IK} {es:List CE} {target iter:Expr} {caps:List Nat} (zQ:∀ l,bF S es l = true -> PA X l (tM X F Φ es))
  (Fh:∀ l,bF S es l = true -> ∀ (j:Nat) (c:CE) (e:Expr),es[j]? = some c -> l[j]? = some e -> PE X e (tD X F Φ c) /\ PT X e (gY X F Φ c)) (hpe:∀ l,bF S es l = true -> qm X F Φ es l) (h6:Ph S ik es target iter = true) :
  ∀ (pins:List (Addr × Obj)) (s:Shared) (σ:St) (H:Hp) (R:Addr -> Prop) (τ:Addr -> Option aJ) (ρ:aB) (xs items:List D),Inv X pins σ H s -> SI X F R τ ρ σ H -> cD Φ es ρ = ok xs -> dk Φ ik xs = ok items -> ∀ (Rr:It -> Hp -> Prop),
   (∀ J H2,aj H H2 -> Yl X.K J (lu X F τ (caps ++ dy es) H2) H2 items -> Rr J H2) ->
   wpAny (model X.prog X.w) X.A (eval iter X.env) (λv s1=>wpAny (model X.prog X.w) X.A (pyIter v) (AE X pins σ target Rr) X.xe s1) X.xe s:=by
 cases ik with
 | lC =>
  obtain ⟨⟨x,as⟩,hv,h6⟩:=aN h6
  obtain ⟨p,JI,rfl⟩:=cM hv
  obtain ⟨Kb,g3⟩:=ao h6
  obtain ⟨Ka,g2⟩:=ao Kb
  obtain ⟨J_,g1⟩:=ao Ka
  obtain rfl:x = _:=of_decide_eq_true J_
  obtain ⟨y,hu,Fv⟩:=aN g3
  obtain rfl:as = [y]:=bL hu
  exact JE L g1 (of_decide_eq_true g2) (zQ _ Fv) Fv
 | seq =>
  have WI:=Fh _ h6
  cases es with
  | nil=>exact (Bool.false_ne_true h6).elim
  | cons c cs=>cases cs with
   | cons _ _=>exact (Bool.false_ne_true (ao h6).2).elim
   | nil=>exact JD L (WI 0 c _ rfl rfl).1
 | du p =>
  obtain ⟨h6,g3⟩:=ao h6
  obtain ⟨xs,ha,Fv⟩:=aN g3
  exact JF L ha (ao h6).2 (hpe _ Fv)
mutual
theorem aK:∀ (c:CE) (X:Cx) (S:Sx) (F:Addr -> Prop) (L:Lk X S k Φ) (e:Expr),bI S c e = true -> PE X e (tD X F Φ c) /\ PT X e (gY X F Φ c)
 | .du p cs,X,S,F,L,e,h=>by
  obtain ⟨args,ha,hb⟩:=aN (ao h).2
  exact L.pr.e X _ _ k L.pX p e args ha F cs (jq cs X S F L args hb)
 | .bA,X,S,F,L,e,h=>by
  obtain ⟨c,hv,hX⟩:=aN h
  obtain ⟨j,p,rfl⟩:=AS hv
  obtain rfl:=zH hX
  exact ⟨Be,cP Be λ_=>rfl⟩
 | .bl b,X,S,F,L,e,h=>by
  obtain ⟨c,hv,hX⟩:=aN h
  obtain ⟨j,p,rfl⟩:=AS hv
  obtain rfl:=B4 hX
  exact ⟨GD,cP GD λ_=>rfl⟩
 | .int i,X,S,F,L,e,h=>by
  obtain ⟨c,hv,hX⟩:=aN h
  obtain ⟨j,p,rfl⟩:=AS hv
  obtain rfl:=zI hX
  exact ⟨Bh,cP Bh λ_=>rfl⟩
 | .v i,X,S,F,L,e,h=>by
  obtain ⟨x,hv,h'⟩:=aN h
  obtain ⟨p,rfl⟩:=lj hv
  have:=SS (F:=F) L h
  exact ⟨this,cP this λ_=>rfl⟩
 | .glo x i,X,S,F,L,e,h=>by
  obtain ⟨y,hv,hX⟩:=aN h
  obtain ⟨pos,rfl⟩:=lj hv
  obtain ⟨lI,h3⟩:=ao hX
  obtain ⟨pU,h2⟩:=ao lI
  obtain ⟨Ck,h1⟩:=ao pU
  obtain rfl:=of_decide_eq_true Ck
  obtain ⟨u,hm,r⟩:=L.cs _ _ (of_decide_eq_true h2)
  have this:PE X (.Name y pos) (tD X F Φ (.glo y i)):=PE.imp (xV (v:=.int i) (L.gl h1) hm r (nZ h3)) λσ H Q ⟨R,τ,ρ,d,Si,ev,hq⟩=>by cases ev;exact hq _ H (aj.refl H) .int
  exact ⟨this,cP this λ_=>rfl⟩
 | .glt x zs,X,S,F,L,e,h=>by
  obtain ⟨y,hv,hX⟩:=aN h
  obtain ⟨pos,rfl⟩:=lj hv
  obtain ⟨lI,h3⟩:=ao hX
  obtain ⟨pU,h2⟩:=ao lI
  obtain ⟨Ck,h1⟩:=ao pU
  obtain rfl:=of_decide_eq_true Ck
  obtain ⟨u,hm,a,o,ai,n,rfl,q1,q2,q3,q4,q5⟩:=L.cs _ _ (of_decide_eq_true h2)
  have this:PE X (.Name y pos) (tD X F Φ (.glt y zs)):=PE.imp (xV (v:=.ref a) (L.gl h1) hm rfl (nZ h3)) λσ H Q ⟨R,τ,ρ,d,Si,ev,hq⟩=>by
   cases ev
   exact hq _ H (aj.refl H) ⟨λ_=>none,λ_ _ h=>by simp at h,.tup (.inr ⟨o,ai,n,q1,q2,q3,q4,q5⟩) (eD zs)⟩
  exact ⟨this,cP this λ_=>rfl⟩
 | .bin op a b,X,S,F,L,e,h=>by
  obtain ⟨⟨l,o,r⟩,hv,hX⟩:=aN h
  obtain ⟨pos,rfl⟩:=xr hv
  obtain ⟨lI,h2⟩:=ao hX
  obtain ⟨pU,h1⟩:=ao lI
  obtain rfl:o = Nr op:=of_decide_eq_true pU
  have:=Ij (F:=F) (pos:=pos) L (op:=op) (aK a X S F L _ h1).1 (aK b X S F L _ h2).1
  exact ⟨this,cP this λ_=>rfl⟩
 | .neg a,X,S,F,L,e,h=>by
  obtain ⟨⟨o,x⟩,hv,hX⟩:=aN h
  obtain ⟨pos,rfl⟩:=AO hv
  obtain ⟨lI,h1⟩:=ao hX
  obtain rfl:o = .USub:=of_decide_eq_true lI
  have:=Ie (F:=F) (Φ:=Φ) (pos:=pos) (aK a X S F L _ h1).1
  exact ⟨this,cP this λ_=>rfl⟩
 | .not a,X,S,F,L,e,h=>by
  obtain ⟨⟨o,x⟩,hv,hX⟩:=aN h
  obtain ⟨pos,rfl⟩:=AO hv
  obtain ⟨lI,h1⟩:=ao hX
  obtain rfl:o = .Not:=of_decide_eq_true lI
  exact ⟨Ic (aK a X S F L _ h1).1,HU (aK a X S F L _ h1).2⟩
 | .and cs,X,S,F,L,e,h=>by
  obtain ⟨⟨o,vs⟩,hv,hX⟩:=aN h
  obtain ⟨pos,rfl⟩:=tE hv
  obtain ⟨lI,h1⟩:=ao hX
  obtain rfl:o = .And:=of_decide_eq_true lI
  exact ⟨(lr cs X S F L vs h1 pos).1,(lr cs X S F L vs h1 pos).2.pt⟩
 | .or cs,X,S,F,L,e,h=>by
  obtain ⟨⟨o,vs⟩,hv,hX⟩:=aN h
  obtain ⟨pos,rfl⟩:=tE hv
  obtain ⟨lI,h1⟩:=ao hX
  obtain rfl:o = .Or:=of_decide_eq_true lI
  exact ⟨(nI cs X S F L vs h1 pos).1,(nI cs X S F L vs h1 pos).2.pt⟩
 | .ite c a b,X,S,F,L,e,h=>by
  obtain ⟨⟨t,x,y⟩,hv,hX⟩:=aN h
  obtain ⟨pos,rfl⟩:=HG hv
  obtain ⟨lI,h2⟩:=ao hX
  obtain ⟨h0,h1⟩:=ao lI
  exact ⟨Ih (aK c X S F L _ h0).2 (aK a X S F L _ h1).1 (aK b X S F L _ h2).1,HV (aK c X S F L _ h0).2 (aK a X S F L _ h1).2 (aK b X S F L _ h2).2⟩
 | .cmp op a b,X,S,F,L,e,h=>by
  obtain ⟨⟨l,os,rs⟩,hv,hX⟩:=aN h
  obtain ⟨pos,rfl⟩:=xq hv
  obtain ⟨lI,h2⟩:=ao hX
  obtain ⟨pU,h1⟩:=ao lI
  obtain ⟨r,hr,Xn⟩:=aN h2
  obtain ⟨OU,h3⟩:=ao Xn
  obtain rfl:os = [Ue op]:=of_decide_eq_true pU
  obtain rfl:rs = [r]:=bL hr
  exact ⟨PE.imp (xW (BC L op) (aK a X S F L _ h1).1 (aK b X S F L _ OU).1 (BJ h3)) λ_ _ _ pU=>ve pU,PT.imp (xK (BC L op) (aK a X S F L _ h1).1 (aK b X S F L _ OU).1 (BJ h3)) λ_ _ _ pU=>zj pU⟩
 | .oo a t,X,S,F,L,e,h=>by
  obtain ⟨⟨f,as⟩,hv,hX⟩:=aN h
  obtain ⟨p,pos,rfl⟩:=cM hv
  obtain ⟨lI,h5⟩:=ao hX
  obtain ⟨pU,h2⟩:=ao lI
  obtain ⟨Ck,h1⟩:=ao pU
  obtain rfl:f = _:=of_decide_eq_true Ck
  obtain ⟨⟨e,g⟩,hw,Fs⟩:=aN h5
  obtain rfl:as = [e,g]:=jL hw
  obtain ⟨OQ,h6⟩:=ao Fs
  obtain ⟨x,hn,Kb⟩:=aN h6
  obtain ⟨p',rfl⟩:∃ p,g = .Name x p:=lj hn
  obtain ⟨Ka,h4⟩:=ao Kb
  obtain ⟨J_,h3⟩:=ao Ka
  obtain rfl:=of_decide_eq_true J_
  have:=Ii (F:=F) (p:=p) (p':=p') (pos:=pos) L h1 (of_decide_eq_true h2) h3 (of_decide_eq_true h4) (aK a X S F L _ OQ).1 (λes=>bt OQ es _)
  exact ⟨this,cP this λ_=>rfl⟩
 | .call f cs,X,S,F,L,e,h=>by
  obtain ⟨⟨x,as⟩,hv,hX⟩:=aN h
  obtain ⟨p,pos,rfl⟩:=cM hv
  obtain ⟨lI,h4⟩:=ao hX
  obtain ⟨pU,h3⟩:=ao lI
  obtain ⟨h1,h2⟩:=ao pU
  obtain ⟨⟨y,ys⟩,hu,r_⟩:=aN h4
  obtain rfl:as = y :: ys:=AV hu
  cases cs with
  | nil=>exact (Bool.false_ne_true r_).elim
  | cons c Hk =>
   have OS:=ao r_
   have:=Ea (F:=F) (p:=p) (pos:=pos) L (of_decide_eq_true h1) h2 h3 (fB (c :: Hk) X S F L (y :: ys) r_) (λes=>bt OS.1 es _) (λpos=>xa OS.2 pos _)
   exact ⟨this,cP this λ_=>rfl⟩
 | .bf f cs,X,S,F,L,e,h=>by
  obtain ⟨⟨x,as⟩,hv,hX⟩:=aN h
  obtain ⟨p,pos,rfl⟩:=cM hv
  obtain ⟨lI,h4⟩:=ao hX
  obtain ⟨pU,h3⟩:=ao lI
  obtain ⟨Ck,h2⟩:=ao pU
  obtain rfl:x = _:=of_decide_eq_true Ck
  obtain ⟨⟨y,ys⟩,hu,r_⟩:=aN h4
  obtain rfl:as = y :: ys:=AV hu
  cases cs with
  | nil=>exact (Bool.false_ne_true r_).elim
  | cons c Hk =>
   have OS:=ao r_
   have:=MQ (F:=F) (p:=p) (pos:=pos) L h2 (of_decide_eq_true h3) (fB (c :: Hk) X S F L (y :: ys) r_) (λes=>bt OS.1 es _) (λpos=>xa OS.2 pos _)
   exact ⟨this,cP this λ_=>rfl⟩
 | .lH a,X,S,F,L,e,h=>by
  obtain ⟨⟨x,as⟩,hv,hX⟩:=aN h
  obtain ⟨p,pos,rfl⟩:=cM hv
  obtain ⟨lI,h4⟩:=ao hX
  obtain ⟨pU,h2⟩:=ao lI
  obtain ⟨Ck,h1⟩:=ao pU
  obtain rfl:x = _:=of_decide_eq_true Ck
  obtain ⟨y,hu,r_⟩:=aN h4
  obtain rfl:as = [y]:=bL hu
  obtain ⟨⟨z,bs⟩,hw,h4_3⟩:=aN r_
  obtain ⟨p',pos',rfl⟩:=cM hw
  obtain ⟨Xj,h5⟩:=ao h4_3
  obtain ⟨Xi,h6⟩:=ao Xj
  obtain ⟨Xh,h3⟩:=ao Xi
  obtain rfl:z = _:=of_decide_eq_true Xh
  obtain ⟨u,Wy,Fs⟩:=aN h5
  obtain rfl:bs = [u]:=bL Wy
  have:=D9 (F:=F) (p:=p) (p':=p') (pos:=pos) (pos':=pos') L h1 (of_decide_eq_true h2) h3 (of_decide_eq_true h6) (aK a X S F L _ Fs).1 (λes=>bt Fs es _)
  exact ⟨this,cP this λ_=>rfl⟩
 | .ix a b,X,S,F,L,e,h=>by
  obtain ⟨⟨l,r⟩,hv,hX⟩:=aN h
  obtain ⟨pos,rfl⟩:=ki hv
  obtain ⟨h1,h2⟩:=ao hX
  have:=MP (F:=F) (pos:=pos) L (aK a X S F L _ h1).1 (aK b X S F L _ h2).1 (qT h2)
  exact ⟨this,cP this λ_=>rfl⟩
 | .tup cs,X,S,F,L,e,h=>by
  obtain ⟨es,hv,hX⟩:=aN h
  obtain ⟨n,pos,rfl⟩:=jn hv
  obtain ⟨h1,h2⟩:=ao hX
  have:=Ib (F:=F) (n:=n) (pos:=pos) (fB cs X S F L es h1) (of_decide_eq_true h2)
  exact ⟨this,cP this λ_=>rfl⟩
 | .lst cs,X,S,F,L,e,h=>by
  obtain ⟨es,hv,hX⟩:=aN h
  obtain ⟨pos,rfl⟩:=DJ hv
  obtain ⟨h1,h2⟩:=ao hX
  have:=Ig (F:=F) (pos:=pos) (fB cs X S F L es h1) (of_decide_eq_true h2)
  exact ⟨this,cP this λ_=>rfl⟩
 | .comp n t caps ik es a_ elt,X,S,F,L,e,h=>by
  obtain ⟨⟨iN,gens,sc⟩,hv,hX⟩:=aN h
  obtain ⟨pos,rfl⟩:=AR hv
  obtain ⟨⟨target,iter,ifs,a⟩,hg,lI⟩:=aN hX
  obtain rfl:gens = _:=bL hg
  obtain ⟨pU,h6⟩:=ao lI
  obtain ⟨Ck,h5⟩:=ao pU
  obtain ⟨h_5,h4⟩:=ao Ck
  obtain ⟨h_6,h3⟩:=ao h_5
  obtain ⟨h_7,h2⟩:=ao h_6
  obtain ⟨h_8,h1⟩:=ao h_7
  obtain rfl:a = 0:=of_decide_eq_true h_8
  have Fh:=λ(X':Cx) (F':Addr -> Prop) (L':Lk X' (S.inner target caps sc) k Φ)=>iT a_ X' _ F' L' ifs h4
  have this:PE X (.ListComp iN [⟨target,iter,ifs,0⟩] sc pos) (tD X F Φ (.comp n t caps ik es a_ elt)) :=
   D_ L (qS h1) h2 (λX' F' L'=>(aK elt X' _ F' L' iN h5).1) (vb (of_decide_eq_true h3) h4 Fh) (B1 L (λl=>fB es X S F L l) (λl=>iT es X S F L l) (λl=>jq es X S F L l) h6)
  exact ⟨this,cP this λ_=>rfl⟩
theorem iT:∀ (cs:List CE) (X:Cx) (S:Sx) (F:Addr -> Prop) (L:Lk X S k Φ) (es:List Expr),bF S cs es = true -> ∀ (j:Nat) (c:CE) (e:Expr),cs[j]? = some c -> es[j]? = some e -> PE X e (tD X F Φ c) /\ PT X e (gY X F Φ c)
 | [],X,S,F,L,_,_=>λj c e h _=>by simp at h
 | _ :: _,X,S,F,L,[],h=>by exact (Bool.false_ne_true h).elim
 | c :: cs,X,S,F,L,e :: es,h=>λj c' e' hc he=>by
  replace h:=ao h
  cases j with
  | zero=>simp at hc he;subst hc he;exact aK c X S F L e h.1
  | succ j=>exact iT cs X S F L es h.2 j c' e' (by simpa using hc) (by simpa using he)
theorem jq:∀ (cs:List CE) (X:Cx) (S:Sx) (F:Addr -> Prop) (L:Lk X S k Φ) (es:List Expr),bF S cs es = true -> qm X F Φ cs es
 | [],X,S,F,L,[],_=>trivial
 | [],X,S,F,L,_ :: _,h=>by exact (Bool.false_ne_true h).elim
 | _ :: _,X,S,F,L,[],h=>by exact (Bool.false_ne_true h).elim
 | c :: cs,X,S,F,L,e :: es,h=>by
  replace h:=ao h
  exact ⟨(aK c X S F L e h.1).1,λl=>bt h.1 l _,qT h.1,jq cs X S F L es h.2⟩
theorem fB:∀ (cs:List CE) (X:Cx) (S:Sx) (F:Addr -> Prop) (L:Lk X S k Φ) (es:List Expr),bF S cs es = true -> PA X es (tM X F Φ cs)
 | [],X,S,F,L,[],_=>PA.imp gm λ_ _ _ h=>km h
 | [],X,S,F,L,_ :: _,h=>by exact (Bool.false_ne_true h).elim
 | _ :: _,X,S,F,L,[],h=>by exact (Bool.false_ne_true h).elim
 | c :: cs,X,S,F,L,e :: es,h=>by
  replace h:=ao h
  exact PA.imp (dB (aK c X S F L e h.1).1 (fB cs X S F L es h.2) (bt h.1 es _)) λ_ _ _ h=>gG h
theorem lr:∀ (cs:List CE) (X:Cx) (S:Sx) (F:Addr -> Prop) (L:Lk X S k Φ) (es:List Expr),bF S cs es = true -> ∀ pos,PE X (.BoolOp .And es pos) (tD X F Φ (.and cs)) /\ PW X (.BoolOp .And es pos) (gY X F Φ (.and cs))
 | [],X,S,F,L,_,_,pos=>⟨λ_ _ _ _ _ _ ⟨_,_,_,_,_,ev,_⟩=>(by cases ev),λ_ _ _ _ _ _ _ ⟨_,_,_,_,_,ev,_⟩=>by cases ev⟩
 | [c],X,S,F,L,[e],h,pos=>by
  replace h:=ao h
  exact ⟨PE.imp (By (aK c X S F L e h.1).1) λ_ _ _ h=>F_ h,PW.imp (El (aK c X S F L e h.1).2) λ_ _ _ h=>CV h⟩
 | [_],X,S,F,L,[],h,_=>by exact (Bool.false_ne_true h).elim
 | [_],X,S,F,L,_ :: _ :: _,h,_=>by exact (Bool.false_ne_true (ao h).2).elim
 | _ :: _ :: _,X,S,F,L,[],h,_=>by exact (Bool.false_ne_true h).elim
 | _ :: _ :: _,X,S,F,L,[_],h,_=>by exact (Bool.false_ne_true (ao h).2).elim
 | c :: c' :: cs,X,S,F,L,e :: e' :: es,h,pos=>by
  replace h:=ao h
  have r:=lr (c' :: cs) X S F L (e' :: es) h.2 pos
  exact ⟨PE.imp (IM (aK c X S F L e h.1).1 r.1) λ_ _ _ h=>CW h,PW.imp (Iz (aK c X S F L e h.1).2 r.2) λ_ _ _ h=>Av h⟩
theorem nI:∀ (cs:List CE) (X:Cx) (S:Sx) (F:Addr -> Prop) (L:Lk X S k Φ) (es:List Expr),bF S cs es = true -> ∀ pos,PE X (.BoolOp .Or es pos) (tD X F Φ (.or cs)) /\ PW X (.BoolOp .Or es pos) (gY X F Φ (.or cs))
 | [],X,S,F,L,_,_,pos=>⟨λ_ _ _ _ _ _ ⟨_,_,_,_,_,ev,_⟩=>(by cases ev),λ_ _ _ _ _ _ _ ⟨_,_,_,_,_,ev,_⟩=>by cases ev⟩
 | [c],X,S,F,L,[e],h,pos=>by
  replace h:=ao h
  exact ⟨PE.imp (By (aK c X S F L e h.1).1) λ_ _ _ h=>IV h,PW.imp (Iy (aK c X S F L e h.1).2) λ_ _ _ h=>Ew h⟩
 | [_],X,S,F,L,[],h,_=>by exact (Bool.false_ne_true h).elim
 | [_],X,S,F,L,_ :: _ :: _,h,_=>by exact (Bool.false_ne_true (ao h).2).elim
 | _ :: _ :: _,X,S,F,L,[],h,_=>by exact (Bool.false_ne_true h).elim
 | _ :: _ :: _,X,S,F,L,[_],h,_=>by exact (Bool.false_ne_true (ao h).2).elim
 | c :: c' :: cs,X,S,F,L,e :: e' :: es,h,pos=>by
  replace h:=ao h
  have r:=nI (c' :: cs) X S F L (e' :: es) h.2 pos
  exact ⟨PE.imp (Nh (aK c X S F L e h.1).1 r.1) λ_ _ _ h=>Ex h,PW.imp (M9 (aK c X S F L e h.1).2 r.2) λ_ _ _ h=>BA h⟩
end
theorem gZ (L:Lk X S k Φ) (c:CE) (e:Expr) (h:bI S c e = true):PE X e (tD X F Φ c) /\ PT X e (gY X F Φ c):=aK c X S F L e h
theorem nH (L:Lk X S k Φ) (cs:List CE) (es:List Expr) (h:bF S cs es = true):qm X F Φ cs es:=jq cs X S F L es h
theorem xC (L:Lk X S k Φ) (cs:List CE) (es:List Expr) (h:bF S cs es = true):PA X es (tM X F Φ cs):=fB cs X S F L es h
end
end DI
end
section
namespace DI
open PySem PySem.Spec PyProof.Rows L2
section
variable {X:Cx} {S:Sx} {k:Nat} {F:Addr -> Prop} {Φ:az}
theorem rm (L:Lk X S k Φ) (c:CE) (e:Expr) (h:bI S c e = true):PE X e (tK X F Φ c):=by
 by_cases hv:∃ i,c = .v i
 ·obtain ⟨i,rfl⟩:=hv
  obtain ⟨x,hx,ha⟩:=aN h
  obtain ⟨p,rfl⟩:=lj hx
  obtain ⟨hb,h3⟩:=ao ha
  obtain ⟨h1,h2⟩:=ao hb
  unfold lG at h3
  simp only [Bool.and_eq_true,Bool.not_eq_true'] at h3
  refine PE.imp (rK (i:=i) (by rw [L.N];exact of_decide_eq_true h1) (L.Qp h2) h3.1.1 h3.1.2) λσ H Q hq=>?_
  obtain ⟨R,τ,ρ,r,Si,ev,hq⟩:=hq
  simp only [jC] at ev
  split at ev
  ·rename_i d hd
   split at ev
   ·cases ev
    obtain ⟨v,τ',hv,gU,rk⟩:=Si.move hd
    exact ⟨v,hv,hq v H R τ' (aj.refl H) (λ_ h=>h) gU rk⟩
   ·rename_i ho
    cases ev
    obtain ⟨v,hv,rp⟩:=Si.rep i d hd
    exact ⟨v,hv,hq v H R τ (aj.refl H) (λ_ h=>h) Si (zS rp (by simpa using ho))⟩
  ·cases ev
 ·refine PE.imp (gZ (F:=F) L c e h).1 λσ H Q hq=>?_
  obtain ⟨R,τ,ρ,r,Si,ev,hq⟩:=hq
  have Yg:bd (aQ Φ c ρ) (λd=>ok (keep c d ρ)) = ok r:=by
   cases c <;> first | exact ev | exact absurd ⟨_,rfl⟩ hv
  obtain ⟨d,ed,er⟩:=ah Yg
  cases er
  refine tD.intro Si ed λv H' e' r'=>?_
  obtain ⟨R',τ',h1,h2,h3⟩:=G3 Si e' r'
  exact hq v H' R' τ' e' h1 h2 h3
end
structure Kp (R:Addr -> Prop) (H:Hp) (R':Addr -> Prop) (H':Hp):Prop where
 r:∀ p,R p -> R' p
 l:∀ p (o:HO),R p -> H p = some o -> H' p = some o
 t:∀ p xs,H p = some (.tup xs) -> H' p = some (.tup xs)
 z:∀ p o u,H p = some (.i6 o u) -> H' p = some (.i6 o u)
theorem Kp.refl (R:Addr -> Prop) (H:Hp):Kp R H R H:=⟨λ_ h=>h,λ_ _ _ h=>h,λ_ _ h=>h,λ_ _ _ h=>h⟩
theorem Kp.of {R R':Addr -> Prop} {H H':Hp} (e:aj H H') (h:∀ p,R p -> R' p):Kp R H R' H':=⟨h,λp xs _ h=>e _ _ h,λp xs h=>e _ _ h,λp o u h=>e _ _ h⟩
theorem Kp.trans {R R1 R2:Addr -> Prop} {H H1 H2:Hp} (a:Kp R H R1 H1) (b:Kp R1 H1 R2 H2):Kp R H R2 H2 :=
 ⟨λp h=>b.r p (a.r p h),λp xs h e=>b.l p xs (a.r p h) (a.l p xs h e),λp xs h=>b.t p xs (a.t p xs h),λp o u h=>b.z p o u (a.z p o u h)⟩
theorem Kp.Qy {K:PySem.W.Frag} {R R':Addr -> Prop} {H H':Hp} (a:Kp R H R' H') {p:Addr} {xs:List V} (h:aC K H p xs):aC K H' p xs:=by
 rcases h with (h | ⟨o,h⟩) | h
 ·exact .inl (.inl (a.t p xs h))
 ·exact .inl (.inr ⟨o,a.z p o _ h⟩)
 ·exact .inr h
theorem Kp.nd {K:PySem.W.Frag} {R R':Addr -> Prop} {H H':Hp} (a:Kp R H R' H') {q:aJ} {p:Addr} {xs:Nd} {f:Fl} (h:DI.nd K R (λ_=>False) (λ_=>none) H q p xs f):DI.nd K R' (λ_=>False) (λ_=>none) H' q p xs f:=by
 cases f with
 | ow=>exact nomatch h.2
 | fz=>exact ⟨h.1.at λo e=>a.l p o h.2 e,a.r p h.2⟩
 | al=>exact h.2.elim
 | sc =>
  obtain ⟨ys,rfl,h⟩:=h.GF
  exact h.elim (λ⟨o,h⟩=>.inl ⟨o,a.z p o _ h⟩) .inr
theorem Kp.rep {K:PySem.W.Frag} {R R':Addr -> Prop} {H H':Hp} (a:Kp R H R' H') {k:aJ} {v:V} {d:D} (h:Rep (aC K H) (DI.nd K R (λ_=>False) (λ_=>none) H) k v d):Rep (aC K H') (DI.nd K R' (λ_=>False) (λ_=>none) H') k v d :=
 h.imp (λ_ _ h=>a.Qy h) λ_ _ _ _ h=>a.nd h
theorem Kp.S_ {K:PySem.W.Frag} {R R':Addr -> Prop} {H H':Hp} (a:Kp R H R' H') {k:aJ} {n:Nat} {v:List V} {d:List D} (h:ag (aC K H) (DI.nd K R (λ_=>False) (λ_=>none) H) k n v d):ag (aC K H') (DI.nd K R' (λ_=>False) (λ_=>none) H') k n v d :=
 h.imp (λ_ _ h=>a.Qy h) λ_ _ _ _ h=>a.nd h
noncomputable def C4 (X:Cx) (F:Addr -> Prop) (H':Hp) (v:V) (d:D):Prop:=∃ τt:Addr -> Option aJ,(∀ p q,τt p = some q -> X.H₀ p = none) /\ Rep (aC X.K H') (nd X.K (gP X F) (λ_=>False) τt H') [] v d
theorem jd.ret {X:Cx} {F R:Addr -> Prop} {τ:Addr -> Option aJ} {ρ:aB} {σ:St} {H:Hp} {v:V} {d:D} (Si:SI X F R τ ρ σ H) (h:jd X R τ H v d):C4 X F H v d:=by
 obtain ⟨τt,ht,rp⟩:=h
 exact ⟨τt,λp q e=>(ht p q e).2.2.1,rp.imp (λ_ _ h=>h) λ_ _ _ _ h=>h.mono (λh=>Si.rf _ h) id id⟩
noncomputable def mB (X:Cx) (F:Addr -> Prop) (D:Ends) (R:Addr -> Prop) (H:Hp):Fo × aB -> Prop
 | (.nx,ρ')=>∀ σ' H' R' τ',SI X F R' τ' ρ' σ' H' -> Kp R H R' H' -> D.nx σ' H'
 | (.bk,ρ')=>∀ σ' H' R' τ',SI X F R' τ' ρ' σ' H' -> Kp R H R' H' -> D.bk σ' H'
 | (.ct,ρ')=>∀ σ' H' R' τ',SI X F R' τ' ρ' σ' H' -> Kp R H R' H' -> D.ct σ' H'
 | (.rt d,_)=>∀ v H',aj X.H₀ H' -> C4 X F H' v d -> D.rt v H'
noncomputable def vB (X:Cx) (F:Addr -> Prop) (Φ:az) (c:CS):TS:=λD σ H=>∃ R τ ρ r,SI X F R τ ρ σ H /\ p9 Φ c ρ = ok r /\ mB X F D R H r
noncomputable def pH (X:Cx) (F:Addr -> Prop) (Φ:az) (cs:List CS):TS:=λD σ H=>∃ R τ ρ r,SI X F R τ ρ σ H /\ bM Φ cs ρ = ok r /\ mB X F D R H r
noncomputable def Jr (sc:Scope) (x:Str):Bool:=decide (sc.names.lookup x = some .local) || decide (sc.names.lookup x = some .cell)
noncomputable def iO (S:Sx) (i:Nat):Expr -> Bool
 | .Name x _=>decide (S.N[i]? = some x) && Jr S.sc x
 | _=>false
noncomputable def Nz:Expr -> Bool
 | .Name x _=>lG x
 | _=>true
noncomputable def CH (S:Sx):List Nat -> List Expr -> Bool
 | [],es=>match es with
  | []=>true
  | _ :: _=>false
 | i :: is,es=>match es with
  | []=>false
  | e :: es=>iO S i e && CH S is es
noncomputable def Ak (S:Sx):Tg -> Expr -> Bool
 | .nm i,e=>iO S i e
 | .tp is,e=>aM (vK e) λes=>CH S is es
noncomputable def hU:Expr -> Bool
 | .ListComp _ _ _ _=>true
 | _=>false
noncomputable def isTup:Expr -> Bool
 | .Tuple _ _ _=>true
 | _=>false
noncomputable def R7 (S:Sx) (tg v:Expr):Bool:=match tg,v with
 | .Name x p,.ListComp _ _ sc pos=>(S.sc.names.lookup x == some .local) && (p.line == pos.line) && !(sc.names.any λ(n,k)=>n == x && (k == .local || k == .cell))
 | _,_=>false
noncomputable def HF:Expr -> Option (Str × Pos)
 | .Name x p=>some (x,p)
 | _=>none
theorem xo {e:Expr} {x:Str} {p:Pos} (h:HF e = some (x,p)):e = .Name x p:=by
 cases e <;> first | (cases h;done) | (cases h;rfl)
noncomputable def CG (S:Sx) (i j:Nat) (tg v:Expr):Bool :=
 aM (vK tg) λts=>aM (two ts) λt=>aM (HF t.1) λx=>aM (HF t.2) λy=>aM (vK v) λvs=>aM (two vs) λw =>
  decide (S.N[i]? = some x.1) && decide (S.N[j]? = some y.1) && decide (i ≠ j) && decide (S.sc.names.lookup x.1 = some .local) && decide (S.sc.names.lookup y.1 = some .local) && decide (x.1 ≠ y.1) &&
   decide (x.2.line = y.2.line) && !([w.1,w.2].all (foldedForSure 8)) && !([w.1,w.2].all (constantsAlone 8)) && decide (([w.1,w.2].any λe=>match e with | .Starred ..=>true | _=>false) = false)
noncomputable def Pj (S:Sx) (it:CI) (e:Expr):Bool:=match it with
 | .lC a=>aM (eh e) λw=>decide (w.1 = ("range" : Str)) && gT S.sc w.1 && decide (w.1 ∈ S.bl) && aM (one w.2) λy=>bI S a y
 | .seq a=>bI S a e && qH e
 | .De p es=>QL e && aM (S.px.pi p S.sc S.bl e) λxs=>bF S es xs
noncomputable def BD:CI -> Bool
 | .De p _=>decide (1100 <= p)
 | _=>true
noncomputable def vN:Stmt -> Option (List Expr × Expr)
 | .Assign ts v _=>some (ts,v)
 | _=>none
theorem kj {s:Stmt} {ts:List Expr} {v:Expr} (h:vN s = some (ts,v)):∃ p,s = .Assign ts v p:=by
 cases s <;> first | (cases h;done) | (cases h;exact ⟨_,rfl⟩)
noncomputable def Mf:Stmt -> Option (Option Expr)
 | .Return v _=>some v
 | _=>none
theorem DG {s:Stmt} {v:Option Expr} (h:Mf s = some v):∃ p,s = .Return v p:=by
 cases s <;> first | (cases h;done) | (cases h;exact ⟨_,rfl⟩)
noncomputable def Mj:Stmt -> Option Expr
 | .Expr v _=>some v
 | _=>none
theorem vL {s:Stmt} {v:Expr} (h:Mj s = some v):∃ p,s = .Expr v p:=by
 cases s <;> first | (cases h;done) | (cases h;exact ⟨_,rfl⟩)
noncomputable def RG:Stmt -> Option (Expr × Operator × Expr)
 | .AugAssign o p v _=>some (o,p,v)
 | _=>none
theorem Qq {s:Stmt} {o v:Expr} {p:Operator} (h:RG s = some (o,p,v)):∃ q,s = .AugAssign o p v q:=by
 cases s <;> first | (cases h;done) | (cases h;exact ⟨_,rfl⟩)
noncomputable def Mh:Stmt -> Option (Expr × List Stmt × List Stmt)
 | .If t x y _=>some (t,x,y)
 | _=>none
theorem DK {s:Stmt} {t:Expr} {x y:List Stmt} (h:Mh s = some (t,x,y)):∃ q,s = .If t x y q:=by
 cases s <;> first | (cases h;done) | (cases h;exact ⟨_,rfl⟩)
noncomputable def Me:Stmt -> Option (Expr × List Stmt × List Stmt)
 | .While t x y _=>some (t,x,y)
 | _=>none
theorem DF {s:Stmt} {t:Expr} {x y:List Stmt} (h:Me s = some (t,x,y)):∃ q,s = .While t x y q:=by
 cases s <;> first | (cases h;done) | (cases h;exact ⟨_,rfl⟩)
noncomputable def Mi:Stmt -> Option (Expr × Expr × List Stmt × List Stmt)
 | .For tg it x y _=>some (tg,it,x,y)
 | _=>none
theorem DL {s:Stmt} {tg it:Expr} {x y:List Stmt} (h:Mi s = some (tg,it,x,y)):∃ q,s = .For tg it x y q:=by
 cases s <;> first | (cases h;done) | (cases h;exact ⟨_,rfl⟩)
noncomputable def tF:Expr -> Option (Expr × Str × Pos)
 | .Attribute o a p=>some (o,a,p)
 | _=>none
theorem nE {e o:Expr} {a:Str} {p:Pos} (h:tF e = some (o,a,p)):e = .Attribute o a p:=by
 cases e <;> first | (cases h;done) | (cases h;rfl)
noncomputable def nC:Expr -> Option (Expr × List Expr × List Keyword × Pos)
 | .Call f as ks p=>some (f,as,ks,p)
 | _=>none
theorem ll {e f:Expr} {as:List Expr} {ks:List Keyword} {p:Pos} (h:nC e = some (f,as,ks,p)):e = .Call f as ks p:=by
 cases e <;> first | (cases h;done) | (cases h;rfl)
noncomputable def isNil {α:Type}:List α -> Bool
 | []=>true
 | _ :: _=>false
theorem kE {α:Type} {l:List α} (h:isNil l = true):l = []:=by cases l <;> first | rfl | cases h
noncomputable def EZ:Stmt -> Bool
 | .Raise _ _ _=>true
 | _=>false
noncomputable def JH:Stmt -> Bool
 | .Pass _=>true
 | _=>false
theorem LI {s:Stmt} (h:JH s = true):∃ p,s = .Pass p:=by cases s <;> first | (cases h;done) | exact ⟨_,rfl⟩
noncomputable def NY:Stmt -> Bool
 | .Break _=>true
 | _=>false
theorem NX {s:Stmt} (h:NY s = true):∃ p,s = .Break p:=by cases s <;> first | (cases h;done) | exact ⟨_,rfl⟩
noncomputable def Wn:Stmt -> Bool
 | .Continue _=>true
 | _=>false
theorem QT {s:Stmt} (h:Wn s = true):∃ p,s = .Continue p:=by cases s <;> first | (cases h;done) | exact ⟨_,rfl⟩
theorem kQ {S:Sx} {i:Nat} {e:Expr} (h:iO S i e = true):∃ x p,e = .Name x p:=by
 cases e <;> first | exact ⟨_,_,rfl⟩ | exact (Bool.false_ne_true h).elim
theorem E_ {e:Expr} (h:isNm e = true):∃ x p,e = .Name x p:=by cases e <;> first | (cases h;done) | exact ⟨_,_,rfl⟩
theorem zJ {e:Expr} (h:hU e = true):∃ x g sc p,e = .ListComp x g sc p:=by cases e <;> first | (cases h;done) | exact ⟨_,_,_,_,rfl⟩
mutual
noncomputable def Pg (S:Sx):CS -> Stmt -> Bool
 | .asg t e,s0=>aM (vN s0) λz=>aM (one z.1) λtg=>bI S e z.2 && Ak S t tg && !(isTup z.2 && isTup tg) && (!hU z.2 || isNm tg)
 | .par i j a b,s0=>aM (vN s0) λz=>aM (one z.1) λtg=>bI S (.tup [a,b]) z.2 && CG S i j tg z.2
 | .ret e,s0=>aM (Mf s0) λz=>aM z λv=>bI S e v
 | .rs _,s0=>EZ s0
 | .mut p i es,s0=>aM (S.px.pm p S.sc S.bl s0) λz=>iO S i z.1 && Nz z.1 && bF S es z.2
 | .pop2 i j e,s0=>aM (vN s0) λz=>aM (one z.1) λtg=>iO S i tg && aM (HH z.2) λw=>iO S i w.1 && Nz w.1 && decide (w.2.1 = .Add) && aM (vK w.2.2) λts=>aM (one ts) λc=>aM (nC c) λu=>isNil u.2.2.1 && aM (tF u.1) λa=>decide (a.2.1 = ("pop" : Str)) && iO S j a.1 && Nz a.1 && (a.2.2.endLine == u.2.2.2.line) && aM (one u.2.1) λv=>bI S e v
 | .app i e,s0=>aM (Mj s0) λc=>aM (nC c) λz=>isNil z.2.2.1 && aM (tF z.1) λa=>decide (a.2.1 = ("append" : Str)) && iO S i a.1 && Nz a.1 && (a.2.2.endLine == z.2.2.2.line) && aM (one z.2.1) λv=>bI S e v
 | .setI i k e,s0=>aM (vN s0) λz=>aM (one z.1) λtg=>aM (nB tg) λw=>iO S i w.1 && Nz w.1 && bI S k w.2 && bI S e z.2 && !hU z.2
 | .ex e,s0=>aM (Mj s0) λv=>bI S e v && !hU v
 | .ifs c a b,s0=>aM (Mh s0) λz=>bI S c z.1 && aL S a z.2.1 && aL S b z.2.2
 | .HD c b,s0=>aM (Me s0) λz=>isNil z.2.2 && bI S c z.1 && aL S b z.2.1
 | .fr t it b,s0=>aM (Mi s0) λz=>isNil z.2.2.2 && Ak S t z.1 && Pj S it z.2.1 && (gp z.1 || BD it) && aL S b z.2.2.1
noncomputable def aL (S:Sx):List CS -> List Stmt -> Bool
 | [],ss=>match ss with
  | []=>true
  | _ :: _=>false
 | c :: cs,ss=>match ss with
  | []=>false
  | s :: ss=>Pg S c s && aL S cs ss
end
structure Ry (px:Px) (Φ:az):Prop where
 m:∀ (X:Cx) (sc:Scope) (bl:List Str) (k:Nat),PX X sc bl k -> X.N.Nodup -> (∀ x,X.fn x = true) -> ∀ (p:Nat) (st:Stmt) (x:Str) (pos:Pos) (args:List Expr),px.pm p sc bl st = some (.Name x pos,args) -> ∀ (i:Nat),X.N[i]? = some x -> L2.Loc X.env.scope x -> PE X (.Name x pos) (A3 i) ->
  ∀ (F:Addr -> Prop) (cs:List CE),qm X F Φ cs args -> PS X st (vB X F Φ (.mut p i cs))
structure pC (X:Cx) (S:Sx) (k:Nat) (Φ:az):Prop extends Lk X S k Φ where
 Fx:∀ x,X.fn x = true
 px:PassesOwn (model X.prog X.w) X.A X.env X.xe
 fk:S.sc.kind = .function
 pm:Ry S.px Φ
section
variable {X:Cx} {S:Sx} {k:Nat} {F:Addr -> Prop} {Φ:az}
theorem pC.loc (L:pC X S k Φ) {x:Str} (h:Jr S.sc x = true):L2.Loc X.env.scope x:=by
 unfold L2.Loc;rw [L.sc]
 unfold Jr at h
 rw [Bool.or_eq_true] at h
 exact h.imp of_decide_eq_true of_decide_eq_true
theorem Gy (L:pC X S k Φ) {x:Str} {p pos:Pos} {l:Nat} {elt:Expr} {gens:List Comprehension} {sc:Scope}:swapsWith (.ListComp elt gens sc pos) (some (.Name x p)) l X.env = pure (R7 S (.Name x p) (.ListComp elt gens sc pos)):=by
 have hb:X.env.blockKind = .function:=by unfold Env.blockKind;rw [L.sc,L.fk];rfl
 have hk:(X.env.kindOf x == some .local) = (S.sc.names.lookup x == some .local):=by
  unfold Env.kindOf
  rw [L.sc]
 unfold swapsWith R7
 simp only [hb,hk]
 rfl
theorem o_ {c:CE} {e:Expr} (h:bI S c e = true) (hc:hU e = false) (t:Option Expr) (l:Nat) (env:Env):swapsWith e t l env = pure false:=by
 cases e <;> first | rfl | (cases hc;done) | (cases c <;> exact (Bool.false_ne_true h).elim)
noncomputable def Xu:List Nat -> Gf
 | []=>Kh
 | i :: is=>Cp (qO i) (Xu is)
theorem xS (L:pC X S k Φ) {i:Nat} {e:Expr} (h:iO S i e = true):PG X e (qO i):=by
 cases e <;> try (exact (Bool.false_ne_true h).elim;done)
 replace h:=ao h
 exact rJ L.nd (by rw [L.N];exact of_decide_eq_true h.1) (L.loc h.2) (.inl (L.Fx _))
theorem EF {i:Nat} {e:Expr} (h:iO S i e = true) (es:List Expr) (env:Env):assignEach (e :: es) env = (false,assign e env) :: assignEach es env:=by
 cases e <;> first | rfl | (exact (Bool.false_ne_true h).elim;done)
theorem Bu (L:pC X S k Φ):∀ {is:List Nat} {es:List Expr},CH S is es = true -> L6 X es (Xu is) /\ (assignEach es X.env).length = is.length /\ (assignEach es X.env).findIdx? (·.1) = none
 | [],[],_=>⟨xR,rfl,rfl⟩
 | [],_ :: _,h=>by exact (Bool.false_ne_true h).elim
 | _ :: _,[],h=>by exact (Bool.false_ne_true h).elim
 | i :: is,e :: es,h=>by
  replace h:=ao h
  obtain ⟨h1,h2,h3⟩:=Bu L h.2
  have he:=EF h.1 es X.env
  refine ⟨uk (xS L h.1) h1 (by rw [he];rfl),by rw [he];simp [h2],?_⟩
  rw [he,List.findIdx?_cons]
  simp [h3]
theorem tT {H:Hp} {R:Addr -> Prop} {Q:St -> Hp -> Prop}:∀ {is:List Nat} {vs:List V} {ds:List D} {kp:aJ} {n:Nat} {σ:St} {τ:Addr -> Option aJ} {ρ ρ':aB},ag (aC X.K H) (nd X.K R (λ_=>False) (λ_=>none) H) kp n vs ds -> SI X F R τ ρ σ H -> iI is ds ρ = ok ρ' ->
  (∀ σ' τ',SI X F R τ' ρ' σ' H -> Q σ' H) -> Xu is vs σ H Q
 | [],_,_,_,_,σ,τ,_,_,.nil,Si,e,hq=>by
  cases e
  exact ⟨rfl,hq σ τ Si⟩
 | [],_,_,_,_,_,_,_,_,.cons _ _,_,e,_=>by cases e
 | _ :: _,_,_,_,_,_,_,_,_,.nil,_,e,_=>by cases e
 | i :: is,_,_,_,_,σ,τ,ρ,_,.cons (v:=v) (d:=d) h t,Si,e,hq=>by
  change (if _ then _ else _) = _ at e
  split at e
  ·rename_i hi
   obtain ⟨τ',gU⟩:=Si.set (i:=i) (mU (τ':=τ) (Rep.rQ h)) hi
   exact ⟨_,_,rfl,tT t gU e hq⟩
  ·cases e
theorem AZ (L:pC X S k Φ) {t:Tg} {tg:Expr} (h:Ak S t tg = true):∃ g,PG X tg g /\ ∀ (v:V) (σ:St) (H:Hp) (Q:St -> Hp -> Prop) (R:Addr -> Prop) (τ:Addr -> Option aJ) (ρ ρ':aB) (d:D),SI X F R τ ρ σ H -> jd X R τ H v d -> cC t d ρ = ok ρ' ->
  (∀ σ' τ',SI X F R τ' ρ' σ' H -> Q σ' H) -> g v σ H Q:=by
 cases t with
 | nm i =>
  refine ⟨qO i,xS L h,λv σ H Q R τ ρ ρ' d Si rk e hq=>?_⟩
  simp only [cC] at e
  split at e
  ·rename_i hi
   cases e
   obtain ⟨τ',gU⟩:=Si.set rk hi
   exact hq _ τ' gU
  ·cases e
 | tp is =>
  obtain ⟨es,hx,ha⟩:=aN h
  obtain ⟨nn,pp,rfl⟩:=jn hx
  obtain ⟨h1,h2,h3⟩:=Bu L ha
  refine ⟨_,Bt L.calm h1 h2 h3,λv σ H Q R τ ρ ρ' d Si rk e hq=>?_⟩
  cases d <;> try (simp [cC] at e;done)
  rename_i ds
  simp only [cC] at e
  split at e
  ·cases e
  ·rename_i ho
   obtain ⟨τt,ht,rp⟩:=rk
   cases rp with
   | @tup _ p xs _ hp rs =>
    have wa:ag (aC X.K H) (nd X.K R (λ_=>False) (λ_=>none) H) [] 0 xs ds:=ag.without (P:=eC) (λ_ _ h=>h) (λk k' p xs f hf h=>by
     cases f with
     | ow=>cases hf
     | fz=>exact h
     | al=>exact h.2.elim
     | sc=>exact h) rs (by simpa using ho) _ _
    refine ⟨p,xs,rfl,hp,?_,tT wa Si e hq⟩
    rw [rs.length]
    have:∀ (is:List Nat) (ds:List D) (ρ ρ':aB),iI is ds ρ = ok ρ' -> ds.length = is.length:=by
     intro is
     induction is with
     | nil=>intro ds ρ ρ' e;cases ds with | nil=>rfl | cons _ _=>cases e
     | cons i is ih=>intro ds ρ ρ' e;cases ds with
      | nil=>cases e
      | cons d ds =>
       change (if _ then _ else _) = _ at e
       split at e
       ·simp [ih ds _ _ e]
       ·cases e
    exact this _ _ _ _ e
end
end DI
end
section
namespace DI
open PySem PySem.Spec PyProof.Rows L2
section
variable {X:Cx} {S:Sx} {k:Nat} {F:Addr -> Prop} {Φ:az}
theorem A7 (L:pC X S k Φ) {t:Tg} {e:CE} {tg v:Expr} {pos:Pos} (he:bI S e v = true) (ht:Ak S t tg = true) (hp:(isTup v && isTup tg) = false) (WA:swapsWithSole [tg] v pos.line X.env = pure false):PS X (.Assign [tg] v pos) (vB X F Φ (.asg t e)):=by
 obtain ⟨g,hg,Cf⟩:=AZ (F:=F) L ht
 have C_:(∃ x p,tg = .Name x p) \/ ∃ es n p,tg = .Tuple es n p:=by
  cases t with
  | nm i=>cases tg <;> first | exact .inl ⟨_,_,rfl⟩ | exact (Bool.false_ne_true ht).elim
  | tp is=>cases tg <;> first | exact .inr ⟨_,_,_,rfl⟩ | exact (Bool.false_ne_true ht).elim
 have each:(assignEach [tg] X.env).map (·.2) = [assign tg X.env]:=by
  rcases C_ with ⟨x,p,rfl⟩ | ⟨es,n,p,rfl⟩ <;> rfl
 have hw:swappedStores [tg] v X.env = pure none:=by
  rcases C_ with ⟨x,p,rfl⟩ | ⟨es,n,p,rfl⟩
  ·first | rfl | (cases v <;> rfl)
  ·cases v <;> first | rfl | exact absurd hp (by simp [isTup])
 refine PS.imp (wb (rm (F:=F) L.toLk e v he) hg WA hw each) λD σ H hq=>?_
 obtain ⟨R,τ,ρ,r,Si,ev,hq⟩:=hq
 obtain ⟨r1,wO,ev⟩:=ah ev
 obtain ⟨ρ',eρ,ev⟩:=ah ev
 cases ev
 exact ⟨R,τ,ρ,r1,Si,wO,λv H' R' τ' es hR gU rk=>Cf v σ H' _ R' τ' r1.2 ρ' r1.1 gU rk eρ λσ' AH Ll=>hq σ' H' R' AH Ll (Kp.of es hR)⟩
theorem D5 (L:pC X S k Φ) {i n:Nat} {t:Tg} {caps:List Nat} {ik:IK} {es a_:List CE} {elt:CE} {x:Str} {p MM pos:Pos} {iN:Expr} {gens:List Comprehension} {sc:Scope}
  (he:bI S (.comp n t caps ik es a_ elt) (.ListComp iN gens sc pos) = true) (hn:iO S i (.Name x p) = true) (WA:swapsWith (.ListComp iN gens sc pos) (some (.Name x p)) MM.line X.env = pure true) :
  PS X (.Assign [.Name x p] (.ListComp iN gens sc pos) MM) (vB X F Φ (.asg (.nm i) (.comp n t caps ik es a_ elt))):=by
 intro pins s σ H D I hq
 obtain ⟨R,τ,ρ,r,Si,ev,hq⟩:=hq
 obtain ⟨r1,wO,ev⟩:=ah ev
 obtain ⟨ρ',eρ,ev⟩:=ah ev
 cases ev
 have wO:bd (aQ Φ (.comp n t caps ik es a_ elt) ρ) (λd=>ok (keep (.comp n t caps ik es a_ elt) d ρ)) = ok r1:=wO
 obtain ⟨d,ed,wO⟩:=ah wO
 cases wO
 have hg:=xS L hn
 rw [exec_Assign_Name_used _ _ _ _ WA]
 refine wpAny_bind (wpAny_standAt (wpAny_bind ?_))
 obtain ⟨⟨e0,g0,s0⟩,QX,LL⟩:=aN he
 cases QX
 obtain ⟨⟨target,iter,ifs,a⟩,W0,hz⟩:=aN LL
 obtain rfl:gens = _:=bL W0
 obtain ⟨hz,h6⟩:=ao hz
 obtain ⟨hz,h5⟩:=ao hz
 obtain ⟨hz,h4⟩:=ao hz
 obtain ⟨hz,h3⟩:=ao hz
 obtain ⟨hz,h2⟩:=ao hz
 obtain ⟨hz,h1⟩:=ao hz
 obtain rfl:a = 0:=of_decide_eq_true hz
 have hC:=vb (of_decide_eq_true h3) h4 (λ(X':Cx) (F':Addr -> Prop) (L':Lk X' (S.inner target caps sc) k Φ)=>iT a_ X' _ F' L' ifs h4)
 have run:wpAny (model X.prog X.w) X.A (comprehension (.ListComp iN [⟨target,iter,ifs,0⟩] sc pos) sc X.env (firstIterPos [⟨target,iter,ifs,0⟩] pos) (newList []) false (eval iter X.env) (some (assign (.Name x p) X.env))) (λ_ s'=>SP X pins D .next s') X.xe s:=by
  refine vd (F:=F) (k:=k) L.toLk (qS h1) h2 (λX' F' L'=>(gZ (F:=F') L' elt iN h5).1) hC ?_ (use:=some (assign (.Name x p) X.env)) (Post:=λ_ s'=>SP X pins D .next s') I Si ed ?_
  ·exact B1 L.toLk (λl=>xC (F:=F) L.toLk es l) (λl=>iT es X S F L.toLk l) (λl=>nH L.toLk es l) h6
  ·intro acc C H1 s1 m zO hc IX sm rt
   obtain ⟨c1,c2,c3,c4,c5⟩:=hc
   obtain ⟨R',τ',hR,gU,rk⟩:=G3 (e:=.comp n t caps ik es a_ elt) Si sm rt
   have I1:Inv X pins σ H1 s1:=IX s1.heap (.refl ..)
   obtain ⟨oC,esC,epC,hoC,hdC,hrC⟩:=zO
   have cfs:C ∉ X.fs:=λz=>by
    obtain ⟨_,o,ho,_⟩:=I1.ok.mL.mem z
    exact absurd (Nat.lt_of_lt_of_le (Heap.lt_size ho) c2) (Nat.lt_irrefl _)
   have I2:Inv X ((C,oC) :: pins) σ H1 s1:=I1.jr λq hq=>by
    rcases List.mem_cons.mp hq with rfl | hq
    ·exact ⟨hoC,c5,c1,cfs,λv z=>by rw [hdC] at z;cases z⟩
    ·exact I1.pin q (List.mem_append_right _ hq)
   simp only [cC] at eρ
   split at eρ
   ·rename_i hi
    cases eρ
    obtain ⟨τ2,vz⟩:=gU.set rk hi
    show wpAny _ _ (assign (.Name x p) X.env (.ref acc)) _ _ _
    refine wpAny_mono (hg ((C,oC) :: pins) s1 σ H1 (.ref acc) (.ref acc) (λσ' H'=>σ' = σ.set i (some (.ref acc)) /\ H' = H1) I2 rfl ⟨rfl,rfl⟩) (λ_ s2 h2=>?_) λ_ _ z=>z
    obtain ⟨σ',H',I3,rfl,rfl⟩:=h2
    have hC3:=(I3.pin (C,oC) (List.mem_append_right _ List.mem_cons_self)).1
    refine ⟨m,⟨oC,esC,epC,hC3,hdC,hrC⟩,λh' B_=>?_⟩
    have I4:Inv X pins (σ.set i (some (.ref acc))) H' s2:=I3.jr λq hq=>I3.pin q (List.mem_append_right _ (List.mem_cons_of_mem _ hq))
    have I5:=I4.turned (t':=s2.toks) (h':=h') (it:=C) (λb o hb e=>(B_.2 b hb).trans e) c5 c1 (.inr c2) c3 c4
    exact ⟨_,H',I5,hq _ H' R' τ2 vz (Kp.of sm hR)⟩
   ·cases eρ
 exact wpAny_bind (wpAny_mono run (λ_ s' h=>wpAny_pure (wpAny_pure h)) λ_ _ z=>z)
theorem HX (L:pC X S k Φ) {e:CE} {v:Expr} {pos:Pos} (he:bI S e v = true):PS X (.Return (some v) pos) (vB X F Φ (.ret e)):=by
 refine PS.imp (IC (rm (F:=F) L.toLk e v he)) λD σ H hq=>?_
 obtain ⟨R,τ,ρ,r,Si,ev,hq⟩:=hq
 obtain ⟨r1,wO,ev⟩:=ah ev
 cases ev
 exact ⟨R,τ,ρ,r1,Si,wO,λv H' R' τ' es hR gU rk=>hq v H' gU.same (rk.ret gU)⟩
theorem ML (L:pC X S k Φ) {e:CE} {v:Expr} {pos:Pos} (he:bI S e v = true) (WR:hU v = false):PS X (.Expr v pos) (vB X F Φ (.ex e)):=by
 refine PS.imp (xM (gZ (F:=F) L.toLk e v he).1 (o_ he WR _ _ _)) λD σ H hq=>?_
 obtain ⟨R,τ,ρ,r,Si,ev,hq⟩:=hq
 obtain ⟨d,ed,ev⟩:=ah ev
 cases ev
 exact tD.intro Si ed λv H' es rv=>hq σ H' R τ (Si.go es) (Kp.of es λ_ h=>h)
theorem mB.from {D:Ends} {R R1:Addr -> Prop} {H H1:Hp} {r:Fo × aB} (h:mB X F D R H r) (kp:Kp R H R1 H1):mB X F D R1 H1 r:=by
 obtain ⟨fo,ρ'⟩:=r
 cases fo with
 | nx=>exact λσ' H' R' τ' Si k2=>h σ' H' R' τ' Si (kp.trans k2)
 | bk=>exact λσ' H' R' τ' Si k2=>h σ' H' R' τ' Si (kp.trans k2)
 | ct=>exact λσ' H' R' τ' Si k2=>h σ' H' R' τ' Si (kp.trans k2)
 | rt d=>exact h
theorem MK (L:pC X S k Φ) {c:CE} {a b:List CS} {t:Expr} {x y:List Stmt} {pos:Pos} (hc:bI S c t = true) (ha:nk X x (pH X F Φ a)) (hb:nk X y (pH X F Φ b)):PS X (.If t x y pos) (vB X F Φ (.ifs c a b)):=by
 refine PS.imp (Na (gZ (F:=F) L.toLk c t hc).2 ha hb) λD σ H hq=>?_
 obtain ⟨R,τ,ρ,r,Si,ev,hq⟩:=hq
 obtain ⟨w,ew,ev⟩:=ah ev
 refine ⟨R,τ,ρ,w,Si,ew,λH1 e1=>?_⟩
 cases w with
 | true=>rw [if_pos rfl] at ev ⊢;exact ⟨R,τ,ρ,r,Si.go e1,ev,hq.from (Kp.of e1 λ_ h=>h)⟩
 | false=>rw [if_neg (by simp)] at ev ⊢;exact ⟨R,τ,ρ,r,Si.go e1,ev,hq.from (Kp.of e1 λ_ h=>h)⟩
theorem A6 (L:pC X S k Φ) {c:CE} {b:List CS} {t:Expr} {x:List Stmt} {pos:Pos} (hc:bI S c t = true) (hb:nk X x (pH X F Φ b)):PS X (.While t x [] pos) (vB X F Φ (.HD c b)):=by
 refine PS.imp (Bq L.px (gZ (F:=F) L.toLk c t hc).2 hb) λD σ H hq=>?_
 obtain ⟨R,τ,ρ,r,Si,ev,hq⟩:=hq
 obtain ⟨n,hn⟩:=lF ev
 refine ⟨λm σ' H'=>∃ R' τ' ρ',SI X F R' τ' ρ' σ' H' /\ Kp R H R' H' /\ cU m _ ρ' = ok r,⟨n,R,τ,ρ,Si,Kp.refl R H,hn⟩,?_⟩
 rintro m σ1 H1 ⟨R1,τ1,ρ1,vH,k1,e1⟩
 cases m with
 | zero=>simp [cU] at e1
 | succ m =>
  rw [cU] at e1
  obtain ⟨st,es,e1⟩:=ah e1
  obtain ⟨w,ew,es⟩:=ah es
  refine ⟨R1,τ1,ρ1,w,vH,ew,λH2 e2=>?_⟩
  cases w with
  | false =>
   rw [if_neg (by simp)] at es ⊢
   cases es
   cases e1
   exact hq σ1 H2 R1 τ1 (vH.go e2) (k1.trans (Kp.of e2 λ_ h=>h))
  | true =>
   rw [if_pos rfl] at es ⊢
   obtain ⟨⟨fo,ρ2⟩,eb,es⟩:=ah es
   refine ⟨λσ' H'=>∃ R' τ' ρ',SI X F R' τ' ρ' σ' H' /\ Kp R H R' H' /\ cU m _ ρ' = ok r,λσ' H' h=>⟨m,Nat.lt_succ_self m,h⟩,R1,τ1,ρ1,(fo,ρ2),vH.go e2,eb,?_⟩
   have k2:Kp R H R1 H2:=k1.trans (Kp.of e2 λ_ h=>h)
   cases fo with
   | nx=>cases es;exact λσ' H' R' τ' gU k3=>⟨R',τ',ρ2,gU,k2.trans k3,e1⟩
   | ct=>cases es;exact λσ' H' R' τ' gU k3=>⟨R',τ',ρ2,gU,k2.trans k3,e1⟩
   | bk=>cases es;cases e1;exact λσ' H' R' τ' gU k3=>hq σ' H' R' τ' gU (k2.trans k3)
   | rt d=>cases es;cases e1;exact hq
noncomputable def k_ (X:Cx) (F:Addr -> Prop) (Φ:az) (t:Tg) (b:List CS) (R1:Addr -> Prop) (H1:Hp) (r:Fo × aB) (items:List DI.D) (i:Nat) (σ:St) (H:Hp):Prop :=
 ∃ R' τ' ρ',SI X F R' τ' ρ' σ H /\ Kp R1 H1 R' H /\ eW (λd ρ=>cC t d ρ) (λρ=>bM Φ b ρ) (items.drop i) ρ' = ok r
theorem oO {g:TG} {t:Tg} {b:List CS} {D:Ends} {R1:Addr -> Prop} {H1:Hp} {r:Fo × aB} {items:List DI.D} {xs:List V} {q:aJ}
  (Cf:∀ (v:V) (σ:St) (H:Hp) (Q:St -> Hp -> Prop) (R:Addr -> Prop) (τ:Addr -> Option aJ) (ρ ρ':aB) (d:DI.D),SI X F R τ ρ σ H -> jd X R τ H v d -> cC t d ρ = ok ρ' -> (∀ σ' τ',SI X F R τ' ρ' σ' H -> Q σ' H) -> g v σ H Q)
  (rs:ag (aC X.K H1) (nd X.K R1 (λ_=>False) (λ_=>none) H1) q 0 xs items) (hq:mB X F D R1 H1 r) (i:Nat) (x:V) (σ:St) (H:Hp) (hx:xs[i]? = some x) (h:k_ X F Φ t b R1 H1 r items i σ H) :
  g x σ H λσ2 H2=>pH X F Φ b { D with nx:=k_ X F Φ t b R1 H1 r items (i + 1),ct:=k_ X F Φ t b R1 H1 r items (i + 1),bk:=D.nx } σ2 H2:=by
 obtain ⟨R',τ',ρ',Si,kp,ef⟩:=h
 obtain ⟨d,hd,rd⟩:=rs.uK hx
 have hi:i < items.length:=by
  by_cases hi:i < items.length
  ·exact hi
  ·rw [List.getElem?_eq_none (by omega)] at hd;cases hd
 have uH:items.drop i = d :: items.drop (i + 1):=by
  rw [List.drop_eq_getElem_cons hi]
  rw [List.getElem?_eq_getElem hi] at hd
  cases hd;rfl
 rw [uH,eW] at ef
 obtain ⟨ρ1,e1,ef⟩:=ah ef
 obtain ⟨⟨fo,ρ2⟩,e2,ef⟩:=ah ef
 refine Cf x σ H _ R' τ' ρ' ρ1 d Si (mU (Rep.rQ (kp.rep rd))) e1 λσ' AH gU=>⟨R',AH,ρ1,(fo,ρ2),gU,e2,?_⟩
 cases fo with
 | nx=>exact λσ3 H3 R3 τ3 s_ k3=>⟨R3,τ3,ρ2,s_,kp.trans k3,ef⟩
 | ct=>exact λσ3 H3 R3 τ3 s_ k3=>⟨R3,τ3,ρ2,s_,kp.trans k3,ef⟩
 | bk=>cases ef;exact λσ3 H3 R3 τ3 s_ k3=>hq σ3 H3 R3 τ3 s_ (kp.trans k3)
 | rt d=>cases ef;exact hq
theorem m5 {t:Tg} {b:List CS} {D:Ends} {R1:Addr -> Prop} {H1:Hp} {r:Fo × aB} {items:List DI.D} {n:Nat} (hn:n = items.length) (hq:mB X F D R1 H1 r) (σ:St) (H:Hp) (h:k_ X F Φ t b R1 H1 r items n σ H):D.nx σ H:=by
 obtain ⟨R',τ',ρ',Si,kp,ef⟩:=h
 subst hn
 rw [List.drop_length,eW] at ef
 cases ef
 exact hq σ H R' τ' Si kp
theorem yu (ρ:aB):i6 [] ρ = ρ:=by
 unfold i6
 apply List.ext_getElem?
 intro i
 rw [List.getElem?_mapIdx]
 cases ρ[i]? with
 | none=>rfl
 | some o=>simp
theorem yx {R:Addr -> Prop} {τ:Addr -> Option aJ} {ρ:aB} {σ:St} {H H':Hp} {fv:List Nat} {v:V} {d:DI.D} (Si:SI X F R τ ρ σ H) (es:aj H H') (r:bG X.K (gP X F) R τ fv H H' v d) :
  ∃ R' τ',(∀ p,R p -> R' p) /\ SI X F R' τ' (if aH b_ d then i6 fv ρ else ρ) σ H' /\ Rep (aC X.K H') (nd X.K R' (λ_=>False) (λ_=>none) H') [] v (aA aI d):=by
 by_cases ha:aH b_ d = true
 ·rw [if_pos ha];exact sr Si es r
 ·rw [if_neg ha]
  have r':bG X.K (gP X F) R τ [] H H' v d:=by
   obtain ⟨τt,fr,rp⟩:=r
   exact ⟨τt,fr,Rep.kg (P:=b_) (λ_ _ h=>h) (λk p xs f hf h=>by
    cases f with
    | ow=>exact h
    | fz=>exact h
    | al=>cases hf
    | sc=>exact h) rp (by simpa using ha)⟩
  have:=sr Si es r'
  rw [yu] at this;exact this
theorem Cr {R:Addr -> Prop} {τ:Addr -> Option aJ} {ρ:aB} {σ:St} {H H':Hp} {fv:List Nat} {vs:List V} {ds:List DI.D} (Si:SI X F R τ ρ σ H) (es:aj H H') (r:bT X.K (gP X F) R τ fv H H' vs ds) :
  ∃ R' τ',(∀ p,R p -> R' p) /\ SI X F R' τ' (if aw b_ ds then i6 fv ρ else ρ) σ H' /\ ag (aC X.K H') (nd X.K R' (λ_=>False) (λ_=>none) H') [] 0 vs (af aI ds):=by
 by_cases ha:aw b_ ds = true
 ·rw [if_pos ha];exact uU Si es r
 ·rw [if_neg ha]
  have r':bT X.K (gP X F) R τ [] H H' vs ds:=by
   obtain ⟨τt,fr,rp⟩:=r
   exact ⟨τt,fr,ag.kg (P:=b_) (λ_ _ h=>h) (λk p xs f hf h=>by
    cases f with
    | ow=>exact h
    | fz=>exact h
    | al=>cases hf
    | sc=>exact h) rp (by simpa using ha)⟩
  have:=uU Si es r'
  rw [yu] at this;exact this
noncomputable def wiP (X:Cx) (F:Addr -> Prop) (Φ:az) (p:Nat) (cs:List CE):TI:=λσ H Rr=>∃ R τ ρ xs d items,SI X F R τ ρ σ H /\ cD Φ cs ρ = ok xs /\ Φ p xs = ok d /\ ku d = ok items /\
 ∀ J H2 vs,aj H H2 -> bT X.K (gP X F) R τ (dy cs) H H2 vs xs -> Hs X.K J H2 vs xs items -> Rr J H2
theorem D4 (L:pC X S k Φ) {t:Tg} {p:Nat} {cs:List CE} {b:List CS} {tg iter:Expr} {x:List Stmt} {pos:Pos} {args:List Expr} (ht:Ak S t tg = true) (hi:S.px.pi p S.sc S.bl iter = some args) (hc:bF S cs args = true) (JP:QL iter = true) (htu:(decide (1100 <= p) || gp tg) = true) (hb:nk X x (pH X F Φ b)):PS X (.For tg iter x [] pos) (vB X F Φ (.fr t (.De p cs) b)):=by
 obtain ⟨g,hg,Cf⟩:=AZ (F:=F) L ht
 have oy:∀ y,foldedSetIterable iter X.env y = pure y:=by
  intro y
  cases iter <;> first | rfl | (cases JP;done)
 have pi:PI X tg iter (wiP X F Φ p cs):=λpins s σ H Rr I ⟨R,τ,ρ,xs,d,items,Si,c_,ed,ei,hR⟩ =>
  L.pr.i X _ _ k L.toLk.pX p iter args hi F cs tg htu (nH L.toLk cs args hc) pins s σ H R τ ρ xs d items I Si c_ ed ei Rr hR
 refine PS.imp (rH L.px L.calm pi hg hb oy) λD σ H hq=>?_
 obtain ⟨R,τ,ρ,r,Si,ev,hq⟩:=hq
 obtain ⟨⟨items,ρ1⟩,ei,ef⟩:=ah ev
 obtain ⟨xs,c_,ei⟩:=ah ei
 obtain ⟨d,ed,ei⟩:=ah ei
 obtain ⟨Wh,ei',ei⟩:=ah ei
 cases ei
 refine ⟨R,τ,ρ,xs,d,items,Si,c_,ed,ei',λJ H2 vs e2 Ee yz=>?_⟩
 obtain ⟨R',τ',hR,gU,rs⟩:=Cr Si e2 Ee
 have yc:=hq.from (Kp.of e2 hR)
 refine ⟨λi m σ' H'=>m = items.length - i /\ i <= items.length /\ k_ X F Φ t b R' H2 r items i σ' H',⟨_,rfl,Nat.zero_le _,R',τ',_,gU,Kp.refl R' H2,by rw [List.drop_zero];exact ef⟩,?_⟩
 rintro i m σ1 H1 ⟨rfl,hil,hf⟩
 obtain ⟨R1,τ1,ρ2,vH,k1,e1⟩:=id hf
 have MY:=k1.S_ rs
 have Gz:q_ X.K H2 vs xs H1:=⟨⟨R',rs,k1.l⟩,λa ys h=>k1.Qy h⟩
 by_cases hV:i < items.length
 ·refine .inr ⟨yz.go i H1 R1 Gz MY hV,λσ' H'=>k_ X F Φ t b R' H2 r items (i + 1) σ' H',λσ' H' h=>⟨items.length - (i + 1),by omega,rfl,hV,h⟩,λv H3 hy=>?_⟩
  obtain ⟨e3,dd,hd,rd⟩:=yz.vA i H1 R1 v H3 Gz MY hV hy
  have uH:items.drop i = dd :: items.drop (i + 1):=by
   rw [List.drop_eq_getElem_cons hV]
   rw [List.getElem?_eq_getElem hV] at hd
   cases hd;rfl
  rw [uH,eW] at e1
  obtain ⟨ρ3,eb,e1⟩:=ah e1
  obtain ⟨⟨fo,ρ4⟩,e4,e1⟩:=ah e1
  have k3:Kp R' H2 R1 H3:=k1.trans (Kp.of e3 λ_ h=>h)
  refine Cf v σ1 H3 _ R1 τ1 ρ2 ρ3 dd (vH.go e3) (mU rd) eb λσ' AH Ll=>⟨R1,AH,ρ3,(fo,ρ4),Ll,e4,?_⟩
  cases fo with
  | nx=>exact λσ3 H4 R3 τ3 s_ k4=>⟨R3,τ3,ρ4,s_,k3.trans k4,e1⟩
  | ct=>exact λσ3 H4 R3 τ3 s_ k4=>⟨R3,τ3,ρ4,s_,k3.trans k4,e1⟩
  | bk=>cases e1;exact λσ3 H4 R3 τ3 s_ k4=>yc σ3 H4 R3 τ3 s_ (k3.trans k4)
  | rt d=>cases e1;exact yc
 ·exact .inl ⟨yz.stop i H1 R1 Gz MY (by omega),m5 (n:=i) (by omega) yc σ1 H1 hf⟩
theorem ag.ints {T:jJ} {N:iQ}:∀ (is:List Int) {k:aJ} {n:Nat},ag T N k n (is.map V.int) (is.map DI.D.int)
 | [],_,_=>.nil
 | i :: is,_,_=>.cons (.int i) (ag.ints is)
theorem HZ (L:pC X S k Φ) {t:Tg} {it:CI} {b:List CS} {tg iter:Expr} {x:List Stmt} {pos:Pos} (ht:Ak S t tg = true) (hi:Pj S it iter = true) (hnp:(gp tg || BD it) = true) (hb:nk X x (pH X F Φ b)):PS X (.For tg iter x [] pos) (vB X F Φ (.fr t it b)):=by
 obtain ⟨g,hg,Cf⟩:=AZ (F:=F) L ht
 have oy:∀ y,foldedSetIterable iter X.env y = pure y:=by
  intro y
  cases iter <;> first | rfl | (cases it <;> first | exact (Bool.false_ne_true hi).elim | exact (Bool.false_ne_true (ao hi).2).elim)
 have lC:∀ {lo:Int} {n:Nat} {D:Ends} {R:Addr -> Prop} {τ:Addr -> Option aJ} {ρ:aB} {σ:St} {H H1:Hp} {r:Fo × aB},SI X F R τ ρ σ H -> aj H H1 -> mB X F D R H r ->
   eW (λd ρ=>cC t d ρ) (λρ=>bM Φ b ρ) ((List.range n).map λ(k:Nat)=>DI.D.int (lo + (k:Int))) ρ = ok r ->
   ∃ W:Nat -> Nat -> L2.St -> Hp -> Prop,(∃ m,W 0 m σ H1) /\ ∀ i m σ H,W i m σ H ->
    ((Ax lo n).stop i H /\ D.nx σ H) \/ ((Ax lo n).go i H /\ ∃ N:L2.St -> Hp -> Prop,(∀ σ' H',N σ' H' -> ∃ m',m' < m /\ W (i + 1) m' σ' H') /\ ∀ x H',(Ax lo n).vA i H x H' -> g x σ H' λσ2 H2=>pH X F Φ b { D with nx:=N,ct:=N,bk:=D.nx } σ2 H2):=by
  intro lo n D R τ ρ σ H H1 r Si e1 hq ef
  have rs:ag (aC X.K H1) (nd X.K R (λ_=>False) (λ_=>none) H1) [] 0 ((List.range n).map λ(k:Nat)=>V.int (lo + (k:Int))) ((List.range n).map λ(k:Nat)=>DI.D.int (lo + (k:Int))):=by
   have:=ag.ints (T:=aC X.K H1) (N:=nd X.K R (λ_=>False) (λ_=>none) H1) ((List.range n).map λ(k:Nat)=>lo + (k:Int)) (k:=[]) (n:=0)
   rw [List.map_map,List.map_map] at this;exact this
  have yc:=hq.from (Kp.of e1 (R':=R) λ_ h=>h)
  refine Ab (k_ X F Φ t b R H1 r _) ⟨R,τ,ρ,Si.go e1,Kp.refl R H1,by rw [List.drop_zero];exact ef⟩ (λi σ' H' hin h=>?_) (λσ' H' h=>m5 (by simp) yc σ' H' h)
  exact oO Cf rs yc i (.int (lo + i)) σ' H' (by rw [List.getElem?_map,List.getElem?_range hin];rfl) h
 intro pins s σ H D I WD
 cases it with
 | De p cs =>
  obtain ⟨JP,hz⟩:=ao hi
  obtain ⟨args,ha,QV⟩:=aN hz
  exact D4 L ht ha QV JP (by rw [Bool.or_comm];exact hnp) hb pins s σ H D I WD
 | lC a =>
  obtain ⟨R,τ,ρ,r,Si,ev,hq⟩:=WD
  obtain ⟨⟨items,ρ1⟩,ei,ef⟩:=ah ev
  obtain ⟨⟨y,as⟩,hv,hz⟩:=aN hi
  obtain ⟨p,JI,rfl⟩:=cM hv
  obtain ⟨hz1,QV⟩:=ao hz
  obtain ⟨hz3,h2⟩:=ao hz1
  obtain ⟨hz4,h1⟩:=ao hz3
  obtain rfl:y = _:=of_decide_eq_true hz4
  obtain ⟨e,hu,h3⟩:=aN QV
  obtain rfl:as = [e]:=bL hu
  have pa:PA X [e] (tM X F Φ [a]):=PA.imp (dB (gZ (F:=F) L.toLk a e h3).1 gm (bt h3 _ _)) λ_ _ _ h=>by
   have:=gG h
   obtain ⟨R,τ,ρ,d,Si,ev,hq⟩:=this
   exact ⟨R,τ,ρ,d,Si,ev,λv H' e r=>km (hq v H' e r)⟩
  refine rH L.px L.calm (qE (L.gl h1) (L.bl _ (of_decide_eq_true h2)) pa (bt h3 _ _)) hg hb oy pins s σ H D I ?_
  obtain ⟨d,ed,ei⟩:=ah ei
  cases d <;> try (simp at ei;done)
  rename_i n
  simp at ei
  obtain ⟨⟨c1,c2⟩,rfl,rfl⟩:=ei
  have pT:(eM:Int) = 1000000:=rfl
  refine ⟨R,τ,ρ,[.int n],Si,by show bd (aQ Φ a ρ) _ = _;rw [ed];rfl,λvs H1 e1 rv=>?_⟩
  obtain ⟨τt,fr,rs⟩:=rv
  cases rs.ints1
  ·refine ⟨n,rfl,by omega,by omega,?_⟩
   refine lC (lo:=0) Si e1 hq ?_
   simpa using ef
 | seq a =>
  obtain ⟨R,τ,ρ,r,Si,ev,hq⟩:=WD
  obtain ⟨⟨items,ρ1⟩,ei,ef⟩:=ah ev
  replace hi:=ao hi
  obtain ⟨d,ed,ei⟩:=ah ei
  have pe:=(gZ (F:=F) L.toLk a iter hi.1).1
  cases d <;> try (simp at ei;done)
  ·rename_i ds
   simp at ei
   obtain ⟨rfl,rfl⟩:=ei
   refine rH L.px L.calm (Bs pe) hg hb oy pins s σ H D I (tD.intro Si ed λv H1 e1 rv=>?_)
   obtain ⟨R',τ',hR,gU,rp⟩:=yx Si e1 rv
   rw [aA] at rp
   cases rp with
   | @tup _ p xs _ hp rs =>
    have yc:=hq.from (Kp.of e1 hR)
    refine ⟨p,rfl,⟨xs,hp⟩,Fw (xs:=xs) (k_ X F Φ t b R' H1 r (af aI ds)) ⟨R',τ',_,gU,Kp.refl R' H1,by rw [List.drop_zero];exact ef⟩ (λi σ' H' _ h=>?_) (λi x σ' H' hx h=>oO Cf rs yc i x σ' H' hx h) (λσ' H' h=>m5 (rs.length) yc σ' H' h)⟩
    obtain ⟨R2,τ2,ρ2,_,kp,_⟩:=h
    exact kp.Qy hp
  ·rename_i f ds
   simp at ei
   obtain ⟨rfl,rfl⟩:=ei
   refine rH L.px L.calm (xQ pe) hg hb oy pins s σ H D I (tD.intro Si ed λv H1 e1 rv=>?_)
   obtain ⟨R',τ',hR,gU,rp⟩:=yx Si e1 rv
   rw [aA] at rp
   cases rp with
   | @lst _ p xs _ _ hp rs =>
    have yc:=hq.from (Kp.of e1 hR)
    refine ⟨p,rfl,⟨xs,hp.sq⟩,Cs (xs:=xs) (k_ X F Φ t b R' H1 r (af aI ds)) ⟨R',τ',_,gU,Kp.refl R' H1,by rw [List.drop_zero];exact ef⟩ (λi σ' H' _ h=>?_) (λi x σ' H' hx h=>oO Cf rs yc i x σ' H' hx h) (λσ' H' h=>m5 (rs.length) yc σ' H' h)⟩
    obtain ⟨R2,τ2,ρ2,_,kp,_⟩:=h
    exact (kp.nd hp).sq
theorem rV {R R':Addr -> Prop} {τ':Addr -> Option aJ} {ρ':aB} {σ:St} {H H1:Hp} {p:Addr} {q:aJ} {n:Nd} {o:HO} (Si:SI X F R' τ' ρ' σ H1) (es:aj H H1) (hR:∀ p,R p -> R' p) (hp:fO H1 p n) (ht:τ' p = some q):Kp R H R' (upd H1 p o):=by
 obtain ⟨o0,LO,Oc,LN⟩:=fO.some hp
 exact ⟨hR,λa u ha e=>by
  have ne:a ≠ p:=λz=>by subst z;rw [Si.rt _ (hR _ ha)] at ht;cases ht
  rw [aE ne];exact es _ _ e,λa zs e=>by
  have e1:=es _ _ e
  have ne:a ≠ p:=λz=>by subst z;rw [LO] at e1;cases e1;exact Oc _ rfl
  rw [aE ne];exact e1,λa o u e=>by
  have e1:=es _ _ e
  have ne:a ≠ p:=λz=>by subst z;rw [LO] at e1;cases e1;exact LN _ _ rfl
  rw [aE ne];exact e1⟩
theorem jd.go {R:Addr -> Prop} {τ:Addr -> Option aJ} {H H':Hp} {v:V} {d:DI.D} (h:jd X R τ H v d) (e:aj H H'):jd X R τ H' v d :=
 let ⟨τt,h1,h2⟩:=h;⟨τt,λp q z=>let ⟨a,b,c,d⟩:=h1 p q z;⟨a,b,c,aj.ne e d⟩,h2.imp (λ_ _ h=>aC.same e h) λ_ _ _ _ h=>nd.same e h⟩
theorem Ny (L:pC X S k Φ) {i:Nat} {o:Expr} (h:iO S i o = true) (hv:∀ x p,o = .Name x p -> lG x = true):∃ x p,o = .Name x p /\ X.N[i]? = some x /\ L2.Loc X.env.scope x /\ PE X o (A3 i):=by
 cases o <;> try (exact (Bool.false_ne_true h).elim;done)
 rename_i x p
 have hn:=hv x p rfl
 replace h:=ao h
 unfold lG at hn
 simp only [Bool.and_eq_true,Bool.not_eq_true'] at hn
 have hN:X.N[i]? = some x:=by rw [L.N];exact of_decide_eq_true h.1
 have hl:=L.loc h.2
 exact ⟨x,p,rfl,hN,hl,rK hN (hl.imp id .inl) hn.1.1 hn.1.2⟩
theorem yB {e:CE} {ρ:aB} {r:DI.D × aB} {i:Nat} {ds:List DI.D} (h:jC Φ e ρ = ok r) (ho:r.2[i]? = some (some (.lst .ow ds))):ρ[i]? = some (some (.lst .ow ds)):=by
 by_cases hv:∃ j,e = .v j
 ·obtain ⟨j,rfl⟩:=hv
  simp only [jC] at h
  split at h
  ·split at h
   ·cases h
    by_cases iP:i = j
    ·subst iP
     rw [List.getElem?_set] at ho
     simp at ho
    ·rw [List.getElem?_set_ne (Ne.symm iP)] at ho;exact ho
   ·cases h;exact ho
  ·cases h
 ·have h':bd (aQ Φ e ρ) (λd=>ok (keep e d ρ)) = ok r:=by
   cases e <;> first | exact h | exact absurd ⟨_,rfl⟩ hv
  obtain ⟨d,_,er⟩:=ah h'
  cases er
  unfold keep at ho
  split at ho
  ·obtain ⟨d',h1,h2⟩:=yv _ _ _ _ ho
   split at h2
   ·cases d' <;> simp [aA] at h2
    rename_i f ds'
    cases f <;> simp [aI] at h2
   ·rw [h2];exact h1
  ·exact ho
theorem H9 (L:pC X S k Φ) {i:Nat} {e:CE} {x:Str} {v:Expr} {p p1 p2 pos:Pos} (hn:iO S i (.Name x p) = true) (hx:lG x = true) (he:bI S e v = true) (JX:(p1.endLine == p2.line) = true):PS X (.Expr (.Call (.Attribute (.Name x p) ("append" : Str) p1) [v] [] p2) pos) (vB X F Φ (.app i e)):=by
 obtain ⟨_,_,z,hN,hl,pe⟩:=Ny L hn (λy q e=>by cases e;exact hx)
 cases z
 refine PS.imp (xM (GU PySem.F.plainAttrs_list PySem.F.slot_list_append PySem.F.type_list_append zB pe (dB (rm (F:=F) L.toLk e v he) gm (bt he _ _)) (hfew:=by rw [bt he];rfl) (hline:=JX) (hs:=bt he _ _))) λD σ H hq=>?_
 obtain ⟨R,τ,ρ,r,Si,ev,hq⟩:=hq
 obtain ⟨r1,wO,ev⟩:=ah ev
 split at ev
 ·rename_i ds ho
  split at ev
  ·rename_i hc
   cases ev
   have ho:=rL ho
   obtain ⟨a,xs,hv,ha,hxl,hta,_⟩:=Si.own (yB wO ho)
   refine ⟨.ref a,hv,.inl ⟨rfl,_,dw.of ha⟩,R,τ,ρ,r1,Si,wO,λw H1 R1 τ1 es hR vH rk=>?_⟩
   obtain ⟨a1,xs1,QW,W_,aeJ,N6,MY⟩:=vH.own ho
   rw [hv] at QW
   cases QW
   have hz:sizeLine = 16777216:=sizeLine_eq
   have pT:eM = 1000000:=rfl
   refine ⟨a,xs1,w,rfl,rfl,W_,by omega,?_⟩
   obtain ⟨τ2,vz⟩:=vH.put (m:=ds.length) (g:=λys=>ys ++ [w]) ho hv W_ N6 MY rk λrs r=>ag.GB rs (by simpa using r)
   exact hq σ _ R1 τ2 vz (rV (n:=.l _) vH es hR W_ N6)
  ·cases ev
 ·cases ev
theorem D0 (L:pC X S k Φ) {i:Nat} {c e:CE} {x:Str} {ke v:Expr} {p p1 pos:Pos} (hn:iO S i (.Name x p) = true) (hx:lG x = true) (hk:bI S c ke = true) (he:bI S e v = true) (WR:hU v = false):PS X (.Assign [.Subscript (.Name x p) ke p1] v pos) (vB X F Φ (.setI i c e)):=by
 obtain ⟨_,_,z,hN,hl,pe⟩:=Ny L hn (λy q e=>by cases e;exact hx)
 cases z
 have hw:swappedStores [.Subscript (.Name x p) ke p1] v X.env = pure none:=by cases v <;> rfl
 have ha:∀ u,assign (.Subscript (.Name x p) ke p1) X.env u = (do
   let ov <- holding [u] (eval (.Name x p) X.env)
   let iv <- holding [u,ov] (eval ke X.env)
   standAt p1
   holding [u,ov,iv] (setItem ov iv u)
   release [u,ov,iv] []):=by
  intro u
  cases ke <;> first | rfl | (cases c <;> exact (Bool.false_ne_true hk).elim)
 refine PS.imp (wb (rm (F:=F) L.toLk e v he) (IG pe (gZ (F:=F) L.toLk c ke hk).1 set_list ha) (by first | rfl | (cases v <;> rfl) | (unfold swapsWithSole;exact o_ he WR _ _ _)) hw rfl) λD σ H hq=>?_
 obtain ⟨R,τ,ρ,r,Si,ev,hq⟩:=hq
 obtain ⟨r1,wO,ev⟩:=ah ev
 obtain ⟨n,en,ev⟩:=ah ev
 obtain ⟨d,ed,en⟩:=ah en
 have en:=yb en
 subst en
 split at ev
 ·rename_i ds ho
  split at ev
  ·rename_i j hj
   cases ev
   have ho:=rL ho
   obtain ⟨a,xs,hv,ha,hxl,hta,_⟩:=Si.own (yB wO ho)
   refine ⟨R,τ,ρ,r1,Si,wO,λw H1 R1 τ1 es hR vH rk=>?_⟩
   refine ⟨.ref a,hv,tD.intro vH ed λu H2 e2 ru=>?_⟩
   cases ru.isInt
   have vz:=vH.go e2
   obtain ⟨a2,zd,JN,J8,N4,B9,Ay⟩:=vz.own ho
   rw [hv] at JN
   cases JN
   refine ⟨a,zd,n,j,rfl,rfl,J8,by rw [N4];exact hj,?_⟩
   obtain ⟨τ3,s_⟩:=vz.put (m:=j) (g:=λys=>ys.set j w) ho hv J8 B9 Ay (rk.go e2) λrs r=>ag.setAt (j:=j) rs (by simpa using r)
   exact hq σ _ R1 τ3 s_ (rV (n:=.l _) vz (es.trans e2) hR J8 B9)
  ·cases ev
 ·cases ev
end
end DI
end
section
namespace DI
open PySem PySem.Spec PyProof.Rows L2
section
variable {X:Cx} {S:Sx} {k:Nat} {F:Addr -> Prop} {Φ:az}
theorem IE (x:Str) (p:Pos):(Expr.Name x p).pos = p:=rfl
theorem vT {env:Env} {x y:Str} {px py pt Lw:Pos} {kt k2:Nat} {a b:Expr} (hk:env.scope.kind = .function) (hx:env.scope.names.lookup x = some .local) (hy:env.scope.names.lookup y = some .local) (hxy:x ≠ y) (hl:px.line = py.line)
  (h1:[a,b].all (foldedForSure 8) = false) (h2:[a,b].all (constantsAlone 8) = false) (h3:([a,b].any λe=>match e with | .Starred ..=>true | _=>false) = false) :
  swappedStores [.Tuple [.Name x px,.Name y py] kt pt] (.Tuple [a,b] k2 Lw) env = pure (some [x,y]):=by
 have hb:env.blockKind = .function:=by unfold Env.blockKind;rw [hk];rfl
 have kx:env.kindOf x = some .local:=hx
 have ky:env.kindOf y = some .local:=hy
 have e1:([x,y].eraseDups.length != [x,y].length) = false:=by
  have:¬ (y == x) = true:=by simp;exact λz=>hxy z.symm
  have h':(y == x) = false:=by simpa using this
  simp [List.eraseDups_cons,List.filter,h',hxy]
 unfold swappedStores
 simp only [hb,h3,List.filterMap_cons,List.filterMap_nil,kx,ky,hl,IE,List.head?_cons,Option.map_some,Option.getD_some,h1,h2]
 simp only [beq_self_eq_true,Bool.and_self,if_true]
 rw [if_neg (by simp)]
 refine (if_neg ?_).trans ?_
 ·intro z;exact Bool.false_ne_true (h3.symm.trans z)
 rw [if_neg (by
  rw [e1]
  simp),if_neg Bool.false_ne_true,if_neg Bool.false_ne_true]
theorem nW {R R':Addr -> Prop} {A:Addr -> Prop} {τ τ':Addr -> Option aJ} {H:Hp} {kp:aJ} {v:V} {d:DI.D} (h:Rep (aC X.K H) (nd X.K R A τ H) kp v d) (hf:aH anyF d = false):jd X R' τ' H v d :=
 ⟨λ_=>none,λ_ _ h=>by simp at h,Rep.without (P:=anyF) (λ_ _ h=>h) (λk k' p xs f hf h=>by cases hf) h hf _⟩
theorem HY (L:pC X S k Φ) {i j:Nat} {a b:CE} {tg v:Expr} {pos:Pos} (he:bI S (.tup [a,b]) v = true) (hp:CG S i j tg v = true):PS X (.Assign [tg] v pos) (vB X F Φ (.par i j a b)):=by
 obtain ⟨ts,QW,q1⟩:=aN hp
 obtain ⟨kt,pt,rfl⟩:=jn QW
 obtain ⟨⟨t1,t2⟩,JN,q2⟩:=aN q1
 obtain rfl:ts = [t1,t2]:=jL JN
 obtain ⟨⟨x,px⟩,hv3,q3⟩:=aN q2
 obtain rfl:t1 = _:=xo hv3
 obtain ⟨⟨y,py⟩,hv4,q4⟩:=aN q3
 obtain rfl:t2 = _:=xo hv4
 obtain ⟨vs,hv5,q5⟩:=aN q4
 obtain ⟨k2,Lw,rfl⟩:=jn hv5
 obtain ⟨⟨ea,eb⟩,hv6,q6⟩:=aN q5
 obtain rfl:vs = [ea,eb]:=jL hv6
 ·obtain ⟨q7,Kd⟩:=ao q6
  obtain ⟨q8,h9⟩:=ao q7
  obtain ⟨q9,h8⟩:=ao q8
  obtain ⟨M8,h7⟩:=ao q9
  obtain ⟨Tq,h6⟩:=ao M8
  obtain ⟨Tp,h5⟩:=ao Tq
  obtain ⟨To,h4⟩:=ao Tp
  obtain ⟨Tn,h3⟩:=ao To
  obtain ⟨h1,h2⟩:=ao Tn
  replace h1:S.N[i]? = some x:=of_decide_eq_true h1
  replace h2:S.N[j]? = some y:=of_decide_eq_true h2
  replace h3:=of_decide_eq_true h3
  replace h4:=of_decide_eq_true h4
  replace h5:=of_decide_eq_true h5
  replace h6:=of_decide_eq_true h6
  replace h7:=of_decide_eq_true h7
  replace h8:=nZ h8
  replace h9:=nZ h9
  replace Kd:=of_decide_eq_true Kd
  replace he:=ao he
  have pa:=xC (F:=F) L.toLk [a,b] [ea,eb] he.1
  refine PS.imp (ID L.calm L.nd (by rw [L.N];exact h1) (by rw [L.N];exact h2) h3 (by rw [L.sc];exact h4) (by rw [L.sc];exact h5) pa (vT (by rw [L.sc];exact L.fk) (by rw [L.sc];exact h4) (by rw [L.sc];exact h5) h6 h7 h8 h9 Kd)) λD σ H hq=>?_
  obtain ⟨R,τ,ρ,r,Si,ev,hq⟩:=hq
  obtain ⟨d1,ed1,ev⟩:=ah ev
  obtain ⟨d2,ed2,ev⟩:=ah ev
  simp only [G6] at ev
  obtain ⟨⟨f1,f2,l1,l2⟩,rfl⟩:=ev
  refine ⟨R,τ,ρ,[d1,d2],Si,by show bd (aQ Φ a ρ) _ = _;rw [ed1];show bd (bd (aQ Φ b ρ) _) _ = _;rw [ed2];rfl,λvs H1 e1 rv=>?_⟩
  obtain ⟨τt,fr,rs⟩:=rv
  obtain ⟨v1,v2,rfl,r1,r2⟩:=rs.two
  ·obtain ⟨τ1,S1⟩:=(Si.go e1).set (i:=i) (nW r1 f1) l1
   obtain ⟨τ2,S2⟩:=S1.set (i:=j) (nW r2 f2) (by simpa using l2)
   exact ⟨v1,v2,rfl,hq _ H1 R τ2 S2 (Kp.of e1 λ_ h=>h)⟩
theorem En {i j:Nat} {ρ:aB} {z:Int} {r:Fo × aB} (h:qC i j ρ z = ok r):∃ (ns ms:List Int) (m:Nat),ρ[i]? = some (some (.tup (ns.map D.int))) /\ ρ[j]? = some (some (.lst .ow (ms.map D.int))) /\ DI.tm ms.length z = some m /\ ns.length < 1000 /\ ms.length < 1000 /\ i ≠ j /\
  r = (.nx,(ρ.set j (some (.lst .ow ((ms.eraseIdx m).map D.int)))).set i (some (.tup ((ns ++ [ms.getD m 0]).map D.int)))):=by
 unfold qC at h
 split at h
 ·rename_i ds hi
  split at h
  ·rename_i es hj
   split at h
   ·rename_i ns hn
    split at h
    ·rename_i ms hm
     split at h
     ·rename_i m hx
      obtain ⟨hc,h⟩:=qK h
      cases cZ hn
      cases cZ hm
      exact ⟨ns,ms,m,hi,rL hj,hx,hc.1,hc.2.1,hc.2.2,h.symm⟩
     ·cases h
    ·cases h
   ·cases h
  ·cases h
 ·cases h
theorem qI {α β:Type} (f:α -> β):∀ (ms:List α) (m:Nat),(ms.map f).eraseIdx m = (ms.eraseIdx m).map f
 | [],_=>rfl
 | _ :: _,0=>rfl
 | x :: ms,m + 1=>by
  show f x :: (ms.map f).eraseIdx m = f x :: (ms.eraseIdx m).map f
  rw [qI f ms m]
theorem D3 (L:pC X S k Φ) {i j nt:Nat} {e:CE} {x y:Str} {v:Expr} {p q q1 p1 p2 p3 p4 pos:Pos} (hn:iO S i (.Name x p) = true) (ye:iO S i (.Name x q) = true) (hx:lG x = true) (hm:iO S j (.Name y q1) = true) (hy:lG y = true) (he:bI S e v = true) (JX:(p1.endLine == p2.line) = true) :
  PS X (.Assign [.Name x p] (.BinOp (.Name x q) .Add (.Tuple [.Call (.Attribute (.Name y q1) ("pop" : Str) p1) [v] [] p2] nt p3) p4) pos) (vB X F Φ (.pop2 i j e)):=by
 obtain ⟨_,_,z,hN,hl,pe⟩:=Ny L ye (λy q e=>by cases e;exact hx)
 cases z
 obtain ⟨_,_,z,hN2,wD,pe2⟩:=Ny L hm (λy q e=>by cases e;exact hy)
 cases z
 refine PS.imp (wb (xU xX pe (Bw (dB (GU PySem.F.plainAttrs_list PySem.F.slot_list_pop PySem.F.type_list_pop BN pe2 (dB (gZ (F:=F) L.toLk e v he).1 gm (bt he _ _)) (hfew:=by rw [bt he];rfl) (hline:=JX) (hs:=bt he _ _)) gm))) (xS L hn)) λE σ H hq=>?_
 obtain ⟨R,τ,ρ,r,Si,ev,hq⟩:=hq
 obtain ⟨z,ez,ev⟩:=ah ev
 obtain ⟨d,ed,ez⟩:=ah ez
 have ez:=yb ez
 subst ez
 obtain ⟨ns,ms,m,hi,hj,hix,zO,hms,iP,rfl⟩:=En ev
 obtain ⟨v0,QX,rp0⟩:=Si.rep i _ hi
 obtain ⟨a,xs,hv,ha,hxl,hta,rs⟩:=Si.own hj
 have hz:sizeLine = 16777216:=sizeLine_eq
 refine ⟨v0,QX,.ref a,hv,.inl ⟨rfl,_,dw.of ha⟩,tD.intro Si ed λu H1 e1 ru=>?_⟩
 cases ru.isInt
 have vH:=Si.go e1
 obtain ⟨a2,zd,JN,J8,N4,B9,Ay⟩:=vH.own hj
 rw [hv] at JN
 cases JN
 have Wu:=Ay.ofInts
 have hsq:=rX hix
 have WT:ms[m]? = some (ms.getD m 0):=by rw [List.getD_eq_getElem?_getD,List.getElem?_eq_getElem hsq.2.1];rfl
 refine ⟨a,zd,z,m,.int (ms.getD m 0),rfl,rfl,J8,by omega,by omega,by rw [Wu,List.length_map];exact hsq.1,by rw [Wu,List.getElem?_map,WT];rfl,by show 1 <= sizeLine;omega,λp hp=>?_⟩
 obtain ⟨τ2,vz⟩:=vH.put (m:=0) (g:=λys=>ys.eraseIdx m) (v:=.int 0) (d:=.int 0) (ds':=(ms.eraseIdx m).map D.int) hj hv J8 B9 Ay ⟨λ_=>none,λ_ _ h=>by simp at h,.int 0⟩ (λ_ _=>by
  show ag _ _ _ _ (zd.eraseIdx m) _
  rw [Wu,qI];exact eD _)
 have es:aj (upd H1 a (.lst (zd.eraseIdx m))) (upd (upd H1 a (.lst (zd.eraseIdx m))) p (.tup [.int (ms.getD m 0)])):=aj.upd hp
 have s_:=vz.go es
 have kp:Kp R H R (upd (upd H1 a (.lst (zd.eraseIdx m))) p (.tup [.int (ms.getD m 0)])):=(rV (n:=.l _) vH e1 (λ_ h=>h) J8 B9).trans (Kp.of es λ_ h=>h)
 have WY:(ρ.set j (some (.lst .ow ((ms.eraseIdx m).map D.int))))[i]? = some (some (.tup (ns.map D.int))):=by rw [List.getElem?_set_ne (Ne.symm iP)];exact hi
 have hV:i < (ρ.set j (some (.lst .ow ((ms.eraseIdx m).map D.int)))).length:=by
  by_cases z:i < (ρ.set j (some (.lst .ow ((ms.eraseIdx m).map D.int)))).length
  ·exact z
  ·rw [List.getElem?_eq_none (by omega)] at WY;cases WY
 obtain ⟨w0,hw0,rp3⟩:=s_.rep i _ WY
 rw [QX] at hw0
 cases hw0
 cases rp3 with
 | @tup _ p0 xs0 _ hn0 S8 =>
  have Wv:=S8.ofInts
  refine ⟨p0,p,xs0,[.int (ms.getD m 0)],rfl,rfl,hn0,aC.of aD,by rw [Wv,List.length_map];simp;omega,λz=>?_,(λz=>by cases z),λp' uF=>?_⟩
  ·rw [Wv] at z
   have z:=List.map_eq_nil_iff.mp z
   subst z
   obtain ⟨τ4,Si4⟩:=s_.set (i:=i) (v:=.ref p) (d:=.tup (([] ++ [ms.getD m 0]).map D.int)) ⟨λ_=>none,λ_ _ h=>by simp at h,.tup (aC.of aD) (eD [ms.getD m 0])⟩ hV
   exact hq _ _ R τ4 Si4 kp
  ·have Hg:=aj.upd (o:=.tup (xs0 ++ [.int (ms.getD m 0)])) uF
   obtain ⟨τ4,Si4⟩:=(s_.go Hg).set (i:=i) (v:=.ref p') (d:=.tup ((ns ++ [ms.getD m 0]).map D.int)) ⟨λ_=>none,λ_ _ h=>by simp at h,.tup (aC.of aD) (by rw [Wv,show ns.map V.int ++ [V.int (ms.getD m 0)] = (ns ++ [ms.getD m 0]).map V.int by simp];exact eD _)⟩ hV
   exact hq _ _ R τ4 Si4 (kp.trans (Kp.of Hg λ_ h=>h))
mutual
theorem H_ (L:pC X S k Φ):∀ (c:CS) (st:Stmt),Pg S c st = true -> PS X st (vB X F Φ c)
 | .asg t e,st,h=>by
  obtain ⟨⟨C_,v⟩,v1,q1⟩:=aN h
  obtain ⟨pos,rfl⟩:=kj v1
  obtain ⟨tg,v2,q2⟩:=aN q1
  obtain rfl:C_ = [tg]:=bL v2
  obtain ⟨q3,h4⟩:=ao q2
  obtain ⟨q4,h3⟩:=ao q3
  obtain ⟨h1,h2⟩:=ao q4
  have h1:bI S e v = true:=h1
  replace h3:(isTup v && isTup tg) = false:=nZ h3
  cases hc:hU v with
  | false=>exact A7 L h1 h2 h3 (o_ h1 hc _ _ _)
  | true =>
   have h4:(!hU v || isNm tg) = true:=h4
   rw [hc] at h4
   obtain ⟨x,p,rfl⟩:=E_ h4
   obtain ⟨iN,gens,sc,Md,rfl⟩:=zJ hc
   cases e <;> try (exact (Bool.false_ne_true h1).elim)
   cases t with
   | tp is=>exact (Bool.false_ne_true h2).elim
   | nm i =>
    cases hb:R7 S (.Name x p) (.ListComp iN gens sc Md) with
    | true=>exact D5 L h1 h2 (by rw [Gy L,hb])
    | false=>exact A7 L h1 h2 h3 (by
      show swapsWith (.ListComp iN gens sc Md) (some (.Name x p)) pos.line X.env = _
      rw [Gy L,hb])
 | .par i j a b,st,h=>by
  obtain ⟨⟨C_,v⟩,v1,q1⟩:=aN h
  obtain ⟨pos,rfl⟩:=kj v1
  obtain ⟨tg,v2,q2⟩:=aN q1
  obtain rfl:C_ = [tg]:=bL v2
  exact HY L (ao q2).1 (ao q2).2
 | .ret e,st,h=>by
  obtain ⟨z,v1,q1⟩:=aN h
  obtain ⟨pos,rfl⟩:=DG v1
  obtain ⟨v,v2,q2⟩:=aN q1
  obtain rfl:z = some v:=v2
  exact HX L q2
 | .rs c,st,h=>λ_ _ _ _ _ _ ⟨R,τ,ρ,r,Si,ev,hq⟩=>by cases ev
 | .ex e,st,h=>by
  obtain ⟨v,v1,q1⟩:=aN h
  obtain ⟨pos,rfl⟩:=vL v1
  exact ML L (ao q1).1 (nZ (ao q1).2)
 | .mut p i es,st,h=>by
  obtain ⟨⟨o,args⟩,ha,q1⟩:=aN h
  obtain ⟨q2,h3⟩:=ao q1
  obtain ⟨h1,h2⟩:=ao q2
  obtain ⟨x,pp,rfl,hN,hl,pe⟩:=Ny L h1 (λy q e=>by cases e;exact h2)
  exact L.pm.m X _ _ k L.toLk.pX L.nd L.Fx p st x pp args ha i hN hl pe F es (nH L.toLk es args h3)
 | .pop2 i j e,st,h=>by
  obtain ⟨⟨C_,v⟩,v1,q1⟩:=aN h
  obtain ⟨pos,rfl⟩:=kj v1
  obtain ⟨tg,v2,q2⟩:=aN q1
  obtain rfl:C_ = [tg]:=bL v2
  obtain ⟨h1,q3⟩:=ao q2
  obtain ⟨⟨l,o,t⟩,v3,q4⟩:=aN q3
  obtain ⟨p4,rfl⟩:∃ p,v = .BinOp l o t p:=xr v3
  obtain ⟨q5,q6⟩:=ao q4
  obtain ⟨q7,h4⟩:=ao q5
  obtain ⟨h2,h3⟩:=ao q7
  obtain rfl:o = .Add:=of_decide_eq_true h4
  obtain ⟨ts,v4,q8⟩:=aN q6
  obtain ⟨nt,p3,rfl⟩:∃ n p,t = .Tuple ts n p:=jn v4
  obtain ⟨c,v5,q9⟩:=aN q8
  obtain rfl:ts = [c]:=bL v5
  obtain ⟨⟨fn,as,ks,p2⟩,v6,M8⟩:=aN q9
  obtain rfl:c = _:=ll v6
  obtain ⟨Tq,Tp⟩:=ao M8
  obtain rfl:ks = []:=kE Tq
  obtain ⟨⟨ob,nm,p1⟩,v7,To⟩:=aN Tp
  obtain rfl:fn = _:=nE v7
  obtain ⟨Tn,q15⟩:=ao To
  obtain ⟨w,v8,h9⟩:=aN q15
  obtain rfl:as = [w]:=bL v8
  obtain ⟨q16,h8⟩:=ao Tn
  obtain ⟨q17,h7⟩:=ao q16
  obtain ⟨h5,h6⟩:=ao q17
  obtain rfl:nm = _:=of_decide_eq_true h5
  obtain ⟨x,p,rfl⟩:∃ x p,tg = .Name x p:=kQ h1
  obtain ⟨x',q',rfl⟩:∃ x p,l = .Name x p:=kQ h2
  obtain ⟨y,q1,rfl⟩:∃ x p,ob = .Name x p:=kQ h6
  obtain rfl:x' = x:=by
   have a:=of_decide_eq_true (ao (show _ = true from h1)).1
   have b:=of_decide_eq_true (ao (show _ = true from h2)).1
   exact Option.some.inj (b.symm.trans a)
  exact D3 L h1 h2 h3 h6 h7 h9 h8
 | .app i e,st,h=>by
  obtain ⟨c,v1,q1⟩:=aN h
  obtain ⟨pos,rfl⟩:=vL v1
  obtain ⟨⟨fn,as,ks,p2⟩,v2,q2⟩:=aN q1
  obtain rfl:c = _:=ll v2
  obtain ⟨q3,q4⟩:=ao q2
  obtain rfl:ks = []:=kE q3
  obtain ⟨⟨o,a,p1⟩,v3,q5⟩:=aN q4
  obtain rfl:fn = _:=nE v3
  obtain ⟨q6,q7⟩:=ao q5
  obtain ⟨v,v4,h4⟩:=aN q7
  obtain rfl:as = [v]:=bL v4
  obtain ⟨q8,h5⟩:=ao q6
  obtain ⟨q9,h2⟩:=ao q8
  obtain ⟨M8,h1⟩:=ao q9
  obtain rfl:a = _:=of_decide_eq_true M8
  obtain ⟨x,p,rfl⟩:∃ x p,o = .Name x p:=kQ h1
  exact H9 L h1 h2 h4 h5
 | .setI i k e,st,h=>by
  obtain ⟨⟨C_,v⟩,v1,q1⟩:=aN h
  obtain ⟨pos,rfl⟩:=kj v1
  obtain ⟨tg,v2,q2⟩:=aN q1
  obtain rfl:C_ = [tg]:=bL v2
  obtain ⟨⟨o,ke⟩,v3,q3⟩:=aN q2
  obtain ⟨p1,rfl⟩:=ki v3
  obtain ⟨q4,h5⟩:=ao q3
  obtain ⟨q5,h4⟩:=ao q4
  obtain ⟨q6,h3⟩:=ao q5
  obtain ⟨h1,h2⟩:=ao q6
  obtain ⟨x,p,rfl⟩:∃ x p,o = .Name x p:=kQ h1
  exact D0 L h1 h2 h3 h4 (nZ h5)
 | .ifs c a b,st,h=>by
  obtain ⟨⟨t,x,y⟩,v1,q1⟩:=aN h
  obtain ⟨pos,rfl⟩:=DK v1
  obtain ⟨q2,h3⟩:=ao q1
  obtain ⟨h1,h2⟩:=ao q2
  exact MK L h1 (jo L a _ h2) (jo L b _ h3)
 | .HD c b,st,h=>by
  obtain ⟨⟨t,x,y⟩,v1,q1⟩:=aN h
  obtain ⟨pos,rfl⟩:=DF v1
  obtain ⟨q2,h3⟩:=ao q1
  obtain ⟨h1,h2⟩:=ao q2
  obtain rfl:y = []:=kE h1
  exact A6 L h2 (jo L b _ h3)
 | .fr t it b,st,h=>by
  obtain ⟨⟨tg,iter,x,y⟩,v1,q1⟩:=aN h
  obtain ⟨pos,rfl⟩:=DL v1
  obtain ⟨q2,h5⟩:=ao q1
  obtain ⟨q3,h4⟩:=ao q2
  obtain ⟨q4,h3⟩:=ao q3
  obtain ⟨h1,h2⟩:=ao q4
  obtain rfl:y = []:=kE h1
  exact HZ L h2 h3 h4 (jo L b _ h5)
theorem jo (L:pC X S k Φ):∀ (cs:List CS) (MI:List Stmt),aL S cs MI = true -> nk X MI (pH X F Φ cs)
 | [],[],_=>nk.imp Em λD σ H ⟨R,τ,ρ,r,Si,ev,hq⟩=>by cases ev;exact hq σ H R τ Si (Kp.refl R H)
 | [],_ :: _,h=>by exact (Bool.false_ne_true h).elim
 | _ :: _,[],h=>by exact (Bool.false_ne_true h).elim
 | c :: cs,st :: MI,h=>by
  replace h:=ao h
  have h1:PS X st (vB X F Φ c):=H_ L c st h.1
  have h2:nk X MI (pH X F Φ cs):=jo L cs MI h.2
  refine nk.imp (Bp h1 h2) λD σ H hq=>?_
  obtain ⟨R,τ,ρ,r,Si,ev,hq⟩:=hq
  obtain ⟨⟨fo,ρ1⟩,e1,ev⟩:=ah ev
  refine ⟨R,τ,ρ,(fo,ρ1),Si,e1,?_⟩
  cases fo with
  | nx=>exact λσ' H' R' τ' gU kp=>⟨R',τ',ρ1,r,gU,ev,hq.from kp⟩
  | bk=>cases ev;exact hq
  | ct=>cases ev;exact hq
  | rt d=>cases ev;exact hq
end
end
theorem uV {P:Program} {w:World} {K:PySem.W.Frag} {mg:Str -> Option Value} {base:Heap} {x qual:Str} {st:Stmt} {f:Addr} {fd:FuncData} {ps:List Str} {k:Nat} {N bl:List Str} {cs:List (Str × GK)} {px:Px} {Fx:Nat -> Option Str} {Φ:az} {m:List D -> O D} {body:List CS}
  (Fu:Ln K x qual st f fd) (Sc:au N ps (aa st)) (J0:aL ⟨aa st,N,Fx,bl,cs,px⟩ body (ae st) = true) (JP:Gg px Φ) (WG:Ry px Φ)
  (W7:∀ y ∈ bl,mg y = none) (Fh:∀ y i,(y,i) ∈ cs -> ∃ u,mg y = some u /\ RA K i u)
  (Dk:∀ g y,Fx g = some y -> ∃ (f:Addr) (fd:FuncData) (ps:List Str),jZ P w K mg base C8 k f fd ps (GA K ps.length (Φ g)) /\ mg y = some (.ref f) /\ PySem.W.keepIn K (.ref f) = true /\ Binds K fd ps [] /\ ∀ ds r,Φ g ds = ok r -> ds.length = ps.length)
  (hm:∀ ds r,m ds = ok r -> ds.length = ps.length /\ v_ Φ N.length body ds = ok r):jZ P w K mg base C8 (k + 1) f fd ps (GA K ps.length m):=by
 refine Fu.ok (N:=N) Sc (λvs H Q E ⟨_,_,_,h,_⟩=>h) λmx A outer s H vs Q E hr Di=>?_
 obtain ⟨F,ds,r,hl,rs,er,hq⟩:=Di
 obtain ⟨Q1,wB⟩:=hm ds r er
 let X:=(wY C8 P w K mg base N qual (aa st) f mx A outer s H E).Nu
 have L:pC X ⟨aa st,N,Fx,bl,cs,px⟩ k Φ:=⟨⟨rfl,rfl,Sc.nd,rfl,hr,W7,λg y h=>⟨Dk g y h⟩,Fh,JP⟩,λ_=>rfl,PassesOwn.never,Sc.kind,WG⟩
 refine ⟨pH X F Φ body,jo L body _ J0,?_⟩
 unfold v_ at wB
 obtain ⟨⟨fo,ρ'⟩,eb,wB⟩:=ah wB
 have hpl:ps.length <= N.length:=by have:=congrArg List.length Sc.pre;rw [List.length_take] at this;omega
 have LM:vs.length = ds.length:=rs.length
 refine ⟨λp=>F p /\ H p ≠ none,λ_=>none,_,(fo,ρ'),⟨?_,λi d hi=>?_,λ_ _=>rfl,λp h=>h.2,λp h=>.inl h.1,λ_ _ h=>by simp at h,λ_ _ h=>by simp at h,aj.refl H⟩,eb,?_⟩
 ·unfold L2.start
  simp [LM]
 ·have hid:i < ds.length:=by
   by_cases mX:i < ds.length
   ·exact mX
   ·rw [List.getElem?_append_right (by simpa using mX)] at hi
    rw [List.getElem?_replicate] at hi
    split at hi <;> simp at hi
  rw [List.getElem?_append_left (by simpa using hid),List.getElem?_map] at hi
  have hd:ds[i]? = some d:=by
   cases q:ds[i]? with
   | none=>rw [q] at hi;cases hi
   | some z=>rw [q] at hi;simp at hi;rw [hi]
  obtain ⟨v,hv,rv⟩:=rs.get hd
  refine ⟨v,?_,rv.imp (q:=[0 + i]) (q':=[i]) (λ_ _ h=>h) λc p xs f h=>?_⟩
  ·unfold L2.start
   rw [List.getElem?_append_left (by rw [List.length_map,LM];exact hid),List.getElem?_map,hv];rfl
  ·cases f with
   | ow=>exact nomatch h.2
   | fz=>exact ⟨h.1,h.2,h.1.ne⟩
   | al=>exact h.2.elim
   | sc=>exact h
 ·cases fo with
  | nx =>
   cases wB
   exact λσ' H' R' τ' gU kp=>hq .bA H' gU.same ⟨λ_=>none,λ_ _ h=>by simp at h,.bA⟩
  | bk=>simp at wB
  | ct=>simp at wB
  | rt d =>
   cases wB
   exact λv H' es rr=>hq v H' es rr
structure Ent (P:Program) (w:World) (K:PySem.W.Frag) (mg:Str -> Option Value) (base:Heap) (k:Nat) (y:Str) (m:List D -> O D):Prop where
 ex:∃ (f:Addr) (fd:FuncData) (ps:List Str),jZ P w K mg base C8 k f fd ps (GA K ps.length m) /\ mg y = some (.ref f) /\ PySem.W.keepIn K (.ref f) = true /\ Binds K fd ps [] /\ ∀ ds r,m ds = ok r -> ds.length = ps.length
theorem Ent.up {P:Program} {w:World} {K:PySem.W.Frag} {mg:Str -> Option Value} {base:Heap} {k k':Nat} {y:Str} {m:List D -> O D} (h:Ent P w K mg base k y m) (hk:k <= k'):Ent P w K mg base k' y m:=by
 obtain ⟨f,fd,ps,h1,h2⟩:=h.ex
 exact ⟨f,fd,ps,h1.mono hk,h2⟩
theorem ent {P:Program} {w:World} {K:PySem.W.Frag} {mg:Str -> Option Value} {base:Heap} {x qual:Str} {st:Stmt} {f:Addr} {fd:FuncData} {ps:List Str} {k:Nat} {N bl:List Str} {cs:List (Str × GK)} {px:Px} {Fx:Nat -> Option Str} {Φ:az} {m:List D -> O D} {body:List CS}
  (Fu:Ln K x qual st f fd) (hmg:mg x = some (.ref f)) (hb:Binds K fd ps []) (Sc:au N ps (aa st)) (J0:aL ⟨aa st,N,Fx,bl,cs,px⟩ body (ae st) = true) (JP:Gg px Φ) (WG:Ry px Φ) (W7:∀ y ∈ bl,mg y = none) (Fh:∀ y i,(y,i) ∈ cs -> ∃ u,mg y = some u /\ RA K i u)
  (Dk:∀ g y,Fx g = some y -> Ent P w K mg base k y (Φ g)) (hm:∀ ds r,m ds = ok r -> ds.length = ps.length /\ v_ Φ N.length body ds = ok r):Ent P w K mg base (k + 1) x m :=
 ⟨f,fd,ps,uV Fu Sc J0 JP WG W7 Fh (λg y h=>(Dk g y h).ex) hm,hmg,Fu.kp,hb,λds r h=>(hm ds r h).1⟩
noncomputable def ak {α:Type} (P:α -> Prop):List α -> Prop
 | []=>True
 | a :: l=>P a /\ ak P l
theorem ak.mem {α:Type} {P:α -> Prop}:∀ {l:List α},ak P l -> ∀ a ∈ l,P a
 | [],_,_,h=>by cases h
 | _ :: _,h,_,hm=>(List.mem_cons.mp hm).elim (λe=>e ▸ h.1) (ak.mem h.2 _)
theorem ak.tab {β:Type} {P:Nat -> β -> Prop}:∀ {l:List (Nat × β)},ak (λp=>P p.1 p.2) l -> ∀ g y,l.lookup g = some y -> P g y
 | [],_,_,_,h=>by cases h
 | (k,b) :: l,h,g,y,e=>by
  rw [List.lookup_cons] at e
  cases hg:g == k with
  | true=>rw [hg] at e;cases e;rw [eq_of_beq hg];exact h.1
  | false=>rw [hg] at e;exact ak.tab h.2 g y e
theorem ak.two {β γ:Type} {P:β -> γ -> Prop} {l:List (β × γ)} (h:ak (λp=>P p.1 p.2) l) (y:β) (i:γ) (hm:(y,i) ∈ l):P y i:=ak.mem h _ hm
theorem iZ {α:Type} {l:List α} (h:l.length = 1):∃ a,l = [a]:=List.length_eq_one_iff.mp h
theorem gI {α:Type} {l:List α} (h:l.length = 2):∃ a b,l = [a,b]:=by
 cases l with
 | nil=>cases h
 | cons a l=>obtain ⟨b,rfl⟩:=iZ (Nat.succ.inj h);exact ⟨a,b,rfl⟩
theorem rT {α:Type} {l:List α} (h:l.length = 3):∃ a b c,l = [a,b,c]:=by
 cases l with
 | nil=>cases h
 | cons a l=>obtain ⟨b,c,rfl⟩:=gI (Nat.succ.inj h);exact ⟨a,b,c,rfl⟩
noncomputable def ou:List D -> Option (List Int)
 | []=>some []
 | .int i :: ds=>(ou ds).map (i :: ·)
 | _ :: _=>none
theorem oq:∀ ns:List Int,ou (ns.map D.int) = some ns
 | []=>rfl
 | n :: ns=>by simp [ou,oq ns]
theorem uq:∀ {ds:List D} {ns:List Int},ou ds = some ns -> ds = ns.map D.int
 | [],ns,h=>by simp [ou] at h;subst h;rfl
 | d :: ds,ns,h=>by
  cases d <;> simp [ou] at h
  obtain ⟨ms,h1,rfl⟩:=h
  rw [uq h1];rfl
noncomputable def uv:List D -> O D
 | [.lst .sc ds]=>match ou ds with
  | some ns=>if ns.length <= 63 then ok (.bl true) else none
  | none=>none
 | _=>none
theorem EO {ns:List Int} (h:ns.length <= 63):uv [.lst .sc (ns.map D.int)] = ok (.bl true):=by
 simp [uv,oq,h]
theorem BS {Φ:az} {n:Nat} {b:List CS} (h:∀ ns:List Int,ns.length <= 63 -> v_ Φ n b [.lst .sc (ns.map D.int)] = ok (.bl true)):∀ ds r,uv ds = ok r -> ds.length = 1 /\ v_ Φ n b ds = ok r:=by
 intro ds r e
 match ds,e with
 | [.lst .sc ds],e =>
  simp only [uv] at e
  split at e
  ·rename_i ns zO
   split at e
   ·rename_i hl
    cases e
    obtain rfl:=uq zO
    exact ⟨rfl,h ns hl⟩
   ·cases e
  ·cases e
theorem Jt (K:PySem.W.Frag) (H:Hp) (a:Addr) (ns:List Int) (m:List D -> O D) (hm:m [.lst .sc (ns.map D.int)] = ok (.bl true)) (hO:Gh H) (hS:dw K H a (ns.map V.int)):GA K 1 m [.ref a] H (λv _=>v = .bl true) λ_ _ _=>False:=by
 refine ⟨λ_=>True,_,.bl true,rfl,.cons (.lst ?_ (ag.ints ns)) .nil,hm,λv H' _ ⟨τt,_,rp⟩=>by cases rp;rfl⟩
 rcases hS with (h | h) | h
 ·rcases hO a with z | ⟨o,xs,z⟩
  ·rw [h] at z;cases z
  ·rw [h] at z;cases z
 ·exact .inl h
 ·exact .inr h
end DI
end
section
namespace DI
open PySem PySem.Spec PyProof.Rows L2
section
variable {X:Cx} {pins:List (Addr × Obj)} {σ:St} {H:Hp} {s:Shared} {h':Heap}
theorem xt {t':Nat} {ch:List Addr} (I:Inv X pins σ H s) (hf:∀ b ∈ ch,pw X pins H b) (k:∀ b u,b ∉ ch -> s.heap.get? b = some u -> h'.get? b = some u):Inv X pins σ H { s with heap:=h',toks:=t' }:=by
 have GW:∀ b u,H b = some u -> b ∉ ch:=λb u e z=>by rw [(hf b z).1] at e;cases e
 refine I.step (g':=s.gens) (d':=s.drawn) (ch:=ch) (λb hb=>⟨(hf b hb).2.2.2.1,(hf b hb).2.1,(hf b hb).2.2.2.2.1,(hf b hb).2.2.2.2.2⟩) (λb o _ _ hc e _=>k b o hc e) (λb o _ _ hc e _=>⟨o.slots,k b o hc e⟩) (λ_ _ _ _ n=>n)
  (λb o hc e=>⟨o,k b o hc e⟩) (λ_ _ e=>e) (λ_ _ _ e=>e) (λb ps e=>⟨#[],by rw [e];simp⟩) (λm hm=>?_) (λb u e=>?_) I.bare
 ·obtain ⟨o,es,ep,ho,r⟩:=hm
  exact ⟨o,es,ep,k _ o (λz=>(hf _ z).2.1 rfl) ho,r⟩
 ·refine (I.cX b u e).ko (λc v hc q=>k c v ?_ q) (λ_ q=>q) λ_ _ q=>q
  rcases hc with z | z
  ·rw [z];exact GW b u e
  ·exact GW c _ z
theorem xu {t':Nat} {ch:List Addr} {T:Addr} {o:HO} (I:Inv X pins σ H s) (hf:∀ b ∈ ch,pw X pins H b) (k:∀ b u,b ∉ ch -> s.heap.get? b = some u -> h'.get? b = some u) (hT:s.heap.objs.size <= T) (new:cF X.prog X.w (upd H T o) h' T o) :
  Inv X pins σ (upd H T o) { s with heap:=h',toks:=t' }:=by
 have GW:∀ b u,H b = some u -> b ∉ ch:=λb u e z=>by rw [(hf b z).1] at e;cases e
 have hn:H T = none:=I.cX.fresh hT
 have ne:∀ b (u:Obj),s.heap.get? b = some u -> b ≠ T:=λb u e z=>absurd (Heap.lt_size e) (by rw [z];exact Nat.not_lt.mpr hT)
 have up:∀ b u,H b = some u -> upd H T o b = some u:=λb u e=>by rw [aE (bZ e hn)];exact e
 refine I.step (g':=s.gens) (d':=s.drawn) (ch:=ch) (λb hb=>⟨(hf b hb).2.2.2.1,(hf b hb).2.1,(hf b hb).2.2.2.2.1,(hf b hb).2.2.2.2.2⟩) (λb o _ _ hc e _=>k b o hc e) (λb o _ _ hc e _=>⟨o.slots,k b o hc e⟩) (λb u _ e n=>by rw [aE (ne b u e)];exact n)
  (λb o hc e=>⟨o,k b o hc e⟩) (λ_ _ e=>up _ _ e) (λ_ _ _ e=>up _ _ e) (λb ps e=>⟨#[],by rw [up _ _ e];simp⟩) (λm hm=>?_) (yd (λb u e=>?_) hn new) I.bare
 ·obtain ⟨o,es,ep,ho,r⟩:=hm
  exact ⟨o,es,ep,k _ o (λz=>(hf _ z).2.1 rfl) ho,r⟩
 ·refine (I.cX b u e).ko (λc v hc q=>k c v ?_ q) (λ_ q=>q) λ_ _ q=>q
  rcases hc with z | z
  ·rw [z];exact GW b u e
  ·exact GW c _ z
end
noncomputable def Itz (K:PySem.W.Frag) (a b:Addr):It :=
  ⟨λi H=>∃ xs ys x y,dw K H a xs /\ dw K H b ys /\ xs[i]? = some x /\ ys[i]? = some y,
   λi H v H'=>∃ T x y,(∀ xs,dw K H a xs -> xs[i]? = some x) /\ (∀ ys,dw K H b ys -> ys[i]? = some y) /\ H T = none /\ v = .ref T /\ H' = upd H T (.tup [x,y]),
   λi H=>∃ xs ys,dw K H a xs /\ dw K H b ys /\ (xs.length <= i \/ ys.length <= i)⟩
theorem rb {P:Program} {w:World} {H:Hp} {h:Heap} {T:Addr} {x y:V} {u v:Value} (rx:RelV x u) (ry:RelV y v) (e:h.get? T = some { cls:=.type "tuple",data:=.seq #[u,v] }):cF P w H h T (.tup [x,y]) :=
 ⟨by rw [sizeLine_eq];simp,[u,v],.cons rx (.cons ry .nil),⟨_,e,rfl,_,rfl⟩⟩
theorem aV {h:Heap} {a b:Addr} {o u:Obj} (ha:h.get? a = some o) (hb:h.get? b = some u) (hc:o.cls ≠ u.cls):a ≠ b:=λz=>by
 subst z;rw [ha] at hb;cases hb;exact hc rfl
theorem AW {P:Program} {w:World} {K:PySem.W.Frag} {elts:List Expr} {n1:Nat} {tp:Pos} {a b z TI TO i1 i2:Addr} (Xb:TI ≠ TO) (yh:i1 ≠ i2) :
  Turn P w K (.Tuple elts n1 tp) (Itz K a b) [z,TI,TO,i1,i2] z (λi h=>IsZip h z TI TO .none /\ IsPair h TI (.ref i1) (.ref i2) /\ (∃ x y,IsPair h TO x y) /\ h.IsListIter i1 a i /\ h.IsListIter i2 b i):=by
 have apart:∀ {h:Heap} {x y:Value} {xs ys:Array Value} {i:Nat},IsZip h z TI TO .none -> IsPair h TI (.ref i1) (.ref i2) -> IsPair h TO x y -> h.IsListIter i1 a i -> h.IsListIter i2 b i -> h.IsList a xs -> h.IsList b ys -> ZipApart z TI TO i1 i2 a b:=by
  intro h x y xs ys i hz hI hO l1 l2 ha hb
  obtain ⟨o1,e1,c1,_⟩:=l1
  obtain ⟨o2,e2,c2,_⟩:=l2
  obtain ⟨oa,ea,ca,_⟩:=ha
  obtain ⟨ob,eb,cb,_⟩:=hb
  exact ⟨aV hI hz (by simp),aV hO hz (by simp),aV e1 hz (by rw [c1];simp),aV e2 hz (by rw [c2];simp),Xb,aV hI e1 (by rw [c1];simp),aV hI e2 (by rw [c2];simp),aV hO e1 (by rw [c1];simp),aV hO e2 (by rw [c2];simp),yh,
   aV ea hz (by rw [ca];simp),aV ea hO (by rw [ca];simp),aV ea e1 (by rw [ca,c1];simp),aV ea e2 (by rw [ca,c2];simp),aV eb hz (by rw [cb];simp),aV eb hO (by rw [cb];simp),aV eb e1 (by rw [cb,c1];simp),aV eb e2 (by rw [cb,c2];simp)⟩
 refine ⟨by simp,λi h st c hc=>?_,λi h h' st k=>?_,?_,?_,λA i s Q E st hQ=>wpAny_pyIter_zip st.1 hQ⟩
 ·obtain ⟨hz,hI,⟨x,y,hO⟩,⟨o1,e1,_,d1⟩,⟨o2,e2,_,d2⟩⟩:=st
  simp only [List.mem_cons,List.not_mem_nil,or_false] at hc
  rcases hc with rfl | rfl | rfl | rfl | rfl
  ·exact ⟨_,hz,λv q=>by cases q⟩
  ·exact ⟨_,hI,λv q=>by cases q⟩
  ·exact ⟨_,hO,λv q=>by cases q⟩
  ·exact ⟨o1,e1,λv q=>by rw [d1] at q;cases q⟩
  ·exact ⟨o2,e2,λv q=>by rw [d2] at q;cases q⟩
 ·obtain ⟨hz,hI,⟨x,y,hO⟩,l1,l2⟩:=st
  exact ⟨k z (by simp) _ hz,k TI (by simp) _ hI,⟨x,y,k TO (by simp) _ hO⟩,l1.at λo e=>k i1 (by simp) o e,l2.at λo e=>k i2 (by simp) o e⟩
 ·intro X hP hw hK hc i pins s σ H E I hf st hg
  subst hP hw hK
  obtain ⟨xs,ys,x,y,q1,q2,ex,ey⟩:=hg
  obtain ⟨hz,hI,⟨x0,y0,hO⟩,l1,l2⟩:=st
  obtain ⟨ai,rv,p,_⟩:=I.list q1
  obtain ⟨its',vE,p',_⟩:=I.list q2
  obtain ⟨u,hu,ru⟩:=rv.get ex
  obtain ⟨u',B8,S7⟩:=vE.get ey
  have D:=apart hz hI hO l1 l2 p.isList p'.isList
  refine wpAny_pyNext_zip_item D hz hI hO l1 l2 p.isList p'.isList (x:=u) (y:=u') (by simpa using hu) (by simpa using B8) λh1 z1 o1 a1 b1 t1 Qw k1=>⟨_,rfl,?_⟩
  refine wpAny_letOwnedTupleGo_zip z1 λh2 z2 zt=>?_
  have RD:s.heap.objs.size ≠ z:=Nat.ne_of_gt (Heap.lt_size hz)
  have kk:∀ c o,c ∉ [z,TI,TO,i1,i2] -> s.heap.get? c = some o -> h2.get? c = some o:=λc o hc e=>by
   simp only [List.mem_cons,List.not_mem_nil,or_false,not_or] at hc
   exact zt.extBut c o hc.1 (k1 c o hc.1 hc.2.2.1 hc.2.2.2.1 hc.2.2.2.2 e)
  have hT:h2.get? s.heap.objs.size = some { cls:=.type "tuple",data:=.seq #[u,u'] }:=zt.extBut _ _ RD t1
  have hn:H s.heap.objs.size = none:=I.cX.fresh (Nat.le_refl _)
  refine ⟨.ref s.heap.objs.size,upd H s.heap.objs.size (.tup [x,y]),xu (s:=s) (h':=h2) (t':=s.toks) I hf kk (Nat.le_refl _) (rb ru S7 hT),rfl,⟨_,x,y,λzs hz=>by rw [I.iY hz q1];exact ex,λzs hz=>by rw [I.iY hz q2];exact ey,hn,rfl,rfl⟩,⟨z2,zt.extBut _ _ D.TIz (k1 _ _ D.TIz D.TITO D.TIi1 D.TIi2 hI),⟨_,_,zt.extBut _ _ D.TOz o1⟩,a1.extBut zt.extBut D.i1z,b1.extBut zt.extBut D.i2z⟩,λc hc=>?_⟩
  rw [aE]
  ·exact (hf c hc).1
  ·intro z
   subst z
   simp only [List.mem_cons,List.not_mem_nil,or_false] at hc
   rcases hc with e | e | e | e | e
   ·exact absurd (Heap.lt_size hz) (by rw [<- e];exact Nat.lt_irrefl _)
   ·exact absurd (Heap.lt_size hI) (by rw [<- e];exact Nat.lt_irrefl _)
   ·exact absurd (Heap.lt_size hO) (by rw [<- e];exact Nat.lt_irrefl _)
   ·obtain ⟨_,w,_⟩:=l1;exact absurd (Heap.lt_size w) (by rw [<- e];exact Nat.lt_irrefl _)
   ·obtain ⟨_,w,_⟩:=l2;exact absurd (Heap.lt_size w) (by rw [<- e];exact Nat.lt_irrefl _)
 ·intro X hP hw hK hc i pins s σ H E I hf st hg
  subst hP hw hK
  obtain ⟨xs,ys,q1,q2,hl⟩:=hg
  obtain ⟨hz,hI,⟨x0,y0,hO⟩,l1,l2⟩:=st
  obtain ⟨ai,rv,p,_⟩:=I.list q1
  obtain ⟨its',vE,p',_⟩:=I.list q2
  have e1:=rv.length
  have e2:=vE.length
  refine wpAny_pyNext_zip_end (I.ok.hd hc) (apart hz hI hO l1 l2 p.isList p'.isList) hz hI hO l1 l2 p.isList p'.isList (by simp;omega) λh1 k1=>⟨rfl,xt (t':=s.toks) I hf λc o hc e=>?_⟩
  simp only [List.mem_cons,List.not_mem_nil,or_false,not_or] at hc
  exact k1 c o hc.1 hc.2.2.1 hc.2.2.2.1 hc.2.2.2.2 e
theorem IF {X:Cx} {e1 e2:Expr} {ta:TA} {elts:List Expr} {n1:Nat} {tp p pos:Pos} (hg:Gl X "zip") (hm:X.mg "zip" = none) (ha:PA X [e1,e2] ta) (hs:∀ es,starEach (e1 :: es) X.env = (false,eval e1 X.env) :: starEach es X.env) (G9:∀ es,starEach (e2 :: es) X.env = (false,eval e2 X.env) :: starEach es X.env) :
  PI X (.Tuple elts n1 tp) (.Call (.Name "zip" p) [e1,e2] [] pos) (λσ H R=>ta σ H λvs H1=>∃ a b,vs = [.ref a,.ref b] /\ (∃ xs,dw X.K H1 a xs) /\ (∃ ys,dw X.K H1 b ys) /\ R (Itz X.K a b) H1):=by
 intro pins s σ H R I h
 refine Call_ (eB I hg hm boot_zip (PyProof.Rows.callWith_type1 (dh (ha pos pins s σ H _ I h) λus s1 ⟨vs,H1,I1,r1,q1⟩=>?_) (hs _) (by rw [G9];rfl)))
 obtain ⟨a,b,e,⟨xs,q1⟩,⟨ys,q2⟩,q⟩:=q1
 subst e
 obtain ⟨u,v,rfl,ru,rv⟩:=vals2 r1
 cases ru
 cases rv
 obtain ⟨ai,_,p1,_⟩:=I1.list q1
 obtain ⟨its',_,p2,_⟩:=I1.list q2
 refine call_zip_2 p1.isList p2.isList λh' z t o l1 l2 sz k=>wpAny_pyIter_zip z ?_
 refine ⟨s1.heap.objs.size + 4,[s1.heap.objs.size + 4,s1.heap.objs.size + 2,s1.heap.objs.size + 3,s1.heap.objs.size,s1.heap.objs.size + 1],_,_,H1,rfl,I1.kept (t':=s1.toks) k,AW (Nat.ne_of_lt (Nat.lt_succ_self _)) (Nat.ne_of_lt (Nat.lt_succ_self _)),⟨z,t,⟨_,_,o⟩,l1,l2⟩,λb hb=>?_,q⟩
 have uI:s1.heap.objs.size <= b:=by
  simp only [List.mem_cons,List.not_mem_nil,or_false] at hb
  rcases hb with rfl | rfl | rfl | rfl | rfl <;> first | exact Nat.le_add_right .. | exact Nat.le_refl _
 exact I1.Aa uI (I1.cX.fresh uI)
noncomputable def gq (sc:Scope) (bl:List Str) (e:Expr):Option (List Expr):=match eh e with
 | some z=>match two z.2 with
  | some _=>if z.1 = ("zip" : Str) /\ gT sc z.1 = true /\ z.1 ∈ bl then some z.2 else none
  | none=>none
 | none=>none
theorem lR {sc:Scope} {bl:List Str} {e:Expr} {args:List Expr} (h:gq sc bl e = some args):∃ p pos a b,e = .Call (.Name ("zip" : Str) p) [a,b] [] pos /\ args = [a,b] /\ gT sc ("zip" : Str) = true /\ ("zip" : Str) ∈ bl:=by
 unfold gq at h
 cases hv:eh e with
 | none=>rw [hv] at h;cases h
 | some z =>
  obtain ⟨x,as⟩:=z
  rw [hv] at h
  obtain ⟨p,pos,rfl⟩:=cM hv
  have h:(match two as with | some _=>if x = ("zip" : Str) /\ gT sc x = true /\ x ∈ bl then some as else none | none=>none) = some args:=h
  cases hw:two as with
  | none=>rw [hw] at h;cases h
  | some w =>
   obtain ⟨a,b⟩:=w
   rw [hw] at h
   have h:(if x = ("zip" : Str) /\ gT sc x = true /\ x ∈ bl then some as else none) = some args:=h
   obtain rfl:=jL hw
   by_cases hc:x = ("zip" : Str) /\ gT sc x = true /\ x ∈ bl
   ·rw [if_pos hc] at h
    cases h
    obtain ⟨rfl,h1,h2⟩:=hc
    exact ⟨_,_,_,_,rfl,rfl,h1,h2⟩
   ·rw [if_neg hc] at h;cases h
theorem lE {X:Cx} {F:Addr -> Prop} {Φ:az} {cs:List CE} {a b:Expr} (h:qm X F Φ cs [a,b]):(∃ c d,cs = [c,d] /\ PE X a (tD X F Φ c) /\ PE X b (tD X F Φ d)) /\ PA X [a,b] (tM X F Φ cs) /\ (∀ es,starEach (a :: es) X.env = (false,eval a X.env) :: starEach es X.env) /\ (∀ es,starEach (b :: es) X.env = (false,eval b X.env) :: starEach es X.env):=by
 match cs,h with
 | [c,d],h =>
  obtain ⟨h1,h2,_,h3,h4,_,_⟩:=h
  exact ⟨⟨c,d,rfl,h1,h3⟩,PA.imp (dB h1 (PA.imp (dB h3 (PA.imp gm λ_ _ _ h=>km h) (h4 _)) λ_ _ _ h=>gG h) (h2 _)) λ_ _ _ h=>gG h,h2,h4⟩
 | [],h=>exact h.elim
 | [_],h=>exact h.2.2.2.elim
 | _ :: _ :: _ :: _,h=>exact h.2.2.2.2.2.2.elim
theorem Rep.Qu {K:PySem.W.Frag} {R:Addr -> Prop} {H H':Hp} {k:aJ} {v:V} {d:D} (e:aj H H') (h:Rep (aC K H) (nd K R (λ_=>False) (λ_=>none) H) k v d) {k':aJ}:Rep (aC K H') (nd K R (λ_=>False) (λ_=>none) H') k' v d :=
 (Rep.rQ h (k':=k')).imp (λ_ _ h=>aC.same e h) λ_ _ _ _ h=>nd.same e h
theorem DC {K:PySem.W.Frag} {p q:Addr} {f g:Fl} {a b:List D} {H2:Hp}:Hs K (Itz K p q) H2 [.ref p,.ref q] [.lst f a,.lst g b] (af aI (List.zipWith (λx y=>.tup [x,y]) a b)):=by
 have len:(af aI (List.zipWith (λx y=>D.tup [x,y]) a b)).length = min a.length b.length:=by rw [av];simp
 have two:∀ {H':Hp} {R':Addr -> Prop},ag (aC K H') (nd K R' (λ_=>False) (λ_=>none) H') [] 0 [.ref p,.ref q] (af aI [.lst f a,.lst g b]) ->
   ∃ xs ys,dw K H' p xs /\ dw K H' q ys /\ ag (aC K H') (nd K R' (λ_=>False) (λ_=>none) H') [0] 0 xs (af aI a) /\ ag (aC K H') (nd K R' (λ_=>False) (λ_=>none) H') [1] 0 ys (af aI b):=by
  intro H' R' h
  rw [af,aA,af,aA,af] at h
  cases h with
  | cons h t=>cases t with
   | cons h' t=>cases h with
    | lst h r=>cases h' with
     | lst h' r'=>exact ⟨_,_,h.sq,h'.sq,r,r'⟩
 refine ⟨λi H' R' _ h hi=>?_,λi H' R' x mC _ h hi hy=>?_,λi H' R' _ h hi=>?_⟩
 ·obtain ⟨xs,ys,h1,h2,r1,r2⟩:=two h
  rw [len] at hi
  have l1:=r1.length
  have l2:=r2.length
  rw [av,List.length_map] at l1 l2
  exact ⟨xs,ys,xs[i]'(by omega),ys[i]'(by omega),h1,h2,List.getElem?_eq_getElem _,List.getElem?_eq_getElem _⟩
 ·obtain ⟨xs,ys,h1,h2,r1,r2⟩:=two h
  obtain ⟨T,u,v,g1,g2,hn,rfl,rfl⟩:=hy
  obtain ⟨d1,e1,p1⟩:=r1.uK (g1 xs h1)
  obtain ⟨d2,e2,p2⟩:=r2.uK (g2 ys h2)
  have es:aj H' (upd H' T (.tup [u,v])):=aj.upd hn
  refine ⟨es,.tup [d1,d2],?_,.tup (aC.of aD) (.cons (p1.Qu es) (.cons (p2.Qu es) .nil))⟩
  rw [av,List.getElem?_map] at e1 e2 ⊢
  obtain ⟨c1,q1,rfl⟩:=Option.map_eq_some_iff.mp e1
  obtain ⟨c2,q2,rfl⟩:=Option.map_eq_some_iff.mp e2
  rw [List.getElem?_zipWith,q1,q2]
  simp [aA,af]
 ·obtain ⟨xs,ys,h1,h2,r1,r2⟩:=two h
  rw [len] at hi
  have l1:=r1.length
  have l2:=r2.length
  rw [av,List.length_map] at l1 l2
  exact ⟨xs,ys,h1,h2,by omega⟩
theorem Hy {Φ:az} {n:Nat} (hΦ:Φ n = nr) {X:Cx} {sc:Scope} {bl:List Str} {k:Nat} (L:PX X sc bl k) {e:Expr} {args:List Expr} (he:gq sc bl e = some args) {F:Addr -> Prop} {cs:List CE} {tg:Expr} (ht:gp tg = true) (hs:qm X F Φ cs args)
  {pins:List (Addr × Obj)} {s:Shared} {σ:St} {H:Hp} {R:Addr -> Prop} {τ:Addr -> Option aJ} {ρ:aB} {xs:List D} {d:D} {items:List D} (I:Inv X pins σ H s) (Si:SI X F R τ ρ σ H) (c_:cD Φ cs ρ = ok xs) (ed:Φ n xs = ok d) (ei:ku d = ok items) (Rr:It -> Hp -> Prop)
  (hR:∀ J H2 vs,aj H H2 -> bT X.K (gP X F) R τ (dy cs) H H2 vs xs -> Hs X.K J H2 vs xs items -> Rr J H2) :
  wpAny (model X.prog X.w) X.A (eval e X.env) (λv s1=>wpAny (model X.prog X.w) X.A (pyIter v) (AE X pins σ tg Rr) X.xe s1) X.xe s:=by
 obtain ⟨p,pos,a,b,rfl,rfl,h1,h2⟩:=lR he
 cases tg <;> try (cases ht;done)
 obtain ⟨_,pa,s1,s2⟩:=lE hs
 refine IF (L.gl h1) (L.bl _ h2) pa s1 s2 pins s σ H Rr I ⟨R,τ,ρ,xs,Si,c_,λvs H1 e1 rv=>?_⟩
 have S0:=rv
 obtain ⟨τt,fr,rs⟩:=rv
 rw [hΦ] at ed
 unfold nr at ed
 split at ed
 ·cases ed
  cases ei
  obtain ⟨v,w,rfl,rx,ry⟩:=rs.two
  cases rx with
  | lst hx _=>cases ry with
   | lst hy _=>exact ⟨_,_,rfl,⟨_,hx.sq⟩,⟨_,hy.sq⟩,hR _ H1 _ e1 S0 DC⟩
 ·cases ed
end DI
end
section
namespace DI
open PySem PySem.Spec PyProof.Rows L2
end DI
end
section
namespace DI
open PySem PySem.Spec PyProof.Rows L2
section
variable {X:Cx}
end
noncomputable def i_ (f:Str) (sc:Scope) (bl:List Str) (e:Expr):Option (List Expr):=match eh e with
 | some z=>match one z.2 with
  | some _=>if z.1 = f /\ gT sc z.1 = true /\ z.1 ∈ bl then some z.2 else none
  | none=>none
 | none=>none
theorem qU {f:Str} {sc:Scope} {bl:List Str} {e:Expr} {args:List Expr} (h:i_ f sc bl e = some args):∃ p pos a,e = .Call (.Name f p) [a] [] pos /\ args = [a] /\ gT sc f = true /\ f ∈ bl:=by
 unfold i_ at h
 cases hv:eh e with
 | none=>rw [hv] at h;cases h
 | some z =>
  obtain ⟨x,as⟩:=z
  rw [hv] at h
  obtain ⟨p,pos,rfl⟩:=cM hv
  have h:(match one as with | some _=>if x = f /\ gT sc x = true /\ x ∈ bl then some as else none | none=>none) = some args:=h
  cases hw:one as with
  | none=>rw [hw] at h;cases h
  | some a =>
   rw [hw] at h
   have h:(if x = f /\ gT sc x = true /\ x ∈ bl then some as else none) = some args:=h
   obtain rfl:=bL hw
   by_cases hc:x = f /\ gT sc x = true /\ x ∈ bl
   ·rw [if_pos hc] at h
    cases h
    obtain ⟨rfl,h1,h2⟩:=hc
    exact ⟨_,_,_,rfl,rfl,h1,h2⟩
   ·rw [if_neg hc] at h;cases h
end DI
end
section
namespace DI
open PySem PySem.Spec PyProof.Rows L2
end DI
end
section
namespace DI
open PySem PySem.Spec PyProof.Rows L2
section
variable {prog:Program} {w:World} {A:Around} {E:Value -> Shared -> Prop} {s:Shared}
noncomputable def s9 (h:Heap) (vs:List Value) (nss:List (List Int)):Prop:=vs.length = nss.length /\ ∀ (i:Nat) (ns:List Int),nss[i]? = some ns -> ∃ t ai,vs[i]? = some (.ref t) /\ IsTup h t ai.toArray /\ IntsAre ai ns /\ ns ≠ []
theorem uz {fin:Bool} {Q:Bool -> Shared -> Prop}:∀ {ai EU:List Value} {ns ms:List Int} (i:Nat),IntsAre ai ns -> IntsAre EU ms -> fin = decide (ai.length < EU.length) -> Q (HT.lexLt ns ms) s -> PySem.W.KatLex prog w A true fin Q (ai.zip EU) i s
 | _,_,_,_,i,.nil,.nil,hf,h=>by subst hf;exact h
 | _,_,_,_,i,.nil,.cons _ _ _,hf,h=>by subst hf;exact h
 | _,_,_,_,i,.cons _ _ _,.nil,hf,h=>by subst hf;exact h
 | _,_,_,_,i,.cons (ns:=ns) a t h1,.cons (ns:=ms) b u h2,hf,h=>by
  rw [HT.dR] at h
  refine PySem.W.kat_cons (wpAny_eqBool_int (PySem.W.kat_go (λe=>?_) λe=>?_))
  ·have e:a = b:=by simpa using e
   rw [if_pos e] at h
   exact PySem.W.kat_yes (uz (i + 1) h1 h2 (by rw [hf];simp) h)
  ·have e:¬ a = b:=by simpa using e
   rw [if_neg e] at h
   refine PySem.W.kat_no ?_
   rw [Bool.true_and]
   cases i == 0 with
   | true=>exact oneLt_int h
   | false=>exact PySem.W.kat_one _ _ (lt_int h)
theorem s9.mono {h h':Heap} {vs:List Value} {nss:List (List Int)} (k:∀ b o,h.get? b = some o -> h'.get? b = some o) (t:s9 h vs nss):s9 h' vs nss :=
 ⟨t.1,λi ns e=>let ⟨a,ai,e1,⟨o,ho,r⟩,e3⟩:=t.2 i ns e;⟨a,ai,e1,⟨o,k _ _ ho,r⟩,e3⟩⟩
end
end DI
end
section
namespace DI
open PySem PySem.Spec PyProof.Rows L2
noncomputable def gk (ns:List Int):D:=.tup (ns.map D.int)
end DI
end
section
namespace DI
open PySem PySem.Spec PyProof.Rows L2
theorem EJ {Φ:az} {n i:Nat} {cs:List CE} {xs:List D} {ρ:aB} {r:Fo × aB} (ev:we Φ n i (om cs xs ρ) = ok r) (ha:aw b_ xs = false):∃ d d',ρ[i]? = some (some d) /\ Φ n (d :: xs) = ok d' /\ r = (.nx,ρ.set i (some d')):=by
 unfold om at ev
 rw [if_neg (by rw [ha];exact Bool.false_ne_true)] at ev
 unfold we at ev
 split at ev
 ·rename_i d hd
  obtain ⟨d',h1,h2⟩:=ah ev
  cases h2
  exact ⟨d,d',hd,h1,rfl⟩
 ·cases ev
theorem Jh {Φ:az} {n i:Nat} {cs:List CE} {xs:List D} {ρ:aB} {r:Fo × aB} (ev:we Φ n i (om cs xs ρ) = ok r) (ha:aw b_ xs = true):∃ d d',Φ n (d :: af aI xs) = ok d':=by
 unfold om at ev
 rw [if_pos ha] at ev
 unfold we at ev
 split at ev
 ·rename_i d hd
  obtain ⟨d',h1,h2⟩:=ah ev
  exact ⟨d,d',h1⟩
 ·cases ev
noncomputable def xp (m:Str) (st:Stmt):Option (Expr × List Expr):=match Mj st with
 | some c=>match nC c with
  | some z=>match tF z.1 with
   | some y=>if y.2.1 = m /\ z.2.2.1 = [] /\ (y.2.2.endLine == z.2.2.2.line) = true then some (y.1,z.2.1) else none
   | none=>none
  | none=>none
 | none=>none
theorem AQ {m:Str} {st:Stmt} {o:Expr} {as:List Expr} (h:xp m st = some (o,as)):∃ p1 p2 pos,st = .Expr (.Call (.Attribute o m p1) as [] p2) pos /\ (p1.endLine == p2.line) = true:=by
 unfold xp at h
 cases h1:Mj st with
 | none=>rw [h1] at h;cases h
 | some c =>
  obtain ⟨pos,rfl⟩:=vL h1
  rw [h1] at h
  cases h2:nC c with
  | none=>simp only [h2] at h;cases h
  | some z =>
   obtain ⟨f,Rt,ks,p2⟩:=z
   obtain rfl:=ll h2
   simp only [h2] at h
   cases h3:tF f with
   | none=>simp only [h3] at h;cases h
   | some y =>
    obtain ⟨o',a,p1⟩:=y
    obtain rfl:=nE h3
    simp only [h3] at h
    by_cases hc:a = m /\ ks = [] /\ (p1.endLine == p2.line) = true
    ·rw [if_pos hc] at h
     cases h
     obtain ⟨rfl,rfl,hl⟩:=hc
     exact ⟨p1,p2,pos,rfl,hl⟩
    ·rw [if_neg hc] at h;cases h
end DI
end
section
namespace DI
open PySem PySem.Spec PyProof.Rows L2
section
variable {X:Cx} {F R:Addr -> Prop} {τ:Addr -> Option aJ} {ρ:aB} {σ:St} {H:Hp}
end
end DI
end
section
namespace DI
open PySem PySem.Spec PyProof.Rows L2
section
variable {prog:Program} {w:World} {A:Around} {E:Value -> Shared -> Prop} {s:Shared}
theorem tG {it l:Addr}:∀ {s:Shared} {i:Nat} {Q E:Value -> Shared -> Prop},s.heap.IsTupleIter it l i -> (∀ o,s.heap.get? it = some o -> o.cls = .type "tuple_iterator" -> o.data = .fields #[.ref l,.int i 0] -> wpAny (model prog w) A.in1 (Builtin.«tuple_iterator.__next__» ⟨[.ref it],[]⟩) (λfin s'=>∃ v,fin = .done (.ret v) /\ Q v s') E s) -> wpAny (model prog w) A (Builtin.SmallTypes.nextOf (.ref it)) Q E s:=by
 intro s i Q E hit h
 obtain ⟨o,ho,hc,hd⟩:=id hit
 unfold Builtin.SmallTypes.nextOf
 exact wpAny_bind (wpAny_callSpecial?_slot (name:=Str.ofString "__next__") hit.typeIs F.slot_tuple_iterator_next (wpAny_call_entry F.slot_tuple_iterator_next hit.typeIs F.entry_tuple_iterator_next (wpAny_mono (h o ho hc hd) (λfin s' ⟨v,e,q⟩=>⟨v,e,wpAny_pure q⟩) λ_ _ e=>e) (F.args_tuple_iterator_next_1 _)))
noncomputable def Ends (prog:Program) (w:World) (A:Around) (it:Addr) (S:Heap -> Prop):Prop:=∀ (s:Shared) (Q E:Value -> Shared -> Prop),S s.heap -> (∀ h' e,Heap.ExtBut it s.heap h' -> (∃ o,h'.get? e = some o /\ o.cls = .type "StopIteration") -> E (.ref e) { s with heap:=h' }) -> wpAny (model prog w) A (Builtin.SmallTypes.nextOf (.ref it)) Q E s
theorem qt (hh:A.handled = none) {it l:Addr} {items:Array Value} {i:Nat} (hi:items[i]? = none):Ends prog w A it (λh=>h.IsTupleIter it l i /\ h.IsTuple l items):=by
 intro s Q E st hE
 refine tG st.1 λo ho hc hd=>?_
 obtain ⟨ol,WJ,_,nl,Q1⟩:=id st.2
 show wpAny _ _ (field (.ref it) 0 >>= _) _ _ _
 refine wpAny_bind (wpAny_field ho hd (x:=.ref l) rfl ?_)
 rw [if_neg (show ¬ (Value.ref l == Value.none) = true from Bool.false_ne_true)]
 refine wpAny_bind (wpAny_field ho hd (x:=.int i 0) rfl (wpAny_bind (wpAny_seqItems WJ Q1 ?_)))
 simp only [Int.toNat_natCast,hi]
 refine wpAny_bind (wpAny_rule (wpAny_bind (wpAny_setField ho hd (by simp) ?_)))
 show wpAny _ _ (newExc (.type "StopIteration") [] >>= _) _ _ _
 refine wpAny_bind ?_
 simp only [newExc,newTuple]
 refine wpAny_bind (wpAny_newObj_type (wpAny_bind (m:=firstArgMember _ _) (wpAny_of_eq (a:=Value.none) (by first | rfl | (simp only [firstArgMember];rfl)) (wpAny_newObj_type ?_ (by size_fits)))) (by size_fits))
 simp only [raiseNew]
 refine wpAny_bind (wpAny_handled ?_)
 rw [show A.in1.in1.handled = none from hh]
 exact wpAny_bind (wpAny_pure (wpAny_throw (hE _ _ (((Heap.SameBut.update ..).extBut.push _).push _) ⟨_,Heap.get?_push_size _ rfl,rfl⟩)))
theorem mv (hh:A.handled = none) (it l:Addr) (JU:l ≠ it) (items:Array Value):Draws prog w A it [it,l] items.size (λi v=>items[i]? = some v) (λi h=>h.IsTupleIter it l i /\ h.IsTuple l items):=by
 refine ⟨λ_ _ st=>let ⟨o,ho,_⟩:=st.1;⟨o,ho⟩,λ_ _ _ st hk=>?_,λi s Q E hi st hQ=>?_,λs Q E st hE=>?_⟩
 ·obtain ⟨⟨o,ho,r⟩,o',eT,r'⟩:=st
  exact ⟨⟨o,hk it (by simp) o ho,r⟩,o',hk l (by simp) o' eT,r'⟩
 ·refine tG st.1 λo ho hc hd=>?_
  obtain ⟨ol,WJ,_,nl,Q1⟩:=id st.2
  show wpAny _ _ (field (.ref it) 0 >>= _) _ _ _
  refine wpAny_bind (wpAny_field ho hd (x:=.ref l) rfl ?_)
  rw [if_neg (show ¬ (Value.ref l == Value.none) = true from Bool.false_ne_true)]
  refine wpAny_bind (wpAny_field ho hd (x:=.int i 0) rfl (wpAny_bind (wpAny_seqItems WJ Q1 ?_)))
  simp only [Int.toNat_natCast,show items[i]? = some items[i] by simp [hi]]
  refine wpAny_bind (wpAny_setField ho hd (by simp) (wpAny_pure ⟨_,rfl,hQ _ _ s.toks (by simp [hi]) ⟨?_,st.2.extBut (Heap.SameBut.update ..).extBut JU⟩ (Heap.SameBut.update ..)⟩))
  exact ⟨_,Heap.get?_update_self _ ho (Obj.isFreed_of_fields (Obj.data_mapFields hd _)),(Obj.cls_mapFields ..).trans hc,by rw [Obj.data_mapFields hd];simp [rawInt]⟩
 ·exact qt hh (by simp) s Q E st hE
structure xm (z TI TO i1 i2:Addr) (f1 f2:List Addr):Prop where
 n1:TI ≠ z /\ TO ≠ z /\ i1 ≠ z /\ i2 ≠ z
 n2:TI ≠ TO /\ TI ≠ i1 /\ TI ≠ i2 /\ TO ≠ i1 /\ TO ≠ i2 /\ i1 ≠ i2
 f1:z ∉ f1 /\ TO ∉ f1 /\ i2 ∉ f1
 f2:z ∉ f2 /\ TO ∉ f2 /\ i1 ∉ f2
theorem eE {it c:Addr} {fp:List Addr} {n i:Nat} {P:Nat -> Value -> Prop} {St:Nat -> Heap -> Prop} {h h':Heap} (D:Draws prog w A it fp n P St) (hs:Heap.SameBut c h h') (hc:c ∉ fp) (st:St i h):St i h':=D.frame i h h' st λb hb o e=>hs.extBut b o (λz=>hc (z ▸ hb)) e
section
variable {z TI TO i1 i2:Addr} {f1 f2:List Addr} {n1 n2 k:Nat} {P1 P2:Nat -> Value -> Prop} {S1 S2:Nat -> Heap -> Prop} {a b:Value}
theorem zc {Q:Value -> Shared -> Prop} (D1:Draws prog w A i1 f1 n1 P1 S1) (D2:Draws prog w A i2 f2 n2 P2 S2) (ap:xm z TI TO i1 i2 f1 f2) (hz:IsZip s.heap z TI TO .none) (yf:IsPair s.heap TI (.ref i1) (.ref i2)) (Dq:IsPair s.heap TO a b) (Gz:S1 k s.heap) (DZ:S2 k s.heap) (l1:k < n1) (l2:k < n2)
  (hQ:∀ x y h' tk,P1 k x -> P2 k y -> IsZip h' z TI TO (rawInt s.heap.objs.size) -> IsPair h' TO x y -> S1 (k + 1) h' -> S2 (k + 1) h' -> IsPair h' s.heap.objs.size x y -> (∀ c o,c ≠ z -> c ≠ TO -> c ≠ i1 -> c ≠ i2 -> s.heap.get? c = some o -> h'.get? c = some o) -> Q (.ref s.heap.objs.size) { s with heap:=h',toks:=tk }) :
  wpAny (model prog w) A (Builtin.«zip.__next__» ⟨[.ref z],[]⟩) (λfin s'=>∃ v,fin = .done (.ret v) /\ Q v s') E s:=by
 obtain ⟨⟨TIz,TOz,i1z,i2z⟩,⟨TITO,TIi1,TIi2,TOi1,TOi2,i12⟩,⟨zf1,TOf1,i2f1⟩,zf2,TOf2,i1f2⟩:=ap
 show wpAny _ _ (field (.ref z) 2 >>= _) _ _ _
 refine wpAny_bind (wpAny_field hz rfl (x:=.bool false) rfl (wpAny_bind (wpAny_field hz rfl (x:=.ref TI) rfl (wpAny_bind (wpAny_seqItems yf rfl ?_)))))
 show wpAny _ _ (Builtin.SmallTypes.ownedTupleIsFree (.ref z) >>= _) _ _ _
 unfold Builtin.SmallTypes.ownedTupleIsFree
 refine wpAny_bind (wpAny_bind (wpAny_field hz rfl (x:=.none) rfl (wpAny_pure ?_)))
 simp only [if_true]
 refine wpAny_bind (wpAny_rule (wpAny_bind (wpAny_field hz rfl (x:=.ref TO) rfl (wpAny_bind (wpAny_setField_rec hz (by simp) λg1 z1 e1=>wpAny_bind ?_)))))
 replace z1:IsZip g1 z TI TO .ellipsis:=z1
 simp only [List.zipIdx_cons,List.zipIdx_nil,List.forIn_cons,List.forIn_nil]
 refine wpAny_bind (wpAny_bind (wpAny_onRaise ?_))
 show wpAny _ _ (Builtin.SmallTypes.nextOf (.ref i1) >>= _) _ _ _
 refine wpAny_bind (D1.item k _ _ _ l1 (eE D1 e1 zf1 Gz) λx g2 tk p1 MJ e2=>wpAny_pure ?_)
 have t2:IsPair g2 TO a b:=e2.extBut _ _ TOi1 (e1.extBut _ _ TOz Dq)
 refine wpAny_bind (wpAny_seqItems t2 rfl (wpAny_bind (wpAny_updateSeq_pair t2 λg3 t3 e3=>wpAny_bind (wpAny_letGo (wpAny_pure (wpAny_bind (wpAny_bind (wpAny_onRaise ?_))))))))
 replace t3:IsPair g3 TO x b:=t3
 show wpAny _ _ (Builtin.SmallTypes.nextOf (.ref i2) >>= _) _ _ _
 refine wpAny_bind (D2.item k _ _ _ l2 (eE D2 e3 TOf2 (eE D2 e2 i1f2 (eE D2 e1 zf2 DZ))) λy g4 RL p2 R9 e4=>wpAny_pure ?_)
 have t4:IsPair g4 TO x b:=e4.extBut _ _ TOi2 t3
 refine wpAny_bind (wpAny_seqItems t4 rfl (wpAny_bind (wpAny_updateSeq_pair t4 λg5 t5 e5=>wpAny_bind (wpAny_letGo (wpAny_pure (wpAny_pure ?_))))))
 replace t5:IsPair g5 TO x y:=t5
 refine wpAny_bind (wpAny_seqItems t5 rfl (wpAny_bind (wpAny_newTuple ?_)))
 have sz:g5.objs.size = s.heap.objs.size:=by rw [e5.1,e4.1,e3.1,e2.1,e1.1]
 have kp:∀ c o,c ≠ z -> c ≠ TO -> c ≠ i1 -> c ≠ i2 -> s.heap.get? c = some o -> g5.get? c = some o:=λc o c1 c2 c3 c4 e=>e5.extBut _ _ c2 (e4.extBut _ _ c4 (e3.extBut _ _ c2 (e2.extBut _ _ c3 (e1.extBut _ _ c1 e))))
 have z5:IsZip g5 z TI TO .ellipsis:=e5.extBut _ _ (Ne.symm TOz) (e4.extBut _ _ (Ne.symm i2z) (e3.extBut _ _ (Ne.symm TOz) (e2.extBut _ _ (Ne.symm i1z) z1)))
 have zl:z < g5.objs.size:=Heap.lt_size z5
 show wpAny _ _ (Builtin.SmallTypes.ownedTupleHandOut (.ref z) (.ref g5.objs.size) >>= _) _ _ _
 unfold Builtin.SmallTypes.ownedTupleHandOut
 refine wpAny_bind (wpAny_bind (wpAny_setField_rec (Heap.get?_push_of_some _ z5) (by simp) λg7 z7 e7=>?_))
 replace z7:IsZip g7 z TI TO (rawInt g5.objs.size):=z7
 refine wpAny_setField_rec z7 (by simp) λg8 z8 e8=>wpAny_pure ⟨_,rfl,?_⟩
 replace z8:IsZip g8 z TI TO (rawInt g5.objs.size):=z8
 have up:∀ c o,c ≠ z -> g5.get? c = some o -> g8.get? c = some o:=λc o c1 e=>e8.extBut _ _ c1 (e7.extBut _ _ c1 (Heap.get?_push_of_some _ e))
 have t8:IsPair g8 g5.objs.size x y:=e8.extBut _ _ (Nat.ne_of_gt zl) (e7.extBut _ _ (Nat.ne_of_gt zl) (Heap.get?_push_size _ rfl))
 have f8:∀ {fp:List Addr},z ∉ fp -> ∀ c ∈ fp,∀ o,g5.get? c = some o -> g8.get? c = some o:=λhf c hc o e=>up c o (λq=>hf (q ▸ hc)) e
 have s1:S1 (k + 1) g8:=D1.frame _ _ _ (eE D1 e5 TOf1 (eE D1 e4 i2f1 (eE D1 e3 TOf1 MJ))) (f8 zf1)
 have s2:S2 (k + 1) g8:=D2.frame _ _ _ (eE D2 e5 TOf2 R9) (f8 zf2)
 show Q (.ref g5.objs.size) _
 rw [sz] at z8 t8 ⊢
 exact hQ x y g8 RL p1 p2 z8 (up _ _ TOz t5) s1 s2 t8 λc o c1 c2 c3 c4 e=>up c o c1 (kp c o c1 c2 c3 c4 e)
theorem AK {Q:PySem.Fin -> Shared -> Prop} (D1:Draws prog w A i1 f1 n1 P1 S1) (D2:Draws prog w A i2 f2 n2 P2 S2) (ap:xm z TI TO i1 i2 f1 f2) (hz:IsZip s.heap z TI TO .none) (yf:IsPair s.heap TI (.ref i1) (.ref i2)) (Dq:IsPair s.heap TO a b) (Gz:S1 k s.heap) (DZ:S2 k s.heap) (hl:Ends prog w A i1 (S1 k) \/ (k < n1 /\ Ends prog w A i2 (S2 k)))
  (hE:∀ h' e tk,(∀ c o,c ≠ z -> c ≠ TO -> c ≠ i1 -> c ≠ i2 -> s.heap.get? c = some o -> h'.get? c = some o) -> (∃ o,h'.get? e = some o /\ o.cls = .type "StopIteration") -> E (.ref e) { s with heap:=h',toks:=tk }) :
  wpAny (model prog w) A (Builtin.«zip.__next__» ⟨[.ref z],[]⟩) Q E s:=by
 obtain ⟨⟨TIz,TOz,i1z,i2z⟩,⟨TITO,TIi1,TIi2,TOi1,TOi2,i12⟩,⟨zf1,TOf1,i2f1⟩,zf2,TOf2,i1f2⟩:=ap
 have ends:∀ {g:Heap} {e:Addr} {tk:Nat},IsZip g z TI TO .ellipsis -> (∃ o,g.get? e = some o /\ o.cls = .type "StopIteration") -> (∀ c o,c ≠ z -> c ≠ TO -> c ≠ i1 -> c ≠ i2 -> s.heap.get? c = some o -> g.get? c = some o) -> wpAny (model prog w) A (setField (.ref z) 0 .none) (λ_ s'=>E (.ref e) s') E ({ s with heap:=g,toks:=tk }:Shared):=by
  intro g e tk zg ⟨o,ho,hc⟩ kp
  refine wpAny_setField_rec zg (by simp) λg' _ e'=>hE g' e tk (λc o c1 c2 c3 c4 x=>e'.extBut _ _ c1 (kp c o c1 c2 c3 c4 x)) ⟨o,e'.extBut _ _ (λq=>?_) ho,hc⟩
  subst q
  rw [zg] at ho
  cases ho
  simp at hc
 show wpAny _ _ (field (.ref z) 2 >>= _) _ _ _
 refine wpAny_bind (wpAny_field hz rfl (x:=.bool false) rfl (wpAny_bind (wpAny_field hz rfl (x:=.ref TI) rfl (wpAny_bind (wpAny_seqItems yf rfl ?_)))))
 show wpAny _ _ (Builtin.SmallTypes.ownedTupleIsFree (.ref z) >>= _) _ _ _
 unfold Builtin.SmallTypes.ownedTupleIsFree
 refine wpAny_bind (wpAny_bind (wpAny_field hz rfl (x:=.none) rfl (wpAny_pure ?_)))
 simp only [if_true]
 refine wpAny_bind (wpAny_rule (wpAny_bind (wpAny_field hz rfl (x:=.ref TO) rfl (wpAny_bind (wpAny_setField_rec hz (by simp) λg1 z1 e1=>wpAny_bind ?_)))))
 replace z1:IsZip g1 z TI TO .ellipsis:=z1
 simp only [List.zipIdx_cons,List.zipIdx_nil,List.forIn_cons,List.forIn_nil]
 refine wpAny_bind (wpAny_bind (wpAny_onRaise ?_))
 show wpAny _ _ (Builtin.SmallTypes.nextOf (.ref i1) >>= _) _ _ _
 rcases hl with d1 | ⟨l1,d2⟩
 ·exact wpAny_bind (d1 _ _ _ (eE D1 e1 zf1 Gz) λg2 e e2 he=>ends (e2 _ _ (Ne.symm i1z) z1) he λc o c1 _ c3 _ x=>e2 _ _ c3 (e1.extBut _ _ c1 x))
 ·refine wpAny_bind (D1.item k _ _ _ l1 (eE D1 e1 zf1 Gz) λx g2 tk p1 MJ e2=>wpAny_pure ?_)
  have t2:IsPair g2 TO a b:=e2.extBut _ _ TOi1 (e1.extBut _ _ TOz Dq)
  refine wpAny_bind (wpAny_seqItems t2 rfl (wpAny_bind (wpAny_updateSeq_pair t2 λg3 t3 e3=>wpAny_bind (wpAny_letGo (wpAny_pure (wpAny_bind (wpAny_bind (wpAny_onRaise ?_))))))))
  show wpAny _ _ (Builtin.SmallTypes.nextOf (.ref i2) >>= _) _ _ _
  exact wpAny_bind (d2 _ _ _ (eE D2 e3 TOf2 (eE D2 e2 i1f2 (eE D2 e1 zf2 DZ))) λg4 e e4 he=>ends (e4 _ _ (Ne.symm i2z) (e3.extBut _ _ (Ne.symm TOz) (e2.extBut _ _ (Ne.symm i1z) z1))) he λc o c1 c2 c3 c4 x=>e4 _ _ c4 (e3.extBut _ _ c2 (e2.extBut _ _ c3 (e1.extBut _ _ c1 x))))
end
theorem Vu (l1 l2:Addr) (xs ys:Array Value):Meets (Builtin.«zip.__new__» ⟨[.type "zip",.ref l1,.ref l2],[]⟩) (λ_ R s=>s.heap.IsTuple l1 xs /\ s.heap.IsList l2 ys /\
   ∀ h',IsZip h' (s.heap.objs.size + 4) (s.heap.objs.size + 2) (s.heap.objs.size + 3) .none -> IsPair h' (s.heap.objs.size + 2) (.ref s.heap.objs.size) (.ref (s.heap.objs.size + 1)) -> IsPair h' (s.heap.objs.size + 3) .none .none -> h'.IsTupleIter s.heap.objs.size l1 0 -> h'.IsListIter (s.heap.objs.size + 1) l2 0 -> (∀ c o,s.heap.get? c = some o -> h'.get? c = some o) ->
   R (.ok (.ret (.ref (s.heap.objs.size + 4)))) { s with heap:=h' }) :=
 .of_wp λprog w A R s h=>by
  obtain ⟨hp,g,d,tk,os⟩:=s
  obtain ⟨AA,wD,h⟩:=h
  have N7:=sub_zip
  have a1:Heap.IsTuple (Shared.heap ⟨hp,g,d,tk,os⟩) l1 xs:=AA
  have a2:Heap.IsList (Shared.heap ⟨hp.push { cls:=.type "tuple_iterator",data:=.fields #[.ref l1,.int 0 0] },g,d,tk,os⟩) l2 ys:=Heap.IsList.push wD _
  wp_walk using wpAny_pyIter_tuple a1,wpAny_pyIter_list a2
  refine ⟨_,rfl,?_⟩
  have q:∀ (h:Heap) (o:Obj),(h.push o).objs.size = h.objs.size + 1:=λh o=>Heap.size_push ..
  simp only [q] at h ⊢
  have at_:∀ {h:Heap} {o:Obj} {n:Nat},h.objs.size = n -> o.isFreed = false -> (h.push o).get? n = some o:=λe f=>by subst e;exact Heap.get?_push_size _ f
  have up:∀ {h:Heap} {o o':Obj} {n:Nat},h.get? n = some o -> (h.push o').get? n = some o:=λe=>Heap.get?_push_of_some _ e
  refine h _ (at_ (by simp only [q]) rfl) (up (up (at_ (by simp only [q]) rfl))) (up (at_ (by simp only [q]) rfl)) ⟨_,up (up (up (up (at_ rfl rfl)))),rfl,rfl⟩ ⟨_,up (up (up (at_ (by simp only [q]) rfl))),rfl,rfl⟩ λc o e=>up (up (up (up (up e))))
theorem An {l1 l2:Addr} {xs ys:Array Value} {Q:Value -> Shared -> Prop} (h1:s.heap.IsTuple l1 xs) (h2:s.heap.IsList l2 ys)
  (h:∀ h',IsZip h' (s.heap.objs.size + 4) (s.heap.objs.size + 2) (s.heap.objs.size + 3) .none -> IsPair h' (s.heap.objs.size + 2) (.ref s.heap.objs.size) (.ref (s.heap.objs.size + 1)) -> IsPair h' (s.heap.objs.size + 3) .none .none -> h'.IsTupleIter s.heap.objs.size l1 0 -> h'.IsListIter (s.heap.objs.size + 1) l2 0 -> (∀ c o,s.heap.get? c = some o -> h'.get? c = some o) -> Q (.ref (s.heap.objs.size + 4)) { s with heap:=h' }) :
  wpAny (model prog w) A (call (.type "zip") [.ref l1,.ref l2]) Q E s :=
 callType_new F.called_zip (by decide) (F.typeCall_zip_2 _ _) (F.newCall_zip_2 _ _) (λobj=>F.args_object_init_3 obj _ _) F.entry_zip_new (Vu l1 l2 xs ys) ⟨h1,h2,λh' z t o a b k=>⟨⟨_,z,rfl⟩,h h' z t o a b k⟩⟩
end
noncomputable def Ity (K:PySem.W.Frag) (a b:Addr):It :=
  ⟨λi H=>∃ xs ys x y,aC K H a xs /\ dw K H b ys /\ xs[i]? = some x /\ ys[i]? = some y,
   λi H v H'=>∃ T x y,(∀ xs,aC K H a xs -> xs[i]? = some x) /\ (∀ ys,dw K H b ys -> ys[i]? = some y) /\ H T = none /\ v = .ref T /\ H' = upd H T (.tup [x,y]),
   λi H=>∃ xs ys,aC K H a xs /\ dw K H b ys /\ (xs.length <= i \/ ys.length <= i)⟩
theorem zf {P:Program} {w:World} {K:PySem.W.Frag} {elts:List Expr} {n1:Nat} {tp:Pos} {a b z TI TO i1 i2:Addr} (Xb:TI ≠ TO) (yh:i1 ≠ i2) (haO:a ≠ TO) :
  Turn P w K (.Tuple elts n1 tp) (Ity K a b) [z,TI,TO,i1,i2] z (λi h=>IsZip h z TI TO .none /\ IsPair h TI (.ref i1) (.ref i2) /\ (∃ x y,IsPair h TO x y) /\ h.IsTupleIter i1 a i /\ h.IsListIter i2 b i):=by
 have apart:∀ {h:Heap} {x y:Value} {xs ys:Array Value} {i:Nat},IsZip h z TI TO .none -> IsPair h TI (.ref i1) (.ref i2) -> IsPair h TO x y -> h.IsTupleIter i1 a i -> h.IsListIter i2 b i -> h.IsTuple a xs -> h.IsList b ys -> xm z TI TO i1 i2 [i1,a] [i2,b] /\ a ≠ i1 /\ b ≠ i2:=by
  intro h x y xs ys i hz hI hO ⟨o1,e1,c1,_⟩ ⟨o2,e2,c2,_⟩ ⟨oa,ea,ca,_⟩ ⟨ob,eb,cb,_⟩
  have u1:a ≠ i1:=aV ea e1 (by rw [ca,c1];simp)
  have u2:b ≠ i2:=aV eb e2 (by rw [cb,c2];simp)
  have v1:a ≠ z:=aV ea hz (by rw [ca];simp)
  have v2:a ≠ i2:=aV ea e2 (by rw [ca,c2];simp)
  have v3:b ≠ z:=aV eb hz (by rw [cb];simp)
  have v4:b ≠ TO:=aV eb hO (by rw [cb];simp)
  have v5:b ≠ i1:=aV eb e1 (by rw [cb,c1];simp)
  have w1:i1 ≠ z:=aV e1 hz (by rw [c1];simp)
  have w2:i2 ≠ z:=aV e2 hz (by rw [c2];simp)
  have w3:TO ≠ i1:=aV hO e1 (by rw [c1];simp)
  have w4:TO ≠ i2:=aV hO e2 (by rw [c2];simp)
  have no:∀ {c p q:Addr},c ≠ p -> c ≠ q -> c ∉ [p,q]:=λh1 h2 m=>by
   simp only [List.mem_cons,List.not_mem_nil,or_false] at m
   exact m.elim h1 h2
  exact ⟨⟨⟨aV hI hz (by simp),aV hO hz (by simp),w1,w2⟩,⟨Xb,aV hI e1 (by rw [c1];simp),aV hI e2 (by rw [c2];simp),w3,w4,yh⟩,⟨no (Ne.symm w1) (Ne.symm v1),no w3 (Ne.symm haO),no (Ne.symm yh) (Ne.symm v2)⟩,no (Ne.symm w2) (Ne.symm v3),no w4 (Ne.symm v4),no yh (Ne.symm v5)⟩,u1,u2⟩
 refine ⟨by simp,λi h st c hc=>?_,λi h h' st k=>?_,?_,?_,λA i s Q E st hQ=>wpAny_pyIter_zip st.1 hQ⟩
 ·obtain ⟨hz,hI,⟨x,y,hO⟩,⟨o1,e1,_,d1⟩,⟨o2,e2,_,d2⟩⟩:=st
  simp only [List.mem_cons,List.not_mem_nil,or_false] at hc
  rcases hc with rfl | rfl | rfl | rfl | rfl
  ·exact ⟨_,hz,λv q=>by cases q⟩
  ·exact ⟨_,hI,λv q=>by cases q⟩
  ·exact ⟨_,hO,λv q=>by cases q⟩
  ·exact ⟨o1,e1,λv q=>by rw [d1] at q;cases q⟩
  ·exact ⟨o2,e2,λv q=>by rw [d2] at q;cases q⟩
 ·obtain ⟨hz,hI,⟨x,y,hO⟩,⟨o,ho,r⟩,l2⟩:=st
  exact ⟨k z (by simp) _ hz,k TI (by simp) _ hI,⟨x,y,k TO (by simp) _ hO⟩,⟨o,k i1 (by simp) o ho,r⟩,l2.at λo e=>k i2 (by simp) o e⟩
 ·intro X hP hw hK hc i pins s σ H E I hf st hg
  subst hP hw hK
  obtain ⟨xs,ys,x,y,q1,q2,ex,ey⟩:=hg
  obtain ⟨hz,hI,⟨x0,y0,hO⟩,l1,l2⟩:=st
  obtain ⟨ai,rv,p,_⟩:=I.tuple q1
  obtain ⟨its',vE,p',_⟩:=I.list q2
  obtain ⟨u,hu,ru⟩:=rv.get ex
  obtain ⟨u',B8,S7⟩:=vE.get ey
  obtain ⟨ap,n1,n2⟩:=apart hz hI hO l1 l2 p p'.isList
  have hh:X.A.in1.handled = none:=I.ok.hd hc
  have lt:∀ {vs:List Value} {v:Value},vs[i]? = some v -> i < vs.toArray.size:=λ{vs v} e=>by
   by_cases z:i < vs.length
   ·simpa using z
   ·rw [List.getElem?_eq_none (by omega)] at e;cases e
  have hT:s.TypeIs (.ref z) "zip":=⟨_,hz,rfl⟩
  unfold pyNext
  refine wpAny_bind (wpAny_attempt (wpAny_callSpecial?_slot (name:=Str.ofString "__next__") hT F.slot_zip_next (wpAny_call_entry F.slot_zip_next hT F.entry_zip_next (zc (mv hh i1 a n1 ai.toArray) (Draws.list hh i2 b n2 its'.toArray) ap hz hI hO ⟨l1,p⟩ ⟨l2,p'.isList⟩ (lt hu) (lt B8) λv v' h1 tk w1 w2 z1 o1 a1 b1 t1 k1=>wpAny_pure ⟨_,rfl,?_⟩) (F.args_zip_next_1 _))))
  obtain rfl:u = v:=by simpa [hu] using w1
  obtain rfl:u' = v':=by simpa [B8] using w2
  refine wpAny_letOwnedTupleGo_zip z1 λh2 z2 zt=>?_
  have RD:s.heap.objs.size ≠ z:=Nat.ne_of_gt (Heap.lt_size hz)
  have kk:∀ c o,c ∉ [z,TI,TO,i1,i2] -> s.heap.get? c = some o -> h2.get? c = some o:=λc o hc e=>by
   simp only [List.mem_cons,List.not_mem_nil,or_false,not_or] at hc
   exact zt.extBut c o hc.1 (k1 c o hc.1 hc.2.2.1 hc.2.2.2.1 hc.2.2.2.2 e)
  have hT:h2.get? s.heap.objs.size = some { cls:=.type "tuple",data:=.seq #[u,u'] }:=zt.extBut _ _ RD t1
  have hn:H s.heap.objs.size = none:=I.cX.fresh (Nat.le_refl _)
  refine ⟨.ref s.heap.objs.size,upd H s.heap.objs.size (.tup [x,y]),xu (s:=s) (h':=h2) (t':=tk) I hf kk (Nat.le_refl _) (rb ru S7 hT),rfl,⟨_,x,y,λzs hz=>by rw [I.lp hz q1];exact ex,λzs hz=>by rw [I.iY hz q2];exact ey,hn,rfl,rfl⟩,⟨z2,zt.extBut _ _ ap.n1.1 (k1 _ _ ap.n1.1 ap.n2.1 ap.n2.2.1 ap.n2.2.2.1 hI),⟨_,_,zt.extBut _ _ ap.n1.2.1 o1⟩,?_,b1.1.extBut zt.extBut ap.n1.2.2.2⟩,λc hc=>?_⟩
  ·obtain ⟨o,ho,r⟩:=a1.1
   exact ⟨o,zt.extBut _ _ ap.n1.2.2.1 ho,r⟩
  ·rw [aE]
   ·exact (hf c hc).1
   ·intro z
    subst z
    simp only [List.mem_cons,List.not_mem_nil,or_false] at hc
    rcases hc with e | e | e | e | e
    ·exact absurd (Heap.lt_size hz) (by rw [<- e];exact Nat.lt_irrefl _)
    ·exact absurd (Heap.lt_size hI) (by rw [<- e];exact Nat.lt_irrefl _)
    ·exact absurd (Heap.lt_size hO) (by rw [<- e];exact Nat.lt_irrefl _)
    ·obtain ⟨_,w,_⟩:=l1;exact absurd (Heap.lt_size w) (by rw [<- e];exact Nat.lt_irrefl _)
    ·obtain ⟨_,w,_⟩:=l2;exact absurd (Heap.lt_size w) (by rw [<- e];exact Nat.lt_irrefl _)
 ·intro X hP hw hK hc i pins s σ H E I hf st hg
  subst hP hw hK
  obtain ⟨xs,ys,q1,q2,hl⟩:=hg
  obtain ⟨hz,hI,⟨x0,y0,hO⟩,l1,l2⟩:=st
  obtain ⟨ai,rv,p,_⟩:=I.tuple q1
  obtain ⟨its',vE,p',_⟩:=I.list q2
  have e1:xs.length = ai.toArray.size:=by rw [rv.length];simp
  have e2:ys.length = its'.toArray.size:=by rw [vE.length];simp
  obtain ⟨ap,n1,n2⟩:=apart hz hI hO l1 l2 p p'.isList
  have hh:X.A.in1.handled = none:=I.ok.hd hc
  have hT:s.TypeIs (.ref z) "zip":=⟨_,hz,rfl⟩
  unfold pyNext
  refine wpAny_bind (wpAny_attempt (wpAny_callSpecial?_slot (name:=Str.ofString "__next__") hT F.slot_zip_next (wpAny_call_entry F.slot_zip_next hT F.entry_zip_next (AK (mv hh i1 a n1 ai.toArray) (Draws.list hh i2 b n2 its'.toArray) ap hz hI hO ⟨l1,p⟩ ⟨l2,p'.isList⟩ (by
   by_cases z:ai.toArray.size <= i
   ·exact .inl (qt hh (Array.getElem?_eq_none z))
   ·exact .inr ⟨by omega,λs Q E st hE=>wpAny_nextOf_list_end hh st.1 st.2 (Array.getElem?_eq_none (by omega)) hE⟩) λh1 e tk k1 he=>?_) (F.args_zip_next_1 _))))
  obtain ⟨o,ho,hc⟩:=he
  refine wpAny_bind (wpAny_isInstance (T:="StopIteration") (b:=true) ⟨o,ho,hc⟩ isSubtype_stop (wpAny_pure ⟨rfl,xt (t':=tk) I hf λc o hc e=>?_⟩))
  simp only [List.mem_cons,List.not_mem_nil,or_false,not_or] at hc
  exact k1 c o hc.1 hc.2.2.1 hc.2.2.2.1 hc.2.2.2.2 e
theorem Eo {X:Cx} {e1 e2:Expr} {ta:TA} {elts:List Expr} {n1:Nat} {tp p pos:Pos} (hg:Gl X "zip") (hm:X.mg "zip" = none) (ha:PA X [e1,e2] ta) (hs:∀ es,starEach (e1 :: es) X.env = (false,eval e1 X.env) :: starEach es X.env) (G9:∀ es,starEach (e2 :: es) X.env = (false,eval e2 X.env) :: starEach es X.env) :
  PI X (.Tuple elts n1 tp) (.Call (.Name "zip" p) [e1,e2] [] pos) (λσ H R=>ta σ H λvs H1=>∃ a b,vs = [.ref a,.ref b] /\ (∃ xs,aC X.K H1 a xs) /\ (∃ ys,dw X.K H1 b ys) /\ R (Ity X.K a b) H1):=by
 intro pins s σ H R I h
 refine Call_ (eB I hg hm boot_zip (PyProof.Rows.callWith_type1 (dh (ha pos pins s σ H _ I h) λus s1 ⟨vs,H1,I1,r1,q1⟩=>?_) (hs _) (by rw [G9];rfl)))
 obtain ⟨a,b,e,⟨xs,q1⟩,⟨ys,q2⟩,q⟩:=q1
 subst e
 obtain ⟨u,v,rfl,ru,rv⟩:=vals2 r1
 cases ru
 cases rv
 obtain ⟨ai,_,p1,_⟩:=I1.tuple q1
 obtain ⟨its',_,p2,_⟩:=I1.list q2
 have la:a < s1.heap.objs.size:=by obtain ⟨o,ho,_⟩:=p1;exact Heap.lt_size ho
 refine An p1 p2.isList λh' z t o l1 l2 k=>wpAny_pyIter_zip z ?_
 refine ⟨s1.heap.objs.size + 4,[s1.heap.objs.size + 4,s1.heap.objs.size + 2,s1.heap.objs.size + 3,s1.heap.objs.size,s1.heap.objs.size + 1],_,_,H1,rfl,I1.kept (t':=s1.toks) k,zf (Nat.ne_of_lt (Nat.lt_succ_self _)) (Nat.ne_of_lt (Nat.lt_succ_self _)) (Nat.ne_of_lt (Nat.lt_of_lt_of_le la (Nat.le_add_right ..))),⟨z,t,⟨_,_,o⟩,l1,l2⟩,λb hb=>?_,q⟩
 have uI:s1.heap.objs.size <= b:=by
  simp only [List.mem_cons,List.not_mem_nil,or_false] at hb
  rcases hb with rfl | rfl | rfl | rfl | rfl <;> first | exact Nat.le_add_right .. | exact Nat.le_refl _
 exact I1.Aa uI (I1.cX.fresh uI)
noncomputable def mh:List D -> O D
 | [.tup a,.lst _ b]=>ok (.lst .ow (List.zipWith (λx y=>.tup [x,y]) a b))
 | _=>none
theorem AL {K:PySem.W.Frag} {p q:Addr} {g:Fl} {a b:List D} {H2:Hp}:Hs K (Ity K p q) H2 [.ref p,.ref q] [.tup a,.lst g b] (af aI (List.zipWith (λx y=>.tup [x,y]) a b)):=by
 have len:(af aI (List.zipWith (λx y=>D.tup [x,y]) a b)).length = min a.length b.length:=by rw [av];simp
 have two:∀ {H':Hp} {R':Addr -> Prop},ag (aC K H') (nd K R' (λ_=>False) (λ_=>none) H') [] 0 [.ref p,.ref q] (af aI [.tup a,.lst g b]) ->
   ∃ xs ys,aC K H' p xs /\ dw K H' q ys /\ ag (aC K H') (nd K R' (λ_=>False) (λ_=>none) H') [0] 0 xs (af aI a) /\ ag (aC K H') (nd K R' (λ_=>False) (λ_=>none) H') [1] 0 ys (af aI b):=by
  intro H' R' h
  rw [af,aA,af,aA,af] at h
  cases h with
  | cons h t=>cases t with
   | cons h' t=>cases h with
    | tup h r=>cases h' with
     | lst h' r'=>exact ⟨_,_,h,h'.sq,r,r'⟩
 refine ⟨λi H' R' _ h hi=>?_,λi H' R' x mC _ h hi hy=>?_,λi H' R' _ h hi=>?_⟩
 ·obtain ⟨xs,ys,h1,h2,r1,r2⟩:=two h
  rw [len] at hi
  have l1:=r1.length
  have l2:=r2.length
  rw [av,List.length_map] at l1 l2
  exact ⟨xs,ys,xs[i]'(by omega),ys[i]'(by omega),h1,h2,List.getElem?_eq_getElem _,List.getElem?_eq_getElem _⟩
 ·obtain ⟨xs,ys,h1,h2,r1,r2⟩:=two h
  obtain ⟨T,u,v,g1,g2,hn,rfl,rfl⟩:=hy
  obtain ⟨d1,e1,p1⟩:=r1.uK (g1 xs h1)
  obtain ⟨d2,e2,p2⟩:=r2.uK (g2 ys h2)
  have es:aj H' (upd H' T (.tup [u,v])):=aj.upd hn
  refine ⟨es,.tup [d1,d2],?_,.tup (aC.of aD) (.cons (p1.Qu es) (.cons (p2.Qu es) .nil))⟩
  rw [av,List.getElem?_map] at e1 e2 ⊢
  obtain ⟨c1,q1,rfl⟩:=Option.map_eq_some_iff.mp e1
  obtain ⟨c2,q2,rfl⟩:=Option.map_eq_some_iff.mp e2
  rw [List.getElem?_zipWith,q1,q2]
  simp [aA,af]
 ·obtain ⟨xs,ys,h1,h2,r1,r2⟩:=two h
  rw [len] at hi
  have l1:=r1.length
  have l2:=r2.length
  rw [av,List.length_map] at l1 l2
  exact ⟨xs,ys,h1,h2,by omega⟩
theorem DB {Φ:az} {n:Nat} (hΦ:Φ n = mh) {X:Cx} {sc:Scope} {bl:List Str} {k:Nat} (L:PX X sc bl k) {e:Expr} {args:List Expr} (he:gq sc bl e = some args) {F:Addr -> Prop} {cs:List CE} {tg:Expr} (ht:gp tg = true) (hs:qm X F Φ cs args)
  {pins:List (Addr × Obj)} {s:Shared} {σ:St} {H:Hp} {R:Addr -> Prop} {τ:Addr -> Option aJ} {ρ:aB} {xs:List D} {d:D} {items:List D} (I:Inv X pins σ H s) (Si:SI X F R τ ρ σ H) (c_:cD Φ cs ρ = ok xs) (ed:Φ n xs = ok d) (ei:ku d = ok items) (Rr:It -> Hp -> Prop)
  (hR:∀ J H2 vs,aj H H2 -> bT X.K (gP X F) R τ (dy cs) H H2 vs xs -> Hs X.K J H2 vs xs items -> Rr J H2) :
  wpAny (model X.prog X.w) X.A (eval e X.env) (λv s1=>wpAny (model X.prog X.w) X.A (pyIter v) (AE X pins σ tg Rr) X.xe s1) X.xe s:=by
 obtain ⟨p,pos,a,b,rfl,rfl,h1,h2⟩:=lR he
 cases tg <;> try (cases ht;done)
 obtain ⟨_,pa,s1,s2⟩:=lE hs
 refine Eo (L.gl h1) (L.bl _ h2) pa s1 s2 pins s σ H Rr I ⟨R,τ,ρ,xs,Si,c_,λvs H1 e1 rv=>?_⟩
 have S0:=rv
 obtain ⟨τt,fr,rs⟩:=rv
 rw [hΦ] at ed
 unfold mh at ed
 split at ed
 ·cases ed
  cases ei
  obtain ⟨v,w,rfl,rx,ry⟩:=rs.two
  cases rx with
  | tup hx _=>cases ry with
   | lst hy _=>exact ⟨_,_,rfl,⟨_,hx⟩,⟨_,hy.sq⟩,hR _ H1 _ e1 S0 AL⟩
 ·cases ed
end DI
end
section
namespace DI
open PySem PySem.Spec PyProof.Rows L2
end DI
end
section
namespace DI
open PySem PySem.Spec PyProof.Rows L2
noncomputable abbrev sZ (h:Heap) (z TI TO a:Addr) (f:Bool):Prop :=
 h.get? z = some { cls:=.type "zip",dict:=none,data:=.fields #[rawInt a,.bool f,.bool false,.ref TI,.ref TO],slots:=#[] }
section
variable {prog:Program} {w:World} {A:Around} {E:Value -> Shared -> Prop} {s:Shared}
theorem AI {a:Addr} {o:Obj} {Q:Option Obj -> Shared -> Prop} (ho:s.heap.get? a = some o) (h:Q (some o) s):wpAny (model prog w) A (loadIfAlive a) Q E s:=by
 have h':Q (s.heap.get? a) s:=by rw [ho];exact h
 exact λ_ _ _=>h'
theorem xn {z TI TO a:Addr} {f:Bool} {oa:Obj} {Q:Bool -> Shared -> Prop} (hz:sZ s.heap z TI TO a f) (ha:s.heap.get? a = some oa) (hQ:∀ h',sZ h' z TI TO a true -> Heap.SameBut z s.heap h' -> Q false { s with heap:=h' }) :
  wpAny (model prog w) A (Builtin.SmallTypes.ownedTupleIsFree (.ref z)) Q E s:=by
 unfold Builtin.SmallTypes.ownedTupleIsFree
 refine wpAny_bind (wpAny_field hz rfl (x:=rawInt a) rfl ?_)
 show wpAny _ _ (loadIfAlive ((a:Int).toNat) >>= _) _ _ _
 rw [Int.toNat_natCast]
 refine wpAny_bind (AI ha ?_)
 simp only [Option.isNone_some,Bool.false_eq_true,if_false]
 refine wpAny_bind (wpAny_field hz rfl (x:=.bool f) rfl ?_)
 cases f with
 | true =>
  rw [if_neg (show ¬ ((Value.bool true != Value.bool true) = true) from Bool.false_ne_true)]
  exact wpAny_pure (hQ s.heap hz (Heap.SameBut.refl _ _))
 | false =>
  rw [if_pos (show (Value.bool false != Value.bool true) = true from rfl)]
  exact wpAny_bind (wpAny_setField_rec hz (by simp) λh₃ Ou mm=>wpAny_pure (hQ h₃ Ou mm))
theorem tu {z TI TO i1 i2 l1 l2 a:Addr} {f:Bool} {oa:Obj} {k1 k2:Nat} {xs ys:Array Value} {x y:Value} {Q:Value -> Shared -> Prop} (D:ZipApart z TI TO i1 i2 l1 l2)
  (hz:sZ s.heap z TI TO a f) (ha:s.heap.get? a = some oa) (yf:IsPair s.heap TI (.ref i1) (.ref i2))
  (h1:s.heap.IsListIter i1 l1 k1) (h2:s.heap.IsListIter i2 l2 k2) (AA:s.heap.IsList l1 xs) (wD:s.heap.IsList l2 ys) (hx:xs[k1]? = some x) (hy:ys[k2]? = some y)
  (hQ:∀ h',sZ h' z TI TO a true -> h'.IsListIter i1 l1 (k1 + 1) -> h'.IsListIter i2 l2 (k2 + 1) -> IsPair h' s.heap.objs.size x y -> h'.objs.size = s.heap.objs.size + 1 ->
   (∀ c o,c ≠ z -> c ≠ i1 -> c ≠ i2 -> s.heap.get? c = some o -> h'.get? c = some o) -> Q (.ref s.heap.objs.size) { s with heap:=h' }) :
  wpAny (model prog w) A (Builtin.«zip.__next__» ⟨[.ref z],[]⟩) (λfin s'=>∃ v,fin = .done (.ret v) /\ Q v s') E s:=by
 show wpAny _ _ (field (.ref z) 2 >>= _) _ _ _
 refine wpAny_bind (wpAny_field hz rfl (x:=.bool false) rfl ?_)
 show wpAny _ _ (field (.ref z) 3 >>= _) _ _ _
 refine wpAny_bind (wpAny_field hz rfl (x:=.ref TI) rfl ?_)
 refine wpAny_bind (wpAny_seqItems yf rfl ?_)
 show wpAny _ _ (Builtin.SmallTypes.ownedTupleIsFree (.ref z) >>= _) _ _ _
 refine wpAny_bind (xn hz ha λh₁ G7 fH=>?_)
 simp only [Bool.false_eq_true,if_false]
 refine wpAny_bind ?_
 rw [<- Array.forIn_toList]
 simp only [List.forIn_cons,List.forIn_nil]
 refine wpAny_bind (wpAny_bind (wpAny_holding ?_))
 show wpAny _ _ (Builtin.SmallTypes.nextOf (.ref i1) >>= _) _ _ _
 refine wpAny_bind (wpAny_nextOf_list_item (h1.extBut fH.extBut D.i1z) (AA.extBut fH.extBut D.l1z) hx λh₂ Ha i4=>wpAny_pure ?_)
 refine wpAny_pure ?_
 refine wpAny_bind (wpAny_bind (wpAny_holding ?_))
 show wpAny _ _ (Builtin.SmallTypes.nextOf (.ref i2) >>= _) _ _ _
 refine wpAny_bind (wpAny_nextOf_list_item ((h2.extBut fH.extBut D.i2z).extBut i4.extBut D.i12.symm) ((wD.extBut fH.extBut D.l2z).extBut i4.extBut D.l2i1) hy λh₃ OT mm=>wpAny_pure ?_)
 refine wpAny_pure ?_
 refine wpAny_pure ?_
 have hsz:h₃.objs.size = s.heap.objs.size:=by rw [mm.1,i4.1,fH.1]
 refine wpAny_bind (wpAny_newTuple ?_ (by show 2 <= _;rw [sizeLine_eq];decide))
 refine wpAny_pure ⟨_,rfl,?_⟩
 show Q (.ref h₃.objs.size) _
 have hV:∀ {c o},h₃.get? c = some o -> c ≠ h₃.objs.size:=λe=>Nat.ne_of_lt (Heap.lt_size e)
 have hk:∀ c o,c ≠ z -> c ≠ i1 -> c ≠ i2 -> s.heap.get? c = some o -> (h₃.push { cls:=.type "tuple",data:=.seq #[x,y] }).get? c = some o:=λc o c1 c2 c3 e=>Heap.get?_push_of_some _ (mm.extBut _ _ c3 (i4.extBut _ _ c2 (fH.extBut _ _ c1 e)))
 rw [hsz]
 refine hQ _ (Heap.get?_push_of_some _ (mm.extBut _ _ D.i2z.symm (i4.extBut _ _ D.i1z.symm G7))) ((Ha.extBut mm.extBut D.i12).at λo e=>Heap.get?_push_of_some _ e) (OT.at λo e=>Heap.get?_push_of_some _ e) ?_ (by rw [Heap.size_push,hsz]) hk
 rw [<- hsz]
 exact Heap.get?_push_size _ rfl
theorem vI {z TI TO i1 i2 l1 l2 a:Addr} {f:Bool} {oa:Obj} {k1 k2:Nat} {xs ys:Array Value} {Q:Fin -> Shared -> Prop} (hh:A.handled = none) (D:ZipApart z TI TO i1 i2 l1 l2)
  (hz:sZ s.heap z TI TO a f) (ha:s.heap.get? a = some oa) (yf:IsPair s.heap TI (.ref i1) (.ref i2))
  (h1:s.heap.IsListIter i1 l1 k1) (h2:s.heap.IsListIter i2 l2 k2) (AA:s.heap.IsList l1 xs) (wD:s.heap.IsList l2 ys) (uG:xs[k1]? = none \/ ys[k2]? = none)
  (hE:∀ h' e,(∀ c o,c ≠ z -> c ≠ i1 -> c ≠ i2 -> s.heap.get? c = some o -> h'.get? c = some o) -> (∃ o,h'.get? e = some o /\ o.cls = .type "StopIteration") -> E (.ref e) { s with heap:=h' }) :
  wpAny (model prog w) A (Builtin.«zip.__next__» ⟨[.ref z],[]⟩) Q E s:=by
 show wpAny _ _ (field (.ref z) 2 >>= _) _ _ _
 refine wpAny_bind (wpAny_field hz rfl (x:=.bool false) rfl ?_)
 show wpAny _ _ (field (.ref z) 3 >>= _) _ _ _
 refine wpAny_bind (wpAny_field hz rfl (x:=.ref TI) rfl ?_)
 refine wpAny_bind (wpAny_seqItems yf rfl ?_)
 show wpAny _ _ (Builtin.SmallTypes.ownedTupleIsFree (.ref z) >>= _) _ _ _
 refine wpAny_bind (xn hz ha λh₁ G7 fH=>?_)
 simp only [Bool.false_eq_true,if_false]
 refine wpAny_bind ?_
 rw [<- Array.forIn_toList]
 simp only [List.forIn_cons,List.forIn_nil]
 refine wpAny_bind (wpAny_bind (wpAny_holding ?_))
 show wpAny _ _ (Builtin.SmallTypes.nextOf (.ref i1) >>= _) _ _ _
 cases hx:xs[k1]? with
 | none =>
  refine wpAny_bind (wpAny_nextOf_list_end hh (h1.extBut fH.extBut D.i1z) (AA.extBut fH.extBut D.l1z) hx λh₂ e i4 he=>?_)
  exact hE h₂ e (λc o c1 c2 c3 x=>i4 _ _ c2 (fH.extBut _ _ c1 x)) he
 | some x =>
  have hy:ys[k2]? = none:=by rcases uG with h | h;rw [hx] at h;cases h;exact h
  refine wpAny_bind (wpAny_nextOf_list_item (h1.extBut fH.extBut D.i1z) (AA.extBut fH.extBut D.l1z) hx λh₂ Ha i4=>wpAny_pure ?_)
  refine wpAny_pure ?_
  refine wpAny_bind (wpAny_bind (wpAny_holding ?_))
  show wpAny _ _ (Builtin.SmallTypes.nextOf (.ref i2) >>= _) _ _ _
  refine wpAny_bind (wpAny_nextOf_list_end hh ((h2.extBut fH.extBut D.i2z).extBut i4.extBut D.i12.symm) ((wD.extBut fH.extBut D.l2z).extBut i4.extBut D.l2i1) hy λh₃ e mm he=>?_)
  exact hE h₃ e (λc o c1 c2 c3 x=>mm _ _ c3 (i4.extBut _ _ c2 (fH.extBut _ _ c1 x))) he
theorem nq {z TI TO i1 i2 l1 l2 a:Addr} {f:Bool} {oa:Obj} {k1 k2:Nat} {xs ys:Array Value} {x y:Value} {Q:Option Value -> Shared -> Prop} (D:ZipApart z TI TO i1 i2 l1 l2)
  (hz:sZ s.heap z TI TO a f) (ha:s.heap.get? a = some oa) (yf:IsPair s.heap TI (.ref i1) (.ref i2))
  (h1:s.heap.IsListIter i1 l1 k1) (h2:s.heap.IsListIter i2 l2 k2) (AA:s.heap.IsList l1 xs) (wD:s.heap.IsList l2 ys) (hx:xs[k1]? = some x) (hy:ys[k2]? = some y)
  (hQ:∀ h',sZ h' z TI TO a true -> h'.IsListIter i1 l1 (k1 + 1) -> h'.IsListIter i2 l2 (k2 + 1) -> IsPair h' s.heap.objs.size x y -> h'.objs.size = s.heap.objs.size + 1 ->
   (∀ c o,c ≠ z -> c ≠ i1 -> c ≠ i2 -> s.heap.get? c = some o -> h'.get? c = some o) -> Q (some (.ref s.heap.objs.size)) { s with heap:=h' }) :
  wpAny (model prog w) A (pyNext (.ref z)) Q E s:=by
 have hT:s.TypeIs (.ref z) "zip":=⟨_,hz,rfl⟩
 unfold pyNext
 exact wpAny_bind (wpAny_attempt (wpAny_callSpecial?_slot (name:=Str.ofString "__next__") hT PySem.F.slot_zip_next
  (wpAny_call_entry PySem.F.slot_zip_next hT PySem.F.entry_zip_next
   (tu D hz ha yf h1 h2 AA wD hx hy λh' a1 a2 a3 a4 a5 a6=>wpAny_pure (hQ h' a1 a2 a3 a4 a5 a6)) (PySem.F.args_zip_next_1 _))))
theorem pE {z TI TO i1 i2 l1 l2 a:Addr} {f:Bool} {oa:Obj} {k1 k2:Nat} {xs ys:Array Value} {Q:Option Value -> Shared -> Prop} (hh:A.handled = none) (D:ZipApart z TI TO i1 i2 l1 l2)
  (hz:sZ s.heap z TI TO a f) (ha:s.heap.get? a = some oa) (yf:IsPair s.heap TI (.ref i1) (.ref i2))
  (h1:s.heap.IsListIter i1 l1 k1) (h2:s.heap.IsListIter i2 l2 k2) (AA:s.heap.IsList l1 xs) (wD:s.heap.IsList l2 ys) (uG:xs[k1]? = none \/ ys[k2]? = none)
  (hQ:∀ h',(∀ c o,c ≠ z -> c ≠ i1 -> c ≠ i2 -> s.heap.get? c = some o -> h'.get? c = some o) -> Q none { s with heap:=h' }):wpAny (model prog w) A (pyNext (.ref z)) Q E s:=by
 have hT:s.TypeIs (.ref z) "zip":=⟨_,hz,rfl⟩
 unfold pyNext
 refine wpAny_bind (wpAny_attempt (wpAny_callSpecial?_slot (name:=Str.ofString "__next__") hT PySem.F.slot_zip_next
  (wpAny_call_entry PySem.F.slot_zip_next hT PySem.F.entry_zip_next (vI hh D hz ha yf h1 h2 AA wD uG λh' e hk he=>?_) (PySem.F.args_zip_next_1 _))))
 obtain ⟨o,ho,hc⟩:=he
 refine wpAny_bind (wpAny_isInstance (T:="StopIteration") (b:=true) ⟨o,ho,hc⟩ isSubtype_stop ?_)
 exact wpAny_pure (hQ _ hk)
end
end DI
end
section
namespace DI
open PySem PySem.Spec PyProof.Rows L2
theorem Hw:typeLookup (.type "zip") "__len__" = pure none:=by rw [typeLookup_type,builtinLookup_eq_fast];kernel_rfl
theorem L9:typeLookup (.type "zip") "__length_hint__" = pure none:=by rw [typeLookup_type,builtinLookup_eq_fast];kernel_rfl
section
variable {prog:Program} {w:World} {A:Around} {E:Value -> Shared -> Prop} {s:Shared}
theorem Dy {z:Addr} (hT:s.TypeIs (.ref z) "zip") {Q:Bool -> Shared -> Prop} (h:Q true s):wpAny (model prog w) A (Builtin.List.listLengthHint (.ref z)) Q E s:=by
 unfold Builtin.List.listLengthHint
 refine wpAny_bind (wpAny_specialOf hT Hw ?_)
 refine wpAny_ite_split (λwH=>absurd wH (by decide)) (λ_=>?_)
 refine wpAny_ite_split (λwH=>absurd wH (by decide)) (λ_=>?_)
 refine wpAny_bind (wpAny_specialOf hT L9 ?_)
 exact wpAny_pure h
end
structure Zl (h:Heap) (z TI TO i1 i2 l1 l2 S:Addr) (xs ys:Array Value) (i:Nat):Prop where
 st:(IsZip h z TI TO .none /\ ∃ a b,IsPair h TO a b) \/ ∃ a f oa,sZ h z TI TO a f /\ h.get? a = some oa /\ S < a
 ti:IsPair h TI (.ref i1) (.ref i2)
 w1:h.IsListIter i1 l1 i
 w2:h.IsListIter i2 l2 i
 q1:h.IsList l1 xs
 q2:h.IsList l2 ys
structure Below (z TI TO i1 i2 l1 l2 S:Addr):Prop where
 D:ZipApart z TI TO i1 i2 l1 l2
 z:z < S
 TI:TI < S
 TO:TO < S
 i1:i1 < S
 i2:i2 < S
 l1:l1 < S
 l2:l2 < S
section
variable {prog:Program} {w:World} {A:Around} {E:Value -> Shared -> Prop} {s:Shared} {z TI TO i1 i2 l1 l2 S:Addr} {xs ys:Array Value} {i:Nat}
theorem Zl.keep {h h':Heap} (B:Below z TI TO i1 i2 l1 l2 S) (Z:Zl h z TI TO i1 i2 l1 l2 S xs ys i) (hk:∀ b o,b ≠ S -> h.get? b = some o -> h'.get? b = some o):Zl h' z TI TO i1 i2 l1 l2 S xs ys i:=by
 have n:∀ {b},b < S -> b ≠ S:=λh=>Nat.ne_of_lt h
 refine ⟨?_,hk _ _ (n B.TI) Z.ti,Z.w1.at λo e=>hk _ o (n B.i1) e,Z.w2.at λo e=>hk _ o (n B.i2) e,Z.q1.at λo e=>hk _ o (n B.l1) e,Z.q2.at λo e=>hk _ o (n B.l2) e⟩
 rcases Z.st with ⟨h1,a,b,h2⟩ | ⟨a,f,oa,h1,h2,h3⟩
 ·exact .inl ⟨hk _ _ (n B.z) h1,a,b,hk _ _ (n B.TO) h2⟩
 ·exact .inr ⟨a,f,oa,hk _ _ (n B.z) h1,hk _ _ (Nat.ne_of_gt h3) h2,h3⟩
theorem Dw {x y:Value} {Q:Option Value -> Shared -> Prop} (B:Below z TI TO i1 i2 l1 l2 S) (Z:Zl s.heap z TI TO i1 i2 l1 l2 S xs ys i) (hS:S < s.heap.objs.size) (hx:xs[i]? = some x) (hy:ys[i]? = some y)
  (hQ:∀ h',Zl h' z TI TO i1 i2 l1 l2 S xs ys (i + 1) -> IsPair h' s.heap.objs.size x y -> h'.objs.size = s.heap.objs.size + 1 -> (∀ c o,c ≠ z -> c ≠ TO -> c ≠ i1 -> c ≠ i2 -> s.heap.get? c = some o -> h'.get? c = some o) -> Q (some (.ref s.heap.objs.size)) { s with heap:=h' }) :
  wpAny (model prog w) A (pyNext (.ref z)) Q E s:=by
 have D:=B.D
 rcases Z.st with ⟨hz,a,b,Dq⟩ | ⟨a,f,oa,hz,ha,hSa⟩
 ·refine wpAny_pyNext_zip_item D hz Z.ti Dq Z.w1 Z.w2 Z.q1 Z.q2 hx hy λh' z1 o1 a1 b1 t1 Qw k1=>hQ h' ?_ t1 Qw k1
  exact ⟨.inr ⟨s.heap.objs.size,false,_,z1,t1,hS⟩,k1 _ _ D.TIz D.TITO D.TIi1 D.TIi2 Z.ti,a1,b1,Z.q1.at λo e=>k1 _ o D.l1z D.l1TO D.l1i1 D.l1i2 e,Z.q2.at λo e=>k1 _ o D.l2z D.l2TO D.l2i1 D.l2i2 e⟩
 ·refine nq D hz ha Z.ti Z.w1 Z.w2 Z.q1 Z.q2 hx hy λh' z1 a1 b1 t1 Qw k1=>hQ h' ?_ t1 Qw λc o c1 _ c3 c4 e=>k1 c o c1 c3 c4 e
  have n:∀ {b},b < S -> a ≠ b:=λh=>Nat.ne_of_gt (Nat.lt_trans h hSa)
  exact ⟨.inr ⟨a,true,oa,z1,k1 _ _ (n B.z) (n B.i1) (n B.i2) ha,hSa⟩,k1 _ _ D.TIz D.TIi1 D.TIi2 Z.ti,a1,b1,Z.q1.at λo e=>k1 _ o D.l1z D.l1i1 D.l1i2 e,Z.q2.at λo e=>k1 _ o D.l2z D.l2i1 D.l2i2 e⟩
theorem Dz {Q:Option Value -> Shared -> Prop} (hh:A.handled = none) (B:Below z TI TO i1 i2 l1 l2 S) (Z:Zl s.heap z TI TO i1 i2 l1 l2 S xs ys i) (uG:xs[i]? = none \/ ys[i]? = none)
  (hQ:∀ h',(∀ c o,c ≠ z -> c ≠ TO -> c ≠ i1 -> c ≠ i2 -> s.heap.get? c = some o -> h'.get? c = some o) -> Q none { s with heap:=h' }):wpAny (model prog w) A (pyNext (.ref z)) Q E s:=by
 have D:=B.D
 rcases Z.st with ⟨hz,a,b,Dq⟩ | ⟨a,f,oa,hz,ha,hSa⟩
 ·exact wpAny_pyNext_zip_end hh D hz Z.ti Dq Z.w1 Z.w2 Z.q1 Z.q2 uG hQ
 ·exact pE hh D hz ha Z.ti Z.w1 Z.w2 Z.q1 Z.q2 uG λh' k=>hQ h' λc o c1 _ c3 c4 e=>k c o c1 c3 c4 e
end
structure Qk (xs ys:Array Value) (lo:Addr) (h:Heap) (as:List Addr):Prop where
 above:∀ a ∈ as,lo < a
 nd:as.Nodup
 pairs:∀ (j:Nat) (a:Addr),as[j]? = some a -> ∃ x y,xs[j]? = some x /\ ys[j]? = some y /\ IsPair h a x y
section
variable {prog:Program} {w:World} {A:Around} {s:Shared} {R:Result -> Shared -> Prop} {z TI TO i1 i2 l1 l2 S:Addr} {xs ys:Array Value}
theorem Dv (hh:A.handled = none) (B:Below z TI TO i1 i2 l1 l2 S) (hn:min xs.size ys.size <= sizeLine) (res:Value) {h₁:Heap}
  (hR:∀ h' tk acc c as,(∀ b o,b ≠ S -> b ≠ z -> b ≠ TO -> b ≠ i1 -> b ≠ i2 -> h₁.get? b = some o -> h'.get? b = some o) -> h'.get? S = some { cls:=.type "list",dict:=none,data:=.seq acc c,slots:=#[] } -> as.length = min xs.size ys.size -> Qk xs ys S h' as ->
   acc.toList = as.map Value.ref -> R (.ok (.ret res)) { s with heap:=h',toks:=tk }) :
  ∀ (k i:Nat) (h:Heap) (tk c:Nat) (acc:Array Value) (as:List Addr),min xs.size ys.size - i = k -> i <= min xs.size ys.size -> Zl h z TI TO i1 i2 l1 l2 S xs ys i -> (∀ b o,b ≠ S -> b ≠ z -> b ≠ TO -> b ≠ i1 -> b ≠ i2 -> h₁.get? b = some o -> h.get? b = some o) ->
   h.get? S = some { cls:=.type "list",dict:=none,data:=.seq acc c,slots:=#[] } -> acc.toList = as.map Value.ref -> as.length = i -> Qk xs ys S h as ->
   codeAny (model prog w) A (.builtin "list.extend.loop" ⟨[.ref S,.ref z,res],[]⟩) R { s with heap:=h,toks:=tk }:=by
 have nz:S ≠ z:=Nat.ne_of_gt B.z
 have nO:S ≠ TO:=Nat.ne_of_gt B.TO
 have n1:S ≠ i1:=Nat.ne_of_gt B.i1
 have n2:S ≠ i2:=Nat.ne_of_gt B.i2
 have up4:∀ {a:Addr},S < a -> a ≠ z /\ a ≠ TO /\ a ≠ i1 /\ a ≠ i2:=λh=>⟨Nat.ne_of_gt (Nat.lt_trans B.z h),Nat.ne_of_gt (Nat.lt_trans B.TO h),Nat.ne_of_gt (Nat.lt_trans B.i1 h),Nat.ne_of_gt (Nat.lt_trans B.i2 h)⟩
 intro k
 induction k with
 | zero =>
  intro i h tk c acc as hk hi Z Cc hS fe OK hG
  refine codeAny_builtin PySem.F.entry_extend_loop ?_
  rw [Around.under_plainId PySem.F.plain_extend_loop _]
  show wpAny _ A.in1 (pyNext (.ref z) >>= _) _ _ _
  have uG:xs[i]? = none \/ ys[i]? = none:=by
   rcases Nat.le_total xs.size ys.size with q | q
   ·exact .inl (Array.getElem?_eq_none (by omega))
   ·exact .inr (Array.getElem?_eq_none (by omega))
  refine wpAny_bind (Dz (s:={ s with heap:=h,toks:=tk }) (A:=A.in1) hh B Z uG λh' he=>?_)
  refine wpAny_pure (hR h' tk acc c as (λb o h1 h2 h3 h4 h5 e=>he b o h2 h3 h4 h5 (Cc b o h1 h2 h3 h4 h5 e)) (he S _ nz nO n1 n2 hS) (by omega) ⟨hG.above,hG.nd,λj a hj=>?_⟩ fe)
  obtain ⟨x,y,e1,e2,e3⟩:=hG.pairs j a hj
  obtain ⟨a1,a2,a3,a4⟩:=up4 (hG.above a (List.mem_of_getElem? hj))
  exact ⟨x,y,e1,e2,he a _ a1 a2 a3 a4 e3⟩
 | succ k ih =>
  intro i h tk c acc as hk hi Z Cc hS fe OK hG
  have hV:i < min xs.size ys.size:=by omega
  have hx:xs[i]? = some (xs[i]'(by omega)):=Array.getElem?_eq_getElem _
  have hy:ys[i]? = some (ys[i]'(by omega)):=Array.getElem?_eq_getElem _
  have hsz:acc.size = i:=by rw [<- Array.length_toList,fe,List.length_map,OK]
  have Xc:S < h.objs.size:=Heap.lt_size hS
  refine codeAny_builtin PySem.F.entry_extend_loop ?_
  rw [Around.under_plainId PySem.F.plain_extend_loop _]
  show wpAny _ A.in1 (pyNext (.ref z) >>= _) _ _ _
  refine wpAny_bind (Dw (s:={ s with heap:=h,toks:=tk }) B Z Xc hx hy λh' Z' ht hz LR=>?_)
  dsimp only at ht hz LR ⊢
  have zV:=LR S _ nz nO n1 n2 hS
  have up:∀ b o,b ≠ S -> h'.get? b = some o -> (h'.update S (Obj.mapSeq (·.push (Value.ref h.objs.size)))).get? b = some o:=λb o hb e=>(Heap.get?_update_other _ _ (Ne.symm hb)).trans e
  show wpAny _ A.in1 (updateSeq S (·.push (Value.ref h.objs.size)) >>= _) _ _ _
  refine wpAny_bind ?_
  refine wpAny_updateSeq zV rfl (wpAny_pure ⟨plainId_quiet PySem.F.plain_extend_loop _,ih (i + 1) _ tk _ (acc.push (Value.ref h.objs.size)) (as ++ [h.objs.size]) (by omega) hV (Z'.keep B up)
   (λb o h1 h2 h3 h4 h5 e=>up b o h1 (LR b o h2 h3 h4 h5 (Cc b o h1 h2 h3 h4 h5 e))) (Heap.get?_update_self _ zV rfl) (by rw [Array.toList_push,fe,List.map_append];rfl) (by rw [List.length_append,OK];rfl) ⟨?_,?_,?_⟩⟩) (by rw [hsz];omega) (by show (acc.push (Value.ref h.objs.size)).size <= sizeLine + 1;rw [Array.size_push,hsz];omega)
  ·intro a ha
   rcases List.mem_append.mp ha with ha | ha
   ·exact hG.above a ha
   ·rw [List.mem_singleton.mp ha];exact Xc
  ·refine List.nodup_append.mpr ⟨hG.nd,List.nodup_cons.mpr ⟨List.not_mem_nil,List.nodup_nil⟩,λa ha b hb e=>?_⟩
   rw [List.mem_singleton.mp hb] at e
   subst e
   obtain ⟨j,hj⟩:=List.mem_iff_getElem?.mp ha
   obtain ⟨_,_,_,_,e⟩:=hG.pairs j _ hj
   exact absurd (Heap.lt_size e) (Nat.lt_irrefl _)
  ·intro j b hj
   rcases Nat.lt_trichotomy j as.length with q | q | q
   ·rw [List.getElem?_append_left q] at hj
    obtain ⟨x',y',e1,e2,e3⟩:=hG.pairs j b hj
    have hb:=hG.above b (List.mem_of_getElem? hj)
    obtain ⟨a1,a2,a3,a4⟩:=up4 hb
    exact ⟨x',y',e1,e2,up b _ (Nat.ne_of_gt hb) (LR b _ a1 a2 a3 a4 e3)⟩
   ·subst q
    have hb:h.objs.size = b:=by simpa using hj
    subst hb
    exact ⟨_,_,by rw [OK];exact hx,by rw [OK];exact hy,up _ _ (Nat.ne_of_gt Xc) ht⟩
   ·have Oh:(as ++ [h.objs.size])[j]? = none:=List.getElem?_eq_none (by rw [List.length_append,List.length_singleton];omega)
    rw [Oh] at hj;cases hj
theorem za (hh:A.handled = none) (B:Below z TI TO i1 i2 l1 l2 S) (hn:min xs.size ys.size <= sizeLine) (Z:Zl s.heap z TI TO i1 i2 l1 l2 S xs ys 0) (LL:IsZip s.heap z TI TO .none) (res:Value) (c₀:Nat) (hS:s.heap.get? S = some { cls:=.type "list",data:=.seq #[] c₀ })
  (hR:∀ h' tk acc c as,(∀ b o,b ≠ S -> b ≠ z -> b ≠ TO -> b ≠ i1 -> b ≠ i2 -> s.heap.get? b = some o -> h'.get? b = some o) -> h'.get? S = some { cls:=.type "list",dict:=none,data:=.seq acc c,slots:=#[] } -> as.length = min xs.size ys.size -> Qk xs ys S h' as ->
   acc.toList = as.map Value.ref -> R (.ok (.ret res)) { s with heap:=h',toks:=tk }) :
  wpAny (model prog w) A.in1 (Builtin.List.listExtendWith (.ref S) (.ref z) res)
   (λfin s'=>match fin with | .done f=>R (.ok f) s' | .again c'=>c'.quiet = true /\ codeAny (model prog w) A c' R s') (λe s'=>R (.error e) s') s:=by
 have hSz:S ≠ z:=Nat.ne_of_gt B.z
 have hT:s.TypeIs (.ref z) "zip":=⟨_,LL,rfl⟩
 unfold Builtin.List.listExtendWith
 refine wpAny_bind (wpAny_typeOf (T:="zip") hT ?_)
 have h1:Builtin.List.listSameRef (.ref S) (.ref z) = false:=by simp [Builtin.List.listSameRef,hSz]
 have h2:(Value.type "zip" == Value.type "list") = false:=by decide
 have h3:(Value.type "zip" == Value.type "tuple") = false:=by decide
 simp only [h1,h2,h3,Bool.or_false,Bool.false_eq_true,if_false]
 refine wpAny_bind (wpAny_pyIter_zip LL ?_)
 refine wpAny_bind (wpAny_holding (Dy hT ?_))
 refine wpAny_ite_split (λ_=>?_) (λwH=>absurd rfl wH)
 refine wpAny_bind (wpAny_rule ?_)
 refine wpAny_bind ?_
 show wpAny _ _ (updateSeq S (·.push .none) >>= λ_=>updateSeq S (·.pop)) _ _ _
 refine wpAny_bind (wpAny_updateSeq hS rfl ?_)
 have yg:=Heap.get?_update_self (Obj.mapSeq (·.push Value.none)) hS rfl
 refine wpAny_updateSeq (hz:=by seq_fits) yg rfl ?_
 have OM:=Heap.get?_update_self (Obj.mapSeq (·.pop)) yg rfl
 have Ly:∀ b o,b ≠ S -> s.heap.get? b = some o -> ((s.heap.update S (Obj.mapSeq (·.push Value.none))).update S (Obj.mapSeq (·.pop))).get? b = some o:=λb o hb e=>(Heap.get?_update_other _ _ (Ne.symm hb)).trans ((Heap.get?_update_other _ _ (Ne.symm hb)).trans e)
 refine wpAny_pure ⟨plainId_quiet PySem.F.plain_extend_loop _,?_⟩
 exact Dv hh B hn res (s:=s) (h₁:=s.heap) hR (min xs.size ys.size) 0 _ s.toks _ #[] [] (Nat.sub_zero _) (Nat.zero_le _) (Z.keep B Ly) (λb o h1 _ _ _ _ e=>Ly b o h1 e) OM rfl rfl ⟨(λ_ ha=>nomatch ha),List.nodup_nil,λj a hj=>by simp at hj⟩
theorem Dx (hh:A.handled = none) (B:Below z TI TO i1 i2 l1 l2 S) (hn:min xs.size ys.size <= sizeLine) (Z:Zl s.heap z TI TO i1 i2 l1 l2 S xs ys 0) (LL:IsZip s.heap z TI TO .none) (hS:s.heap.get? S = some { cls:=.type "list",data:=.seq #[] })
  (hR:∀ h' tk acc c as,(∀ b o,b ≠ S -> b ≠ z -> b ≠ TO -> b ≠ i1 -> b ≠ i2 -> s.heap.get? b = some o -> h'.get? b = some o) -> h'.get? S = some { cls:=.type "list",dict:=none,data:=.seq acc c,slots:=#[] } -> as.length = min xs.size ys.size -> Qk xs ys S h' as ->
   acc.toList = as.map Value.ref -> R (.ok (.ret .none)) { s with heap:=h',toks:=tk }) :
  wpAny (model prog w) A.in1 (Builtin.«list.__init__» ⟨[.ref S,.ref z],[]⟩)
   (λfin s'=>match fin with | .done f=>R (.ok f) s' | .again c'=>c'.quiet = true /\ codeAny (model prog w) A c' R s') (λe s'=>R (.error e) s') s:=by
 show wpAny _ _ (do let old <- Builtin.List.listItems (.ref S);Builtin.List.listUpdate (.ref S) (λ_=>#[]);letGo old.toList.reverse;Builtin.List.listExtendWith (.ref S) (.ref z) .none) _ _ s
 refine wpAny_bind ?_
 unfold Builtin.List.listItems
 refine wpAny_bind (wpAny_seqItems hS rfl (wpAny_pure ?_))
 show wpAny _ _ (updateSeq S (λ_=>#[]) >>= λ_=>letGo (#[]:Array Value).toList.reverse >>= λ_=>Builtin.List.listExtendWith (.ref S) (.ref z) .none) _ _ s
 refine wpAny_bind (wpAny_updateSeq hS rfl ?_)
 have yg:=Heap.get?_update_self (Obj.mapSeq (λ_=>(#[]:Array Value))) hS rfl
 have Ly:∀ b o,b ≠ S -> s.heap.get? b = some o -> (s.heap.update S (Obj.mapSeq (λ_=>(#[]:Array Value)))).get? b = some o :=
  λb o hb e=>(Heap.get?_update_other _ _ (Ne.symm hb)).trans e
 refine wpAny_bind (wpAny_letGo ?_)
 refine za hh B hn (Z.keep B Ly) (Ly _ _ (Nat.ne_of_lt B.z) LL) .none _ yg λh' tk acc c as hk zV hl hG fe=>?_
 exact hR h' tk acc c as (λb o h1 h2 h3 h4 h5 e=>hk b o h1 h2 h3 h4 h5 (Ly b o h1 e)) zV hl hG fe
end
section
variable {prog:Program} {w:World} {A:Around} {E:Value -> Shared -> Prop} {s:Shared} {z TI TO i1 i2 l1 l2:Addr} {xs ys:Array Value}
theorem DA {Q:Value -> Shared -> Prop} (hh:A.handled = none) (D:ZipApart z TI TO i1 i2 l1 l2) (hn:min xs.size ys.size <= sizeLine) (hz:IsZip s.heap z TI TO .none) (yf:IsPair s.heap TI (.ref i1) (.ref i2)) {a b:Value} (Dq:IsPair s.heap TO a b) (h1:s.heap.IsListIter i1 l1 0) (h2:s.heap.IsListIter i2 l2 0) (q1:s.heap.IsList l1 xs) (q2:s.heap.IsList l2 ys)
  (hQ:∀ h' tk acc c as,(∀ b o,b ≠ z -> b ≠ TO -> b ≠ i1 -> b ≠ i2 -> s.heap.get? b = some o -> h'.get? b = some o) -> h'.get? s.heap.objs.size = some { cls:=.type "list",dict:=none,data:=.seq acc c,slots:=#[] } -> as.length = min xs.size ys.size -> Qk xs ys s.heap.objs.size h' as ->
   acc.toList = as.map Value.ref -> Q (.ref s.heap.objs.size) { s with heap:=h',toks:=tk }) :
  wpAny (model prog w) A (call (.type "list") [.ref z]) Q E s:=by
 refine callType_codes (Q₁:=λobj s₁=>obj = .ref s.heap.objs.size /\ s₁ = { s with heap:=s.heap.push { cls:=.type "list",data:=.seq #[] } }) PySem.F.called_list (PySem.F.typeCall_list_1 _) PySem.F.entry_list_init
  (code_list_new _ ⟨rfl,rfl⟩) λobj s₁ h₁=>?_
 obtain ⟨rfl,rfl⟩:=h₁
 have hS:(s.heap.push { cls:=.type "list",data:=.seq #[] }).get? s.heap.objs.size = some { cls:=.type "list",data:=.seq #[] }:=Heap.get?_push_size _ rfl
 have up:∀ b o,s.heap.get? b = some o -> (s.heap.push { cls:=.type "list",data:=.seq #[] }).get? b = some o:=λb o e=>Heap.get?_push_of_some _ e
 have B:Below z TI TO i1 i2 l1 l2 s.heap.objs.size:=⟨D,Heap.lt_size hz,Heap.lt_size yf,Heap.lt_size Dq,(by obtain ⟨_,e,_⟩:=h1;exact Heap.lt_size e),(by obtain ⟨_,e,_⟩:=h2;exact Heap.lt_size e),(by obtain ⟨_,e,_⟩:=q1;exact Heap.lt_size e),(by obtain ⟨_,e,_⟩:=q2;exact Heap.lt_size e)⟩
 refine ⟨⟨_,hS,rfl⟩,PySem.F.args_list_init_2 _ _,Dx (A:=A.in1) hh B hn ⟨.inl ⟨up _ _ hz,a,b,up _ _ Dq⟩,up _ _ yf,h1.at λo e=>up _ o e,h2.at λo e=>up _ o e,q1.at λo e=>up _ o e,q2.at λo e=>up _ o e⟩ (up _ _ hz) hS λh' tk acc c as hk zV hl hG fe=>?_⟩
 exact ⟨rfl,hQ h' tk acc c as (λb o h2 h3 h4 h5 e=>hk b o (Nat.ne_of_lt (Heap.lt_size e)) h2 h3 h4 h5 (up b o e)) zV hl hG fe⟩
end
end DI
end
section
namespace DI
open PySem PySem.Spec PyProof.Rows L2
theorem Inv.NQ {X:Cx} {pins:List (Addr × Obj)} {σ:St} {H H':Hp} {s:Shared} {h':Heap} {t':Nat} (I:Inv X pins σ H s) (k:∀ b u,s.heap.get? b = some u -> h'.get? b = some u) (up:∀ b u,H b = some u -> H' b = some u)
  (nw:∀ b u,H' b = some u -> H b = some u \/ (s.heap.objs.size <= b /\ cF X.prog X.w H' h' b u)):Inv X pins σ H' { s with heap:=h',toks:=t' }:=by
 refine I.step (g':=s.gens) (d':=s.drawn) (ch:=[]) (λb hb=>nomatch hb) (λb o _ _ _ e _=>k b o e) (λb o _ _ _ e _=>⟨o.slots,k b o e⟩) (λb u _ e n=>?_)
  (λb o _ e=>⟨o,k b o e⟩) (λ_ _ e=>up _ _ e) (λ_ _ _ e=>up _ _ e) (λb ps e=>⟨#[],by rw [up _ _ e];simp⟩) (λm hm=>?_) (λb u e=>?_) I.bare
 ·cases q:H' b with
  | none=>rfl
  | some v =>
   rcases nw b v q with z | ⟨z,_⟩
   ·rw [n] at z;cases z
   ·exact absurd (Heap.lt_size e) (Nat.not_lt.mpr z)
 ·obtain ⟨o,es,ep,ho,r⟩:=hm
  exact ⟨o,es,ep,k _ o ho,r⟩
 ·rcases nw b u e with e | ⟨_,e⟩
  ·exact (I.cX b u e).ko (λc v _ q=>k c v q) (λ_ q=>up _ _ q) λ_ _ q=>up _ _ q
  ·exact e
noncomputable def pS (H:Hp):List (Addr × V × V) -> Hp
 | []=>H
 | q :: r=>upd (pS H r) q.1 (.tup [q.2.1,q.2.2])
theorem kD {H:Hp} {b:Addr} {u:HO} (e:H b = some u):∀ {r:List (Addr × V × V)},(∀ q ∈ r,H q.1 = none) -> pS H r b = some u
 | [],_=>e
 | q :: r,h=>by
  have hn:b ≠ q.1:=λz=>by rw [z,h q List.mem_cons_self] at e;cases e
  show upd (pS H r) q.1 _ b = _
  rw [aE hn]
  exact kD e λq hq=>h q (List.mem_cons_of_mem _ hq)
theorem x_ {H:Hp}:∀ {r:List (Addr × V × V)},(r.map (·.1)).Nodup -> ∀ q ∈ r,pS H r q.1 = some (.tup [q.2.1,q.2.2])
 | [],_,_,h=>nomatch h
 | q' :: r,hn,q,h=>by
  show upd (pS H r) q'.1 _ q.1 = _
  have ye:=List.nodup_cons.mp hn
  rcases List.mem_cons.mp h with rfl | h
  ·exact aD
  ·have:q.1 ≠ q'.1:=λz=>ye.1 (by show q'.1 ∈ _;rw [<- z];exact List.mem_map_of_mem h)
   rw [aE this]
   exact x_ ye.2 q h
theorem uA {H:Hp} {b:Addr} {u:HO}:∀ {r:List (Addr × V × V)},pS H r b = some u -> H b = some u \/ ∃ q ∈ r,q.1 = b /\ u = .tup [q.2.1,q.2.2]
 | [],e=>.inl e
 | q :: r,e=>by
  replace e:upd (pS H r) q.1 (.tup [q.2.1,q.2.2]) b = some u:=e
  by_cases z:b = q.1
  ·subst z
   rw [aD] at e
   cases e
   exact .inr ⟨q,List.mem_cons_self,rfl,rfl⟩
  ·rw [aE z] at e
   rcases uA e with h | ⟨q',h1,h2⟩
   ·exact .inl h
   ·exact .inr ⟨q',List.mem_cons_of_mem _ h1,h2⟩
noncomputable def tLZ (K:PySem.W.Frag) (ta:TA):TE:=λσ H Q=>ta σ H λvs H1=>∃ a b xs ys,vs = [.ref a,.ref b] /\ dw K H1 a xs /\ dw K H1 b ys /\
 ∀ (l:Addr) (r:List (Addr × V × V)),H1 l = none -> (∀ q ∈ r,H1 q.1 = none) -> (r.map (·.1)).Nodup -> l ∉ r.map (·.1) -> r.map (·.2) = xs.zip ys -> Q (.ref l) (upd (pS H1 r) l (.lst (r.map λq=>V.ref q.1)))
theorem Ep {X:Cx} {e1 e2:Expr} {ta:TA} {p pos p' pos':Pos} (hc:X.calm = true) (Oq:Gl X "list") (WS:X.mg "list" = none) (hg:Gl X "zip") (hm:X.mg "zip" = none) (ha:PA X [e1,e2] ta) (hs:∀ es,starEach (e1 :: es) X.env = (false,eval e1 X.env) :: starEach es X.env) (G9:∀ es,starEach (e2 :: es) X.env = (false,eval e2 X.env) :: starEach es X.env) :
  PE X (.Call (.Name "list" p') [.Call (.Name "zip" p) [e1,e2] [] pos] [] pos') (tLZ X.K ta):=by
 intro pins s σ H Q I h
 refine wpAny_Call_Name_kw (eB I Oq WS boot_list ?_)
 refine PyProof.Rows.callWith_type1 ?_
 show wpAny _ _ (spliced ((false,eval (.Call (.Name "zip" p) [e1,e2] [] pos) X.env) :: backTo pos' (starEach [] X.env))) _ _ s
 refine Calls.spliced_cons ?_
 refine Call_ (eB I hg hm boot_zip (PyProof.Rows.callWith_type1 (dh (ha pos pins s σ H _ I h) λus s1 ⟨vs,H1,I1,r1,q1⟩=>?_) (hs _) (by rw [G9];rfl)))
 obtain ⟨a,b,xs,ys,e,q1,q2,hq⟩:=q1
 subst e
 obtain ⟨u,v,rfl,ru,rv⟩:=vals2 r1
 cases ru
 cases rv
 obtain ⟨ai,rx,p1,hz1⟩:=I1.list q1
 obtain ⟨its',ry,p2,QV⟩:=I1.list q2
 refine call_zip_2 p1.isList p2.isList λh' z t o l1 l2 sz k=>Calls.spliced_nil ?_
 have AA:h'.IsList a ai.toArray:=p1.isList.at λo e=>k _ o e
 have wD:h'.IsList b its'.toArray:=p2.isList.at λo e=>k _ o e
 have cls:∀ {x y:Addr} {o u:Obj},h'.get? x = some o -> h'.get? y = some u -> o.cls ≠ u.cls -> x ≠ y:=λh1 h2 h3=>aV h1 h2 h3
 have al:@LT.lt Nat _ a s1.heap.objs.size:=by obtain ⟨_,e,_⟩:=p1.isList;exact Heap.lt_size e
 have bl:@LT.lt Nat _ b s1.heap.objs.size:=by obtain ⟨_,e,_⟩:=p2.isList;exact Heap.lt_size e
 have D:ZipApart (s1.heap.objs.size + 4) (s1.heap.objs.size + 2) (s1.heap.objs.size + 3) s1.heap.objs.size (s1.heap.objs.size + 1) a b:=by
  constructor <;> first | exact Nat.ne_of_lt (by omega) | exact Nat.ne_of_gt (by omega)
 have lx:=rx.length
 have ly:=ry.length
 have hn:min ai.toArray.size its'.toArray.size <= sizeLine:=by simp;omega
 refine DA (s:={ s1 with heap:=h' }) (I1.ok.hd hc) D hn z t o l1 l2 AA wD λh'' tk acc c as hk hS hl hG fe=>?_
 dsimp only at hk hS hG ⊢
 have hlen:as.length = (xs.zip ys).length:=by rw [hl,List.length_zip];simp;omega
 have keep:∀ b o,s1.heap.get? b = some o -> h''.get? b = some o:=λb o e=>by
  have:@LT.lt Nat _ b s1.heap.objs.size:=Heap.lt_size e
  exact hk b o (Nat.ne_of_lt (by omega)) (Nat.ne_of_lt (by omega)) (Nat.ne_of_lt (by omega)) (Nat.ne_of_lt (by omega)) (k b o e)
 have fresh:∀ c,s1.heap.objs.size <= c -> H1 c = none:=λc h=>I1.cX.fresh h
 have hS5:h'.objs.size = s1.heap.objs.size + 5:=sz
 let r:List (Addr × V × V):=as.zip (xs.zip ys)
 have r1:r.map (·.1) = as:=List.map_fst_zip (by omega)
 have r2:r.map (·.2) = xs.zip ys:=List.map_snd_zip (by omega)
 have wH:∀ c ∈ as,@LT.lt Nat _ h'.objs.size c:=hG.above
 have WB:∀ q ∈ r,H1 q.1 = none:=λq hq=>fresh _ (by have:=wH q.1 (by rw [<- r1];exact List.mem_map_of_mem hq);omega)
 have JX:H1 h'.objs.size = none:=fresh _ (by omega)
 have JV:h'.objs.size ∉ r.map (·.1):=by rw [r1];exact λz=>absurd (wH _ z) (Nat.lt_irrefl _)
 have Dj:(r.map (·.1)).Nodup:=by rw [r1];exact hG.nd
 have Cb:(as.map V.ref) = r.map λq=>V.ref q.1:=by rw [<- r1,List.map_map];rfl
 refine ⟨.ref h'.objs.size,upd (pS H1 r) h'.objs.size (.lst (r.map λq=>V.ref q.1)),?_,rfl,hq _ r JX WB Dj JV r2⟩
 refine Inv.NQ (s:=s1) (t':=tk) I1 keep (λb u e=>?_) λb u e=>?_
 ·rw [aE λz=>by rw [z,JX] at e;cases e]
  exact kD e WB
 ·by_cases zb:b = h'.objs.size
  ·subst zb
   rw [aD] at e
   cases e
   refine .inr ⟨by omega,?_,acc.toList,c,?_,by rw [Array.toArray_toList];exact hS⟩
   ·rw [<- Cb,List.length_map,hlen,List.length_zip];omega
   ·rw [<- Cb,fe]
    clear fe Cb hG hl hlen r1 wH Dj r r2 WB JV hS hk keep
    induction as with
    | nil=>exact .nil
    | cons a as ih=>exact .cons rfl ih
  ·rw [aE zb] at e
   rcases uA e with e | ⟨q,hq,rfl,rfl⟩
   ·exact .inl e
   ·have hm:q.1 ∈ as:=by rw [<- r1];exact List.mem_map_of_mem hq
    refine .inr ⟨by have:=wH _ hm;omega,?_⟩
    obtain ⟨j,hj⟩:=List.mem_iff_getElem?.mp hq
    have WX:as[j]? = some q.1 /\ (xs.zip ys)[j]? = some q.2:=by
     have:=List.getElem?_zip_eq_some.mp hj
     exact this
    obtain ⟨x,y,ex,ey,hp⟩:=hG.pairs j q.1 WX.1
    obtain ⟨e1,e2⟩:xs[j]? = some q.2.1 /\ ys[j]? = some q.2.2:=List.getElem?_zip_eq_some.mp WX.2
    obtain ⟨u1,Wz,S5⟩:=rx.get e1
    obtain ⟨u2,hu2,S3⟩:=ry.get e2
    rw [List.getElem?_toArray,Wz] at ex
    rw [List.getElem?_toArray,hu2] at ey
    cases ex
    cases ey
    exact rb S5 S3 hp
end DI
end
section
namespace DI
open PySem PySem.Spec PyProof.Rows L2
noncomputable def pairD (x y:D):D:=.tup [x,y]
noncomputable def Jn (xs:List D):O D:=match two xs with
 | some z=>match z.1 with
  | .lst _ a=>match z.2 with
   | .lst _ b=>ok (.lst .ow (af ba (List.zipWith pairD a b)))
   | _=>none
  | _=>none
 | none=>none
theorem Jm {x y d:D} (h:Jn [x,y] = ok d):∃ f a g b,x = .lst f a /\ y = .lst g b /\ d = .lst .ow (af ba (List.zipWith pairD a b)):=by
 cases x <;> first | (cases h;done) | skip
 cases y <;> first | (cases h;done) | skip
 cases h
 exact ⟨_,_,_,_,rfl,rfl,rfl⟩
noncomputable def yL (sc:Scope) (bl:List Str) (e:Expr):Option (List Expr):=match eh e with
 | some z=>match one z.2 with
  | some i=>if z.1 = ("list" : Str) /\ gT sc z.1 = true /\ z.1 ∈ bl then gq sc bl i else none
  | none=>none
 | none=>none
theorem CJ {sc:Scope} {bl:List Str} {e:Expr} {args:List Expr} (h:yL sc bl e = some args):∃ p pos i,e = .Call (.Name ("list" : Str) p) [i] [] pos /\ gT sc ("list" : Str) = true /\ ("list" : Str) ∈ bl /\ gq sc bl i = some args:=by
 unfold yL at h
 cases hv:eh e with
 | none=>rw [hv] at h;cases h
 | some z =>
  obtain ⟨x,as⟩:=z
  rw [hv] at h
  obtain ⟨p,pos,rfl⟩:=cM hv
  have h2:(match one as with | some i=>if x = ("list" : Str) /\ gT sc x = true /\ x ∈ bl then gq sc bl i else none | none=>none) = some args:=h
  clear h
  cases hw:one as with
  | none=>rw [hw] at h2;cases h2
  | some a =>
   rw [hw] at h2
   have h3:(if x = ("list" : Str) /\ gT sc x = true /\ x ∈ bl then gq sc bl a else none) = some args:=h2
   clear h2
   obtain rfl:=bL hw
   by_cases hc:x = ("list" : Str) /\ gT sc x = true /\ x ∈ bl
   ·rw [if_pos hc] at h3
    obtain ⟨rfl,h1,h2⟩:=hc
    exact ⟨_,_,_,rfl,h1,h2,h3⟩
   ·rw [if_neg hc] at h3;cases h3
theorem uf {T:jJ} {N:iQ} (hN:∀ k k' p xs f,N k p xs f -> N k' p xs f):∀ {r:List (Addr × V × V)} {xs ys:List V} {a b:List D} {k1 k2 k:aJ} {n1 n2 n:Nat},ag T N k1 n1 xs a -> ag T N k2 n2 ys b -> r.map (·.2) = xs.zip ys -> (∀ q ∈ r,T q.1 [q.2.1,q.2.2]) -> ag T N k n (r.map λq=>V.ref q.1) (List.zipWith pairD a b)
 | [],xs,ys,a,b,_,_,_,_,_,_,r1,r2,e,_=>by
  have l1:=r1.length
  have l2:=r2.length
  have e':=congrArg List.length e
  rw [List.length_zip] at e'
  have:List.zipWith pairD a b = []:=List.eq_nil_of_length_eq_zero (by rw [List.length_zipWith];simp at e';omega)
  rw [this]
  exact .nil
 | q :: r,xs,ys,a,b,k1,k2,k,n1,n2,n,r1,r2,e,ht=>by
  cases r1 with
  | nil=>cases e
  | cons h1 t1=>cases r2 with
   | nil=>cases e
   | cons h2 t2 =>
    have e1:q.2 = (_,_):=(List.cons.inj e).1
    have e2:=(List.cons.inj e).2
    refine .cons (.tup (ht q List.mem_cons_self) ?_) (uf hN t1 t2 e2 λq hq=>ht q (List.mem_cons_of_mem _ hq))
    rw [e1]
    have m1:=Rep.iX (T':=T) (N':=N) (g:=id) (λ_ _ h=>h) hN h1 (0 :: n :: k)
    have m2:=Rep.iX (T':=T) (N':=N) (g:=id) (λ_ _ h=>h) hN h2 (1 :: n :: k)
    rw [eL] at m1 m2
    exact .cons m1 (.cons m2 .nil)
theorem cQ (g:Fl -> Fl):∀ a b:List D,af g (List.zipWith pairD a b) = List.zipWith pairD (af g a) (af g b)
 | [],_=>by cases ‹List D› <;> rfl
 | _ :: _,[]=>rfl
 | x :: a,y :: b=>by
  show aA g (pairD x y) :: af g (List.zipWith pairD a b) = _
  rw [cQ g a b];rfl
theorem NK {Φ:az} {n:Nat} (hΦ:Φ n = Jn) {X:Cx} {sc:Scope} {bl:List Str} {k:Nat} (L:PX X sc bl k) {e:Expr} {args:List Expr} (he:yL sc bl e = some args) {F:Addr -> Prop} {cs:List CE} (hs:qm X F Φ cs args):PE X e (tD X F Φ (.du n cs)) /\ PT X e (gY X F Φ (.du n cs)):=by
 obtain ⟨p,pos,i,rfl,h1,h2,hz⟩:=CJ he
 obtain ⟨p',pos',a,b,rfl,rfl,h3,h4⟩:=lR hz
 obtain ⟨⟨c,d,rfl,_,_⟩,pa,s1,s2⟩:=lE hs
 have this:PE X (.Call (.Name ("list" : Str) p) [.Call (.Name ("zip" : Str) p') [a,b] [] pos'] [] pos) (tD X F Φ (.du n [c,d])):=by
  refine PE.imp (Ep L.calm (L.gl h1) (L.bl _ h2) (L.gl h3) (L.bl _ h4) pa s1 s2) λσ H Q hq=>?_
  obtain ⟨R,τ,ρ,d',Si,ev,hq⟩:=hq
  obtain ⟨xs,c_,ev⟩:=ah ev
  rw [hΦ] at ev
  refine ⟨R,τ,ρ,xs,Si,c_,λvs H1 e1 r1=>?_⟩
  obtain ⟨τt,fr,rs⟩:=r1
  have hl:∃ x y,xs = [x,y]:=by
   unfold Jn at ev
   cases hw:two xs with
   | none=>rw [hw] at ev;cases ev
   | some z=>exact ⟨z.1,z.2,jL hw⟩
  obtain ⟨x,y,rfl⟩:=hl
  obtain ⟨f,da,g,db,rfl,rfl,rfl⟩:=Jm ev
  obtain ⟨v,w,rfl,rx,ry⟩:=rs.two
  cases rx with
  | lst hx ax=>cases ry with
   | lst hy ay =>
    refine ⟨_,_,_,_,rfl,hx.sq,hy.sq,λl r hl hr hn JV hz=>hq _ _ ?_ ?_⟩
    ·intro b o e
     have e':=e1 b o e
     rw [aE λz=>by rw [z,hl] at e';cases e']
     exact kD e' hr
    ·have sm:aj H1 (upd (pS H1 r) l (.lst (r.map λq=>V.ref q.1))):=λb o e=>by
      rw [aE λz=>by rw [z,hl] at e;cases e]
      exact kD e hr
     refine bG.rN (e1.free hl) (e1.trans sm) aD ?_
     rw [cQ]
     refine uf nd.oN ((ax.e9 Si fr (k':=[]) (n':=0)).imp (λ_ _ h=>aC.same sm h) λ_ _ _ _ h=>nd.same sm h) ((ay.e9 Si fr (k':=[]) (n':=0)).imp (λ_ _ h=>aC.same sm h) λ_ _ _ _ h=>nd.same sm h) hz λq hq=>?_
     have yc:q.1 ≠ l:=λz=>JV (by rw [<- z];exact List.mem_map_of_mem hq)
     exact aC.of (by rw [aE yc];exact x_ hn q hq)
 exact ⟨this,cP this λ_=>rfl⟩
end DI
end
section
namespace DI
open PySem PySem.Spec PyProof.Rows L2
noncomputable def qq (n:Int):List Int:=(List.range n.toNat).map λ(k:Nat)=>(k:Int)
noncomputable def G0 (xs:List D):O D:=match one xs with
 | some x=>match x with
  | .int n=>if n <= eM /\ -eM <= n then ok (.lst .ow ((qq n).map D.int)) else none
  | _=>none
 | none=>none
theorem Jq {xs:List D} {d:D} (h:G0 xs = ok d):∃ n:Int,xs = [.int n] /\ n <= eM /\ -eM <= n /\ d = .lst .ow ((qq n).map D.int):=by
 unfold G0 at h
 cases hw:one xs with
 | none=>rw [hw] at h;cases h
 | some x =>
  obtain rfl:=bL hw
  rw [hw] at h
  cases x <;> first | (cases h;done) | skip
  rename_i n
  obtain ⟨⟨h1,h2⟩,h3⟩:=qK h
  exact ⟨n,rfl,h1,h2,h3.symm⟩
noncomputable def yM (sc:Scope) (bl:List Str) (e:Expr):Option (List Expr):=match eh e with
 | some z=>match one z.2 with
  | some i=>if z.1 = ("list" : Str) /\ gT sc z.1 = true /\ z.1 ∈ bl then i_ ("range" : Str) sc bl i else none
  | none=>none
 | none=>none
theorem CK {sc:Scope} {bl:List Str} {e:Expr} {args:List Expr} (h:yM sc bl e = some args):∃ p pos i,e = .Call (.Name ("list" : Str) p) [i] [] pos /\ gT sc ("list" : Str) = true /\ ("list" : Str) ∈ bl /\ i_ ("range" : Str) sc bl i = some args:=by
 unfold yM at h
 cases hv:eh e with
 | none=>rw [hv] at h;cases h
 | some z =>
  obtain ⟨x,as⟩:=z
  rw [hv] at h
  obtain ⟨p,pos,rfl⟩:=cM hv
  have h2:(match one as with | some i=>if x = ("list" : Str) /\ gT sc x = true /\ x ∈ bl then i_ ("range" : Str) sc bl i else none | none=>none) = some args:=h
  clear h
  cases hw:one as with
  | none=>rw [hw] at h2;cases h2
  | some a =>
   rw [hw] at h2
   have h3:(if x = ("list" : Str) /\ gT sc x = true /\ x ∈ bl then i_ ("range" : Str) sc bl a else none) = some args:=h2
   clear h2
   obtain rfl:=bL hw
   by_cases hc:x = ("list" : Str) /\ gT sc x = true /\ x ∈ bl
   ·rw [if_pos hc] at h3
    obtain ⟨rfl,h1,h2⟩:=hc
    exact ⟨_,_,_,rfl,h1,h2,h3⟩
   ·rw [if_neg hc] at h3;cases h3
noncomputable def tLR (ta:TA):TE:=λσ H Q=>ta σ H λvs H1=>∃ n:Int,vs = [.int n] /\ n <= eM /\ -eM <= n /\ ∀ l,H1 l = none -> Q (.ref l) (upd H1 l (.lst ((qq n).map V.int)))
theorem tx:∀ {ns:List Int} {us:List Value},us.length = ns.length -> (∀ (i:Nat) (u:Value),us[i]? = some u -> ∃ t,u = .int (ns.getD i 0) t) -> Vals (ns.map V.int) us
 | [],[],_,_=>.nil
 | [],_ :: _,h,_=>by simp at h
 | _ :: _,[],h,_=>by simp at h
 | n :: ns,u :: us,h,hu=>.cons (hu 0 u rfl) (tx (by simpa using h) λi v hv=>hu (i + 1) v hv)
theorem zy {X:Cx} {e1:Expr} {ta:TA} {p pos p' pos':Pos} (hc:X.calm = true) (Oq:Gl X "list") (WS:X.mg "list" = none) (hg:Gl X "range") (hm:X.mg "range" = none) (ha:PA X [e1] ta) (hs:starEach [e1] X.env = [(false,eval e1 X.env)]) :
  PE X (.Call (.Name "list" p') [.Call (.Name "range" p) [e1] [] pos] [] pos') (tLR ta):=by
 intro pins s σ H Q I h
 refine wpAny_Call_Name_kw (eB I Oq WS boot_list ?_)
 refine PyProof.Rows.callWith_type1 ?_
 show wpAny _ _ (spliced ((false,eval (.Call (.Name "range" p) [e1] [] pos) X.env) :: backTo pos' (starEach [] X.env))) _ _ s
 refine Calls.spliced_cons ?_
 refine Call_ (eB I hg hm boot_range (PyProof.Rows.callWith_type1 (dh (ha pos pins s σ H _ I h) λus s1 ⟨vs,H1,I1,r1,q1⟩=>?_) hs rfl))
 obtain ⟨n,e,n1,n2,hq⟩:=q1
 subst e
 have n1':n <= 1000000:=n1
 have n2':-1000000 <= n:=n2
 cases r1 with
 | cons r rr =>
  cases rr
  obtain ⟨t,rfl⟩:=r
  refine call_range_1 (Calls.spliced_nil ?_)
  have e2:Builtin.Range.rangeSize 0 n 1 = ((n.toNat:Nat):Int):=by rw [rangeSize_one];split <;> omega
  refine call_list_range (I1.ok.hd hc) (IsRange.new ..) (small_one (by omega) (by omega) (by omega) (by omega)) e2 (by omega) λh' tk Li c' hk hS fe=>?_
  have keep:∀ b o,s1.heap.get? b = some o -> h'.get? b = some o:=λb o e=>hk b o (Heap.get?_push_of_some _ e)
  have hsz:Li.size = n.toNat:=fe.1
  refine ⟨.ref _,upd H1 _ (.lst ((qq n).map V.int)),I1.laid (t':=tk) keep ?_ ⟨?_,Li.toList,c',?_,?_⟩,rfl,hq _ (I1.cX.fresh ?_)⟩
  ·show s1.heap.objs.size <= (s1.heap.push _).objs.size
   simp [Heap.push]
  ·rw [sizeLine_eq];simp [qq];omega
  ·refine tx (by simp [qq,hsz]) λi u hu=>?_
   have B8:Li[i]? = some u:=by simpa using hu
   have hi:i < n.toNat:=by rw [<- hsz];exact (Array.getElem?_eq_some_iff.mp B8).1
   obtain ⟨t,rfl⟩:=fe.2 i u B8
   refine ⟨t,?_⟩
   have:(qq n).getD i 0 = (i:Int):=by unfold qq;simp [List.getD,hi]
   rw [this]
   congr 1
   omega
  ·rw [Array.toArray_toList];exact hS
  ·show s1.heap.objs.size <= (s1.heap.push _).objs.size
   simp [Heap.push]
theorem NL {Φ:az} {n:Nat} (hΦ:Φ n = G0) {X:Cx} {sc:Scope} {bl:List Str} {k:Nat} (L:PX X sc bl k) {e:Expr} {args:List Expr} (he:yM sc bl e = some args) {F:Addr -> Prop} {cs:List CE} (hs:qm X F Φ cs args):PE X e (tD X F Φ (.du n cs)) /\ PT X e (gY X F Φ (.du n cs)):=by
 obtain ⟨p,pos,i,rfl,h1,h2,hz⟩:=CK he
 obtain ⟨p',pos',a,rfl,rfl,h3,h4⟩:=qU hz
 cases cs with
 | nil=>exact hs.elim
 | cons c cs=>cases cs with
  | cons _ _=>exact hs.2.2.2.elim
  | nil =>
   have pa:PA X [a] (tM X F Φ [c]):=PA.imp (dB hs.1 (PA.imp gm λ_ _ _ h=>km h) (hs.2.1 _)) λ_ _ _ h=>gG h
   have this:PE X (.Call (.Name ("list" : Str) p) [.Call (.Name ("range" : Str) p') [a] [] pos'] [] pos) (tD X F Φ (.du n [c])):=by
    refine PE.imp (zy L.calm (L.gl h1) (L.bl _ h2) (L.gl h3) (L.bl _ h4) pa (hs.2.1 _)) λσ H Q hq=>?_
    obtain ⟨R,τ,ρ,d,Si,ev,hq⟩:=hq
    obtain ⟨xs,c_,ev⟩:=ah ev
    rw [hΦ] at ev
    obtain ⟨m,rfl,m1,m2,rfl⟩:=Jq ev
    refine ⟨R,τ,ρ,_,Si,c_,λvs H1 e1 r1=>?_⟩
    obtain ⟨τt,fr,rs⟩:=r1
    obtain ⟨v,rfl,rv⟩:=rs.one
    cases rv
    refine ⟨m,rfl,m1,m2,λl hl=>hq _ _ ?_ ?_⟩
    ·intro b o e
     have e':=e1 b o e
     rw [aE λz=>by rw [z,hl] at e';cases e']
     exact e'
    ·refine bG.rN (e1.free hl) (λb o e=>?_) aD (eD _)
     have e':=e1 b o e
     rw [aE λz=>by rw [z,hl] at e';cases e']
     exact e'
   exact ⟨this,cP this λ_=>rfl⟩
end DI
end
section
namespace DI
open PySem PySem.Spec PyProof.Rows L2
theorem ag.Hi {T:jJ} {N:iQ} {k:aJ}:∀ (j:Nat) {n:Nat} {vs:List V} {ds:List D},ag T N k n vs ds -> ag T N k (n + j) (vs.drop j) (ds.drop j)
 | 0,_,_,_,h=>h
 | j + 1,_,_,_,.nil=>.nil
 | j + 1,n,_,_,.cons h t=>by
  rw [show n + (j + 1) = n + 1 + j by omega]
  exact ag.Hi j t
theorem ag.Gq {T:jJ} {N:iQ} {k:aJ}:∀ (j:Nat) {n:Nat} {vs:List V} {ds:List D},ag T N k n vs ds -> ag T N k n (vs.take j) (ds.take j)
 | 0,_,_,_,_=>by rw [List.take_zero,List.take_zero];exact .nil
 | j + 1,_,_,_,.nil=>.nil
 | j + 1,n,_,_,.cons h t=>.cons h (ag.Gq j t)
noncomputable def qa {α:Type} (b:Bool) (k:Nat) (xs:List α):List α:=if b then xs.drop k else xs.take k
noncomputable def M3 (K:PySem.W.Frag) (b:Bool):V -> Option Int -> Option Int -> Hp -> VK -> Prop:=λx lo hi H Q=>∃ (a:Addr) (xs:List V) (k:Nat),x = .ref a /\ dw K H a xs /\ lo = (if b then some (k:Int) else none) /\ hi = (if b then none else some (k:Int)) /\ k <= xs.length /\ ∀ p,H p = none -> Q (.ref p) (upd H p (.lst (qa b k xs)))
theorem xE {X:Cx} (b:Bool):SlR X (M3 X.K b):=by
 intro pins s σ H x v vl vu lo hi sl Q I rx hs pl pu h
 obtain ⟨a,xs,k,rfl,hx,rfl,rfl,hk,q⟩:=h
 cases rx
 obtain ⟨ai,r,GQ,hz⟩:=I.list hx
 have hl:=eK GQ
 have hlen:ai.length = xs.length:=r.length.symm
 refine ⟨"list",_,slot_list_getitem.lookup,hl.typeIs,wpAny_getItem_list_slice hl hs pl pu .none (by simp) ?_ (by rw [List.size_toArray,hlen];exact hz)⟩
 have e:slicePick ai.toArray (if b then some (k:Int) else none) (if b then none else some (k:Int)) none = (qa b k ai).toArray:=by
  cases b with
  | true=>exact slicePick_from ai.toArray k (by simp;omega)
  | false=>exact slicePick_upto ai.toArray k (by simp;omega)
 have rc:Vals (qa b k xs) (qa b k ai):=by
  cases b with
  | true=>exact r.drop k
  | false=>exact r.take k
 have lc:(qa b k xs).length <= xs.length:=by
  cases b with
  | true=>show (xs.drop k).length <= _;rw [List.length_drop];omega
  | false=>show (xs.take k).length <= _;rw [List.length_take];omega
 rw [e]
 exact ⟨.ref s.heap.objs.size,_,I.Js (t':=s.toks) rc (Nat.le_trans lc hz),rfl,q _ I.fresh⟩
noncomputable def cutD (b:Bool) (xs:List D):O D:=match two xs with
 | some z=>match z.1 with
  | .lst _ ds=>match z.2 with
   | .int k=>if 0 <= k /\ k <= ds.length then ok (.lst .ow (af ba (qa b k.toNat ds))) else none
   | _=>none
  | _=>none
 | none=>none
theorem FN {b:Bool} {x y d:D} (h:cutD b [x,y] = ok d):∃ (f:Fl) (ds:List D) (k:Nat),x = .lst f ds /\ y = .int k /\ k <= ds.length /\ d = .lst .ow (af ba (qa b k ds)):=by
 cases x <;> first | (cases h;done) | (cases y <;> first | (cases h;done) | skip)
 obtain ⟨⟨h1,h2⟩,h3⟩:=qK h
 rename_i f ds k
 exact ⟨f,ds,k.toNat,rfl,by rw [Int.toNat_of_nonneg h1],by omega,h3.symm⟩
noncomputable def DN (b:Bool) (e:Expr):Option Expr:=match e with
 | .Slice lo hi st _=>match st with
  | none=>match b with
   | true=>match hi with
    | none=>lo
    | some _=>none
   | false=>match lo with
    | none=>hi
    | some _=>none
  | some _=>none
 | _=>none
theorem DM {b:Bool} {e k:Expr} (h:DN b e = some k):∃ p,e = .Slice (if b then some k else none) (if b then none else some k) none p:=by
 cases e <;> first | (cases h;done) | skip
 rename_i lo hi st p
 cases st with
 | some _=>cases h
 | none=>cases b with
  | true=>cases hi with
   | some _=>cases h
   | none=>cases h;exact ⟨p,rfl⟩
  | false=>cases lo with
   | some _=>cases h
   | none=>cases h;exact ⟨p,rfl⟩
noncomputable def sL (b:Bool) (_:Scope) (_:List Str) (e:Expr):Option (List Expr):=match nB e with
 | some z=>match DN b z.2 with
  | some k=>some [z.1,k]
  | none=>none
 | none=>none
theorem Al {b:Bool} {sc:Scope} {bl:List Str} {e:Expr} {args:List Expr} (h:sL b sc bl e = some args):∃ a k p pos,e = .Subscript a (.Slice (if b then some k else none) (if b then none else some k) none p) pos /\ args = [a,k]:=by
 unfold sL at h
 cases hv:nB e with
 | none=>rw [hv] at h;cases h
 | some z =>
  obtain ⟨a,s⟩:=z
  rw [hv] at h
  obtain ⟨pos,rfl⟩:=ki hv
  have h:(match DN b s with | some k=>some [a,k] | none=>none) = some args:=h
  cases hw:DN b s with
  | none=>rw [hw] at h;cases h
  | some k =>
   rw [hw] at h
   cases h
   obtain ⟨p,rfl⟩:=DM hw
   exact ⟨a,k,p,pos,rfl,rfl⟩
theorem K8 {b:Bool} {Φ:az} {n:Nat} (hΦ:Φ n = cutD b) {X:Cx} {sc:Scope} {bl:List Str} {k:Nat} (L:PX X sc bl k) {e:Expr} {args:List Expr} (he:sL b sc bl e = some args) {F:Addr -> Prop} {cs:List CE} (hs:qm X F Φ cs args):PE X e (tD X F Φ (.du n cs)) /\ PT X e (gY X F Φ (.du n cs)):=by
 obtain ⟨a,ke,p,pos,rfl,rfl⟩:=Al he
 cases cs with
 | nil=>exact hs.elim
 | cons c cs=>cases cs with
  | nil=>exact hs.2.2.2.elim
  | cons c' cs=>cases cs with
   | cons _ _=>exact hs.2.2.2.2.2.2.elim
   | nil =>
    obtain ⟨h1,_,_,h2,_,_,_⟩:=hs
    have this:PE X (.Subscript a (.Slice (if b then some ke else none) (if b then none else some ke) none p) pos) (tD X F Φ (.du n [c,c'])):=by
     have go:∀ {tl th:TO},PO X (if b then some ke else none) tl -> PO X (if b then none else some ke) th -> (∀ (H1:Hp) (R:Addr -> Prop) (τ:Addr -> Option aJ) (ρ:aB) (k:Nat) (σ:St) (Q:Option Int -> Option Int -> Hp -> Prop),SI X F R τ ρ σ H1 -> aQ Φ c' ρ = ok (.int k) -> (∀ H2,aj H1 H2 -> Q (if b then some (k:Int) else none) (if b then none else some (k:Int)) H2) -> tl σ H1 λl H2=>th σ H2 λu H3=>Q l u H3) -> PE X (.Subscript a (.Slice (if b then some ke else none) (if b then none else some ke) none p) pos) (tD X F Φ (.du n [c,c'])):=by
      intro tl th pl pu hh
      refine PE.imp (Bx (xE b) h1 pl pu) λσ H Q hq=>?_
      obtain ⟨R,τ,ρ,d,Si,ev,hq⟩:=hq
      obtain ⟨xs,c_,ev⟩:=ah ev
      obtain ⟨x,ex,c_⟩:=ah c_
      obtain ⟨ys,wN,c_⟩:=ah c_
      cases c_
      obtain ⟨y,ey,wN⟩:=ah wN
      cases wN
      rw [hΦ] at ev
      obtain ⟨f,ds,j,rfl,rfl,hj,rfl⟩:=FN ev
      refine tD.intro Si ex λv H1 e1 r1=>hh H1 R τ ρ j σ (λl u H3=>M3 X.K b v l u H3 Q) (Si.go e1) ey λH2 e2=>?_
      have r2:=(r1.go e2).mono (fv':=iJ (.du n [c,c'])) λi hi=>List.mem_append_left _ hi
      obtain ⟨τt,fr,rp⟩:=r2
      cases rp with
      | @lst _ q xs _ _ hn rs =>
       have ee:=e1.trans e2
       refine ⟨q,xs,j,rfl,hn.sq,rfl,rfl,by rw [rs.length];exact hj,λl hl=>hq _ _ (ee.trans (aj.upd hl)) (bG.rN (ee.free hl) (ee.trans (aj.upd hl)) aD ?_)⟩
       have rc:∃ n',ag (aC X.K H2) (nd X.K R (jV (gP X F) τ (iJ (.du n [c,c']))) τt H2) [] n' (qa b j xs) (qa b j ds):=by
        cases b with
        | true=>exact ⟨_,rs.Hi j⟩
        | false=>exact ⟨_,rs.Gq j⟩
       obtain ⟨n',rc⟩:=rc
       exact (rc.e9 Si fr).imp (λ_ _ h=>aC.same (aj.upd hl) h) λ_ _ _ _ h=>nd.same (aj.upd hl) h
     cases b with
     | true =>
      refine go (xO h2) xP λH1 R τ ρ k σ Q Si ek hk=>tD.intro Si ek λv H2 e2 r2=>?_
      cases r2.isInt
      exact ⟨k,rfl,hk H2 e2⟩
     | false =>
      refine go xP (xO h2) λH1 R τ ρ k σ Q Si ek hk=>tD.intro Si ek λv H2 e2 r2=>?_
      cases r2.isInt
      exact ⟨k,rfl,hk H2 e2⟩
    exact ⟨this,cP this λ_=>by cases b <;> rfl⟩
end DI
end
section
namespace DI
open PySem PySem.Spec PyProof.Rows L2
section
open PySem.SeqAt
open PySem.AutoSeq1 (wpAny_loadPart')
open PySem.MeetsSeq PySem.MeetsSeq2 PySem.MeetsSeq3
theorem Bn (A:Around) (s:Shared) (a:Int) (t:Tok) (c:Int) (u:Tok) (prog:Program) (w:World) (E:Value -> Shared -> Prop) (Q:Value -> Shared -> Prop) (h:Q (.bool (decide (a ≥ c))) s):wpAny (model prog w) A (richCompare .GtE (.int a t) (.int c u)) Q E s :=
 (PyProof.Rows.ge_int h:wpAny (model prog w) A (compareOp .GtE (.int a t) (.int c u)) Q E s)
theorem ER {vs ws:List Value} {ns ms:List Int} {m n:Nat} (h1:IntsAre vs ns) (h2:IntsAre ws ms) (hz:vs.zip ws = []) (hl:ns.length + n = ms.length + m):(!HT.lexLt ns ms) = decide (m ≥ n):=by
 cases h1 with
 | nil=>cases h2 with
  | nil=>simp only [List.length_nil] at hl;exact (decide_eq_true (by omega)).symm
  | cons c u h=>simp only [List.length_nil,List.length_cons] at hl;exact (decide_eq_false (by omega)).symm
 | cons a t h=>cases h2 with
  | nil=>simp only [List.length_nil,List.length_cons] at hl;exact (decide_eq_true (by omega)).symm
  | cons c u h=>rw [List.zip_cons_cons] at hz;cases hz
theorem pG (l b:Addr) (items dm:Array Value) (n n2:Nat) (dd yJ:Option Addr) (sl vD:Array (Option Value)) (ns ms:List Int) (hi:IntsAre items.toList ns) (hj:IntsAre dm.toList ms) :
  Meets (Builtin.«tuple.__ge__» ⟨[.ref l,.ref b],[]⟩) (λ_ R s=>s.heap.get? l = some { cls:=.type "tuple",dict:=dd,data:=.seq items n,slots:=sl } /\ s.heap.get? b = some { cls:=.type "tuple",dict:=yJ,data:=.seq dm n2,slots:=vD } /\ R (.ok (.ret (.bool (!HT.lexLt ns ms)))) s) :=
 .of_wp λprog w A R s h=>by
  obtain ⟨hp,g,d,tk,os⟩:=s
  obtain ⟨hl,hb,h⟩:=h
  have f2:=AutoSeq1.sub_tuple_tuple
  have z1:items.size = ns.length:=by rw [<- hi.length];simp
  have z2:dm.size = ms.length:=by rw [<- hj.length];simp
  wp_walk using wpAny_loadPart' hl,wpAny_loadPart' hb,wpAny_forIn_list _ (λrest b s'=>b.1 = none /\ s' = ⟨hp,g,d,tk,os⟩ /\ ∃ (vs ws:List Value) (lb Az:List Int),rest = vs.zip ws /\ IntsAre vs lb /\ IntsAre ws Az /\ lb.length + dm.size = Az.length + items.size /\ R (.ok (.ret (.bool (!HT.lexLt lb Az)))) ⟨hp,g,d,tk,os⟩) _
  case turn =>
   rintro ⟨y,x⟩ rest b s' ⟨uI,rfl,vs,ws,lb,Az,hz,JM,G8,hlen,hR⟩
   cases JM with
   | nil=>rw [List.zip_nil_left] at hz;cases hz
   | cons a t hvi'=>cases G8 with
    | nil=>rw [List.zip_nil_right] at hz;cases hz
    | cons c u hwi' =>
     rw [List.zip_cons_cons] at hz
     injection hz with Wt Ca
     injection Wt with hy hx
     subst hy hx
     rw [HT.dR] at hR
     simp only [List.length_cons] at hlen
     obtain ⟨e,he,Cd⟩:=HT.uY A.in1 ⟨hp,g,d,tk,os⟩ a t c u
     refine wpAny_bind (he prog w _ _ ?_)
     cases e with
     | true =>
      rw [if_pos (Cd.mp rfl)] at hR
      wp_walk
      exact ⟨rfl,rfl,_,_,_,_,Ca,hvi',hwi',by omega,hR⟩
     | false =>
      have JU:¬ a = c:=λq=>absurd (Cd.mpr q) Bool.false_ne_true
      rw [if_neg JU,show (!decide (a < c)) = decide (a ≥ c) by by_cases q:a < c <;> simp [q] <;> omega] at hR
      have WC:=Bn A.in1 ⟨hp,g,d,tk,os⟩ a t c u prog w
      wp_walk using WC
      exact ⟨_,rfl,by simpa using hR⟩
  case fin =>
   rintro ⟨b1,b2⟩ s' ⟨uI,rfl,vs,ws,lb,Az,hz,JM,G8,hlen,hR⟩
   simp only at uI
   subst uI
   rw [ER JM G8 hz.symm hlen] at hR
   wp_walk
   exact ⟨_,rfl,by simpa [Builtin.Tuple.tupleCompareSizes] using hR⟩
  case h=>exact ⟨rfl,rfl,items.toList,dm.toList,ns,ms,rfl,hi,hj,by omega,h⟩
end
noncomputable def M1 (K:PySem.W.Frag):R2:=λx y H Q=>∃ a b ns ms,x = .ref a /\ y = .ref b /\ aC K H a (ns.map V.int) /\ aC K H b (ms.map V.int) /\ Q (.bl (!HT.lexLt ns ms)) H
theorem BB {X:Cx} (hu:X.A.units < cLine):jX X (compareOp .GtE) (M1 X.K):=by
 intro pins s σ H x y v u Q I rx ry h
 obtain ⟨a,b,ns,ms,rfl,rfl,ha,hb,q⟩:=h
 cases rx
 cases ry
 obtain ⟨ai,r1,⟨⟨cls,dd,data,sl⟩,ho,hc,n,hd⟩,_⟩:=I.tuple ha
 obtain ⟨wx,r2,⟨⟨FP,yJ,data2,vD⟩,rY,hc2,n2,hd2⟩,_⟩:=I.tuple hb
 simp only at hc hd hc2 hd2
 subst hc hd hc2 hd2
 exact richCompare_meets_room (op:=.GtE) ⟨_,ho,rfl⟩ ⟨_,rY,rfl⟩ PySem.F.slot_tuple_ge PySem.F.entry_tuple_ge (PySem.F.args_tuple_ge_2 _ _) (pG a b ai.toArray wx.toArray n n2 dd yJ sl vD ns ms (intsAre_of r1) (intsAre_of r2))
  ⟨ho,rY,show Value.bool (!HT.lexLt ns ms) ≠ Value.notImplemented /\ EP X pins σ Q (.bool (!HT.lexLt ns ms)) s from ⟨(λx=>nomatch x),⟨.bl _,H,I,rfl,q⟩⟩⟩ hu
noncomputable def Hc (xs:List D):O D:=match two xs with
 | some z=>match z.1 with
  | .tup a=>match z.2 with
   | .tup b=>match intsOf a with
    | some ns=>match intsOf b with
     | some ms=>ok (.bl (!HT.lexLt ns ms))
     | none=>none
    | none=>none
   | _=>none
  | _=>none
 | none=>none
theorem Kf {x y d:D} (h:Hc [x,y] = ok d):∃ ns ms:List Int,x = .tup (ns.map D.int) /\ y = .tup (ms.map D.int) /\ d = .bl (!HT.lexLt ns ms):=by
 cases x <;> first | (cases h;done) | (cases y <;> first | (cases h;done) | skip)
 rename_i a b
 have h:(match intsOf a with | some ns=>(match intsOf b with | some ms=>ok (D.bl (!HT.lexLt ns ms)) | none=>none) | none=>none) = ok d:=h
 cases h1:intsOf a with
 | none=>rw [h1] at h;cases h
 | some ns=>cases h2:intsOf b with
  | none=>rw [h1,h2] at h;cases h
  | some ms =>
   rw [h1,h2] at h
   cases h
   exact ⟨ns,ms,by rw [cZ h1],by rw [cZ h2],rfl⟩
noncomputable def yN (_:Scope) (_:List Str) (e:Expr):Option (List Expr):=match DP e with
 | some z=>match one z.2.2 with
  | some r=>if z.2.1 = [.GtE] then some [z.1,r] else none
  | none=>none
 | none=>none
theorem CL {sc:Scope} {bl:List Str} {e:Expr} {args:List Expr} (h:yN sc bl e = some args):∃ l r p,e = .Compare l [.GtE] [r] p /\ args = [l,r]:=by
 unfold yN at h
 cases hv:DP e with
 | none=>rw [hv] at h;cases h
 | some z =>
  obtain ⟨l,os,rs⟩:=z
  rw [hv] at h
  obtain ⟨p,rfl⟩:=xq hv
  replace h:(match one rs with | some r=>if os = [.GtE] then some [l,r] else none | none=>none) = some args:=h
  cases hw:one rs with
  | none=>rw [hw] at h;cases h
  | some r =>
   rw [hw] at h
   replace h:(if os = [.GtE] then some [l,r] else none) = some args:=h
   obtain rfl:=bL hw
   by_cases hc:os = [.GtE]
   ·rw [if_pos hc] at h;cases h;subst hc;exact ⟨l,r,p,rfl,rfl⟩
   ·rw [if_neg hc] at h;cases h
theorem OX {Φ:az} {n:Nat} (hΦ:Φ n = Hc) {X:Cx} {sc:Scope} {bl:List Str} {k:Nat} (L:PX X sc bl k) {e:Expr} {args:List Expr} (he:yN sc bl e = some args) {F:Addr -> Prop} {cs:List CE} (hs:qm X F Φ cs args):PE X e (tD X F Φ (.du n cs)) /\ PT X e (gY X F Φ (.du n cs)):=by
 obtain ⟨l,r,p,rfl,rfl⟩:=CL he
 have hu:X.A.units < cLine:=by have:=L.room.units;omega
 cases cs with
 | nil=>exact hs.elim
 | cons c cs=>cases cs with
  | nil=>exact hs.2.2.2.elim
  | cons c' cs=>cases cs with
   | cons _ _=>exact hs.2.2.2.2.2.2.elim
   | nil =>
    obtain ⟨h1,_,_,h2,_,_,_⟩:=hs
    have key:∀ {σ:St} {H:Hp} {R:Addr -> Prop} {τ:Addr -> Option aJ} {ρ:aB} {d:D} {Q:VK},SI X F R τ ρ σ H -> aQ Φ (.du n [c,c']) ρ = ok d -> (∀ b H2,d = .bl b -> aj H H2 -> Q (.bl b) H2) -> Gu (M1 X.K) (tD X F Φ c) (tD X F Φ c') σ H Q:=by
     intro σ H R τ ρ d Q Si ev hq
     obtain ⟨xs,c_,ev⟩:=ah ev
     obtain ⟨x,ex,c_⟩:=ah c_
     obtain ⟨ys,wN,c_⟩:=ah c_
     cases c_
     obtain ⟨y,ey,wN⟩:=ah wN
     cases wN
     rw [hΦ] at ev
     obtain ⟨ns,ms,rfl,rfl,rfl⟩:=Kf ev
     refine tD.intro Si ex λv H1 e1 r1=>tD.intro (Si.go e1) ey λu H2 e2 r2=>?_
     obtain ⟨_,_,p1⟩:=r1.go e2
     obtain ⟨_,_,p2⟩:=r2
     cases p1 with
     | tup t1 s1=>cases p2 with
      | tup t2 s2 =>
       cases s1.ofInts
       cases s2.ofInts
       exact ⟨_,_,ns,ms,rfl,rfl,t1,t2,hq _ H2 rfl (e1.trans e2)⟩
    refine ⟨PE.imp (xW (BB hu) h1 h2 (BG _)) λσ H Q hq=>?_,PT.imp (xK (BB hu) h1 h2 (BG _)) λσ H Q hq=>?_⟩
    ·obtain ⟨R,τ,ρ,d,Si,ev,hq⟩:=hq
     exact key Si ev λb H2 e es=>hq _ H2 es (by subst e;exact .bl)
    ·obtain ⟨R,τ,ρ,b,Si,ev,hq⟩:=hq
     obtain ⟨d,ed,et⟩:=ah ev
     refine key Si ed λb' H2 e es=>?_
     subst e
     cases et
     exact ⟨_,rfl,hq H2 es⟩
end DI
end
section
namespace DI
open PySem PySem.Spec PyProof.Rows L2
section
variable {X:Cx}
end
end DI
end
section
namespace DI
open PySem PySem.Spec PyProof.Rows L2 PySem.W
noncomputable def cL {α:Type} (lt:Nat -> Nat -> Bool):KasT α -> α
 | .ret a=>a
 | .ask i j k=>cL lt (k (lt i j))
theorem gJ {α β:Type} (lt:Nat -> Nat -> Bool) (f:α -> KasT β):∀ t:KasT α,cL lt (t.bind f) = cL lt (f (cL lt t))
 | .ret a=>rfl
 | .ask i j k=>gJ lt f (k (lt i j))
section
noncomputable def jD {α:Type} (n:Nat) (lt:Nat -> Nat -> Bool):KasT α -> Prop
 | .ret _=>True
 | .ask i j k=>i < n /\ j < n /\ jD n lt (k (lt i j))
end
theorem yX {α:Type} {cmp:Nat -> Nat -> (Bool -> Shared -> Prop) -> Shared -> Prop} {lt:Nat -> Nat -> Bool} {s:Shared} {n:Nat} (hc:∀ i j C,i < n -> j < n -> C (lt i j) s -> cmp i j C s) {Q:α -> Shared -> Prop} :
  ∀ (t:KasT α),jD n lt t -> Q (cL lt t) s -> t.kasWp cmp Q s
 | .ret a,_,h=>h
 | .ask i j k,⟨h1,h2,h3⟩,h=>hc i j _ h1 h2 (yX hc (k (lt i j)) h3 h)
theorem fw {α β:Type} {lt:Nat -> Nat -> Bool} {n:Nat} {f:α -> KasT β}:∀ {t:KasT α},jD n lt t -> jD n lt (f (cL lt t)) -> jD n lt (t.bind f)
 | .ret _,_,h=>h
 | .ask i j k,⟨h1,h2,h3⟩,h=>⟨h1,h2,fw h3 h⟩
structure Ord (lt:Nat -> Nat -> Bool) (n:Nat):Prop where
 tr:∀ a b c,a < n -> b < n -> c < n -> lt a b = true -> lt b c = true -> lt a c = true
 as:∀ a b,a < n -> b < n -> lt a b = true -> lt b a = false
 Qt:∀ a b,a < n -> b < n -> a ≠ b -> lt a b = true \/ lt b a = true
structure Arr (p:Array Nat) (n:Nat):Prop where
 sz:p.size = n
 pm:p.toList.Perm (List.range n)
section
variable {lt:Nat -> Nat -> Bool} {n:Nat} {p:Array Nat}
theorem Arr.bd (h:Arr p n) {i:Nat} (hi:i < n):p.getD i 0 < n:=by
 have mX:i < p.size:=by rw [h.sz];exact hi
 have:p.getD i 0 = p[i]:=by simp [Array.getD,mX]
 rw [this]
 have hm:p[i] ∈ p.toList:=Array.getElem_mem_toList mX
 exact List.mem_range.mp (h.pm.mem_iff.mp hm)
theorem Arr.inj (h:Arr p n) {i j:Nat} (hi:i < n) (hj:j < n) (e:p.getD i 0 = p.getD j 0):i = j:=by
 have mX:i < p.toList.length:=by rw [Array.length_toList,h.sz];exact hi
 have WX:j < p.toList.length:=by rw [Array.length_toList,h.sz];exact hj
 have nd:p.toList.Nodup:=h.pm.nodup_iff.mpr List.nodup_range
 have e1:p.getD i 0 = p.toList[i]:=by simp [Array.getD,show i < p.size by rw [h.sz];exact hi]
 have e2:p.getD j 0 = p.toList[j]:=by simp [Array.getD,show j < p.size by rw [h.sz];exact hj]
 rw [e1,e2] at e
 exact (List.getElem_inj nd).mp e
noncomputable def Up (lt:Nat -> Nat -> Bool) (p:Array Nat) (k:Nat):Prop:=∀ i j,i < j -> j < k -> lt (p.getD i 0) (p.getD j 0) = true
noncomputable def Dn (lt:Nat -> Nat -> Bool) (p:Array Nat) (k:Nat):Prop:=∀ i j,i < j -> j < k -> lt (p.getD j 0) (p.getD i 0) = true
theorem Up.snoc (O:Ord lt n) (h:Arr p n) {k:Nat} (hk:k < n) (h1:1 <= k) (u:Up lt p k) (hl:lt (p.getD (k - 1) 0) (p.getD k 0) = true):Up lt p (k + 1):=λi j iP hj=>by
 by_cases e:j = k
 ·subst e
  by_cases e2:i = j - 1
  ·subst e2;exact hl
  ·exact O.tr _ _ _ (h.bd (by omega)) (h.bd (by omega)) (h.bd hk) (u i (j - 1) (by omega) (by omega)) hl
 ·exact u i j iP (by omega)
theorem Dn.snoc (O:Ord lt n) (h:Arr p n) {k:Nat} (hk:k < n) (h1:1 <= k) (u:Dn lt p k) (hl:lt (p.getD k 0) (p.getD (k - 1) 0) = true):Dn lt p (k + 1):=λi j iP hj=>by
 by_cases e:j = k
 ·subst e
  by_cases e2:i = j - 1
  ·subst e2;exact hl
  ·exact O.tr _ _ _ (h.bd hk) (h.bd (by omega)) (h.bd (by omega)) hl (u i (j - 1) (by omega) (by omega))
 ·exact u i j iP (by omega)
theorem sY (O:Ord lt n) (h:Arr p n):∀ (f k:Nat),1 <= k -> k + f <= n -> Up lt p k -> jD n lt (kas_asc p f k) /\ k <= cL lt (kas_asc p f k) /\ cL lt (kas_asc p f k) <= k + f /\ Up lt p (cL lt (kas_asc p f k))
 | 0,k,_,_,u=>⟨trivial,Nat.le_refl _,Nat.le_refl _,u⟩
 | f + 1,k,h1,hf,u=>by
  have a1:p.getD k 0 < n:=h.bd (by omega)
  have a2:p.getD (k - 1) 0 < n:=h.bd (by omega)
  cases c:lt (p.getD k 0) (p.getD (k - 1) 0) with
  | true =>
   have e:cL lt (kas_asc p (f + 1) k) = k:=by
    show cL lt (if lt (p.getD k 0) (p.getD (k - 1) 0) = true then .ret k else kas_asc p f (k + 1)) = k
    rw [c];rfl
   refine ⟨⟨a1,a2,?_⟩,by rw [e];exact Nat.le_refl _,by rw [e];omega,by rw [e];exact u⟩
   show jD n lt (if lt (p.getD k 0) (p.getD (k - 1) 0) = true then .ret k else kas_asc p f (k + 1))
   rw [c];trivial
  | false =>
   have e:cL lt (kas_asc p (f + 1) k) = cL lt (kas_asc p f (k + 1)):=by
    show cL lt (if lt (p.getD k 0) (p.getD (k - 1) 0) = true then .ret k else kas_asc p f (k + 1)) = _
    rw [c];rfl
   have hl:lt (p.getD (k - 1) 0) (p.getD k 0) = true:=by
    rcases O.Qt _ _ a2 a1 (λz=>absurd (h.inj (by omega) (by omega) z) (by omega)) with z | z
    ·exact z
    ·rw [c] at z;cases z
   obtain ⟨b1,b2,b3,b4⟩:=sY O h f (k + 1) (by omega) (by omega) (u.snoc O h (by omega) h1 hl)
   refine ⟨⟨a1,a2,?_⟩,by rw [e];omega,by rw [e];omega,by rw [e];exact b4⟩
   show jD n lt (if lt (p.getD k 0) (p.getD (k - 1) 0) = true then .ret k else kas_asc p f (k + 1))
   rw [c];exact b1
theorem yI (O:Ord lt n) (h:Arr p n):∀ (f k:Nat),1 <= k -> k + f <= n -> Dn lt p k -> jD n lt (kas_desc f p k 0) /\ ∃ m,cL lt (kas_desc f p k 0) = (p,m,0) /\ k <= m /\ m <= k + f /\ Dn lt p m
 | 0,k,_,_,u=>⟨trivial,k,rfl,Nat.le_refl _,Nat.le_refl _,u⟩
 | f + 1,k,h1,hf,u=>by
  have a1:p.getD k 0 < n:=h.bd (by omega)
  have a2:p.getD (k - 1) 0 < n:=h.bd (by omega)
  cases c:lt (p.getD k 0) (p.getD (k - 1) 0) with
  | true =>
   obtain ⟨b1,m,b2,b3,b4,b5⟩:=yI O h f (k + 1) (by omega) (by omega) (u.snoc O h (by omega) h1 c)
   have e:kas_desc (f + 1) p k 0 = .ask (p.getD k 0) (p.getD (k - 1) 0) λc=>if c = true then (if (0:Nat) > 0 then kas_desc f (kas_rev p (k - (0 + 1)) k) (k + 1) 0 else kas_desc f p (k + 1) 0) else .ask (p.getD (k - 1) 0) (p.getD k 0) λd=>if d = true then .ret (p,k,0) else kas_desc f p (k + 1) (0 + 1):=rfl
   rw [e]
   refine ⟨⟨a1,a2,?_⟩,m,?_,by omega,by omega,b5⟩
   ·rw [c];exact b1
   ·show cL lt (if lt (p.getD k 0) (p.getD (k - 1) 0) = true then _ else _) = _
    rw [c];exact b2
  | false =>
   have hl:lt (p.getD (k - 1) 0) (p.getD k 0) = true:=by
    rcases O.Qt _ _ a2 a1 (λz=>absurd (h.inj (by omega) (by omega) z) (by omega)) with z | z
    ·exact z
    ·rw [c] at z;cases z
   have e:kas_desc (f + 1) p k 0 = .ask (p.getD k 0) (p.getD (k - 1) 0) λc=>if c = true then (if (0:Nat) > 0 then kas_desc f (kas_rev p (k - (0 + 1)) k) (k + 1) 0 else kas_desc f p (k + 1) 0) else .ask (p.getD (k - 1) 0) (p.getD k 0) λd=>if d = true then .ret (p,k,0) else kas_desc f p (k + 1) (0 + 1):=rfl
   rw [e]
   refine ⟨⟨a1,a2,?_⟩,k,?_,Nat.le_refl _,by omega,u⟩
   ·rw [c];exact ⟨a2,a1,by rw [hl];trivial⟩
   ·show cL lt (if lt (p.getD k 0) (p.getD (k - 1) 0) = true then _ else _) = _
    rw [c]
    show cL lt (if lt (p.getD (k - 1) 0) (p.getD k 0) = true then _ else _) = _
    rw [hl];rfl
theorem mY {p q:Array Nat} {i j:Nat} (h:p[i]? = q[j]?):p.getD i 0 = q.getD j 0:=by
 rw [Array.getD_eq_getD_getElem?,Array.getD_eq_getD_getElem?,h]
theorem Iu (h:Arr p n) {m:Nat} (hm:m <= n):Arr (kas_rev p 0 m) n /\ (Dn lt p m -> Up lt (kas_rev p 0 m) m):=by
 have hs:(kas_rev p 0 m).size = p.size:=mirror_size _ _ _ _
 refine ⟨⟨by rw [hs];exact h.sz,?_⟩,λu i j iP hj=>?_⟩
 ·have:=(mirror_perm p 0 m ((m - 0) / 2)).toList
  exact this.trans h.pm
 ·have g:∀ k,k < m -> (kas_rev p 0 m).getD k 0 = p.getD (m - 1 - k) 0:=λk hk=>by
   refine mY ?_
   rw [show kas_rev p 0 m = mirror p 0 m ((m - 0) / 2) from rfl,getElem?_mirror_all (by rw [h.sz];exact hm),if_pos ⟨Nat.zero_le _,hk⟩]
   congr 1;omega
  rw [g i (by omega),g j hj]
  exact u (m - 1 - j) (m - 1 - i) (by omega) (by omega)
theorem A0 (O:Ord lt n) (h:Arr p n) {m:Nat} (h1:1 <= m) (hm:m <= n) (u:Dn lt p m):jD n lt (kas_tail3 m n p) /\ ∃ r,cL lt (kas_tail3 m n p) = r /\ Arr r.2 n /\ 1 <= r.1 /\ r.1 <= n /\ Up lt r.2 r.1:=by
 obtain ⟨a1,a2⟩:=Iu (lt:=lt) h hm
 obtain ⟨b1,b2,b3,b4⟩:=sY O a1 (n - m) m h1 (by omega) (a2 u)
 unfold kas_tail3
 refine ⟨fw b1 trivial,_,rfl,?_⟩
 rw [gJ]
 exact ⟨a1,Nat.le_trans h1 b2,by show cL lt _ <= n;omega,b4⟩
theorem CF (O:Ord lt n) (h:Arr p n) (hn:2 <= n):jD n lt (kas_count n p) /\ ∃ r,cL lt (kas_count n p) = r /\ Arr r.2 n /\ 1 <= r.1 /\ r.1 <= n /\ Up lt r.2 r.1:=by
 obtain ⟨b1,b2,b3,b4⟩:=sY O h (n - 1) 1 (Nat.le_refl _) (by omega) (λi j _ _=>by omega)
 generalize hk:cL lt (kas_asc p (n - 1) 1) = k at *
 have key:∀ t:KasT (Nat × Array Nat),t = (if (k == n) = true then .ret (k,p) else if k > 1 then .ask (p.getD 0 0) (p.getD (k - 1) 0) λc=>if c = true then .ret (k,p) else kas_descPart k n (kas_rev p 0 k) else kas_descPart k n p) ->
   jD n lt t /\ ∃ r,cL lt t = r /\ Arr r.2 n /\ 1 <= r.1 /\ r.1 <= n /\ Up lt r.2 r.1:=by
  intro t ht
  by_cases e:k = n
  ·rw [if_pos (by simpa using e)] at ht
   subst ht
   exact ⟨trivial,(k,p),rfl,h,b2,by show k <= n;omega,b4⟩
  ·rw [if_neg (by simpa using e)] at ht
   by_cases e1:k > 1
   ·rw [if_pos e1] at ht
    subst ht
    have hl:lt (p.getD 0 0) (p.getD (k - 1) 0) = true:=b4 0 (k - 1) (by omega) (by omega)
    refine ⟨⟨h.bd (by omega),h.bd (by omega),by rw [hl];trivial⟩,(k,p),?_,h,b2,by omega,b4⟩
    show cL lt (if lt (p.getD 0 0) (p.getD (k - 1) 0) = true then _ else _) = _
    rw [hl];rfl
   ·rw [if_neg e1] at ht
    have hk1:k = 1:=by omega
    subst hk1
    subst ht
    have hl:lt (p.getD 1 0) (p.getD 0 0) = true:=by
     have a1:p.getD 1 0 < n:=h.bd (by omega)
     have a0:p.getD 0 0 < n:=h.bd (by omega)
     cases c:lt (p.getD 1 0) (p.getD 0 0) with
     | true=>rfl
     | false =>
      exfalso
      obtain ⟨f,hf⟩:∃ f,n - 1 = f + 1:=⟨n - 2,by omega⟩
      rw [hf] at hk
      have e':cL lt (kas_asc p (f + 1) 1) = cL lt (kas_asc p f 2):=by
       show cL lt (if lt (p.getD 1 0) (p.getD (1 - 1) 0) = true then .ret 1 else kas_asc p f 2) = _
       rw [show (1 - 1:Nat) = 0 from rfl,c];rfl
      rw [e'] at hk
      have u2:Up lt p 2:=λi j iP hj=>by
       have:i = 0 /\ j = 1:=by omega
       obtain ⟨rfl,rfl⟩:=this
       rcases O.Qt _ _ a0 a1 (λz=>absurd (h.inj (by omega) (by omega) z) (by omega)) with z | z
       ·exact z
       ·rw [c] at z;cases z
      obtain ⟨_,c2,_,_⟩:=sY O h f 2 (by omega) (by omega) u2
      omega
    have d2:Dn lt p 2:=λi j iP hj=>by
     have:i = 0 /\ j = 1:=by omega
     obtain ⟨rfl,rfl⟩:=this
     exact hl
    obtain ⟨c1,m,c2,c3,c4,c5⟩:=yI O h (n - 2) 2 (by omega) (by omega) d2
    obtain ⟨t1,r,t2,t3⟩:=A0 O h (m:=m) (by omega) (by omega) c5
    unfold kas_descPart
    refine ⟨fw c1 ?_,r,?_,t3⟩
    ·rw [show (1 + 1:Nat) = 2 from rfl,show n - 2 = n - 2 from rfl,c2];exact t1
    ·rw [gJ,show (1 + 1:Nat) = 2 from rfl,c2];exact t2
 have e:=key _ rfl
 refine ⟨?_,?_⟩
 ·unfold kas_count
  exact fw b1 (by rw [hk];exact e.1)
 ·unfold kas_count
  rw [gJ,hk]
  exact e.2
theorem Arr.or (O:Ord lt n) (h:Arr p n) {i j:Nat} (hi:i < n) (hj:j < n) (e:i ≠ j) (c:lt (p.getD i 0) (p.getD j 0) = false):lt (p.getD j 0) (p.getD i 0) = true:=by
 rcases O.Qt _ _ (h.bd hi) (h.bd hj) (λz=>e (h.inj hi hj z)) with z | z
 ·rw [c] at z;cases z
 ·exact z
theorem nX (O:Ord lt n) (h:Arr p n) {k:Nat} (hk:k < n) (u:Up lt p k):∀ (f l r:Nat),l <= r -> r <= k -> r - l <= f -> (∀ i,i < l -> lt (p.getD i 0) (p.getD k 0) = true) -> (∀ i,r <= i -> i < k -> lt (p.getD k 0) (p.getD i 0) = true) ->
  jD n lt (kas_place p k f l r) /\ ∃ m,cL lt (kas_place p k f l r) = m /\ m <= k /\ (∀ i,i < m -> lt (p.getD i 0) (p.getD k 0) = true) /\ ∀ i,m <= i -> i < k -> lt (p.getD k 0) (p.getD i 0) = true
 | 0,l,r,hl,hr,hf,a,b=>by
  have:l = r:=by omega
  subst this
  exact ⟨trivial,l,rfl,hr,a,b⟩
 | f + 1,l,r,hl,hr,hf,a,b=>by
  have e:kas_place p k (f + 1) l r = if l ≥ r then .ret l else .ask (p.getD k 0) (p.getD ((l + r) / 2) 0) λc=>if c = true then kas_place p k f l ((l + r) / 2) else kas_place p k f ((l + r) / 2 + 1) r:=rfl
  rw [e]
  by_cases JV:l ≥ r
  ·rw [if_pos JV]
   have:l = r:=by omega
   subst this
   exact ⟨trivial,l,rfl,hr,a,b⟩
  ·rw [if_neg JV]
   have hm:l <= (l + r) / 2 /\ (l + r) / 2 < r:=by omega
   generalize (l + r) / 2 = m at *
   have b1:p.getD k 0 < n:=h.bd hk
   have b2:p.getD m 0 < n:=h.bd (by omega)
   cases c:lt (p.getD k 0) (p.getD m 0) with
   | true =>
    obtain ⟨c1,m',c2,c3⟩:=nX O h hk u f l m hm.1 (by omega) (by omega) a λi h1 h2=>by
     by_cases e:i = m
     ·subst e;exact c
     ·exact O.tr _ _ _ b1 b2 (h.bd (by omega)) c (u m i (by omega) h2)
    refine ⟨⟨b1,b2,by rw [c];exact c1⟩,m',?_,c3⟩
    show cL lt (if lt (p.getD k 0) (p.getD m 0) = true then _ else _) = _
    rw [c];exact c2
   | false =>
    have vF:=h.or O hk (by omega) (by omega) c
    obtain ⟨c1,m',c2,c3⟩:=nX O h hk u f (m + 1) r (by omega) hr (by omega) (λi hi=>by
     by_cases e:i = m
     ·subst e;exact vF
     ·exact O.tr _ _ _ (h.bd (by omega)) b2 b1 (u i m (by omega) (by omega)) vF) b
    refine ⟨⟨b1,b2,by rw [c];exact c1⟩,m',?_,c3⟩
    show cL lt (if lt (p.getD k 0) (p.getD m 0) = true then _ else _) = _
    rw [c];exact c2
theorem Ar (h:Arr p n) {k m:Nat} (hk:k < n) (hm:m <= k) (u:Up lt p k) (a:∀ i,i < m -> lt (p.getD i 0) (p.getD k 0) = true) (b:∀ i,m <= i -> i < k -> lt (p.getD k 0) (p.getD i 0) = true) :
  Arr (bubble p k (k - m)) n /\ Up lt (bubble p k (k - m)) (k + 1):=by
 have hs:(bubble p k (k - m)).size = p.size:=bubble_size _ _ _
 refine ⟨⟨by rw [hs];exact h.sz,(bubble_perm p k (k - m)).toList.trans h.pm⟩,λi j iP hj=>?_⟩
 have g:∀ t,(bubble p k (k - m)).getD t 0 = if t = m then p.getD k 0 else if m < t /\ t <= k then p.getD (t - 1) 0 else p.getD t 0:=λt=>by
  have e:=getElem?_bubble (xs:=p) (src:=k) (by rw [h.sz];exact hk) (k - m) (Nat.sub_le _ _) t
  rw [show k - (k - m) = m by omega] at e
  by_cases h1:t = m
  ·rw [if_pos h1] at e ⊢;exact mY e
  ·rw [if_neg h1] at e ⊢
   by_cases h2:m < t /\ t <= k
   ·rw [if_pos h2] at e ⊢;exact mY e
   ·rw [if_neg h2] at e ⊢;exact mY e
 rw [g i,g j]
 by_cases i1:i = m
 ·rw [if_pos i1,if_neg (by omega),if_pos (by omega)]
  exact b (j - 1) (by omega) (by omega)
 ·rw [if_neg i1]
  by_cases i2:m < i /\ i <= k
  ·rw [if_pos i2,if_neg (by omega),if_pos (by omega)]
   exact u (i - 1) (j - 1) (by omega) (by omega)
  ·rw [if_neg i2]
   by_cases j1:j = m
   ·rw [if_pos j1];exact a i (by omega)
   ·rw [if_neg j1]
    by_cases j2:m < j /\ j <= k
    ·rw [if_pos j2]
     by_cases e:i = j - 1
     ·omega
     ·exact u i (j - 1) (by omega) (by omega)
    ·rw [if_neg j2];exact u i j iP (by omega)
end
theorem CT {lt:Nat -> Nat -> Bool} {n:Nat} (O:Ord lt n):∀ (f:Nat) {p:Array Nat} {k:Nat},Arr p n -> k + f = n -> Up lt p k -> jD n lt (kas_bin f p k) /\ Arr (cL lt (kas_bin f p k)) n /\ Up lt (cL lt (kas_bin f p k)) n
 | 0,p,k,h,hk,u=>⟨trivial,h,by rw [<- hk];exact u⟩
 | f + 1,p,k,h,hk,u=>by
  obtain ⟨a1,m,a2,a3,a4,a5⟩:=nX O h (k:=k) (by omega) u k 0 k (Nat.zero_le _) (Nat.le_refl _) (Nat.le_refl _) (λi hi=>by omega) (λi h1 h2=>by omega)
  obtain ⟨b1,b2⟩:=Ar h (by omega) a3 u a4 a5
  obtain ⟨c1,c2,c3⟩:=CT O f b1 (by omega) b2
  have e:kas_bin (f + 1) p k = (kas_place p k k 0 k).bind λl=>kas_bin f (bubble p k (k - l)) (k + 1):=rfl
  rw [e]
  refine ⟨fw a1 (by rw [a2];exact c1),?_⟩
  rw [gJ,a2]
  exact ⟨c2,c3⟩
theorem D7 {lt:Nat -> Nat -> Bool} {n:Nat} (O:Ord lt n) (hn:2 <= n):jD n lt (kas_sort n) /\ Arr (cL lt (kas_sort n)) n /\ Up lt (cL lt (kas_sort n)) n:=by
 have h0:Arr (List.toArray (List.range n)) n:=⟨by simp,by simp⟩
 obtain ⟨a1,r,a2,a3,a4,a5,a6⟩:=CF O h0 hn
 unfold kas_sort
 have key:∀ t,t = (if r.1 < n then kas_bin (n - max r.1 1) r.2 (max r.1 1) else .ret r.2) -> jD n lt t /\ Arr (cL lt t) n /\ Up lt (cL lt t) n:=by
  intro t ht
  by_cases h:r.1 < n
  ·rw [if_pos h] at ht
   subst ht
   rw [show max r.1 1 = r.1 by omega]
   exact CT O _ a3 (by omega) a6
  ·rw [if_neg h] at ht
   subst ht
   have:r.1 = n:=by omega
   exact ⟨trivial,a3,by rw [this] at a6;exact a6⟩
 have e:=key _ rfl
 refine ⟨fw a1 (by rw [a2];exact e.1),?_⟩
 rw [gJ,a2]
 exact e.2
end DI
end
section
namespace DI
open PySem PySem.Spec PyProof.Rows L2
noncomputable def ql (h:Heap) (vs:List Value) (nss:List (List Int)):Prop:=vs.length = nss.length /\ ∀ (i:Nat) (ns:List Int),nss[i]? = some ns -> ∃ t ai,vs[i]? = some (.ref t) /\ IsTup h t ai.toArray /\ IntsAre ai ns
theorem ql.mono {h h':Heap} {vs:List Value} {nss:List (List Int)} (k:∀ b o,h.get? b = some o -> h'.get? b = some o) (t:ql h vs nss):ql h' vs nss :=
 ⟨t.1,λi ns e=>let ⟨a,ai,e1,⟨o,ho,r⟩,e3⟩:=t.2 i ns e;⟨a,ai,e1,⟨o,k _ _ ho,r⟩,e3⟩⟩
theorem ql.mem {h:Heap} {vs:List Value} {nss:List (List Int)} (t:ql h vs nss) {v:Value} (hv:v ∈ vs):∃ a ai ns,v = .ref a /\ IsTup h a ai.toArray /\ IntsAre ai ns:=by
 obtain ⟨i,hi⟩:=List.mem_iff_getElem?.mp hv
 have hl:i < nss.length:=by rw [<- t.1];exact (List.getElem?_eq_some_iff.mp hi).1
 obtain ⟨a,ai,e1,e2,e3⟩:=t.2 i _ (List.getElem?_eq_getElem hl)
 rw [hi] at e1
 cases e1
 exact ⟨a,ai,_,rfl,e2,e3⟩
section
variable {prog:Program} {w:World} {A:Around} {E:Value -> Shared -> Prop} {s:Shared}
theorem oR:∀ {vs:List Value} {nss:List (List Int)} {Q:List (Option Value) -> Shared -> Prop},ql s.heap vs nss -> (∀ fs:List (Option Value),fs.length = vs.length -> (∀ f ∈ fs,∀ v,f = some v -> ∃ n t,v = .int n t) -> Q fs s) -> wpAny (model prog w) A (vs.mapM firstOfTuple') Q E s
 | [],_,_,_,h=>by rw [List.mapM_nil];exact wpAny_pure (h [] rfl λ_ h=>nomatch h)
 | v :: vs,[],_,t,_=>by have:=t.1;simp at this
 | v :: vs,ns :: nss,Q,t,h=>by
  obtain ⟨a,ai,e,⟨o,ho,hc,n,hd⟩,hi⟩:=t.2 0 ns rfl
  cases e
  rw [List.mapM_cons]
  refine wpAny_bind ?_
  rw [PySem.W.kas_first_eq]
  refine wpAny_bind (PySem.W.Looks.here (show PySem.W.Looks (model prog w) s.heap (typeOf (.ref a)) o.cls from (PySem.W.Looks.ld ho).andThen .now) ?_)
  rw [hc,if_neg (by first | decide | simp)]
  refine wpAny_bind (listItems_at ho hd (wpAny_pure ?_))
  refine wpAny_bind (oR (vs:=vs) (nss:=nss) ⟨by simpa using t.1,λi ms e=>t.2 (i + 1) ms e⟩ λfs h1 h2=>wpAny_pure (h _ (by simp [h1]) λf hf v hv=>?_))
  rcases List.mem_cons.mp hf with rfl | hf
  ·cases hi with
   | nil=>simp at hv
   | cons a' tk hi=>simp at hv;exact ⟨_,_,hv.symm⟩
  ·exact h2 f hf v hv
noncomputable def Hu (κ:SortKind):Prop:=κ = tuples' true \/ κ = general' \/ κ = oneType'
theorem kind_any {vs:List Value} {nss:List (List Int)} {Q:SortKind -> Shared -> Prop} (t:ql s.heap vs nss) (JU:vs ≠ []) (h:∀ κ,Hu κ -> Q κ s):wpAny (model prog w) A (keyKind' vs.toArray) Q E s:=by
 obtain ⟨v0,vr,rfl⟩:∃ v0 vr,vs = v0 :: vr:=by
  cases vs with
  | nil=>exact absurd rfl JU
  | cons v0 vr=>exact ⟨v0,vr,rfl⟩
 rw [kat_kind_eq,List.mapM_toArray,map_eq_pure_bind]
 refine wpAny_bind (wpAny_bind (oR t λfs hl hf=>wpAny_pure ?_))
 by_cases ha:(fs.toArray.all λx=>x.isSome) = true
 ·rw [if_pos ha]
  refine wpAny_bind (wpAny_rule ?_)
  obtain ⟨gs,hg,hgi⟩:∃ gs:List Value,fs = gs.map some /\ ∀ v ∈ gs,∃ n t,v = .int n t:=by
   clear h hl t
   induction fs with
   | nil=>exact ⟨[],rfl,λ_ h=>nomatch h⟩
   | cons f fs ih =>
    simp only [List.all_toArray,List.all_cons,Bool.and_eq_true] at ha
    obtain ⟨gs,e1,e2⟩:=ih (λf hf'=>hf f (List.mem_cons_of_mem _ hf')) (by simpa using ha.2)
    cases f with
    | none=>simp at ha
    | some v =>
     exact ⟨v :: gs,by rw [e1];rfl,λu hu=>by
      rcases List.mem_cons.mp hu with rfl | hu
      ·exact hf _ List.mem_cons_self _ rfl
      ·exact e2 u hu⟩
  subst hg
  obtain ⟨g0,gr,rfl⟩:∃ g0 gr,gs = g0 :: gr:=by
   cases gs with
   | nil=>simp at hl
   | cons a b=>exact ⟨a,b,rfl⟩
  have hfm:(((g0 :: gr).map some).toArray.filterMap id) = (g0 :: gr).toArray:=by simp
  rw [hfm,oneTypeOnly'_eq,List.mapM_toArray,map_eq_pure_bind]
  refine wpAny_bind (wpAny_bind (wpAny_bind (PySem.W.kas_mapM (r:=Value.type "int") _ (λv hv Q' hq=>by
   obtain ⟨n,t,rfl⟩:=hgi v hv
   exact (PySem.W.Looks.of_pure (M:=model prog w) rfl).here hq) (wpAny_pure ?_))))
  have Cj:((List.map (λ_=>Value.type "int") (g0 :: gr)).toArray.all λx=>x == Value.type "int") = true:=by
   simp only [List.all_toArray,List.all_map,List.all_eq_true]
   intro _ _
   show (Value.type "int" == Value.type "int") = true
   decide
  have h0:(List.map (λ_=>Value.type "int") (g0 :: gr)).toArray[0]? = some (Value.type "int"):=by simp
  rw [h0]
  simp only [Cj,if_true]
  exact wpAny_pure (wpAny_pure (h _ (.inl rfl)))
 ·rw [if_neg ha]
  by_cases hb:((fs.toArray[0]?.bind id).isSome) = true
  ·rw [if_pos hb]
   exact wpAny_pure (h _ (.inr (.inl rfl)))
  ·rw [if_neg hb]
   rw [oneTypeOnly'_eq,List.mapM_toArray,map_eq_pure_bind]
   refine wpAny_bind (wpAny_bind (wpAny_bind (PySem.W.kas_mapM (r:=Value.type "tuple") _ (λv hv Q' hq=>by
    obtain ⟨a,ai,ns,rfl,⟨o,ho,hc,_⟩,_⟩:=t.mem hv
    refine PySem.W.Looks.here (show PySem.W.Looks (model prog w) s.heap (typeOf (.ref a)) o.cls from (PySem.W.Looks.ld ho).andThen .now) ?_
    rw [hc];exact hq) (wpAny_pure ?_))))
   have Cj:((List.map (λ_=>Value.type "tuple") (v0 :: vr)).toArray.all λx=>x == Value.type "tuple") = true:=by
    simp only [List.all_toArray,List.all_map,List.all_eq_true]
    intro _ _
    show (Value.type "tuple" == Value.type "tuple") = true
    decide
   have h0:(List.map (λ_=>Value.type "tuple") (v0 :: vr)).toArray[0]? = some (Value.type "tuple"):=by simp
   rw [h0]
   simp only [Cj,if_true]
   exact wpAny_pure (wpAny_pure (h _ (.inr (.inr rfl))))
theorem Jo {κ:SortKind} (hk:Hu κ) (hu:A.units < cLine) {a b:Addr} {ai EU:List Value} {ns ms:List Int} {Q:Bool -> Shared -> Prop} (ha:IsTup s.heap a ai.toArray) (hb:IsTup s.heap b EU.toArray) (hi:IntsAre ai ns) (hj:IntsAre EU ms) (h:Q (HT.lexLt ns ms) s) :
  wpAny (model prog w) A (keyLt' κ (.ref a) (.ref b)) Q E s:=by
 rcases hk with rfl | rfl | rfl
 ·obtain ⟨o,ho,_,n,hd⟩:=ha
  obtain ⟨o',eT,_,n',JZ⟩:=hb
  exact PySem.W.kat_lt ho hd eT JZ (uz 0 hi hj (by simp) h)
 ·exact PySem.W.kat_one _ _ (HT.wm ha hb (by simpa using hi) (by simpa using hj) hu h)
 ·show wpAny (model prog w) A (oneLt' true (.ref a) (.ref b)) Q E s
  rw [oneLt'_eq]
  simp only [if_true]
  refine wpAny_bind (wpAny_cRoomFor hu ?_)
  obtain ⟨⟨cls,dd,data,sl⟩,ho,hc,n,hd⟩:=id ha
  obtain ⟨⟨FP,yJ,data2,vD⟩,rY,hc2,n2,hd2⟩:=id hb
  simp only at hc hd hc2 hd2
  subst hc hd hc2 hd2
  refine wpAny_bind (wpAny_callSpecialIfBound?_slot (name:=Str.ofString "__lt__") ⟨_,ho,rfl⟩ PySem.F.slot_tuple_lt (call_meets PySem.F.slot_tuple_lt ⟨_,ho,rfl⟩ PySem.F.entry_tuple_lt (PySem.F.args_tuple_lt_2 _ _) (HT.jE a b _ _ n n2 dd yJ sl vD ns ms (by simpa using hi) (by simpa using hj)) ⟨ho,rY,?_⟩))
  exact wpAny_truthy_bool h
end
end DI
end
section
namespace DI
open PySem PySem.Spec PyProof.Rows L2
noncomputable def tj (h:Heap) (d:Addr) (es:Array DictEntry) (ep:Nat):Prop:=∃ o,h.get? d = some o /\ o.ExactDict /\ o.data = .dict es ep
section
variable {prog:Program} {w:World} {A:Around} {E:Value -> Shared -> Prop} {s:Shared} {d it:Addr} {es:Array DictEntry} {ep i:Nat}
theorem tj.typeIs (h:tj s.heap d es ep):s.TypeIs (.ref d) "dict":=let ⟨o,ho,hx,_⟩:=h;⟨o,ho,hx.1⟩
theorem yH {Q:Value -> Shared -> Prop} (hd:(d == sysModules) = false) (hm:tj s.heap d es ep)
  (hQ:Q (.ref s.heap.objs.size) { s with heap:=s.heap.push { cls:=.type "dict_keyiterator",data:=.fields #[.ref d,.int 0 0,.int es.size 0,.int ep 0] } }):wpAny (model prog w) A (pyIter (.ref d)) Q E s:=by
 have hT:=hm.typeIs
 obtain ⟨o,ho,hx,Oy⟩:=hm
 refine wpAny_pyIter_slot hT PySem.F.slot_dict_iter (wpAny_call_entry PySem.F.slot_dict_iter hT PySem.F.entry_dict_iter ?_ (PySem.F.args_dict_iter_1 _))
 unfold Builtin.«dict.__iter__» Builtin.Dict.dictSlotNone
 refine wpAny_bind (wpAny_bind (wpAny_notOrdered_dict hT (wpAny_pure ?_)))
 show wpAny _ _ (Builtin.Dict.showsAll d >>= _) _ _ s
 unfold Builtin.Dict.showsAll
 rw [if_neg (by rw [hd];exact Bool.false_ne_true)]
 refine wpAny_bind (wpAny_pure (wpAny_bind (wpAny_dictEntries ho Oy (wpAny_bind (wpAny_dictEpoch ho Oy ?_)))))
 exact wpAny_bind (wpAny_newObj_type (wpAny_pure ⟨_,rfl,"dict_keyiterator",_,⟨_,Heap.get?_push_size _ rfl,rfl⟩,PySem.F.slot_dict_keyiterator_next.lookup,hQ⟩))
theorem yG {Q:Option Value -> Shared -> Prop} (hit:s.heap.IsKeyIter it d i es.size ep) (hm:tj s.heap d es ep) (hV:i < es.size)
  (hQ:∀ h',h'.IsKeyIter it d (i + 1) es.size ep -> Heap.SameBut it s.heap h' -> Q (some es[i].key) { s with heap:=h' }):wpAny (model prog w) A (pyNext (.ref it)) Q E s:=by
 obtain ⟨o,ho,hc,hd⟩:=id hit
 obtain ⟨od,Of,zR,Ow⟩:=hm
 unfold pyNext
 refine wpAny_bind (wpAny_attempt (wpAny_callSpecial?_slot (name:=Str.ofString "__next__") hit.typeIs PySem.F.slot_dict_keyiterator_next (wpAny_call_entry PySem.F.slot_dict_keyiterator_next hit.typeIs PySem.F.entry_dict_keyiterator_next ?_ (PySem.F.args_dict_keyiterator_next_1 _))))
 refine wpAny_bind (wpAny_pure (wpAny_bind (wpAny_bind ?_)))
 first | refine wpAny_bind (wpAny_typeNameOfWhole_keyiter hit.typeIs (wpAny_pure ?_)) | refine wpAny_bind (wpAny_typeNameOf_keyiter hit.typeIs (wpAny_pure ?_))
 refine wpAny_bind (wpAny_fieldsOf ho hd ?_)
 simp only [show Builtin.Dict_items.ownsTuple "dict_keyiterator" = false by decide,Bool.false_eq_true,if_false]
 show wpAny _ _ (if (Value.ref d == Value.none) = true then _ else _) _ _ s
 rw [if_neg (show ¬ ((Value.ref d == Value.none) = true) from Bool.false_ne_true)]
 refine wpAny_bind (wpAny_pure (wpAny_bind (wpAny_dictEntries Of Ow ?_)))
 rw [if_neg (by simp)]
 refine wpAny_bind (wpAny_pure (wpAny_bind (wpAny_dictEpoch Of Ow ?_)))
 rw [if_neg (by simp)]
 refine wpAny_pure ?_
 simp only [show ¬ ((i:Int) < 0) from by omega,if_false,Int.toNat_natCast,Array.getElem?_eq_getElem hV]
 refine wpAny_bind ?_
 first | refine wpAny_bind (wpAny_typeNameOfWhole_keyiter hit.typeIs (wpAny_pure ?_)) | refine wpAny_bind (wpAny_typeNameOf_keyiter hit.typeIs (wpAny_pure ?_))
 refine wpAny_bind (wpAny_isOneOf_keyiter hit.typeIs ?_)
 show wpAny _ _ (setField (.ref it) 1 (rawInt ((i:Int) + 1)) >>= _) _ _ s
 refine wpAny_bind (wpAny_setField ho hd (by simp) ?_)
 have Fe:(s.heap.update it (Obj.mapFields (·.setIfInBounds 1 (rawInt ((i:Int) + 1))))).IsKeyIter it d (i + 1) es.size ep :=
  ⟨_,Heap.get?_update_self _ ho (Obj.isFreed_of_fields (Obj.data_mapFields hd _)),(Obj.cls_mapFields ..).trans hc,by rw [Obj.data_mapFields hd];simp [rawInt]⟩
 refine wpAny_bind (wpAny_holding (wpAny_bind (wpAny_isOneOf_keyiter (s:={ s with heap:=s.heap.update it (Obj.mapFields (·.setIfInBounds 1 (rawInt ((i:Int) + 1)))) }) Fe.typeIs ?_)))
 show wpAny _ _ (pure es[i].key) _ _ _
 exact wpAny_pure (wpAny_pure ⟨_,rfl,wpAny_pure (hQ _ Fe (Heap.SameBut.update ..))⟩)
theorem CB {Q:Option Value -> Shared -> Prop} (hh:A.handled = none) (hit:s.heap.IsKeyIter it d i es.size ep) (hm:tj s.heap d es ep) (hge:es.size <= i)
  (hQ:∀ h',Heap.ExtBut it s.heap h' -> Q none { s with heap:=h' }):wpAny (model prog w) A (pyNext (.ref it)) Q E s:=by
 obtain ⟨o,ho,hc,hd⟩:=id hit
 obtain ⟨od,Of,zR,Ow⟩:=hm
 unfold pyNext
 refine wpAny_bind (wpAny_attempt (wpAny_callSpecial?_slot (name:=Str.ofString "__next__") hit.typeIs PySem.F.slot_dict_keyiterator_next (wpAny_call_entry PySem.F.slot_dict_keyiterator_next hit.typeIs PySem.F.entry_dict_keyiterator_next ?_ (PySem.F.args_dict_keyiterator_next_1 _))))
 refine wpAny_bind (wpAny_pure (wpAny_bind (wpAny_bind ?_)))
 first | refine wpAny_bind (wpAny_typeNameOfWhole_keyiter hit.typeIs (wpAny_pure ?_)) | refine wpAny_bind (wpAny_typeNameOf_keyiter hit.typeIs (wpAny_pure ?_))
 refine wpAny_bind (wpAny_fieldsOf ho hd ?_)
 simp only [show Builtin.Dict_items.ownsTuple "dict_keyiterator" = false by decide,Bool.false_eq_true,if_false]
 show wpAny _ _ (if (Value.ref d == Value.none) = true then _ else _) _ _ s
 rw [if_neg (show ¬ ((Value.ref d == Value.none) = true) from Bool.false_ne_true)]
 refine wpAny_bind (wpAny_pure (wpAny_bind (wpAny_dictEntries Of Ow ?_)))
 rw [if_neg (by simp)]
 refine wpAny_bind (wpAny_pure (wpAny_bind (wpAny_dictEpoch Of Ow ?_)))
 rw [if_neg (by simp)]
 refine wpAny_pure ?_
 simp only [show ¬ ((i:Int) < 0) from by omega,if_false,Int.toNat_natCast,Array.getElem?_eq_none hge]
 refine wpAny_bind ?_
 first | refine wpAny_bind (wpAny_typeNameOfWhole_keyiter hit.typeIs (wpAny_pure ?_)) | refine wpAny_bind (wpAny_typeNameOf_keyiter hit.typeIs (wpAny_pure ?_))
 show wpAny _ _ (setField (.ref it) 0 .none >>= _) _ _ s
 refine wpAny_bind (wpAny_setField ho hd (by simp) ?_)
 show wpAny _ _ (newExc (.type "StopIteration") [] >>= _) _ _ _
 refine wpAny_bind ?_
 simp only [newExc,newTuple]
 refine wpAny_bind (wpAny_newObj_type ?_ (by size_fits))
 refine wpAny_bind (m:=firstArgMember _ _) (wpAny_of_eq (a:=Value.none) (by first | rfl | (simp only [firstArgMember];rfl)) ?_)
 refine wpAny_newObj_type ?_ (by size_fits)
 simp only [raiseNew]
 refine wpAny_bind (wpAny_handled ?_)
 rw [show A.in1.handled = none from hh]
 refine wpAny_bind (wpAny_pure (wpAny_throw ?_))
 refine wpAny_bind (wpAny_isInstance (T:="StopIteration") (b:=true) ⟨_,Heap.get?_push_size _ rfl,rfl⟩ isSubtype_stop ?_)
 exact wpAny_pure (hQ _ (((Heap.SameBut.update ..).extBut.push _).push _))
end
end DI
end
section
namespace DI
open PySem PySem.Spec PyProof.Rows L2
theorem wu:∀ a b c:List Int,HT.lexLt a b = true -> HT.lexLt b c = true -> HT.lexLt a c = true
 | [],[],_,h,_=>by rw [HT.jG] at h;cases h
 | [],_ :: _,[],_,h=>by rw [HT.cR] at h;cases h
 | [],_ :: _,_ :: _,_,_=>rfl
 | _ :: _,[],_,h,_=>by rw [HT.cR] at h;cases h
 | _ :: _,_ :: _,[],_,h=>by rw [HT.cR] at h;cases h
 | x :: a,y :: b,z :: c,h1,h2=>by
  rw [HT.dR] at *
  by_cases e1:x = y
  ·subst e1
   rw [if_pos rfl] at h1
   by_cases e2:x = z
   ·subst e2
    rw [if_pos rfl] at h2 ⊢
    exact wu a b c h1 h2
   ·rw [if_neg e2] at h2 ⊢;exact h2
  ·rw [if_neg e1] at h1
   have l1:x < y:=of_decide_eq_true h1
   by_cases e2:y = z
   ·subst e2
    rw [if_neg (by omega)]
    exact decide_eq_true l1
   ·rw [if_neg e2] at h2
    have l2:y < z:=of_decide_eq_true h2
    rw [if_neg (by omega)]
    exact decide_eq_true (by omega)
theorem rS:∀ a b:List Int,HT.lexLt a b = true -> HT.lexLt b a = false
 | [],[],_=>rfl
 | [],_ :: _,_=>rfl
 | _ :: _,[],h=>by rw [HT.cR] at h;cases h
 | x :: a,y :: b,h=>by
  rw [HT.dR] at *
  by_cases e:x = y
  ·subst e
   rw [if_pos rfl] at h ⊢
   exact rS a b h
  ·rw [if_neg e] at h
   have l:x < y:=of_decide_eq_true h
   rw [if_neg (by omega)]
   exact decide_eq_false (by omega)
theorem mW:∀ a b:List Int,a ≠ b -> HT.lexLt a b = true \/ HT.lexLt b a = true
 | [],[],h=>absurd rfl h
 | [],_ :: _,_=>.inl rfl
 | _ :: _,[],_=>.inr rfl
 | x :: a,y :: b,h=>by
  rw [HT.dR,HT.dR]
  by_cases e:x = y
  ·subst e
   rw [if_pos rfl,if_pos rfl]
   exact mW a b λz=>h (by rw [z])
  ·rw [if_neg e,if_neg (Ne.symm e)]
   rcases Int.lt_or_gt_of_ne e with l | l
   ·exact .inl (decide_eq_true l)
   ·exact .inr (decide_eq_true l)
noncomputable def bJ (nss:List (List Int)):List (List Int):=nss.mergeSort λa b=>!HT.lexLt b a
noncomputable def xl (nss:List (List Int)):Prop:=nss.Pairwise λa b=>HT.lexLt a b = true
theorem xH:∀ {l m:List (List Int)},xl l -> xl m -> l.Perm m -> l = m
 | [],m,_,_,p=>(List.perm_nil.mp p.symm).symm
 | a :: l,[],_,_,p=>by have:=p.length_eq;simp at this
 | a :: l,b :: m,h1,h2,p=>by
  have e:a = b:=by
   have ha:a ∈ b :: m:=p.mem_iff.mp List.mem_cons_self
   have hb:b ∈ a :: l:=p.mem_iff.mpr List.mem_cons_self
   rcases List.mem_cons.mp ha with e | ha
   ·exact e
   ·rcases List.mem_cons.mp hb with e | hb
    ·exact e.symm
    ·have l1:=(List.pairwise_cons.mp h2).1 a ha
     have l2:=(List.pairwise_cons.mp h1).1 b hb
     rw [rS _ _ l1] at l2;cases l2
  subst e
  rw [xH (List.pairwise_cons.mp h1).2 (List.pairwise_cons.mp h2).2 (List.perm_cons a |>.mp p)]
theorem nJ {nss:List (List Int)} (h:nss.Nodup):xl (bJ nss):=by
 have p:(bJ nss).Perm nss:=List.mergeSort_perm _ _
 have nd:(bJ nss).Nodup:=p.nodup_iff.mpr h
 have sd:(bJ nss).Pairwise λa b=>(!HT.lexLt b a) = true:=List.pairwise_mergeSort (λa b c h1 h2=>by
  cases e:HT.lexLt c a with
  | false=>rfl
  | true =>
   exfalso
   by_cases wH:b = c
   ·subst wH;rw [e] at h1;cases h1
   ·rcases mW b c wH with l | l
    ·rw [wu _ _ _ l e] at h1;cases h1
    ·rw [l] at h2;cases h2) (λa b=>by
  cases e:HT.lexLt b a with
  | false=>rfl
  | true=>rw [rS _ _ e];rfl) nss
 exact (sd.and nd).imp λ{a b} ⟨h1,h2⟩=>by
  rcases mW a b h2 with l | l
  ·exact l
  ·rw [l] at h1;cases h1
theorem A_ {nss l:List (List Int)} (h:nss.Nodup) (hr:xl l) (p:l.Perm nss):l = bJ nss:=xH hr (nJ h) (p.trans (List.mergeSort_perm _ _).symm)
noncomputable def ltN (nss:List (List Int)) (i j:Nat):Bool:=HT.lexLt (nss.getD i []) (nss.getD j [])
theorem IU {nss:List (List Int)} (h:nss.Nodup):Ord (ltN nss) nss.length :=
 ⟨λa b c _ _ _ h1 h2=>wu _ _ _ h1 h2,λa b _ _ h=>rS _ _ h,λa b ha hb wH=>mW _ _ λe=>wH (by
  have e1:nss.getD a [] = nss[a]:=by simp [ha]
  have e2:nss.getD b [] = nss[b]:=by simp [hb]
  rw [e1,e2] at e
  exact (List.getElem_inj h).mp e)⟩
theorem qu {nss:List (List Int)} (h:nss.Nodup) {p:Array Nat} (ha:Arr p nss.length) (hu:Up (ltN nss) p nss.length):(p.toList.map λi=>nss.getD i []) = bJ nss:=by
 refine A_ h ?_ ?_
 ·refine List.pairwise_iff_getElem.mpr λi j hi hj iP=>?_
  simp only [List.length_map,Array.length_toList] at hi hj
  have:=hu i j iP (by rw [<- ha.sz];exact hj)
  unfold ltN at this
  have e:∀ k (hk:k < p.size),p.getD k 0 = p[k]:=λk hk=>by simp [Array.getD,hk]
  rw [e i hi,e j hj] at this
  simpa using this
 ·have e:nss = (List.range nss.length).map λi=>nss.getD i []:=by
   refine List.ext_getElem (by simp) λi h1 h2=>?_
   simp [h1]
  refine (ha.pm.map λi=>nss.getD i []).trans ?_
  rw [<- e]
end DI
end
section
namespace DI
open PySem PySem.Spec PyProof.Rows L2
section
variable {prog:Program} {w:World} {A:Around} {E:Value -> Shared -> Prop} {s:Shared}
theorem A9 {a:Addr} {vs:List Value} {nss:List (List Int)} {n:Nat} {P:PySem.Fin -> Shared -> Prop} (hu:A.units < cLine) (ho:s.heap.get? a = some (seqObj "list" vs.toArray n)) (tq:vs.length < 64) (Dj:nss.Nodup)
  (ht:ql (((s.heap.update a (Obj.mapSeq λ_=>#[])).push (seqObj "tuple" vs.toArray 0)).push (seqObj "list" #[] 0)) vs nss)
  (h:∀ p:Array Nat,Arr p vs.length -> (p.toList.map λi=>nss.getD i []) = bJ nss -> P (.done (.ret .none)) { s with heap:=sortedHeap s.heap a vs (List.toArray (p.toList.map λi=>vs.getD i Value.none)) }) :
  wpAny (model prog w) A (Builtin.«list.sort» ⟨[.ref a],[]⟩) P E s:=by
 rw [list_sort_plain]
 have ha:a < s.heap.objs.size:=Heap.lt_size ho
 have hsz:vs.toArray.size = vs.length:=by simp
 have hz:vs.length <= sizeLine:=by rw [sizeLine_eq];omega
 have hl:=ht.1
 refine wpAny_bind (listItems_at ho rfl (wpAny_bind (listUpdate_at ho rfl ?_ (by rw [hsz];exact hz) (Nat.zero_le _))))
 obtain ⟨e1,LP⟩:∃ e1,(s.heap.update a (Obj.mapSeq λ_=>#[])).get? a = some (seqObj "list" #[] e1):=⟨_,get?_update_seq ho (λ_=>#[])⟩
 refine wpAny_bind (seqEpoch_at LP rfl (wpAny_bind (wpAny_newTuple (wpAny_bind (wpAny_newList (wpAny_holding ?_) (Nat.zero_le _))) (by simpa using hz))))
 have ho6:(((s.heap.update a (Obj.mapSeq λ_=>#[])).push (seqObj "tuple" vs.toArray 0)).push (seqObj "list" #[] 0)).get? a = some (seqObj "list" #[] e1):=Heap.get?_push_of_some _ (Heap.get?_push_of_some _ LP)
 show wpAny (model prog w) A _ P E ({ s with heap:=((s.heap.update a (Obj.mapSeq λ_=>#[])).push (seqObj "tuple" vs.toArray 0)).push (seqObj "list" #[] 0) }:Shared)
 dsimp only
 have fin:∀ (mE:SortSt) (p:Array Nat),Arr p vs.length -> (p.toList.map λi=>nss.getD i []) = bJ nss -> (arrOf mE).map (·.2) = List.toArray (p.toList.map λi=>vs.getD i Value.none) -> failedOf mE = none -> wpAny (model prog w) A (do
   let touched:=(<- seqEpoch a) != e1
   Builtin.List.listUpdate (.ref a) λ_=>(arrOf mE).map (·.2)
   if let some e:=failedOf mE then rule "list.sort.comparison-raised";throw e
   if touched then rule "list.sort.modified";raiseError "ValueError" "list modified during sort"
   ret .none) P E ({ s with heap:=((s.heap.update a (Obj.mapSeq λ_=>#[])).push (seqObj "tuple" vs.toArray 0)).push (seqObj "list" #[] 0) }:Shared):=by
  intro mE p hp hs hA hF
  refine wpAny_bind (seqEpoch_at ho6 rfl ?_)
  rw [hA]
  refine wpAny_bind (listUpdate_at ho6 rfl ?_ (Nat.zero_le _) (by rw [List.size_toArray,List.length_map,Array.length_toList,hp.sz];exact Nat.le_succ_of_le hz))
  rw [hF]
  simp only [bne_self_eq_false,Bool.false_eq_true,if_false]
  exact wpAny_pure (h p hp hs)
 by_cases h2:vs.toArray.size < 2
 ·rw [if_pos h2,if_pos h2]
  refine wpAny_bind (wpAny_pure ?_)
  rw [StateT.run_pure]
  refine wpAny_bind (wpAny_pure ?_)
  rw [hsz] at h2
  have Xa:Arr (List.toArray (List.range vs.length)) vs.length:=⟨by simp,by simp⟩
  refine fin (SortSt.mk' general' (vs.toArray.zip vs.toArray) #[] 7 none) (List.toArray (List.range vs.length)) Xa ?_ ?_ rfl
  ·rw [hl] at Xa ⊢
   exact qu Dj Xa λi j iP hj=>by omega
  ·apply Array.toList_inj.mp
   show (Array.map (·.2) (vs.toArray.zip vs.toArray)).toList = _
   rw [Array.toList_map,show (vs.toArray.zip vs.toArray) = pairsOf vs from rfl,pairsOf_toList,List.map_snd_zip (Nat.le_refl _)]
   refine List.ext_getElem (by simp) λi h1 h2=>?_
   simp [h1]
 ·rw [if_neg h2,if_neg h2]
  rw [hsz] at h2
  refine wpAny_bind (kind_any ht (λz=>by rw [z] at h2;simp at h2) λκ hk=>?_)
  have ok:=D7 (IU Dj) (by rw [<- hl];omega)
  refine wpAny_bind (wpAny_mono (PySem.W.kat_run (ks:=vs) (vs:=vs) (κ:=κ) (Q:=λmE s'=>s' = ({ s with heap:=((s.heap.update a (Obj.mapSeq λ_=>#[])).push (seqObj "tuple" vs.toArray 0)).push (seqObj "list" #[] 0) }:Shared) /\ ∃ p,Arr p vs.length /\ (p.toList.map λi=>nss.getD i []) = bJ nss /\ (arrOf mE).map (·.2) = List.toArray (p.toList.map λi=>vs.getD i Value.none) /\ failedOf mE = none)
   (G:=λp s'=>s' = ({ s with heap:=((s.heap.update a (Obj.mapSeq λ_=>#[])).push (seqObj "tuple" vs.toArray 0)).push (seqObj "list" #[] 0) }:Shared) /\ Arr p vs.length /\ (p.toList.map λi=>nss.getD i []) = bJ nss) rfl (by omega) tq (λp mE s' WE har hf hG=>⟨hG.1,p,hG.2.1,hG.2.2,PySem.W.kat_snds rfl har,hf⟩) ?_) (λr s' ⟨e,p,hp,hs,hA,hF⟩=>?_) λ_ _ e=>e)
  rotate_left
  ·subst e
   exact fin r.2 p hp hs hA hF
  ·rw [hl]
   refine yX (lt:=ltN nss) (n:=nss.length) (λi j C hi hj hC=>?_) _ ok.1 ⟨rfl,ok.2.1,qu Dj ok.2.1 ok.2.2⟩
   obtain ⟨x,ai,e1,i1,i2⟩:=ht.2 i _ (List.getElem?_eq_getElem hi)
   obtain ⟨y,EU,e2,j1,j2⟩:=ht.2 j _ (List.getElem?_eq_getElem hj)
   unfold PySem.W.kas_ask
   rw [show vs.getD i Value.none = .ref x by simp [e1],show vs.getD j Value.none = .ref y by simp [e2]]
   refine Jo hk hu i1 j1 i2 j2 ?_
   have e3:nss.getD i [] = nss[i]:=by simp [hi]
   have e4:nss.getD j [] = nss[j]:=by simp [hj]
   have hC':C (HT.lexLt (nss.getD i []) (nss.getD j [])) _:=hC
   rw [e3,e4] at hC'
   exact hC'
theorem CA {es:Array DictEntry} {ep:Nat} (hh:A.handled = none) (I d:Addr) (JU:d ≠ I):Walks prog w A I [I,d] [I] es.size (λi v=>∃ e,es[i]? = some e /\ v = e.key) (λi h=>h.IsKeyIter I d i es.size ep /\ tj h d es ep) where
 sub:=λb hb=>by simp at hb;simp [hb]
 frame:=λ_ _ _ st hk=>⟨st.1.at λo e=>hk I (by simp) o e,let ⟨o,ho,r⟩:=st.2;⟨o,hk d (by simp) o ho,r⟩⟩
 item:=λi s Q E hi st hQ=>yG st.1 st.2 hi λh' Fe QY=>hQ _ h' s.toks ⟨es[i],Array.getElem?_eq_getElem hi,rfl⟩ ⟨Fe,let ⟨o,ho,r⟩:=st.2;⟨o,QY.extBut d o JU ho,r⟩⟩ λb o hb e=>QY.extBut b o (λh=>hb (by simp [h])) e
 done:=λs Q E st hQ=>CB hh st.1 st.2 (Nat.le_refl _) λh' he'=>hQ h' s.toks λb o hb e=>he' b o (λh=>hb (by simp [h])) e
 self:=λ_ _ _ _ st hQ=>wpAny_pyIter_keyiter st.1 hQ
theorem K4 {d:Addr} {es:Array DictEntry} {ep:Nat} (lo:(d == sysModules) = false):PySem.W.KdlSrc prog w "dict" d d es.size (λi v=>∃ e,es[i]? = some e /\ v = e.key) (λh=>tj h d es ep) where
 type:=λ_ hm=>hm.typeIs
 there:=λ_ hm=>let ⟨_,ho,_⟩:=hm;⟨Heap.lt_size ho,Heap.lt_size ho⟩
 keep:=λ_ _ hm hk=>let ⟨o,ho,r⟩:=hm;⟨o,hk d (.inl rfl) o ho,r⟩
 notList:=by decide
 notTuple:=by decide
 hint:=λ_ _ _ _ hm hq=>PySem.W.kdl_hint_dict hm.typeIs hq
 iter:=λ_ _ hh hm=>⟨_,_,(λ_ _ hq=>yH lo hm hq),CA hh _ d (let ⟨_,ho,_⟩:=hm;Nat.ne_of_lt (Heap.lt_size ho)),⟨⟨_,Heap.get?_push_size _ rfl,rfl,rfl⟩,let ⟨o,ho,r⟩:=hm;⟨o,Heap.get?_push_of_some _ ho,r⟩⟩⟩
theorem tQ {d:Addr} {es:Array DictEntry} {ep:Nat} {nss:List (List Int)} {Q:Value -> Shared -> Prop} (hh:A.handled = none) (hu:A.units + 2 < cLine) (lo:(d == sysModules) = false) (hm:tj s.heap d es ep) (tq:es.size < 64) (Dj:nss.Nodup) (ht:ql s.heap (es.toList.map (·.key)) nss)
  (h:∀ (S:Addr) (h':Heap) (tk e:Nat) (p:Array Nat),s.heap.get? S = none -> (∀ b o,s.heap.get? b = some o -> h'.get? b = some o) -> Arr p es.size -> (p.toList.map λi=>nss.getD i []) = bJ nss ->
   h'.get? S = some (seqObj "list" (List.toArray (p.toList.map λi=>(es.toList.map (·.key)).getD i Value.none)) e) -> Q (.ref S) { s with heap:=h',toks:=tk }) :
  wpAny (model prog w) A (call (.builtin "sorted") [.ref d]) Q E s:=by
 refine Calls.call_function_entry kind_sorted plain_sorted entry_sorted (args_sorted1 _) ?_
 unfold Builtin.«sorted»
 have hz:es.size <= sizeLine:=by rw [sizeLine_eq];omega
 refine wpAny_bind (m:=checkCount "sorted" 1 1 _) (wpAny_pure (wpAny_bind (PySem.W.kdu_collect (A:=A.in1) (K4 lo) hh hm hz λh1 tk acc hk fe=>?_)))
 have OL:acc.toList = es.toList.map (·.key):=by
  refine List.ext_getElem? λi=>?_
  rw [List.getElem?_map,Array.getElem?_toList,Array.getElem?_toList]
  by_cases hi:i < es.size
  ·have hia:i < acc.size:=by rw [fe.1];exact hi
   obtain ⟨e,he,hv⟩:=fe.2 i acc[i] (Array.getElem?_eq_getElem hia)
   rw [Array.getElem?_eq_getElem hia,he,hv];rfl
  ·rw [Array.getElem?_eq_none (by rw [fe.1];omega),Array.getElem?_eq_none (by omega)];rfl
 rw [OL]
 generalize Wx:es.toList.map (·.key) = vs at *
 have LM:vs.length = es.size:=by rw [<- Wx];simp
 refine wpAny_bind (wpAny_newList ?_ (by rw [LM];exact hz))
 show wpAny _ _ _ _ _ ({ s with heap:=h1.push (seqObj "list" vs.toArray 0),toks:=tk }:Shared)
 have Og:(h1.push (seqObj "list" vs.toArray 0)).get? h1.objs.size = some (seqObj "list" vs.toArray 0):=Heap.get?_push_size _ rfl
 have k6:∀ b o,s.heap.get? b = some o -> ((((h1.push (seqObj "list" vs.toArray 0)).update h1.objs.size (Obj.mapSeq λ_=>#[])).push (seqObj "tuple" vs.toArray 0)).push (seqObj "list" #[] 0)).get? b = some o:=λb o e=>by
  refine Heap.get?_push_of_some _ (Heap.get?_push_of_some _ ?_)
  rw [Heap.get?_update_other _ _ (Nat.ne_of_gt (Heap.lt_size (hk b o e)))]
  exact Heap.get?_push_of_some _ (hk b o e)
 have hle:s.heap.get? h1.objs.size = none:=by
  cases q:s.heap.get? h1.objs.size with
  | none=>rfl
  | some o=>exact absurd (Heap.lt_size (hk _ o q)) (Nat.lt_irrefl _)
 refine wpAny_bind (wpAny_holding (wpAny_call_entry slot_list_sort ⟨_,Og,rfl⟩ entry_list_sort (A9 (s:={ s with heap:=h1.push (seqObj "list" vs.toArray 0),toks:=tk }) (nss:=nss) (show A.in1.in1.units < cLine by show A.units + 1 + 1 < cLine;omega) Og (by rw [LM];exact tq) Dj (ht.mono k6) λp hp hs=>⟨_,rfl,?_⟩) (args_list_sort _)))
 obtain ⟨e,he⟩:=sortedHeap_at (out:=List.toArray (p.toList.map λi=>vs.getD i Value.none)) Og
 refine wpAny_pure ⟨_,rfl,h h1.objs.size _ tk e p hle (λb o e=>?_) (by rw [<- LM];exact hp) hs he⟩
 have hV:=Heap.lt_size (hk b o e)
 rw [sortedHeap_old (Nat.ne_of_lt hV) (by rw [size_push'];exact Nat.lt_succ_of_lt hV)]
 exact Heap.get?_push_of_some _ (hk b o e)
end
end DI
end
section
namespace DI
open PySem PySem.Spec PyProof.Rows L2
section
variable {α β:Type}
noncomputable def cf:List (List Int) -> List α -> List Int -> Option α
 | c' :: cs,v :: vs,c=>if c' = c then some v else cf cs vs c
 | _,_,_=>none
noncomputable def setC:List (List Int) -> List α -> List Int -> α -> List α
 | c' :: cs,v' :: vs,c,v=>(if c' = c then v else v') :: setC cs vs c v
 | _,_,_,_=>[]
noncomputable def cS (cs:List (List Int)) (c:List Int):List (List Int):=if c ∈ cs then cs else cs ++ [c]
noncomputable def vy (cs:List (List Int)) (as:List α) (c:List Int) (a:α):List α:=if c ∈ cs then as else as ++ [a]
noncomputable def bB (cs:List (List Int)) (vs:List α) (c:List Int) (v:α):List α:=if c ∈ cs then setC cs vs c v else vs ++ [v]
end
section
variable {zs:List (List Int × Addr × Value)} {c:List Int}
theorem lT:∀ (zs:List (List Int × Addr × Value)) (c:List Int),(atKey zs c).map (·.2) = cf (zs.map (·.1)) (zs.map (·.2.2)) c
 | [],_=>rfl
 | z :: zs,c=>by
  have ih:=lT zs c
  unfold atKey at ih ⊢
  rw [List.find?_cons]
  show _ = if z.1 = c then some z.2.2 else cf (zs.map (·.1)) (zs.map (·.2.2)) c
  by_cases e:z.1 = c
  ·rw [decide_eq_true e,if_pos e];rfl
  ·rw [decide_eq_false e,if_neg e];exact ih
theorem eH:∀ (zs:List (List Int × Addr × Value)) (c:List Int),(atKey zs c).isSome = true ↔ c ∈ zs.map (·.1)
 | [],c=>by simp [atKey]
 | z :: zs,c=>by
  have ih:=eH zs c
  unfold atKey at ih ⊢
  rw [List.find?_cons,List.map_cons,List.mem_cons]
  by_cases e:z.1 = c
  ·rw [decide_eq_true e];simp [e]
  ·rw [decide_eq_false e]
   rw [ih]
   exact ⟨.inr,λh=>h.resolve_left λz=>e z.symm⟩
theorem mj (a:Addr) (v:Value):(storedH zs c a v).map (·.1) = cS (zs.map (·.1)) c:=by
 unfold storedH cS
 by_cases h:c ∈ zs.map (·.1)
 ·rw [if_pos ((eH zs c).mpr h),if_pos h,List.map_map]
  refine List.map_congr_left λz _=>?_
  show (putAt c v z).1 = z.1
  unfold putAt;split <;> rfl
 ·rw [if_neg (λz=>h ((eH zs c).mp z)),if_neg h,List.map_append];rfl
theorem tO (a:Addr) (v:Value):(storedH zs c a v).map (·.2.1) = vy (zs.map (·.1)) (zs.map (·.2.1)) c a:=by
 unfold storedH vy
 by_cases h:c ∈ zs.map (·.1)
 ·rw [if_pos ((eH zs c).mpr h),if_pos h,List.map_map]
  refine List.map_congr_left λz _=>?_
  show (putAt c v z).2.1 = z.2.1
  unfold putAt;split <;> rfl
 ·rw [if_neg (λz=>h ((eH zs c).mp z)),if_neg h,List.map_append];rfl
theorem uj (v:Value):∀ zs:List (List Int × Addr × Value),(zs.map (putAt c v)).map (·.2.2) = setC (zs.map (·.1)) (zs.map (·.2.2)) c v
 | []=>rfl
 | z :: zs=>by
  show (putAt c v z).2.2 :: ((zs.map (putAt c v)).map (·.2.2)) = (if z.1 = c then v else z.2.2) :: setC (zs.map (·.1)) (zs.map (·.2.2)) c v
  rw [uj v zs]
  unfold putAt
  by_cases e:z.1 = c
  ·rw [if_pos e,if_pos e]
  ·rw [if_neg e,if_neg e]
theorem tN (a:Addr) (v:Value):(storedH zs c a v).map (·.2.2) = bB (zs.map (·.1)) (zs.map (·.2.2)) c v:=by
 unfold storedH bB
 by_cases h:c ∈ zs.map (·.1)
 ·rw [if_pos ((eH zs c).mpr h),if_pos h];exact uj v zs
 ·rw [if_neg (λz=>h ((eH zs c).mp z)),if_neg h,List.map_append];rfl
end
theorem tw {c:List Int} {v:V} {u:Value} (r:RelV v u):∀ {cs:List (List Int)} {xs:List V} {us:List Value},Vals xs us -> Vals (setC cs xs c v) (setC cs us c u)
 | [],_,_,h=>by cases h <;> exact .nil
 | c' :: cs,_,_,h=>by
  cases h with
  | nil=>exact .nil
  | cons h t =>
   refine .cons ?_ (tw r t)
   show RelV (if c' = c then v else _) (if c' = c then u else _)
   by_cases e:c' = c
   ·rw [if_pos e,if_pos e];exact r
   ·rw [if_neg e,if_neg e];exact h
theorem qp {v:V} {u:Value} (r:RelV v u):∀ {xs:List V} {us:List Value},Vals xs us -> Vals (xs ++ [v]) (us ++ [u])
 | _,_,.nil=>.cons r .nil
 | _,_,.cons h t=>.cons h (qp r t)
theorem AN {cs:List (List Int)} {xs:List V} {us:List Value} (h:Vals xs us) {c:List Int} {v:V} {u:Value} (r:RelV v u):Vals (bB cs xs c v) (bB cs us c u):=by
 unfold bB
 by_cases e:c ∈ cs
 ·rw [if_pos e,if_pos e];exact tw r h
 ·rw [if_neg e,if_neg e];exact qp r h
theorem nA:∀ {cs:List (List Int)} {xs:List V} {us:List Value} (_:Vals xs us) (c:List Int),ph (cf cs xs c) (cf cs us c)
 | [],_,_,_,_=>by cases ‹Vals _ _› <;> exact True.intro
 | c' :: cs,_,_,h,c=>by
  cases h with
  | nil=>exact True.intro
  | cons h t =>
   show ph (if c' = c then some _ else _) (if c' = c then some _ else _)
   by_cases e:c' = c
   ·rw [if_pos e,if_pos e];exact h
   ·rw [if_neg e,if_neg e];exact nA t c
end DI
end
section
namespace DI
open PySem PySem.Spec PyProof.Rows L2
section
variable {X:Cx} {pins:List (Addr × Obj)} {σ:St} {H:Hp} {s:Shared} {p b:Addr} {cs:List (List Int)} {as:List Addr} {xs:List V} {ep:Nat} {c:List Int} {A:Around} {E:Value -> Shared -> Prop}
theorem items_int:∀ {c:List Int} {ai:List Value},Vals (c.map V.int) ai -> ItemsAre (intKind X.prog X.w) c ai
 | [],_,h=>by cases h;exact .nil
 | i :: c,_,h=>by
  cases h with
  | cons h t =>
   obtain ⟨t',rfl⟩:=h
   exact .cons (by simp [intKind,Value.isInt]) (items_int t)
theorem rW (I:Inv X pins σ H s) (h:aC X.K H b (c.map V.int)):(tupleKind (intKind X.prog X.w)).is s.heap c b:=by
 obtain ⟨ai,rv,⟨o,h1,h2,n,h3⟩,_⟩:=I.tuple h
 exact ⟨o,ai.toArray,n,h1,h2,h3,by simpa using items_int rv⟩
theorem sy (I:Inv X pins σ H s) (h:H p = some (.ext (DO p cs as xs ep))) (k:eU (aC X.K H) as cs) :
  ∃ (zs:List (List Int × Addr × Value)) (o:Obj) (es:Array DictEntry),zs.map (·.1) = cs /\ zs.map (·.2.1) = as /\ Vals xs (zs.map (·.2.2)) /\ s.heap.get? p = some o /\ o.ExactDict /\ o.data = .dict es ep /\
   s.heap.DictOfH (tupleKind (intKind X.prog X.w)) p zs /\ es.toList = zs.map (entryOfKey (tupleKind (intKind X.prog X.w))) /\ cs.length <= sizeLine /\ (p == sysModules) = false:=by
 obtain ⟨⟨zs,o,es,e1,e2,e3,ho,hx,hd,he,hn,hl,hs⟩,_⟩:=(show cF X.prog X.w H s.heap p (.ext (DO p cs as xs ep)) from I.cX p _ h)
 refine ⟨zs,o,es,e1,e2,e3,ho,hx,hd,⟨o,es,ep,ho,hx,hd,he,λz hz=>?_,by rw [e1];exact hn⟩,he,hl,hs⟩
 obtain ⟨j,hj⟩:=List.mem_iff_getElem?.mp hz
 exact rW I (k.tup j z.2.1 z.1 (by rw [<- e2,List.getElem?_map,hj];rfl) (by rw [<- e1,List.getElem?_map,hj];rfl))
theorem dict_cls (I:Inv X pins σ H s) (h:H p = some (.ext (DO p cs as xs ep))):s.TypeIs (.ref p) "dict" /\ ∀ b,Value.ref p = .ref b -> ∃ ob,s.heap.get? b = some ob /\ ob.dict = none:=by
 obtain ⟨⟨zs,o,es,e1,e2,e3,ho,hx,_⟩,_⟩:=(show cF X.prog X.w H s.heap p (.ext (DO p cs as xs ep)) from I.cX p _ h)
 exact ⟨⟨o,ho,hx.1⟩,λb q=>by cases q;exact ⟨o,ho,hx.2.1⟩⟩
theorem FK {d:V} {r:Value} {Q:Value -> Shared -> Prop} (hu:A.units + 1 < cLine) (I:Inv X pins σ H s) (h:H p = some (.ext (DO p cs as xs ep))) (k:eU (aC X.K H) as cs) (hb:aC X.K H b (c.map V.int)) (rd:RelV d r) (hQ:∀ w' s',Inv X pins σ H s' -> RelV ((cf cs xs c).getD d) w' -> Q w' s') :
  wpAny (model X.prog X.w) A (call (.builtin "dict.get") [.ref p,.ref b,r]) Q E s:=by
 obtain ⟨zs,o,es,e1,e2,e3,ho,hx,hd,dd,_,hl,hs⟩:=sy I h k
 refine call_meetsIn PySem.F.slot_dict_get dd.typeIs PySem.F.entry_dict_get (PySem.F.args_dict_get_3 _ _ _) (meetsH_dict_get_default (tupleKind (intKind X.prog X.w)) p b hs r) ⟨tupleKind_room_in1 hu,c,zs,rW I hb,dd,hQ _ _ (I.tok _) ?_⟩
 rw [lT,e1]
 have hg:=nA (cs:=cs) e3 c
 cases q:cf cs xs c with
 | none =>
  rw [q] at hg
  rw [ph.none_of hg]
  exact rd
 | some v =>
  rw [q] at hg
  obtain ⟨u,B8,ru⟩:=ph.some_of hg
  rw [B8]
  exact ru
theorem wX {v:V} {r:Value} {Q:Unit -> Shared -> Prop} (hu:A.units + 1 < cLine) (I:Inv X pins σ H s) (h:H p = some (.ext (DO p cs as xs ep))) (k:eU (aC X.K H) as cs) (hb:aC X.K H b (c.map V.int)) (rv:RelV v r) (hV:cs.length < sizeLine)
  (hQ:∀ yD s',Inv X pins σ (upd H p (.ext (DO p (cS cs c) (vy cs as c b) (bB cs xs c v) yD))) s' -> Q () s') :
  wpAny (model X.prog X.w) A (setItem (.ref p) (.ref b) r) Q E s:=by
 obtain ⟨zs,o,es,e1,e2,e3,ho,hx,hd,dd,_,hl,hs⟩:=sy I h k
 have hz:zs.length <= sizeLine:=by rw [<- e1,List.length_map] at hl;exact hl
 refine wpAny_setItem_heap (hsz:=hz) (tupleKind_room_in1 hu) (rW I hb) dd λh' dd' B_=>?_
 obtain ⟨q,Hg,yD,hq,h2,h3,h4,_,h5⟩:=dd'
 refine hQ yD _ (I.write (x:=p) (e:=p) (by rw [h];exact True.intro) (.inl rfl) (λb q hb z=>(B_.2 b hb).trans z) ⟨q,hq⟩ ⟨⟨storedH zs c b r,q,Hg,?_,?_,?_,hq,h2,h3,h4,?_,?_,hs⟩,⟨q,hq⟩,?_⟩)
 ·rw [mj,e1]
 ·rw [tO,e1,e2]
 ·rw [tN,e1];exact AN e3 rv
 ·rw [<- e1,<- mj (zs:=zs) (c:=c) b r];exact h5
 ·unfold cS;split
  ·exact hl
  ·rw [List.length_append,List.length_singleton];omega
 ·rintro h1 h2' ⟨Qn,o',es'',f1,f2,f3,f4,f5⟩ kk
  exact ⟨Qn,o',es'',f1,f2,f3,kk _ f4,f5⟩
theorem Es {pos:Pos}:PE X (.Dict [] [] pos) (λ_ H Q=>∀ p,H p = none -> Q (.ref p) (upd H p (.ext (DO p [] [] [] 0)))):=λpins s σ H Q I h=>by
 have W8:sysModules < s.heap.objs.size:=Nat.lt_trans (by decide) (show mainGlobals < s.heap.objs.size from (I.mod.glob.keeps I.bk).lt)
 refine wpAny_Dict_empty ⟨.ref s.heap.objs.size,_,I.laid (a:=s.heap.objs.size) (o:=.ext (DO s.heap.objs.size [] [] [] 0)) (t':=s.toks) (λ_ _ q=>Heap.get?_push_of_some _ q) (Nat.le_refl _) ?_,rfl,h _ (I.cX.fresh (Nat.le_refl _))⟩
 have hg:(s.heap.push { cls:=.type "dict",data:=.dict #[] }).get? s.heap.objs.size = some { cls:=.type "dict",data:=.dict #[] }:=Heap.get?_push_size _ rfl
 refine ⟨⟨[],_,#[],rfl,rfl,.nil,hg,⟨rfl,rfl,rfl⟩,rfl,rfl,List.nodup_nil,Nat.zero_le _,beq_eq_false_iff_ne.mpr (Ne.symm (Nat.ne_of_lt W8))⟩,⟨_,hg⟩,?_⟩
 rintro h1 h2' ⟨Qn,o',es'',f1,f2,f3,f4,f5⟩ kk
 exact ⟨Qn,o',es'',f1,f2,f3,kk _ f4,f5⟩
end
end DI
end
section
namespace DI
open PySem PySem.Spec PyProof.Rows L2
theorem kA {T:jJ} {N N':iQ} {k k':aJ} {v:V} {d:D} (h:Rep T N k v d) (hf:aH anyF d = false):Rep T N' k' v d:=by
 have:=Rep.gen (T':=T) (N':=N') (g:=id) (P:=anyF) (C:=λ_ _=>True) (I:=λ_ _=>True) (λ_ _ h=>h) trivial (λ_ _ e=>e) (λ_ _ _ _ e _=>e) (λk k' p xs f _ hz _=>nomatch hz) h (k':=k') trivial hf
 rw [eL] at this;exact this
theorem nV {T:jJ} {N:iQ}:∀ {cs:List (List Int)} {k:aJ} {n:Nat} {xs:List V} {ds:List D} (_:ag T N k n xs ds) (c:List Int),(cf cs xs c = none /\ cf cs ds c = none) \/ ∃ v d k',cf cs xs c = some v /\ cf cs ds c = some d /\ Rep T N k' v d /\ d ∈ ds
 | [],_,_,_,_,_,_=>by cases ‹ag _ _ _ _ _ _› <;> exact .inl ⟨rfl,rfl⟩
 | c' :: cs,_,_,_,_,r,c=>by
  cases r with
  | nil=>exact .inl ⟨rfl,rfl⟩
  | @cons _ _ v d vs ds h t =>
   by_cases e:c' = c
   ·exact .inr ⟨v,d,_,if_pos e,if_pos e,h,List.mem_cons_self⟩
   ·have e1:∀ {α:Type} (a:α) (l:List α),cf (c' :: cs) (a :: l) c = cf cs l c:=λa l=>if_neg e
    rw [e1,e1]
    rcases nV (cs:=cs) t c with h | ⟨v',d',k',h1,h2,h3,h4⟩
    ·exact .inl h
    ·exact .inr ⟨v',d',k',h1,h2,h3,List.mem_cons_of_mem _ h4⟩
theorem qN {p:Fl -> Bool}:∀ {ds:List D},aw p ds = false -> ∀ d ∈ ds,aH p d = false
 | [],_,_,h=>nomatch h
 | d :: ds,h,d',hd=>by
  have h:=Dg h
  rcases List.mem_cons.mp hd with rfl | hd
  ·exact h.1
  ·exact qN h.2 d' hd
theorem ug {T:jJ} {N:iQ} {c:List Int} {v:V} {d:D} (hv:∀ k,Rep T N k v d):∀ {cs:List (List Int)} {k:aJ} {n:Nat} {xs:List V} {ds:List D},ag T N k n xs ds -> ag T N k n (setC cs xs c v) (setC cs ds c d)
 | [],_,_,_,_,r=>by cases r <;> exact .nil
 | c' :: cs,_,_,_,_,r=>by
  cases r with
  | nil=>exact .nil
  | cons h t =>
   refine .cons ?_ (ug hv t)
   show Rep _ _ _ (if c' = c then v else _) (if c' = c then d else _)
   by_cases e:c' = c
   ·rw [if_pos e,if_pos e];exact hv _
   ·rw [if_neg e,if_neg e];exact h
theorem qy {T:jJ} {N:iQ} {v:V} {d:D} (hv:∀ k,Rep T N k v d):∀ {k:aJ} {n:Nat} {xs:List V} {ds:List D},ag T N k n xs ds -> ag T N k n (xs ++ [v]) (ds ++ [d])
 | _,_,_,_,.nil=>.cons (hv _) .nil
 | _,_,_,_,.cons h t=>.cons h (qy hv t)
theorem Bj {T:jJ} {N:iQ} {c:List Int} {v:V} {d:D} (hv:∀ k,Rep T N k v d) {cs:List (List Int)} {k:aJ} {n:Nat} {xs:List V} {ds:List D} (r:ag T N k n xs ds):ag T N k n (bB cs xs c v) (bB cs ds c d):=by
 unfold bB
 by_cases e:c ∈ cs
 ·rw [if_pos e,if_pos e];exact ug hv r
 ·rw [if_neg e,if_neg e];exact qy hv r
theorem B0 {T:jJ} {as:List Addr} {cs:List (List Int)} (k:eU T as cs) {b:Addr} {c:List Int} (hb:T b (c.map V.int)):eU T (vy cs as c b) (cS cs c):=by
 unfold vy cS
 by_cases e:c ∈ cs
 ·rw [if_pos e,if_pos e];exact k
 ·rw [if_neg e,if_neg e]
  refine ⟨by rw [List.length_append,List.length_append,k.len];rfl,λj a c' ha hc=>?_⟩
  by_cases hj:j < as.length
  ·rw [List.getElem?_append_left hj] at ha
   rw [List.getElem?_append_left (by rw [<- k.len];exact hj)] at hc
   exact k.tup j a c' ha hc
  ·rw [List.getElem?_append_right (by omega)] at ha
   rw [List.getElem?_append_right (by rw [<- k.len];omega),<- k.len] at hc
   cases hz:j - as.length with
   | zero =>
    rw [hz] at ha hc
    cases ha
    cases hc
    exact hb
   | succ m=>rw [hz] at ha;cases ha
theorem bG.newD {K:PySem.W.Frag} {G R:Addr -> Prop} {τ:Addr -> Option aJ} {fv:List Nat} {H H':Hp} {p:Addr} (hp:H p = none) (hl:H' p = some (.ext (DO p [] [] [] 0))):bG K G R τ fv H H' (.ref p) (.cg .ow [] []):=by
 refine ⟨λq=>if q = p then some [] else none,λq k hq=>?_,.cg (ep:=0) (as:=[]) (xs:=[]) ⟨hl,by simp⟩ ⟨rfl,λj a c h=>by simp at h⟩ .nil⟩
 by_cases wC:q = p
 ·subst wC;exact hp
 ·simp [wC] at hq
noncomputable def u_ (xs:List D):O D:=match xs with
 | []=>ok (.cg .ow [] [])
 | _ :: _=>none
noncomputable def sJ (_:Scope) (_:List Str) (e:Expr):Option (List Expr):=match e with
 | .Dict [] [] _=>some []
 | _=>none
theorem FH {Φ:az} {n:Nat} (hΦ:Φ n = u_) {X:Cx} {sc:Scope} {bl:List Str} {k:Nat} (L:PX X sc bl k) {e:Expr} {args:List Expr} (he:sJ sc bl e = some args) {F:Addr -> Prop} {cs:List CE} (hs:qm X F Φ cs args):PE X e (tD X F Φ (.du n cs)) /\ PT X e (gY X F Φ (.du n cs)):=by
 have h1:∃ pos,e = .Dict [] [] pos /\ args = []:=by
  unfold sJ at he
  split at he
  ·cases he;exact ⟨_,rfl,rfl⟩
  ·cases he
 obtain ⟨pos,rfl,rfl⟩:=h1
 cases cs with
 | cons _ _=>exact hs.elim
 | nil =>
  have this:PE X (.Dict [] [] pos) (tD X F Φ (.du n [])):=by
   refine PE.imp (Es (X:=X) (pos:=pos)) λσ H Q hq p hp=>?_
   obtain ⟨R,τ,ρ,d,Si,ev,hq⟩:=hq
   have ev:Φ n [] = ok d:=ev
   rw [hΦ] at ev
   cases ev
   exact hq _ _ (aj.upd hp) (bG.newD hp aD)
  exact ⟨this,cP this λ_=>rfl⟩
noncomputable def three {α:Type}:List α -> Option (α × α × α)
 | [a,b,c]=>some (a,b,c)
 | _=>none
theorem tJ {α:Type} {l:List α} {z:α × α × α} (h:three l = some z):l = [z.1,z.2.1,z.2.2]:=by
 unfold three at h
 split at h
 ·cases h;rfl
 ·cases h
noncomputable def gK:D -> Option (List (List Int) × List D)
 | .cg _ cs vs=>some (cs,vs)
 | _=>none
noncomputable def keyOf:D -> Option (List Int)
 | .tup ks=>intsOf ks
 | _=>none
theorem kN {d:D} {z:List (List Int) × List D} (h:gK d = some z):∃ f,d = .cg f z.1 z.2:=by
 cases d <;> first | (cases h;done) | (cases h;exact ⟨_,rfl⟩)
theorem oj {d:D} {c:List Int} (h:keyOf d = some c):d = .tup (c.map D.int):=by
 cases d <;> first | (cases h;done) | skip
 rw [cZ (show intsOf _ = some c from h)]
noncomputable def wU (xs:List D):O D:=match two xs with
 | some z=>match gK z.1 with
  | some d=>match keyOf z.2 with
   | some c=>match cf d.1 d.2 c with
    | some v=>if aH anyF v = false then ok v else none
    | none=>none
   | none=>none
  | none=>none
 | none=>none
theorem FI {xs:List D} {r:D} (h:wU xs = ok r):∃ f cs vs c,xs = [.cg f cs vs,.tup (c.map D.int)] /\ cf cs vs c = some r /\ aH anyF r = false:=by
 unfold wU at h
 cases h1:two xs with
 | none=>rw [h1] at h;cases h
 | some z =>
  rw [h1] at h
  have h:(match gK z.1 with | some d=>(match keyOf z.2 with | some c=>(match cf d.1 d.2 c with | some v=>if aH anyF v = false then ok v else none | none=>none) | none=>none) | none=>none) = ok r:=h
  cases h2:gK z.1 with
  | none=>rw [h2] at h;cases h
  | some d =>
   rw [h2] at h
   have h:(match keyOf z.2 with | some c=>(match cf d.1 d.2 c with | some v=>if aH anyF v = false then ok v else none | none=>none) | none=>none) = ok r:=h
   cases h3:keyOf z.2 with
   | none=>rw [h3] at h;cases h
   | some c =>
    rw [h3] at h
    have h:(match cf d.1 d.2 c with | some v=>if aH anyF v = false then ok v else none | none=>none) = ok r:=h
    cases h4:cf d.1 d.2 c with
    | none=>rw [h4] at h;cases h
    | some v =>
     rw [h4] at h
     obtain ⟨hf,rfl⟩:=qK (show (if aH anyF v = false then ok v else none) = ok r from h)
     obtain ⟨f,e1⟩:=kN h2
     exact ⟨f,d.1,d.2,c,by rw [jL h1,e1,oj h3],h4,hf⟩
noncomputable def Te (K:PySem.W.Frag):R2:=λx y H Q=>∃ p b cs as xs ep c v,x = .ref p /\ y = .ref b /\ H p = some (.ext (DO p cs as xs ep)) /\ eU (aC K H) as cs /\ aC K H b (c.map V.int) /\ cf cs xs c = some v /\ Q v H
theorem EW {X:Cx} (hu:X.A.units + 1 < cLine):Hv X (Te X.K):=by
 intro value slice pins s σ H x y v u Q I rx ry h hs
 obtain ⟨p,b,cs,as,xs,ep,c,w,rfl,rfl,hp,hk,hb,hg,q⟩:=h
 cases rx
 cases ry
 obtain ⟨zs,o,es,e1,e2,e3,ho,hx,hd,dd,_,hl,Fc⟩:=sy I hp hk
 have hg':=nA (cs:=cs) e3 c
 rw [hg] at hg'
 obtain ⟨u,B8,ru⟩:=ph.some_of hg'
 have:(atKey zs c).map (·.2) = some u:=by rw [lT,e1];exact B8
 obtain ⟨q',hq',rfl⟩:=Option.map_eq_some_iff.mp this
 exact subscriptTail_builtinR (x:=q'.2) dd.typeIs PySem.F.slot_dict_getitem.lookup
  (wpAny_getItem_heap (Q:=λr s'=>r = q'.2 /\ EP X pins σ Q r s') (tupleKind_room_in1 hu) (rW I hb) dd hq' ⟨rfl,w,H,I.tok _,ru,q⟩) hs
noncomputable def xc (_:Scope) (_:List Str) (e:Expr):Option (List Expr):=match nB e with
 | some z=>some [z.1,z.2]
 | none=>none
theorem K5 {Φ:az} {n:Nat} (hΦ:Φ n = wU) {X:Cx} {sc:Scope} {bl:List Str} {k:Nat} (L:PX X sc bl k) {e:Expr} {args:List Expr} (he:xc sc bl e = some args) {F:Addr -> Prop} {cs:List CE} (hs:qm X F Φ cs args):PE X e (tD X F Φ (.du n cs)) /\ PT X e (gY X F Φ (.du n cs)):=by
 unfold xc at he
 cases h1:nB e with
 | none=>rw [h1] at he;cases he
 | some z =>
  rw [h1] at he
  cases he
  obtain ⟨pos,rfl⟩:=ki h1
  obtain ⟨⟨c1,c2,rfl,p1,p2⟩,_⟩:=lE hs
  have this:PE X (.Subscript z.1 z.2 pos) (tD X F Φ (.du n [c1,c2])):=by
   refine PE.imp (GS (EW (B7 L.room)) p1 p2 hs.2.2.2.2.2.1) λσ H Q hq=>?_
   obtain ⟨R,τ,ρ,d,Si,ev,hq⟩:=hq
   obtain ⟨xs,c_,ev⟩:=ah ev
   rw [hΦ] at ev
   obtain ⟨f,cs,vs,c,rfl,hg,hf⟩:=FI ev
   obtain ⟨x,ex,c_⟩:=ah c_
   obtain ⟨ys,wN,c_⟩:=ah c_
   obtain ⟨y,ey,Yc⟩:=ah wN
   cases Yc
   cases c_
   refine tD.intro Si ex λv H1 e1 r1=>tD.intro (Si.go e1) ey λu H2 e2 r2=>?_
   obtain ⟨τ1,f1,q1⟩:=r1
   obtain ⟨τ2,f2,q2⟩:=r2
   cases q1 with
   | cg hn hk hr=>cases q2 with
    | tup ht Oa =>
     cases Oa.ofInts
     rcases nV hr c with ⟨_,hz⟩ | ⟨w,d',k',g1,g2,g3,_⟩
     ·rw [hg] at hz;cases hz
     ·rw [hg] at g2
      cases g2
      refine ⟨_,_,_,_,_,_,c,w,rfl,rfl,e2 _ _ hn.dat,hk.imp λ_ _ h=>aC.same e2 h,ht,g1,hq w H2 (e1.trans e2) ⟨λ_=>none,λ_ _ h=>by simp at h,?_⟩⟩
      exact (kA (N':=nd X.K R (jV (gP X F) τ (iJ (.du n [c1,c2]))) (λ_=>none) H1) (k':=[]) g3 hf).imp (λ_ _ h=>aC.same e2 h) λ_ _ _ _ h=>nd.same e2 h
  exact ⟨this,cP this λ_=>rfl⟩
end DI
end
section
namespace DI
open PySem PySem.Spec PyProof.Rows L2
noncomputable def oY (xs:List D):O D:=match three xs with
 | some z=>match gK z.1 with
  | some d=>match keyOf z.2.1 with
   | some c=>if aw anyF d.2 = false /\ aH anyF z.2.2 = false then ok ((cf d.1 d.2 c).getD z.2.2) else none
   | none=>none
  | none=>none
 | none=>none
theorem CD {xs:List D} {r:D} (h:oY xs = ok r):∃ f cs vs c x,xs = [.cg f cs vs,.tup (c.map D.int),x] /\ aw anyF vs = false /\ aH anyF x = false /\ r = (cf cs vs c).getD x:=by
 unfold oY at h
 cases h1:three xs with
 | none=>rw [h1] at h;cases h
 | some z =>
  rw [h1] at h
  have h:(match gK z.1 with | some d=>(match keyOf z.2.1 with | some c=>if aw anyF d.2 = false /\ aH anyF z.2.2 = false then ok ((cf d.1 d.2 c).getD z.2.2) else none | none=>none) | none=>none) = ok r:=h
  cases h2:gK z.1 with
  | none=>rw [h2] at h;cases h
  | some d =>
   rw [h2] at h
   have h:(match keyOf z.2.1 with | some c=>if aw anyF d.2 = false /\ aH anyF z.2.2 = false then ok ((cf d.1 d.2 c).getD z.2.2) else none | none=>none) = ok r:=h
   cases h3:keyOf z.2.1 with
   | none=>rw [h3] at h;cases h
   | some c =>
    rw [h3] at h
    obtain ⟨⟨hf,hx⟩,rfl⟩:=qK (show (if aw anyF d.2 = false /\ aH anyF z.2.2 = false then ok ((cf d.1 d.2 c).getD z.2.2) else none) = ok r from h)
    obtain ⟨f,e1⟩:=kN h2
    exact ⟨f,d.1,d.2,c,z.2.2,by rw [tJ h1,e1,oj h3],hf,hx,rfl⟩
noncomputable def m9 (_:Scope) (_:List Str) (e:Expr):Option (List Expr):=match xp ("get" : Str) (.Expr e ⟨0,0,0,0⟩) with
 | some z=>match two z.2 with
  | some y=>if isNm z.1 = true then some [z.1,y.1,y.2] else none
  | none=>none
 | none=>none
theorem xf {sc:Scope} {bl:List Str} {e:Expr} {args:List Expr} (h:m9 sc bl e = some args):∃ x p p1 p2 a b,e = .Call (.Attribute (.Name x p) ("get" : Str) p1) [a,b] [] p2 /\ args = [.Name x p,a,b] /\ (p1.endLine == p2.line) = true:=by
 unfold m9 at h
 cases h1:xp ("get" : Str) (.Expr e ⟨0,0,0,0⟩) with
 | none=>rw [h1] at h;cases h
 | some z =>
  obtain ⟨o,as⟩:=z
  rw [h1] at h
  have h2:(match two as with | some y=>if isNm o = true then some [o,y.1,y.2] else none | none=>none) = some args:=h
  clear h
  cases h3:two as with
  | none=>rw [h3] at h2;cases h2
  | some y =>
   rw [h3] at h2
   have h4:(if isNm o = true then some [o,y.1,y.2] else none) = some args:=h2
   clear h2
   by_cases hn:isNm o = true
   ·rw [if_pos hn] at h4
    cases h4
    obtain ⟨p1,p2,pos,e1,hl⟩:=AQ h1
    cases e1
    cases o <;> first | (cases hn;done) | skip
    rw [jL h3]
    exact ⟨_,_,_,_,_,_,rfl,rfl,hl⟩
   ·rw [if_neg hn] at h4;cases h4
theorem zz {X:Cx} {x:Str} {p p1 p2:Pos} {a b:Expr} {td:TE} {ta:TA} (hu:X.A.units + 1 < cLine) (ho:PE X (.Name x p) td) (ha:PA X [a,b] ta) (s1:∀ es,starEach (a :: es) X.env = (false,eval a X.env) :: starEach es X.env) (s2:∀ es,starEach (b :: es) X.env = (false,eval b X.env) :: starEach es X.env) (hl:(p1.endLine == p2.line) = true) :
  PE X (.Call (.Attribute (.Name x p) ("get" : Str) p1) [a,b] [] p2) (λσ H Q=>td σ H λv H1=>∃ q cs as xs ep,v = .ref q /\ H1 q = some (.ext (DO q cs as xs ep)) /\ ta σ H1 λys H2=>∃ k c z,ys = [.ref k,z] /\ H2 q = some (.ext (DO q cs as xs ep)) /\ eU (aC X.K H2) as cs /\ aC X.K H2 k (c.map V.int) /\ Q ((cf cs xs c).getD z) H2):=by
 intro pins s σ H Q I h
 refine wpAny_Call_method rfl (by rw [s1,s2];rfl) hl PySem.F.plainAttrs_dict PySem.F.slot_dict_get PySem.F.type_dict_get (dh (ho pins s σ H _ I h) λu s1' ⟨v,H1,I1,rx,q,cs,as,xs,ep,ex,hd,q1⟩=>?_)
 subst ex
 obtain rfl:u = Value.ref q:=rx
 obtain ⟨t1,t2⟩:=dict_cls I1 hd
 refine ⟨t1,t2,?_⟩
 have hA:=ha p2 pins s1' σ H1 _ I1 q1
 rw [s1] at hA ⊢
 refine Calls.callWith_builtin (by show (false || (backTo p2 (starEach [b] X.env)).any (·.1)) = false;rw [s2];rfl) (Calls.evalArgs_plain ?_)
 refine dh hA λus s3 ⟨ys,H2,I2,r2,k,c,z,ey,hd2,hk,hb,q2⟩=>?_
 subst ey
 obtain ⟨w1,w2,rfl,rw1,rw2⟩:=vals2 r2
 cases rw1
 exact FK hu I2 hd2 hk hb rw2 λw' s4 I4 mT=>⟨_,H2,I4,mT,q2⟩
theorem FJ {Φ:az} {n:Nat} (hΦ:Φ n = oY) {X:Cx} {sc:Scope} {bl:List Str} {k:Nat} (L:PX X sc bl k) {e:Expr} {args:List Expr} (he:m9 sc bl e = some args) {F:Addr -> Prop} {cs:List CE} (hs:qm X F Φ cs args):PE X e (tD X F Φ (.du n cs)) /\ PT X e (gY X F Φ (.du n cs)):=by
 obtain ⟨x,p,p1,p2,a,b,rfl,rfl,hl⟩:=xf he
 cases cs with
 | nil=>exact hs.elim
 | cons c0 cs =>
  obtain ⟨h0,_,_,QY⟩:=hs
  obtain ⟨⟨c1,c2,rfl,_,_⟩,pa,s1,s2⟩:=lE QY
  have this:PE X (.Call (.Attribute (.Name x p) ("get" : Str) p1) [a,b] [] p2) (tD X F Φ (.du n [c0,c1,c2])):=by
   refine PE.imp (zz (B7 L.room) h0 pa s1 s2 hl) λσ H Q hq=>?_
   obtain ⟨R,τ,ρ,d,Si,ev,hq⟩:=hq
   obtain ⟨xs,c_,ev⟩:=ah ev
   rw [hΦ] at ev
   obtain ⟨f,cs,vs,c,y,rfl,hf,hy,rfl⟩:=CD ev
   obtain ⟨x0,ex,c_⟩:=ah c_
   obtain ⟨ys,wN,c_⟩:=ah c_
   cases c_
   refine tD.intro Si ex λv H1 e1 r1=>?_
   obtain ⟨τ1,f1,q1⟩:=r1
   cases q1 with
   | cg hn hk hr =>
    refine ⟨_,_,_,_,_,rfl,hn.dat,R,τ,ρ,_,Si.go e1,wN,λus H2 e2 r2=>?_⟩
    obtain ⟨τ2,f2,q2⟩:=r2
    obtain ⟨u1,u2,rfl,S5,S3⟩:=q2.two
    cases S5 with
    | tup ht Oa =>
     cases Oa.ofInts
     refine ⟨_,c,u2,rfl,e2 _ _ hn.dat,hk.imp λ_ _ h=>aC.same e2 h,ht,?_⟩
     refine hq _ H2 (e1.trans e2) ⟨λ_=>none,λ_ _ h=>by simp at h,?_⟩
     rcases nV hr c with ⟨g1,g2⟩ | ⟨w,d',k',g1,g2,g3,g4⟩
     ·rw [g1,g2]
      exact kA (T:=aC X.K H2) S3 hy
     ·rw [g1,g2]
      exact (kA (N':=nd X.K R (jV (gP X F) τ (iJ (.du n [c0,c1,c2]))) (λ_=>none) H1) (k':=[]) g3 (qN hf _ g4)).imp (λ_ _ h=>aC.same e2 h) λ_ _ _ _ h=>nd.same e2 h
  exact ⟨this,cP this λ_=>rfl⟩
noncomputable def oX (xs:List D):O D:=match three xs with
 | some z=>match z.1 with
  | .cg f cs vs=>match keyOf z.2.2 with
   | some c=>if eC f = true /\ aH anyF z.2.1 = false /\ cs.length < eM then ok (.cg .ow (cS cs c) (bB cs vs c z.2.1)) else none
   | none=>none
  | _=>none
 | none=>none
theorem uZ {d:D} {xs:List D} {r:D} (h:oX (d :: xs) = ok r):∃ cs vs c x,d = .cg .ow cs vs /\ xs = [x,.tup (c.map D.int)] /\ aH anyF x = false /\ cs.length < eM /\ r = .cg .ow (cS cs c) (bB cs vs c x):=by
 unfold oX at h
 cases h1:three (d :: xs) with
 | none=>rw [h1] at h;cases h
 | some z =>
  rw [h1] at h
  have e0:=tJ h1
  obtain ⟨d',x,y⟩:=z
  obtain ⟨rfl,rfl⟩:d = d' /\ xs = [x,y]:=List.cons.inj e0
  cases d <;> first | (cases h;done) | skip
  rename_i f cs vs
  have h:(match keyOf y with | some c=>if eC f = true /\ aH anyF x = false /\ cs.length < eM then ok (D.cg .ow (cS cs c) (bB cs vs c x)) else none | none=>none) = ok r:=h
  cases h3:keyOf y with
  | none=>rw [h3] at h;cases h
  | some c =>
   rw [h3] at h
   obtain ⟨⟨hf,hx,hl⟩,rfl⟩:=qK (show (if eC f = true /\ aH anyF x = false /\ cs.length < eM then ok (D.cg .ow (cS cs c) (bB cs vs c x)) else none) = ok r from h)
   cases f <;> first | (cases hf;done) | exact ⟨cs,vs,c,x,rfl,by rw [oj h3],hx,hl,rfl⟩
noncomputable def m8 (_:Scope) (_:List Str) (st:Stmt):Option (Expr × List Expr):=match vN st with
 | some z=>match one z.1 with
  | some t=>match nB t with
   | some y=>some (y.1,[z.2,y.2])
   | none=>none
  | none=>none
 | none=>none
theorem xb {sc:Scope} {bl:List Str} {st:Stmt} {o:Expr} {args:List Expr} (h:m8 sc bl st = some (o,args)):∃ v i pos' pos,st = .Assign [.Subscript o i pos'] v pos /\ args = [v,i]:=by
 unfold m8 at h
 cases h1:vN st with
 | none=>rw [h1] at h;cases h
 | some z =>
  obtain ⟨ts,v⟩:=z
  rw [h1] at h
  have h2:(match one ts with | some t=>(match nB t with | some y=>some (y.1,[v,y.2]) | none=>none) | none=>none) = some (o,args):=h
  clear h
  cases h3:one ts with
  | none=>rw [h3] at h2;cases h2
  | some t =>
   rw [h3] at h2
   have h4:(match nB t with | some y=>some (y.1,[v,y.2]) | none=>none) = some (o,args):=h2
   clear h2
   cases h5:nB t with
   | none=>rw [h5] at h4;cases h4
   | some y =>
    rw [h5] at h4
    cases h4
    obtain ⟨pos,rfl⟩:=kj h1
    obtain rfl:=bL h3
    obtain ⟨p,rfl⟩:=ki h5
    exact ⟨_,_,_,_,rfl,rfl⟩
mutual
theorem any_map (g:Fl -> Fl):∀ d:D,aH anyF (aA g d) = aH anyF d
 | .bA=>rfl
 | .bl _=>rfl
 | .int _=>rfl
 | .tup ds=>vx g ds
 | .lst _ ds=>rfl
 | .cg _ _ ds=>rfl
 | .kb _ _ ds=>rfl
theorem vx (g:Fl -> Fl):∀ ds:List D,aw anyF (af g ds) = aw anyF ds
 | []=>rfl
 | d :: ds=>by show (aH _ _ || aw _ _) = (aH _ d || aw _ ds);rw [any_map g d,vx g ds]
end
mutual
theorem xi:∀ d:D,aH anyF d = false -> aH b_ d = false
 | .bA,_=>rfl
 | .bl _,_=>rfl
 | .int _,_=>rfl
 | .tup ds,h=>yZ ds h
 | .lst _ ds,h=>nomatch h
 | .cg _ _ ds,h=>nomatch h
 | .kb _ _ ds,h=>nomatch h
theorem yZ:∀ ds:List D,aw anyF ds = false -> aw b_ ds = false
 | [],_=>rfl
 | d :: ds,h=>by
  have h:=Dg h
  show (aH _ d || aw _ ds) = false
  rw [xi d h.1,yZ ds h.2];rfl
end
theorem any_ints:∀ c:List Int,aw anyF (c.map D.int) = false
 | []=>rfl
 | i :: c=>any_ints c
theorem HR {value o i:Expr} {pos':Pos} {l:Nat} {env:Env}:swapsWith value (some (.Subscript o i pos')) l env = pure false:=by
 unfold swapsWith;cases value <;> rfl
theorem Br {X:Cx} {x:Str} {p0 pos' pos:Pos} {value i:Expr} {tv to ti:TE} (hu:X.A.units + 1 < cLine) (hv:PE X value tv) (ho:PE X (.Name x p0) to) (hi:PE X i ti) :
  PS X (.Assign [.Subscript (.Name x p0) i pos'] value pos) (λD σ H=>tv σ H λv H1=>to σ H1 λo H2=>ti σ H2 λy H3=>∃ q b cs as xs ep c,o = .ref q /\ y = .ref b /\ H3 q = some (.ext (DO q cs as xs ep)) /\ eU (aC X.K H3) as cs /\ aC X.K H3 b (c.map V.int) /\ cs.length < sizeLine /\
   ∀ yD,D.nx σ (upd H3 q (.ext (DO q (cS cs c) (vy cs as c b) (bB cs xs c v) yD)))):=by
 intro pins s σ H D I h
 refine wpAny_Assign_Subscript (dh (hv pins s σ H _ I h) λr s1 ⟨v,H1,I1,rv,q1⟩=>dh (ho pins s1 σ H1 _ I1 q1) λu s2 ⟨o,H2,I2,rx,q2⟩=>dh (hi pins s2 σ H2 _ I2 q2) λiv s3 ⟨y,H3,I3,ry,q,b,cs,as,xs,ep,c,eo,ey,hd,hk,hb,hl,q3⟩=>?_) HR
 subst eo ey
 obtain rfl:u = Value.ref q:=rx
 obtain rfl:iv = Value.ref b:=ry
 exact wX hu I3 hd hk hb rv hl λyD s4 I4=>⟨σ,_,I4,q3 yD⟩
theorem SI.Nl {X:Cx} {F R:Addr -> Prop} {τ:Addr -> Option aJ} {ρ:aB} {σ:St} {H:Hp} {i:Nat} {cs:List (List Int)} {ds:List D} (Si:SI X F R τ ρ σ H) (hi:ρ[i]? = some (some (.cg .ow cs ds))) :
  ∃ p as xs ep,σ[i]? = some (some (.ref p)) /\ H p = some (.ext (DO p cs as xs ep)) /\ τ p = some [i] /\ eU (aC X.K H) as cs /\ ag (aC X.K H) (nd X.K R (λ_=>False) τ H) [i] 0 xs ds:=by
 obtain ⟨v,hv,rp⟩:=Si.rep i _ hi
 cases rp with
 | cg h k r=>exact ⟨_,_,_,_,hv,h.1,h.2,k,r⟩
theorem FG {Φ:az} {n:Nat} (hΦ:Φ n = oX) {X:Cx} {sc:Scope} {bl:List Str} {k:Nat} (L:PX X sc bl k) (hN:X.N.Nodup) (Dk:∀ x,X.fn x = true) {st:Stmt} {x:Str} {pos:Pos} {args:List Expr} (he:m8 sc bl st = some (.Name x pos,args))
  {i:Nat} (hi:X.N[i]? = some x) (hl:L2.Loc X.env.scope x) (pe:PE X (.Name x pos) (A3 i)) {F:Addr -> Prop} {cs:List CE} (hs:qm X F Φ cs args):PS X st (vB X F Φ (.mut n i cs)):=by
 obtain ⟨v,ix,p1,p2,rfl,rfl⟩:=xb he
 obtain ⟨⟨c1,c2,rfl,h1,h2⟩,_⟩:=lE hs
 refine PS.imp (Br (B7 L.room) h1 pe h2) λD σ H hq=>?_
 obtain ⟨R,τ,ρ,r,Si,ev,hq⟩:=hq
 obtain ⟨xs,c_,ev⟩:=ah ev
 obtain ⟨y,ey,c_⟩:=ah c_
 obtain ⟨ys,wN,c_⟩:=ah c_
 cases c_
 obtain ⟨kd,ek,Yc⟩:=ah wN
 cases Yc
 have key:∃ cs vs c,kd = .tup (c.map DI.D.int) /\ ρ[i]? = some (some (.cg .ow cs vs)) /\ aH anyF y = false /\ cs.length < eM /\ r = (.nx,ρ.set i (some (.cg .ow (cS cs c) (bB cs vs c y)))):=by
  cases hz:aw b_ [y,kd] with
  | true =>
   obtain ⟨d,d',h⟩:=Jh ev hz
   rw [hΦ] at h
   obtain ⟨cs,vs,c,x',_,e1,e2,_⟩:=uZ h
   have e3:aA aI y = x' /\ aA aI kd = .tup (c.map DI.D.int):=by
    have:=List.cons.inj e1
    exact ⟨this.1,(List.cons.inj this.2).1⟩
   have a1:aH b_ y = false:=xi y (by rw [<- any_map aI y,e3.1];exact e2)
   have a2:aH b_ kd = false:=xi kd (by rw [<- any_map aI kd,e3.2];exact any_ints c)
   have:aw b_ [y,kd] = false:=by show (aH b_ y || (aH b_ kd || false)) = false;rw [a1,a2];rfl
   rw [this] at hz;cases hz
  | false =>
   obtain ⟨d,d',h,h',rfl⟩:=EJ ev hz
   rw [hΦ] at h'
   obtain ⟨cs,vs,c,x',rfl,e1,e2,e3,rfl⟩:=uZ h'
   cases e1
   exact ⟨cs,vs,c,rfl,h,e2,e3,rfl⟩
 obtain ⟨cs,vs,c,rfl,ho,hf,hc,rfl⟩:=key
 obtain ⟨p,as,zs,ep,hv,hd,ht,hk,rs⟩:=Si.Nl ho
 refine tD.intro Si ey λu H1 e1 ru=>⟨.ref p,hv,tD.intro (Si.go e1) ek λw H2 e2 mT=>?_⟩
 obtain ⟨τ1,f1,q1⟩:=ru
 obtain ⟨τ2,f2,q2⟩:=mT
 cases q2 with
 | @tup _ b _ _ hb Oa =>
  cases Oa.ofInts
  have es:=e1.trans e2
  have vz:=Si.go es
  have hd2:=es _ _ hd
  have pT:eM = 1000000:=rfl
  have hz:sizeLine = 16777216:=sizeLine_eq
  refine ⟨p,b,cs,as,zs,ep,c,rfl,rfl,hd2,hk.imp λ_ _ h=>aC.same es h,hb,by omega,λyD=>?_⟩
  have hn:fO H2 p (.d cs as zs ep):=hd2
  have rk:jd X R τ H2 u y:=nW ((kA (N':=nd X.K R (λ_=>False) τ H1) (k':=[]) q1 hf).imp (λ_ _ h=>aC.same e2 h) λ_ _ _ _ h=>nd.same e2 h) hf
  obtain ⟨p',Rt,Qn,afG,hv',JZ,ht',hk',wa⟩:=vz.Nl ho
  rw [hv] at hv'
  cases hv'
  rw [hd2] at JZ
  obtain ⟨τ3,s_⟩:=vz.M_ (m:=0) (n':=.d (cS cs c) (vy cs as c b) (bB cs zs c u) yD) (o:=.ext (DO p (cS cs c) (vy cs as c b) (bB cs zs c u) yD)) (d1:=.cg .ow (cS cs c) (bB cs vs c y)) (xs':=bB cs zs c u) (ds':=bB cs vs c y) ho hv hn ht (rs.imp (λ_ _ h=>aC.same es h) λ_ _ _ _ h=>nd.same es h) rk aD
   (λhN r=>.cg hN (B0 ((hk.imp λ_ _ h=>aC.same es h).imp λ_ _ h=>A8 hn h) (A8 hn hb)) r) (λrs r=>Bj (λk=>kA r hf) rs)
  exact hq σ _ R τ3 s_ (rV vz es (λ_ h=>h) hn ht)
end DI
end
section
namespace DI
open PySem PySem.Spec PyProof.Rows L2
theorem Jc {P:Program} {w:World} {H:Hp} {h:Heap} {a:Addr} {o:HO} (x:cF P w H h a o):∃ u,h.get? a = some u:=by
 cases o with
 | lst xs=>obtain ⟨_,_,_,_,e⟩:=x;exact ⟨_,e⟩
 | tup xs=>obtain ⟨_,_,_,o,e,_⟩:=x;exact ⟨_,e⟩
 | dK oi=>obtain ⟨_,_,_,_,o,_,_,e,_⟩:=x;exact ⟨_,e⟩
 | dT oi=>obtain ⟨_,_,_,_,o,_,_,e,_⟩:=x;exact ⟨_,e⟩
 | set S n=>obtain ⟨o,_,_,_,e,_⟩:=x;exact ⟨_,e⟩
 | ins C dx fs=>obtain ⟨_,_,_,e,_⟩:=x;exact ⟨_,e⟩
 | own y=>exact x
 | xd fs=>obtain ⟨_,⟨o,_,_,e,_⟩,_⟩:=x;exact ⟨_,e⟩
 | lC lo hi=>obtain ⟨_,_,_,e⟩:=x;exact ⟨_,e⟩
 | i6 o u=>exact ⟨_,x.1⟩
 | Gp ps=>exact ⟨_,x⟩
 | met f y=>exact ⟨_,x⟩
 | ext φ=>exact x.2.1
theorem Inv.NP {X:Cx} {pins:List (Addr × Obj)} {σ:St} {H:Hp} {s:Shared} {h':Heap} {t':Nat} {a:Addr} {o:HO} (I:Inv X pins σ H s) (k:∀ b u,s.heap.get? b = some u -> h'.get? b = some u) (ha:s.heap.get? a = none) (new:cF X.prog X.w (upd H a o) h' a o) :
  H a = none /\ Inv X pins σ (upd H a o) { s with heap:=h',toks:=t' }:=by
 have hn:H a = none:=by
  cases q:H a with
  | none=>rfl
  | some u =>
   obtain ⟨z,hz⟩:=Jc (I.cX a u q)
   rw [ha] at hz;cases hz
 have up:∀ b u,H b = some u -> upd H a o b = some u:=λb u e=>by rw [aE (bZ e hn)];exact e
 refine ⟨hn,I.step (g':=s.gens) (d':=s.drawn) (ch:=[]) (λb hb=>nomatch hb) (λb o _ _ _ e _=>k b o e) (λb o _ _ _ e _=>⟨o.slots,k b o e⟩) (λb u _ e n=>?_)
  (λb o _ e=>⟨o,k b o e⟩) (λ_ _ e=>up _ _ e) (λ_ _ _ e=>up _ _ e) (λb ps e=>⟨#[],by rw [up _ _ e];simp⟩) (λm hm=>?_) (λb u e=>?_) I.bare⟩
 ·rw [aE λz=>by rw [z,ha] at e;cases e];exact n
 ·obtain ⟨o,es,ep,ho,r⟩:=hm
  exact ⟨o,es,ep,k _ o ho,r⟩
 ·by_cases z:b = a
  ·subst z;rw [aD] at e;cases e;exact new
  ·rw [aE z] at e
   exact (I.cX b u e).ko (λc v _ q=>k c v q) (λ_ q=>up _ _ q) λ_ _ q=>up _ _ q
section
variable {X:Cx} {pins:List (Addr × Obj)} {σ:St} {H:Hp} {s:Shared} {d:Addr} {cs:List (List Int)} {as:List Addr} {xs:List V} {ep:Nat}
theorem rG (I:Inv X pins σ H s) (h:H d = some (.ext (DO d cs as xs ep))):∃ es:Array DictEntry,tj s.heap d es ep /\ es.size = as.length /\ es.toList.map (·.key) = as.map Value.ref /\ cs.Nodup /\ as.length = cs.length /\ (d == sysModules) = false:=by
 obtain ⟨⟨zs,o,es,e1,e2,e3,ho,hx,hd,he,hn,hl,hs⟩,_⟩:=(show cF X.prog X.w H s.heap d (.ext (DO d cs as xs ep)) from I.cX d _ h)
 refine ⟨es,⟨o,ho,hx,hd⟩,?_,?_,hn,?_,hs⟩
 ·rw [<- Array.length_toList,he,<- e2,List.length_map,List.length_map]
 ·rw [he,<- e2,List.map_map,List.map_map];rfl
 ·rw [<- e1,<- e2,List.length_map,List.length_map]
noncomputable def Itd (d:Addr) (cs:List (List Int)) (as:List Addr) (xs:List V) (ep:Nat):It :=
 ⟨λi H=>H d = some (.ext (DO d cs as xs ep)) /\ i < as.length,λi H v H'=>H' = H /\ ∃ a,as[i]? = some a /\ v = .ref a,λi H=>H d = some (.ext (DO d cs as xs ep)) /\ as.length <= i⟩
theorem zi {P:Program} {w:World} {K:PySem.W.Frag} {tg:Expr} (d it:Addr) (cs:List (List Int)) (as:List Addr) (xs:List V) (ep:Nat):Turn P w K tg (Itd d cs as xs ep) [it] it (λi h=>h.IsKeyIter it d i as.length ep) where
 mem:=by simp
 obj:=λi h st b hb=>by
  have e:b = it:=by simpa using hb
  subst e
  obtain ⟨o,e,c,d⟩:=st
  exact ⟨o,e,λv z=>by rw [d] at z;cases z⟩
 keep:=λi h h' st k=>st.at λo e=>k it (by simp) o e
 item:=by
  intro X hP hw hK hc i pins s σ H E I hf st hg
  subst hP hw hK
  obtain ⟨hd,hi⟩:=hg
  obtain ⟨es,hr,hz,mq,_⟩:=rG I hd
  obtain ⟨f0,f1,f2,f3,f4,f5⟩:=hf it (by simp)
  have mX:i < es.size:=by rw [hz];exact hi
  have WW:es[i].key = .ref as[i]:=by
   have:=congrArg (λl=>l[i]?) mq
   simp only [List.getElem?_map,Array.getElem?_toList] at this
   rw [Array.getElem?_eq_getElem mX,List.getElem?_eq_getElem hi] at this
   exact Option.some.inj this
  rw [<- hz] at st
  refine yG st hr mX λh' mE sb=>?_
  have I1:Inv X pins σ H { s with heap:=h' }:=I.turned (t':=s.toks) (λb o hb e=>(sb.2 b hb).trans e) f0 f1 f3 f4 f5
  obtain ⟨o,e,c,d'⟩:=id mE
  refine ⟨_,rfl,yr (s:={ s with heap:=h' }) e c d' (by decide) ⟨.ref as[i],H,I1,by rw [WW];rfl,⟨rfl,as[i],List.getElem?_eq_getElem hi,rfl⟩,?_,λb hb=>(hf b hb).1⟩⟩
  rw [hz] at mE
  exact mE
 done:=by
  intro X hP hw hK hc i pins s σ H E I hf st hg
  subst hP hw hK
  obtain ⟨hd,hi⟩:=hg
  obtain ⟨es,hr,hz,mq,_⟩:=rG I hd
  obtain ⟨f0,f1,f2,f3,f4,f5⟩:=hf it (by simp)
  rw [<- hz] at st
  exact CB (I.ok.hd hc) st hr (by rw [hz];exact hi) λh' eb=>⟨rfl,I.turned (t':=s.toks) (λb o hb e=>eb b o hb e) f0 f1 f3 f4 f5⟩
 self:=λ_ _ _ _ _ st h=>wpAny_pyIter_keyiter st h
end
end DI
end
section
namespace DI
open PySem PySem.Spec PyProof.Rows L2
noncomputable def jT (xs:List D):O D:=match one xs with
 | some d=>match gK d with
  | some z=>ok (.lst .ow (z.1.map gk))
  | none=>none
 | none=>none
theorem Ag {xs:List D} {r:D} (h:jT xs = ok r):∃ f cs vs,xs = [.cg f cs vs] /\ r = .lst .ow (cs.map gk):=by
 unfold jT at h
 cases h1:one xs with
 | none=>rw [h1] at h;cases h
 | some d =>
  rw [h1] at h
  have h:(match gK d with | some z=>ok (D.lst .ow (z.1.map gk)) | none=>none) = ok r:=h
  cases h2:gK d with
  | none=>rw [h2] at h;cases h
  | some z =>
   rw [h2] at h
   cases h
   obtain ⟨f,e⟩:=kN h2
   exact ⟨f,z.1,z.2,by rw [bL h1,e],rfl⟩
theorem fW (g:Fl -> Fl):∀ cs:List (List Int),af g (cs.map gk) = cs.map gk
 | []=>rfl
 | c :: cs=>by
  show aA g (gk c) :: af g (cs.map gk) = _
  rw [fW g cs]
  have:∀ c:List Int,af g (c.map D.int) = c.map D.int:=λc=>by
   induction c with
   | nil=>rfl
   | cons i c ih=>show D.int i :: af g (c.map D.int) = _;rw [ih];rfl
  show D.tup (af g (c.map D.int)) :: _ = _
  rw [this];rfl
theorem xJ {T:jJ} {N:iQ} {k:aJ} {a:Addr} {c:List Int} (h:T a (c.map V.int)):Rep T N k (.ref a) (gk c):=.tup h (ag.ints c)
noncomputable def CM (_:Scope) (_:List Str) (e:Expr):Option (List Expr):=if isNm e = true then some [e] else none
theorem Cz {Φ:az} {n:Nat} (hΦ:Φ n = jT) {X:Cx} {sc:Scope} {bl:List Str} {k:Nat} (L:PX X sc bl k) {e:Expr} {args:List Expr} (he:CM sc bl e = some args) {F:Addr -> Prop} {cs:List CE} {tg:Expr} (ht:(decide (1100 <= n) || gp tg) = true) (hs:qm X F Φ cs args)
  {pins:List (Addr × Obj)} {s:Shared} {σ:St} {H:Hp} {R:Addr -> Prop} {τ:Addr -> Option aJ} {ρ:aB} {xs:List D} {d:D} {items:List D} (I:Inv X pins σ H s) (Si:SI X F R τ ρ σ H) (c_:cD Φ cs ρ = ok xs) (ed:Φ n xs = ok d) (ei:ku d = ok items) (Rr:It -> Hp -> Prop)
  (hR:∀ J H2 vs,aj H H2 -> bT X.K (gP X F) R τ (dy cs) H H2 vs xs -> Hs X.K J H2 vs xs items -> Rr J H2) :
  wpAny (model X.prog X.w) X.A (eval e X.env) (λv s1=>wpAny (model X.prog X.w) X.A (pyIter v) (AE X pins σ tg Rr) X.xe s1) X.xe s:=by
 unfold CM at he
 by_cases hn:isNm e = true
 ·rw [if_pos hn] at he
  cases he
  cases cs with
  | nil=>exact hs.elim
  | cons c cs=>cases cs with
   | cons _ _=>exact hs.2.2.2.elim
   | nil =>
    rw [hΦ] at ed
    obtain ⟨f,ks,vs,rfl,rfl⟩:=Ag ed
    cases ei
    obtain ⟨x,ex,c_⟩:=ah c_
    cases c_
    refine dh (hs.1 pins s σ H _ I (tD.intro Si ex (Q:=λv H1=>aj H H1 /\ bG X.K (gP X F) R τ (iJ c) H H1 v (.cg f ks vs)) λv H1 e1 r1=>⟨e1,r1⟩)) λu s1 ⟨v,H1,I1,rv,e1,r1⟩=>?_
    obtain ⟨τt,fr,q1⟩:=id r1
    cases q1 with
    | @cg _ p _ as ys ep _ _ Dj hk hr =>
     cases rv
     have hd:=Dj.dat
     obtain ⟨es,JO,hz,mq,Oi,hlen,Fc⟩:=rG I1 hd
     refine yH Fc JO ?_
     have hb:s1.heap.objs.size <= s1.heap.objs.size:=Nat.le_refl _
     refine ⟨s1.heap.objs.size,[s1.heap.objs.size],_,Itd p ks as ys ep,H1,rfl,I1.kept (t':=s1.toks) (λb o e=>Heap.get?_push_of_some _ e),zi p s1.heap.objs.size ks as ys ep,⟨_,Heap.get?_push_size _ rfl,rfl,by rw [hz];rfl⟩,λb hb=>?_,hR _ H1 [.ref p] e1 (bT.cons e1 (aj.refl _) (r1.mono λj hj=>List.mem_append_left _ hj) ⟨λ_=>none,λ_ _ h=>by simp at h,.nil⟩) ?_⟩
     ·have:b = s1.heap.objs.size:=by simpa using hb
      subst this
      exact I1.Aa (Nat.le_refl _) (I1.cX.fresh (Nat.le_refl _))
     ·rw [fW]
      have ko:∀ H',q_ X.K H1 [.ref p] [.cg f ks vs] H' -> H' p = some (.ext (DO p ks as ys ep)):=λH' st=>by
       obtain ⟨R0,S8,hl⟩:=st.n0
       cases S8 with
       | cons h0 _=>cases h0 with
        | cg h1 _ _ =>
         cases f with
         | sc=>exact h1.elim
         | ow=>exact hl p _ h1.2 hd
         | fz=>exact hl p _ h1.2 hd
         | al=>exact hl p _ h1.2 hd
      refine ⟨λi H' R' st rs hi=>⟨ko H' st,by rw [List.length_map] at hi;omega⟩,λi H' R' x mC st rs hi hy=>?_,λi H' R' st rs hi=>⟨ko H' st,by rw [List.length_map] at hi;omega⟩⟩
      obtain ⟨rfl,a,ha,rfl⟩:=hy
      rw [List.length_map] at hi
      refine ⟨aj.refl _,gk ks[i],by rw [List.getElem?_map,List.getElem?_eq_getElem hi];rfl,xJ (st.tp _ _ (hk.tup i a _ ha (List.getElem?_eq_getElem hi)))⟩
 ·rw [if_neg hn] at he;cases he
theorem xg {X:Cx} (hc:X.calm = true) (hu:X.A.units + 2 < cLine):gi X (.builtin "sorted") (λxs H Q=>∃ (d:Addr) (cs:List (List Int)) (as:List Addr) (ys:List V) (ep:Nat),xs = [.ref d] /\ H d = some (.ext (DO d cs as ys ep)) /\ eU (aC X.K H) as cs /\ cs.length < 64 /\
  ∀ (l:Addr) (bs:List Addr),H l = none -> eU (aC X.K H) bs (bJ cs) -> Q (.ref l) (upd H l (.lst (bs.map V.ref)))):=by
 intro pins s σ H xs us Q I r h
 obtain ⟨d,cs,as,ys,ep,rfl,hd,hk,tq,q⟩:=h
 obtain ⟨u,rfl,ru⟩:=r.one
 cases ru
 obtain ⟨es,JO,hz,mq,Oi,hlen,Fc⟩:=rG I hd
 have ht:ql s.heap (es.toList.map (·.key)) cs:=by
  rw [mq]
  refine ⟨by rw [List.length_map,hlen],λi ns e=>?_⟩
  have hi:i < as.length:=by rw [hlen];exact (List.getElem?_eq_some_iff.mp e).1
  obtain ⟨EU,rj,ij,_⟩:=I.tuple (hk.tup i as[i] ns (List.getElem?_eq_getElem hi) e)
  exact ⟨as[i],EU,by rw [List.getElem?_map,List.getElem?_eq_getElem hi];rfl,ij,d9 rj⟩
 refine tQ (I.ok.hd hc) hu Fc JO (by rw [hz,hlen];exact tq) Oi ht λS h' tk e p hS LR hp hs hl=>?_
 rw [mq] at hl
 have WH:(p.toList.map λi=>(as.map Value.ref).getD i Value.none) = (p.toList.map λi=>as.getD i 0).map Value.ref:=by
  rw [List.map_map]
  refine List.map_congr_left λi hi=>?_
  have mX:i < as.length:=by
   have:=List.mem_range.mp (hp.pm.mem_iff.mp hi)
   omega
  simp [mX]
 rw [WH] at hl
 have W6:eU (aC X.K H) (p.toList.map λi=>as.getD i 0) (bJ cs):=by
  rw [<- hs]
  refine ⟨by simp,λj a c h1 h2=>?_⟩
  rw [List.getElem?_map] at h1 h2
  cases hj:p.toList[j]? with
  | none=>rw [hj] at h1;cases h1
  | some i =>
   rw [hj] at h1 h2
   have mX:i < as.length:=by
    have:=List.mem_range.mp (hp.pm.mem_iff.mp (List.mem_of_getElem? hj))
    omega
   cases h1
   cases h2
   exact hk.tup i _ _ (by simp [mX]) (by simp [show i < cs.length by omega])
 have N5:∀ l:List Addr,Vals (l.map V.ref) (l.map Value.ref):=λl=>by
  induction l with
  | nil=>exact .nil
  | cons a l ih=>exact .cons rfl ih
 have hsz:sizeLine = 16777216:=sizeLine_eq
 obtain ⟨hn,I'⟩:=Inv.NP (t':=tk) (o:=.lst ((p.toList.map λi=>as.getD i 0).map V.ref)) I LR hS ⟨by rw [List.length_map,List.length_map,Array.length_toList,hp.sz];omega,_,e,N5 _,hl⟩
 exact ⟨.ref S,_,I',rfl,q S _ hn W6⟩
noncomputable def jS (xs:List D):O D:=match one xs with
 | some d=>match gK d with
  | some z=>if z.1.length < 64 then ok (.lst .ow ((bJ z.1).map gk)) else none
  | none=>none
 | none=>none
theorem Af {xs:List D} {r:D} (h:jS xs = ok r):∃ f cs vs,xs = [.cg f cs vs] /\ cs.length < 64 /\ r = .lst .ow ((bJ cs).map gk):=by
 unfold jS at h
 cases h1:one xs with
 | none=>rw [h1] at h;cases h
 | some d =>
  rw [h1] at h
  have h:(match gK d with | some z=>if z.1.length < 64 then ok (D.lst .ow ((bJ z.1).map gk)) else none | none=>none) = ok r:=h
  cases h2:gK d with
  | none=>rw [h2] at h;cases h
  | some z =>
   rw [h2] at h
   obtain ⟨hl,rfl⟩:=qK (show (if z.1.length < 64 then ok (D.lst .ow ((bJ z.1).map gk)) else none) = ok r from h)
   obtain ⟨f,e⟩:=kN h2
   exact ⟨f,z.1,z.2,by rw [bL h1,e],hl,rfl⟩
theorem qz {T:jJ} {N:iQ}:∀ {bs:List Addr} {cs:List (List Int)} {k:aJ} {n:Nat},eU T bs cs -> ag T N k n (bs.map V.ref) (cs.map gk)
 | [],[],_,_,_=>.nil
 | [],_ :: _,_,_,h=>by have:=h.len;simp at this
 | _ :: _,[],_,_,h=>by have:=h.len;simp at this
 | b :: bs,c :: cs,_,_,h=>.cons (xJ (h.tup 0 b c rfl rfl)) (qz ⟨by have:=h.len;simpa using this,λj a c' h1 h2=>h.tup (j + 1) a c' h1 h2⟩)
theorem Cy {Φ:az} {n:Nat} (hΦ:Φ n = jS) {X:Cx} {sc:Scope} {bl:List Str} {k:Nat} (L:PX X sc bl k) {e:Expr} {args:List Expr} (he:i_ ("sorted" : Str) sc bl e = some args) {F:Addr -> Prop} {cs:List CE} (hs:qm X F Φ cs args):PE X e (tD X F Φ (.du n cs)) /\ PT X e (gY X F Φ (.du n cs)):=by
 obtain ⟨p,pos,a,rfl,rfl,h1,h2⟩:=qU he
 cases cs with
 | nil=>exact hs.elim
 | cons c cs=>cases cs with
  | cons _ _=>exact hs.2.2.2.elim
  | nil =>
   have pa:PA X [a] (tM X F Φ [c]):=PA.imp (dB hs.1 (PA.imp gm λ_ _ _ h=>km h) (hs.2.1 _)) λ_ _ _ h=>gG h
   have hu:X.A.units + 2 < cLine:=Nat.lt_of_le_of_lt (Nat.add_le_add_left (by decide:2 <= 64) _) L.room.units
   have this:PE X (.Call (.Name ("sorted" : Str) p) [a] [] pos) (tD X F Φ (.du n [c])):=by
    refine PE.imp (fD (xg L.calm hu) (L.gl h1) (L.bl _ h2) (by decide +kernel) pa (he:=hs.2.1 _)) λσ H Q hq=>?_
    obtain ⟨R,τ,ρ,d,Si,ev,hq⟩:=hq
    obtain ⟨xs,c_,ev⟩:=ah ev
    rw [hΦ] at ev
    obtain ⟨f,ks,vs,rfl,hl,rfl⟩:=Af ev
    refine ⟨R,τ,ρ,_,Si,c_,λus H1 e1 r1=>?_⟩
    obtain ⟨τt,fr,rs⟩:=r1
    obtain ⟨v,rfl,rv⟩:=rs.one
    cases rv with
    | cg hn hk hr =>
     refine ⟨_,ks,_,_,_,rfl,hn.dat,hk,hl,λl bs vF W6=>hq _ _ (e1.trans (aj.upd vF)) (bG.rN (e1.free vF) (e1.trans (aj.upd vF)) aD ?_)⟩
     exact qz (W6.imp λ_ _ h=>aC.same (aj.upd vF) h)
   exact ⟨this,cP this λ_=>rfl⟩
end DI
end
section
namespace DI
open PySem (Str)
section
variable {α β:Type}
@[simp] theorem dU (a:α) (f:α -> O β):bd (ok a) f = f a:=rfl
@[simp] theorem Ro (c:Nat) (f:α -> O β):bd (some (.error c)) f = some (.error c):=rfl
noncomputable def Hr (f:α -> O β) (x:O α):O β:=bd x f
@[simp] theorem ZD (f:α -> O β) (a:α):Hr f (ok a) = f a:=rfl
@[simp] theorem Rv (f:α -> O β) (c:Nat):Hr f (some (.error c)) = some (.error c):=rfl
end
noncomputable def Qd (op:Gj) (x y:O D):O D:=bd x λx=>bd y λy=>dc op x y
@[simp] theorem Rn (op:Gj) (x y:D):Qd op (ok x) (ok y) = dc op x y:=rfl
noncomputable def Pf (op:AG) (x y:O D):O D:=bd x λx=>bd y λy=>eG op x y
@[simp] theorem Rm (op:AG) (x y:D):Pf op (ok x) (ok y) = eG op x y:=rfl
noncomputable def ixO (x y:O D):O D:=bd x λx=>bd y λy=>zF x y
@[simp] theorem Wf (x y:D):ixO (ok x) (ok y) = zF x y:=rfl
noncomputable def Nw (x:O D):O D:=bd (bd x gX) λb=>ok (.bl (!b))
@[simp] theorem QP (b:Bool):Nw (ok (.bl b)) = ok (.bl (!b)):=rfl
@[simp] theorem Mq (b:Bool):gX (.bl b) = ok b:=rfl
noncomputable def tI (x:O D):O Bool:=bd x gX
@[simp] theorem Qr (b:Bool):tI (ok (.bl b)) = ok b:=rfl
@[simp] theorem Mp (c:Nat):tI (some (.error c)) = some (.error c):=rfl
noncomputable def isO (t:Ty) (x:O D):O D:=bd x λx=>ok (.bl (dS t x))
@[simp] theorem Wm (t:Ty) (x:D):isO t (ok x) = ok (.bl (dS t x)):=rfl
noncomputable def CO (m:List D -> O D) (xs:O (List D)):O D:=bd xs λxs=>bd (m (af aI xs)) λr=>ok (aA jB r)
noncomputable def Xy (x:O D):O D:=bd x λr=>ok (aA jB r)
@[simp] theorem Xx (r:D):Xy (ok r) = ok (aA jB r):=rfl
@[simp] theorem Q_ (c:Nat):Xy (some (.error c)) = some (.error c):=rfl
@[simp] theorem P9 (m:List D -> O D) (xs:List D):CO m (ok xs) = Xy (m (af aI xs)):=rfl
@[simp] theorem L4 (m:List D -> O D) (c:Nat):CO m (some (.error c)) = some (.error c):=rfl
noncomputable def yK (x:O D) (xs:O (List D)):O (List D):=bd x λx=>bd xs λxs=>ok (x :: xs)
@[simp] theorem Pe (x:D) (xs:List D):yK (ok x) (ok xs) = ok (x :: xs):=rfl
@[simp] theorem L0 (c:Nat) (xs:O (List D)):yK (some (.error c)) xs = some (.error c):=rfl
@[simp] theorem K9 (x:D) (c:Nat):yK (ok x) (some (.error c)) = some (.error c):=rfl
noncomputable def JC (x:O Bool) (a b:O D):O D:=bd x λk=>if k then a else b
@[simp] theorem Wk (a b:O D):JC (ok true) a b = a:=rfl
@[simp] theorem Wl (a b:O D):JC (ok false) a b = b:=rfl
noncomputable def Ga (x y:O D):O D:=bd (bd x gX) λc=>if c then y else ok (.bl false)
@[simp] theorem ZE (y:O D):Ga (ok (.bl true)) y = y:=rfl
@[simp] theorem ZF (y:O D):Ga (ok (.bl false)) y = ok (.bl false):=rfl
@[simp] theorem ZG (a b:Bool):Ga (ok (.bl a)) (ok (.bl b)) = ok (.bl (a && b)):=by cases a <;> rfl
noncomputable def QM (x y:O D):O D:=bd (bd x gX) λc=>if c then ok (.bl true) else y
@[simp] theorem aaN (y:O D):QM (ok (.bl true)) y = ok (.bl true):=rfl
@[simp] theorem aaO (y:O D):QM (ok (.bl false)) y = y:=rfl
@[simp] theorem aaP (a b:Bool):QM (ok (.bl a)) (ok (.bl b)) = ok (.bl (a || b)):=by cases a <;> rfl
noncomputable def BZ (x:O D):O D:=bd (bd x gX) λc=>ok (.bl c)
@[simp] theorem NO (c:Bool):BZ (ok (.bl c)) = ok (.bl c):=rfl
@[simp] theorem MN (d:D):xD (some (some d)) = ok (aA ba d):=rfl
section
variable (Φ:az) (ρ:aB)
@[simp] theorem abN:aQ Φ .bA ρ = ok .bA:=rfl
@[simp] theorem afO (b:Bool):aQ Φ (.bl b) ρ = ok (.bl b):=rfl
@[simp] theorem Hh (i:Int):aQ Φ (.int i) ρ = ok (.int i):=rfl
@[simp] theorem abU (x:Str) (i:Int):aQ Φ (.glo x i) ρ = ok (.int i):=rfl
@[simp] theorem abT (x:Str) (zs:List Int):aQ Φ (.glt x zs) ρ = ok (.tup (zs.map D.int)):=rfl
@[simp] theorem e_v (i:Nat):aQ Φ (.v i) ρ = xD ρ[i]?:=rfl
@[simp] theorem abW (op:Gj) (a b:CE):aQ Φ (.bin op a b) ρ = Qd op (aQ Φ a ρ) (aQ Φ b ρ):=rfl
@[simp] theorem abV (op:AG) (a b:CE):aQ Φ (.cmp op a b) ρ = Pf op (aQ Φ a ρ) (aQ Φ b ρ):=rfl
@[simp] theorem abP (a:CE):aQ Φ (.neg a) ρ = Hr EG (aQ Φ a ρ):=rfl
@[simp] theorem abM (a:CE):aQ Φ (.not a) ρ = Nw (aQ Φ a ρ):=rfl
@[simp] theorem abS (a:CE) (t:Ty):aQ Φ (.oo a t) ρ = isO t (aQ Φ a ρ):=rfl
@[simp] theorem abR (c a b:CE):aQ Φ (.ite c a b) ρ = JC (tI (aQ Φ c ρ)) (aQ Φ a ρ) (aQ Φ b ρ):=rfl
@[simp] theorem Yn (f:Nat) (es:List CE):aQ Φ (.call f es) ρ = CO (Φ f) (cD Φ es ρ):=rfl
@[simp] theorem afP (f:Bf) (es:List CE):aQ Φ (.bf f es) ρ = Hr (qk f) (cD Φ es ρ):=rfl
@[simp] theorem abJ (f:Nat) (es:List CE):aQ Φ (.du f es) ρ = Hr (Φ f) (cD Φ es ρ):=rfl
@[simp] theorem afN (a b:CE):aQ Φ (.ix a b) ρ = ixO (aQ Φ a ρ) (aQ Φ b ρ):=rfl
@[simp] theorem Yk (a:CE):aQ Φ (.lH a) ρ = Hr x5 (aQ Φ a ρ):=rfl
@[simp] theorem abI (es:List CE):aQ Φ (.tup es) ρ = Hr (λxs=>ok (.tup xs)) (cD Φ es ρ):=rfl
@[simp] theorem abQ (es:List CE):aQ Φ (.lst es) ρ = Hr (λxs=>ok (.lst .ow xs)) (cD Φ es ρ):=rfl
@[simp] theorem abX (es:List CE):aQ Φ (.and es) ρ = qQ Φ es ρ:=rfl
@[simp] theorem afM (es:List CE):aQ Φ (.or es) ρ = Ac Φ es ρ:=rfl
@[simp] theorem Yp (e:CE):qQ Φ [e] ρ = BZ (aQ Φ e ρ):=rfl
@[simp] theorem Yo (e e':CE) (es:List CE):qQ Φ (e :: e' :: es) ρ = Ga (aQ Φ e ρ) (qQ Φ (e' :: es) ρ):=rfl
@[simp] theorem abL (e:CE):Ac Φ [e] ρ = BZ (aQ Φ e ρ):=rfl
@[simp] theorem abK (e e':CE) (es:List CE):Ac Φ (e :: e' :: es) ρ = QM (aQ Φ e ρ) (Ac Φ (e' :: es) ρ):=rfl
@[simp] theorem abO:cD Φ [] ρ = ok []:=rfl
@[simp] theorem Ym (e:CE) (es:List CE):cD Φ (e :: es) ρ = yK (aQ Φ e ρ) (cD Φ es ρ):=rfl
@[simp] theorem e_T (e:CE):vG Φ e ρ = tI (aQ Φ e ρ):=rfl
theorem Ys (e:CE):bd (aQ Φ e ρ) gX = tI (aQ Φ e ρ):=rfl
@[simp] theorem Yr:iK Φ [] ρ = ok true:=rfl
@[simp] theorem Yq (e:CE):iK Φ [e] ρ = tI (aQ Φ e ρ):=by
 rw [iK,Ys]
 cases h:tI (aQ Φ e ρ) with
 | none=>rfl
 | some r=>cases r with
  | error c=>rfl
  | ok b=>cases b <;> simp [iK,bd,ok]
end
noncomputable def so (is:List Nat):Nat -> aB -> aB
 | _,[]=>[]
 | n,d :: ρ=>(if n ∈ is then d.map (aA aI) else d) :: so is (n + 1) ρ
theorem He (is:List Nat):∀ (ρ:aB) (n:Nat),ρ.mapIdx (λi d=>if i + n ∈ is then d.map (aA aI) else d) = so is n ρ
 | [],_=>rfl
 | d :: ρ,n=>by
  rw [List.mapIdx_cons,so,<- He is ρ (n + 1)]
  simp only [Nat.zero_add,Nat.add_assoc,Nat.add_comm 1 n]
theorem Cq (is:List Nat) (ρ:aB):i6 is ρ = so is 0 ρ:=by rw [<- He];rfl
@[simp] theorem OY (is:List Nat) (n:Nat):so is n [] = []:=rfl
@[simp] theorem LX (is:List Nat) (n:Nat) (d:Option D) (ρ:aB):so is n (d :: ρ) = (if n ∈ is then d.map (aA aI) else d) :: so is (n + 1) ρ:=rfl
noncomputable def cT (e:CE) (ρ:aB) (x:O D):O (D × aB):=bd x λd=>ok (keep e d ρ)
@[simp] theorem uC {e:CE} {ρ:aB} {d:D} (h:aH b_ d = false):cT e ρ (ok d) = ok (d,ρ):=by
 show ok (keep e d ρ) = _
 rw [keep,h];rfl
@[simp] theorem NR {e:CE} {ρ:aB} {d:D} (h:aH b_ d = true):cT e ρ (ok d) = ok (aA aI d,so (iJ e) 0 ρ):=by
 show ok (keep e d ρ) = _
 rw [keep,h,<- Cq];rfl
@[simp] theorem LF (e:CE) (ρ:aB) (c:Nat):cT e ρ (some (.error c)) = some (.error c):=rfl
noncomputable def BO (i:Nat) (ρ:aB) (o:Option (Option D)):O (D × aB):=match o with
 | some (some d)=>if aH eC d then ok (d,ρ.set i none) else ok (d,ρ)
 | _=>none
@[simp] theorem NC {i:Nat} {ρ:aB} {d:D} (h:aH eC d = true):BO i ρ (some (some d)) = ok (d,ρ.set i none):=if_pos h
@[simp] theorem ND {i:Nat} {ρ:aB} {d:D} (h:aH eC d = false):BO i ρ (some (some d)) = ok (d,ρ):=if_neg (by rw [h];exact Bool.false_ne_true)
@[simp] theorem k_v (Φ:az) (i:Nat) (ρ:aB):jC Φ (.v i) ρ = BO i ρ ρ[i]?:=rfl
noncomputable def isV:CE -> Bool
 | .v _=>true
 | _=>false
@[simp] theorem aa2 (Φ:az) (ρ:aB) (op:Gj) (a b:CE):jC Φ (.bin op a b) ρ = cT (.bin op a b) ρ (aQ Φ (.bin op a b) ρ):=rfl
@[simp] theorem aa1 (Φ:az) (ρ:aB) (op:AG) (a b:CE):jC Φ (.cmp op a b) ρ = cT (.cmp op a b) ρ (aQ Φ (.cmp op a b) ρ):=rfl
@[simp] theorem VE (Φ:az) (ρ:aB) (f:Nat) (es:List CE):jC Φ (.call f es) ρ = cT (.call f es) ρ (aQ Φ (.call f es) ρ):=rfl
@[simp] theorem aet (Φ:az) (ρ:aB) (f:Bf) (es:List CE):jC Φ (.bf f es) ρ = cT (.bf f es) ρ (aQ Φ (.bf f es) ρ):=rfl
@[simp] theorem aaU (Φ:az) (ρ:aB) (f:Nat) (es:List CE):jC Φ (.du f es) ρ = cT (.du f es) ρ (aQ Φ (.du f es) ρ):=rfl
@[simp] theorem aer (Φ:az) (ρ:aB) (a b:CE):jC Φ (.ix a b) ρ = cT (.ix a b) ρ (aQ Φ (.ix a b) ρ):=rfl
@[simp] theorem aaT (Φ:az) (ρ:aB) (es:List CE):jC Φ (.tup es) ρ = cT (.tup es) ρ (aQ Φ (.tup es) ρ):=rfl
@[simp] theorem aaY (Φ:az) (ρ:aB) (es:List CE):jC Φ (.lst es) ρ = cT (.lst es) ρ (aQ Φ (.lst es) ρ):=rfl
@[simp] theorem G4 (Φ:az) (ρ:aB) (i:Int):jC Φ (.int i) ρ = cT (.int i) ρ (aQ Φ (.int i) ρ):=rfl
@[simp] theorem aes (Φ:az) (ρ:aB) (i:Bool):jC Φ (.bl i) ρ = cT (.bl i) ρ (aQ Φ (.bl i) ρ):=rfl
@[simp] theorem aaW (Φ:az) (ρ:aB)  : jC Φ (.bA) ρ = cT (.bA) ρ (aQ Φ (.bA) ρ):=rfl
@[simp] theorem aaX (Φ:az) (ρ:aB) (a:CE):jC Φ (.neg a) ρ = cT (.neg a) ρ (aQ Φ (.neg a) ρ):=rfl
@[simp] theorem aaV (Φ:az) (ρ:aB) (a:CE):jC Φ (.not a) ρ = cT (.not a) ρ (aQ Φ (.not a) ρ):=rfl
@[simp] theorem aa3 (Φ:az) (ρ:aB) (es:List CE):jC Φ (.and es) ρ = cT (.and es) ρ (aQ Φ (.and es) ρ):=rfl
@[simp] theorem aeq (Φ:az) (ρ:aB) (es:List CE):jC Φ (.or es) ρ = cT (.or es) ρ (aQ Φ (.or es) ρ):=rfl
@[simp] theorem aaZ (Φ:az) (ρ:aB) (a b c:CE):jC Φ (.ite a b c) ρ = cT (.ite a b c) ρ (aQ Φ (.ite a b c) ρ):=rfl
@[simp] theorem VD (Φ:az) (ρ:aB) (n:Nat) (t:Tg) (caps:List Nat) (ik:IK) (es a_:List CE) (elt:CE):jC Φ (.comp n t caps ik es a_ elt) ρ = cT (.comp n t caps ik es a_ elt) ρ (aQ Φ (.comp n t caps ik es a_ elt) ρ):=rfl
@[simp] theorem aa0 (Φ:az) (ρ:aB) (a:CE) (t:Ty):jC Φ (.oo a t) ρ = cT (.oo a t) ρ (aQ Φ (.oo a t) ρ):=rfl
@[simp] theorem VB (Φ:az) (ρ:aB) (a:CE):jC Φ (.lH a) ρ = cT (.lH a) ρ (aQ Φ (.lH a) ρ):=rfl
theorem VC (Φ:az) (e:CE) (ρ:aB) (h:isV e = false):jC Φ e ρ = cT e ρ (aQ Φ e ρ):=by cases e <;> first | rfl | cases h
@[simp] theorem Lv (ρ:aB):iI [] [] ρ = ok ρ:=rfl
@[simp] theorem Ia {i:Nat} {is:List Nat} {d:D} {ds:List D} {ρ:aB} (h:i < ρ.length):iI (i :: is) (d :: ds) ρ = iI is ds (ρ.set i (some d)):=if_pos h
@[simp] theorem QB {i:Nat} {d:D} {ρ:aB} (h:i < ρ.length):cC (.nm i) d ρ = ok (ρ.set i (some d)):=if_pos h
@[simp] theorem QA {is:List Nat} {ds:List D} {ρ:aB} (h:aw eC ds = false):cC (.tp is) (.tup ds) ρ = iI is ds ρ:=if_neg (by rw [h];exact Bool.false_ne_true)
noncomputable def Lh (i:Nat) (r:O (D × aB)):O (Fo × aB):=bd r λr=>bd (cC (.nm i) r.1 r.2) λρ'=>ok (.nx,ρ')
@[simp] theorem yY {i:Nat} {d:D} {ρ:aB} (h:i < ρ.length):Lh i (ok (d,ρ)) = ok (.nx,ρ.set i (some d)):=by
 show bd (cC (.nm i) d ρ) _ = _
 rw [cC,if_pos h];rfl
@[simp] theorem Qh (i:Nat) (c:Nat):Lh i (some (.error c)) = some (.error c):=rfl
noncomputable def Qg (is:List Nat) (r:O (D × aB)):O (Fo × aB):=bd r λr=>bd (cC (.tp is) r.1 r.2) λρ'=>ok (.nx,ρ')
@[simp] theorem Rq {is:List Nat} {ds:List D} {ρ:aB} (h:aw eC ds = false):Qg is (ok (.tup ds,ρ)) = bd (iI is ds ρ) λρ'=>ok (.nx,ρ'):=by
 show bd (cC (.tp is) (.tup ds) ρ) _ = _
 rw [cC,h];rfl
noncomputable def retS (r:O (D × aB)):O (Fo × aB):=bd r λr=>ok (.rt r.1,r.2)
@[simp] theorem QD (d:D) (ρ:aB):retS (ok (d,ρ)) = ok (.rt d,ρ):=rfl
@[simp] theorem MZ (c:Nat):retS (some (.error c)) = some (.error c):=rfl
noncomputable def Yf (ρ:aB) (x:O D):O (Fo × aB):=bd x λ_=>ok (.nx,ρ)
@[simp] theorem Ye (ρ:aB) (d:D):Yf ρ (ok d) = ok (.nx,ρ):=rfl
@[simp] theorem Rh (ρ:aB) (c:Nat):Yf ρ (some (.error c)) = some (.error c):=rfl
noncomputable def nG (Φ:az) (ss:List CS) (r:O (Fo × aB)):O (Fo × aB):=bd r λr=>match r with
 | (.nx,ρ')=>bM Φ ss ρ'
 | r=>ok r
@[simp] theorem tL (Φ:az) (ss:List CS) (ρ:aB):nG Φ ss (ok (.nx,ρ)) = bM Φ ss ρ:=rfl
@[simp] theorem Mr (Φ:az) (ss:List CS) (d:D) (ρ:aB):nG Φ ss (ok (.rt d,ρ)) = ok (.rt d,ρ):=rfl
@[simp] theorem Mt (Φ:az) (ss:List CS) (ρ:aB):nG Φ ss (ok (.bk,ρ)) = ok (.bk,ρ):=rfl
@[simp] theorem Ms (Φ:az) (ss:List CS) (ρ:aB):nG Φ ss (ok (.ct,ρ)) = ok (.ct,ρ):=rfl
@[simp] theorem Ls (Φ:az) (ss:List CS) (c:Nat):nG Φ ss (some (.error c)) = some (.error c):=rfl
noncomputable def EY (Φ:az) (a b:List CS) (ρ:aB) (x:O Bool):O (Fo × aB):=bd x λk=>if k then bM Φ a ρ else bM Φ b ρ
@[simp] theorem Wi (Φ:az) (a b:List CS) (ρ:aB):EY Φ a b ρ (ok true) = bM Φ a ρ:=rfl
@[simp] theorem Wj (Φ:az) (a b:List CS) (ρ:aB):EY Φ a b ρ (ok false) = bM Φ b ρ:=rfl
@[simp] theorem NT (Φ:az) (a b:List CS) (ρ:aB) (c:Nat):EY Φ a b ρ (some (.error c)) = some (.error c):=rfl
noncomputable def Qi (i:Nat) (r:O (D × aB)):O (Fo × aB):=bd r λr=>match um r.2[i]? with
  | some ds=>if ds.length < eM then ok (.nx,r.2.set i (some (.lst .ow (ds ++ [r.1])))) else none
  | none=>none
@[simp] theorem Ru {i:Nat} {d:D} {ρ:aB} {ds:List D} (h:ρ[i]? = some (some (.lst .ow ds))) (hl:ds.length < eM):Qi i (ok (d,ρ)) = ok (.nx,ρ.set i (some (.lst .ow (ds ++ [d])))):=by
 show (match um ρ[i]? with | some ds=>_ | none=>_) = _
 rw [h]
 exact if_pos hl
section
variable (Φ:az) (ρ:aB)
@[simp] theorem aar:bM Φ [] ρ = ok (.nx,ρ):=rfl
@[simp] theorem jK (s:CS) (ss:List CS):bM Φ (s :: ss) ρ = nG Φ ss (p9 Φ s ρ):=rfl
@[simp] theorem Gk (i:Nat) (e:CE):p9 Φ (.asg (.nm i) e) ρ = Lh i (jC Φ e ρ):=rfl
@[simp] theorem RE (is:List Nat) (e:CE):p9 Φ (.asg (.tp is) e) ρ = Qg is (jC Φ e ρ):=rfl
@[simp] theorem aaq (e:CE):p9 Φ (.ret e) ρ = retS (jC Φ e ρ):=rfl
theorem qo (c:CE) (b:List CS):p9 Φ (.HD c b) ρ = fA (λρ=>bd (vG Φ c ρ) λk=>if k then bd (bM Φ b ρ) λr=>match r with
   | (.nx,ρ')=>ok (.inl ρ')
   | (.ct,ρ')=>ok (.inl ρ')
   | (.bk,ρ')=>ok (.inr (.nx,ρ'))
   | (.rt d,ρ')=>ok (.inr (.rt d,ρ'))
  else ok (.inr (.nx,ρ))) ρ:=rfl
theorem Mb (i j:Nat) (a b:CE):p9 Φ (.par i j a b) ρ = bd (aQ Φ a ρ) λx=>bd (aQ Φ b ρ) λy=>if aH anyF x = false /\ aH anyF y = false /\ i < ρ.length /\ j < ρ.length then ok (.nx,(ρ.set i (some x)).set j (some y)) else none:=rfl
@[simp] theorem ac7 (c:Nat):p9 Φ (.rs c) ρ = some (.error c):=rfl
@[simp] theorem ac8 (e:CE):p9 Φ (.ex e) ρ = Yf ρ (aQ Φ e ρ):=rfl
@[simp] theorem Mc (c:CE) (a b:List CS):p9 Φ (.ifs c a b) ρ = EY Φ a b ρ (tI (aQ Φ c ρ)):=rfl
@[simp] theorem aas (i:Nat) (e:CE):p9 Φ (.app i e) ρ = Qi i (jC Φ e ρ):=rfl
end
noncomputable def mk (Φ:az) (ar n:Nat) (b:List CS):List D -> O D:=λds=>if ds.length = ar then v_ Φ n b ds else none
noncomputable def p_ (r:O (Fo × aB)):O D:=bd r λr=>match r.1 with
 | .nx=>ok .bA
 | .rt d=>ok d
 | _=>none
@[simp] theorem Rj (ρ:aB):p_ (ok (.nx,ρ)) = ok .bA:=rfl
@[simp] theorem Ri (d:D) (ρ:aB):p_ (ok (.rt d,ρ)) = ok d:=rfl
@[simp] theorem O8 (c:Nat):p_ (some (.error c)) = some (.error c):=rfl
theorem mk_eq {Φ:az} {ar n:Nat} {b:List CS} {ds:List D} (h:ds.length = ar):mk Φ ar n b ds = p_ (bM Φ b (ds.map some ++ List.replicate (n - ds.length) none)):=if_pos h
theorem aF {Φ:az} {ar n:Nat} {b:List CS} (ds:List D) (r:D) (h:mk Φ ar n b ds = ok r):ds.length = ar /\ v_ Φ n b ds = ok r:=by
 unfold mk at h
 split at h
 ·rename_i hl;exact ⟨hl,h⟩
 ·cases h
end DI
end
section
namespace DI
open PySem (Str)
theorem Int.beq_eq_decide_eq (i j:Int):(i == j) = decide (i = j):=rfl
section
variable (g:Fl -> Fl) (p:Fl -> Bool)
@[simp] theorem EN (b:Bool):aA g (.bl b) = .bl b:=rfl
@[simp] theorem BR (b:Int):aA g (.int b) = .int b:=rfl
@[simp] theorem NG:aA g .bA = .bA:=rfl
@[simp] theorem BQ (ds:List D):aA g (.tup ds) = .tup (af g ds):=rfl
@[simp] theorem NH (f:Fl) (ds:List D):aA g (.lst f ds) = .lst (g f) (af g ds):=rfl
@[simp] theorem NI (f:Fl) (ks:List Int) (vs:List D):aA g (.kb f ks vs) = .kb (g f) ks (af g vs):=rfl
@[simp] theorem NJ (f:Fl) (ks:List (List Int)) (vs:List D):aA g (.cg f ks vs) = .cg (g f) ks (af g vs):=rfl
@[simp] theorem LB:af g [] = []:=rfl
@[simp] theorem Ji (d:D) (ds:List D):af g (d :: ds) = aA g d :: af g ds:=rfl
@[simp] theorem LD (a b:List D):af g (a ++ b) = af g a ++ af g b:=by simp only [av,List.map_append]
@[simp] theorem LC (ds:List D):(af g ds).length = ds.length:=by rw [av,List.length_map]
theorem cG {α:Type} {e:α -> D} (h:∀ x,aA g (e x) = e x) (xs:List α):af g (xs.map e) = xs.map e:=by
 rw [av,List.map_map];exact List.map_congr_left λx _=>h x
theorem cH {α:Type} {e:α -> D} (h:∀ x,aH p (e x) = false):∀ xs:List α,aw p (xs.map e) = false
 | []=>by rw [List.map_nil,aw]
 | x :: xs=>by rw [List.map_cons,aw,h x,cH h xs];rfl
@[simp] theorem Fq (b:Bool):aH p (.bl b) = false:=Eq.symm rfl
@[simp] theorem oA (b:Int):aH p (.int b) = false:=Eq.symm rfl
@[simp] theorem OH:aH p .bA = false:=Eq.symm rfl
@[simp] theorem OG (ds:List D):aH p (.tup ds) = aw p ds:=Eq.symm rfl
@[simp] theorem Ci (f:Fl) (ds:List D):aH p (.lst f ds) = (p f || aw p ds):=Eq.symm rfl
@[simp] theorem OI (f:Fl) (ks:List Int) (vs:List D):aH p (.kb f ks vs) = (p f || aw p vs):=Eq.symm rfl
@[simp] theorem OJ (f:Fl) (ks:List (List Int)) (vs:List D):aH p (.cg f ks vs) = (p f || aw p vs):=Eq.symm rfl
@[simp] theorem LW:aw p [] = false:=Eq.symm rfl
@[simp] theorem J4 (d:D) (ds:List D):aw p (d :: ds) = (aH p d || aw p ds):=Eq.symm rfl
@[simp] theorem zU:∀ a b:List D,aw p (a ++ b) = (aw p a || aw p b)
 | [],b=>by simp
 | d :: a,b=>by simp [zU a b,Bool.or_assoc]
@[simp] theorem wj (ns:List Int):af g (ns.map D.int) = ns.map D.int:=cG g (BR g) ns
@[simp] theorem wG (ns:List Int):aw p (ns.map D.int) = false:=cH p (oA p) ns
@[simp] theorem zC (ns:List Bool):af g (ns.map D.bl) = ns.map D.bl:=cG g (EN g) ns
@[simp] theorem zT (ns:List Bool):aw p (ns.map D.bl) = false:=cH p (Fq p) ns
@[simp] theorem LG (t:Ty) (d:D):dS t (aA g d) = dS t d:=by cases d <;> cases t <;> rfl
end
@[simp] theorem Kq:ba .ow = .al:=rfl
@[simp] theorem Kr:ba .fz = .fz:=rfl
@[simp] theorem Ks:ba .al = .al:=rfl
@[simp] theorem Ko:ba .sc = .sc:=rfl
@[simp] theorem Kl:aI .ow = .fz:=rfl
@[simp] theorem Km:aI .fz = .fz:=rfl
@[simp] theorem Kn:aI .al = .fz:=rfl
@[simp] theorem Kk:aI .sc = .sc:=rfl
@[simp] theorem KI:jB .ow = .ow:=rfl
@[simp] theorem KJ:jB .fz = .al:=rfl
@[simp] theorem KN:jB .al = .al:=rfl
@[simp] theorem KH:jB .sc = .sc:=rfl
@[simp] theorem KC:b_ .ow = false:=rfl
@[simp] theorem KD:b_ .fz = false:=rfl
@[simp] theorem KG:b_ .al = true:=rfl
@[simp] theorem KA:b_ .sc = false:=rfl
@[simp] theorem Kx:eC .ow = true:=rfl
@[simp] theorem Ky:eC .fz = false:=rfl
@[simp] theorem Kz:eC .al = false:=rfl
@[simp] theorem Kw:eC .sc = false:=rfl
@[simp] theorem Kt:wz .ow = false:=rfl
@[simp] theorem Ku:wz .fz = false:=rfl
@[simp] theorem Kv:wz .al = false:=rfl
noncomputable def ab (ns:List Int):List D:=ns.map D.int
noncomputable def kR (ns:List Bool):List D:=ns.map D.bl
@[simp] theorem LK (ns:List Int):(ab ns).length = ns.length:=List.length_map ..
@[simp] theorem Qc (ns:List Bool):(kR ns).length = ns.length:=List.length_map ..
@[simp] theorem LJ:ab [] = []:=rfl
@[simp] theorem JK (n:Int) (ns:List Int):ab (n :: ns) = .int n :: ab ns:=rfl
@[simp] theorem JJ (ns:List Int) (n:Int):ab ns ++ [.int n] = ab (ns ++ [n]):=by simp [ab]
@[simp] theorem zM (ns:List Int) (i:Nat):(ab ns)[i]? = ns[i]?.map D.int:=List.getElem?_map ..
@[simp] theorem eR (g:Fl -> Fl) (ns:List Int):af g (ab ns) = ab ns:=wj g ns
@[simp] theorem uJ (p:Fl -> Bool) (ns:List Int):aw p (ab ns) = false:=wG p ns
@[simp] theorem Jj (g:Fl -> Fl) (ns:List Bool):af g (kR ns) = kR ns:=zC g ns
@[simp] theorem J5 (p:Fl -> Bool) (ns:List Bool):aw p (kR ns) = false:=zT p ns
@[simp] theorem ab_ (i j:Int):dc .add (.int i) (.int j) = ok (.int (i + j)):=rfl
@[simp] theorem ab8 (i j:Int):dc .sub (.int i) (.int j) = ok (.int (i - j)):=rfl
theorem gM {i j:Int} (h:gH i j = true):dc .mul (.int i) (.int j) = ok (.int (i * j)):=if_pos h
theorem sV {i j:Int} (h:qR j = true):dc .fdiv (.int i) (.int j) = ok (.int (i.fdiv j)):=if_pos h
@[simp] theorem Hq {i j:Int} (h:j ≠ 0):dc .mod (.int i) (.int j) = ok (.int (i.fmod j)):=if_pos h
@[simp] theorem ab9 {i j:Int} (h:0 <= j):dc .shr (.int i) (.int j) = ok (.int (i / 2 ^ j.toNat)):=if_pos h
theorem Ho {i j:Int} (h:xN i j = true):dc .pow (.int i) (.int j) = ok (.int (i ^ j.toNat)):=if_pos h
@[simp] theorem aaS (i:Int):EG (.int i) = ok (.int (-i)):=rfl
theorem mulOk_of {i j:Int} (h:i.natAbs < 2 ^ 9000) (h':j.natAbs < 2 ^ 9000):gH i j = true:=by
 simp only [gH,big,h,h',decide_true,Bool.and_self,Bool.or_true]
theorem wo {n:Nat} (h:n < 2 ^ 64):n < 2 ^ 9000:=Nat.lt_of_lt_of_le h (Nat.pow_le_pow_right (by decide) (by decide))
theorem rO {i:Int} (j:Int) (h:i.natAbs < 2 ^ 64):gH i j = true:=by simp only [gH,h,decide_true,Bool.true_or]
theorem EK {j:Int} (i:Int) (h:j.natAbs < 2 ^ 64):gH i j = true:=by simp only [gH,h,decide_true,Bool.true_or,Bool.or_true]
theorem kM {j:Int} (h0:j ≠ 0) (h:j.natAbs < 2 ^ 9000):qR j = true:=by
 simp only [qR,big,h,decide_true,Bool.and_true,decide_eq_true_eq];exact h0
@[simp] theorem Rp {i j:Int} (h:j.natAbs < 2 ^ 64):dc .mul (.int i) (.int j) = ok (.int (i * j)):=gM (EK i h)
@[simp] theorem jy {i j:Int} (h:i.natAbs < 2 ^ 64):dc .mul (.int i) (.int j) = ok (.int (i * j)):=gM (rO j h)
@[simp] theorem Qe {i j:Int} (h0:j ≠ 0) (h:j.natAbs < 2 ^ 64):dc .fdiv (.int i) (.int j) = ok (.int (i.fdiv j)):=sV (kM h0 (wo h))
theorem FU {a b:D} (ha:cK 40 a = true) (hb:cK 40 b = true):eG .eq a b = ok (.bl (kc a b)):=by
 show (if cK 40 a && cK 40 b then _ else _) = _
 rw [ha,hb];rfl
theorem FT {a b:D} (ha:cK 40 a = true) (hb:cK 40 b = true):eG .ne a b = ok (.bl (!kc a b)):=by
 show (if cK 40 a && cK 40 b then _ else _) = _
 rw [ha,hb];rfl
@[simp] theorem fU (n:Nat) (i:Int):cK n (.int i) = true:=by cases n <;> rfl
@[simp] theorem Ui (n:Nat) (i:Bool):cK n (.bl i) = true:=by cases n <;> rfl
@[simp] theorem QN (n:Nat):cK n .bA = true:=by cases n <;> rfl
@[simp] theorem js (n:Nat) (ds:List D):cK (n + 1) (.tup ds) = ds.all (cK n):=rfl
@[simp] theorem jt (n:Nat) (f:Fl) (ds:List D):cK (n + 1) (.lst f ds) = ds.all (cK n):=rfl
@[simp] theorem Tj (i j:Int):eG .eq (.int i) (.int j) = ok (.bl (decide (i = j))):=by rw [FU (fU _ _) (fU _ _)];show ok (D.bl (i == j)) = _;rw [Int.beq_eq_decide_eq]
@[simp] theorem Ti (i j:Int):eG .ne (.int i) (.int j) = ok (.bl (!decide (i = j))):=by rw [FT (fU _ _) (fU _ _)];show ok (D.bl (!(i == j))) = _;rw [Int.beq_eq_decide_eq]
@[simp] theorem adN (i j:Int):eG .lt (.int i) (.int j) = ok (.bl (decide (i < j))):=rfl
@[simp] theorem adO (i j:Int):eG .le (.int i) (.int j) = ok (.bl (decide (i <= j))):=rfl
@[simp] theorem adP (i j:Int):eG .gt (.int i) (.int j) = ok (.bl (decide (j < i))):=rfl
@[simp] theorem adQ (i j:Int):eG .ge (.int i) (.int j) = ok (.bl (decide (j <= i))):=rfl
@[simp] theorem aa9 (ds:List D) (i:Int):zF (.tup ds) (.int i) = qZ ds i:=rfl
@[simp] theorem aa_ (f:Fl) (ds:List D) (i:Int):zF (.lst f ds) (.int i) = qZ ds i:=rfl
theorem sX {ds:List D} {n:Nat} {d:D} (h:ds[n]? = some d):qZ ds (n:Int) = ok (aA ba d):=by
 have hn:n < ds.length:=(List.getElem?_eq_some_iff.mp h).1
 have e:tm ds.length (n:Int) = some n:=by unfold tm;rw [if_pos (by omega),if_pos (by omega)];rfl
 unfold qZ
 rw [e,Option.bind_some,h]
theorem at_of {ds:List D} {i:Int} {d:D} (h0:0 <= i) (h:ds[i.toNat]? = some d):qZ ds i = ok (aA ba d):=by
 have:=sX h
 rwa [show ((i.toNat:Nat):Int) = i by omega] at this
@[simp] theorem agO (d:D) (ds:List D):qZ (d :: ds) 0 = ok (aA ba d):=sX (n:=0) rfl
@[simp] theorem agN (a d:D) (ds:List D):qZ (a :: d :: ds) 1 = ok (aA ba d):=sX (n:=1) rfl
@[simp] theorem agM (a b d:D) (ds:List D):qZ (a :: b :: d :: ds) 2 = ok (aA ba d):=sX (n:=2) rfl
@[simp] theorem Rc (ds:List D):qk .len [.tup ds] = ok (.int ds.length):=rfl
@[simp] theorem Rf (f:Fl) (ds:List D):qk .len [.lst f ds] = ok (.int ds.length):=rfl
@[simp] theorem abF (i:Int):qk .abs [.int i] = ok (.int i.natAbs):=by
 show ok (D.int (if i < 0 then -i else i)) = _
 congr 2
 split <;> omega
@[simp] theorem O5 (f:Fl) (ds:List D):qk .list1 [.lst f ds] = ok (.lst .ow (af ba ds)):=rfl
@[simp] theorem O4 (ds:List D):qk .list1 [.tup ds] = ok (.lst .ow (af ba ds)):=rfl
@[simp] theorem Rb (f:Fl) (ds:List D):qk .tuple1 [.lst f ds] = ok (.tup (af ba ds)):=rfl
@[simp] theorem Ra (ds:List D):qk .tuple1 [.tup ds] = ok (.tup (af ba ds)):=rfl
@[simp] theorem abD (f:Fl) (ns:List Int):qk .iM [.lst f (ab ns)] = ok (.int ns.sum):=by
 show (match intsOf (ns.map D.int) with | some ns=>_ | none=>_) = _
 rw [aZ]
@[simp] theorem abE (f:Fl) (bs:List Bool):qk .all1 [.lst f (kR bs)] = ok (.bl (bs.all id)):=by
 show (match ja (bs.map D.bl) with | some ns=>_ | none=>_) = _
 rw [lS]
@[simp] theorem yA {ns:List Int} (h:ns.length < 64):qk .fS [.tup (ab ns)] = ok (.lst .ow (ab (sortI ns))):=by
 show qv _ = _
 unfold qv ab
 rw [aZ]
 exact if_pos h
@[simp] theorem KO {ns:List Int} (h:ns.length < 4000):x5 (.tup (ab ns)) = ok (.int (sC ns).length):=by
 show (match intsOf (ns.map D.int) with | some ns=>_ | none=>_) = _
 rw [aZ]
 exact if_pos h
@[simp] theorem sv (i j:Int):kc (.int i) (.int j) = decide (i = j):=by show (i == j) = _;rw [Int.beq_eq_decide_eq]
@[simp] theorem Yi (i j:Bool):kc (.bl i) (.bl j) = (i == j):=rfl
@[simp] theorem FA (a b:List D):kc (.tup a) (.tup b) = dq a b:=rfl
@[simp] theorem FC (f g:Fl) (a b:List D):kc (.lst f a) (.lst g b) = dq a b:=rfl
@[simp] theorem Cv:dq [] [] = true:=rfl
@[simp] theorem lN (a b:D) (as bs:List D):dq (a :: as) (b :: bs) = (kc a b && dq as bs):=rfl
theorem oU:∀ {as bs:List D},dq as bs = true -> as.length = bs.length
 | [],[],_=>rfl
 | [],_ :: _,h=>(Bool.false_ne_true h).elim
 | _ :: _,[],h=>(Bool.false_ne_true h).elim
 | a :: as,b :: bs,h=>by
  replace h:(_ && _) = true:=h
  rw [Bool.and_eq_true] at h
  rw [List.length_cons,List.length_cons,oU h.2]
theorem i8 {α:Type} {e:α -> D} [DecidableEq α] (h:∀ x y,kc (e x) (e y) = decide (x = y)):∀ xs ys:List α,dq (xs.map e) (ys.map e) = decide (xs = ys)
 | [],[]=>by simp
 | [],y :: ys=>by
  cases z:dq ([].map e) ((y :: ys).map e) with
  | true=>have:=oU z;simp at this
  | false=>simp
 | x :: xs,[]=>by
  cases z:dq ((x :: xs).map e) ([].map e) with
  | true=>have:=oU z;simp at this
  | false=>simp
 | x :: xs,y :: ys=>by
  rw [List.map_cons,List.map_cons,lN,h,i8 h xs ys]
  by_cases e1:x = y <;> by_cases e2:xs = ys <;> simp [e1,e2]
theorem g9 {α:Type} {e:α -> D} {n:Nat} (h:∀ x,cK n (e x) = true) (xs:List α):(xs.map e).all (cK n) = true:=by
 rw [List.all_map];exact List.all_eq_true.mpr λx _=>h x
theorem bE {bind:D -> O aB} {test:aB -> O Bool} {el:aB -> O D} {α:Type} {e:α -> D} {g:α -> D}:∀ {xs:List α},(∀ x ∈ xs,∃ ρ,bind (e x) = ok ρ /\ test ρ = ok true /\ el ρ = ok (g x)) -> gL bind test el (xs.map e) = ok (xs.map g)
 | [],_=>rfl
 | x :: xs,h=>by
  obtain ⟨ρ,h1,h2,h3⟩:=h x (List.mem_cons_self ..)
  have ih:=bE (xs:=xs) λy hy=>h y (List.mem_cons_of_mem _ hy)
  rw [List.map_cons,gL,h1,dU,h2,dU,if_pos rfl,h3,dU,ih];rfl
theorem mw {bind:D -> O aB} {test:aB -> O Bool} {el:aB -> O D} {α:Type} {e:α -> D} {g:α -> D} {t:α -> Bool}:∀ {xs:List α},(∀ x ∈ xs,∃ ρ,bind (e x) = ok ρ /\ test ρ = ok (t x) /\ (t x = true -> el ρ = ok (g x))) -> gL bind test el (xs.map e) = ok ((xs.filter t).map g)
 | [],_=>rfl
 | x :: xs,h=>by
  obtain ⟨ρ,h1,h2,h3⟩:=h x (List.mem_cons_self ..)
  have ih:=mw (xs:=xs) λy hy=>h y (List.mem_cons_of_mem _ hy)
  rw [List.map_cons,gL,h1,dU,h2,dU,List.filter_cons]
  cases ht:t x with
  | true=>rw [if_pos rfl,h3 ht,dU,ih,if_pos rfl];rfl
  | false=>rw [if_neg Bool.false_ne_true,ih,if_neg Bool.false_ne_true]
section
variable {Φ:az} {n:Nat} {t:Tg} {caps:List Nat} {ik:IK} {es a_:List CE} {elt:CE} {ρ:aB} {xs items ds:List D}
theorem cV (h1:cD Φ es ρ = ok xs) (h2:dk Φ ik xs = ok items)
  (h3:gL (λd=>cC t d (bc n caps ρ)) (λρ'=>iK Φ a_ ρ') (λρ'=>aQ Φ elt ρ') items = ok ds) (hl:ds.length <= eM):aQ Φ (.comp n t caps ik es a_ elt) ρ = ok (.lst .ow (af jB ds)):=by
 show bd (cD Φ es ρ) _ = _
 rw [h1,dU,h2,dU,h3,dU,if_pos hl]
end
theorem ya (Φ:az) (ds:List D):dk Φ .seq [.tup ds] = ok (af aI ds):=rfl
theorem fc (Φ:az) (f:Fl) (ds:List D):dk Φ .seq [.lst f ds] = ok (af aI ds):=rfl
theorem EX (Φ:az) {n:Int} (h0:0 <= n) (h:n <= 1000000):dk Φ .lC [.int n] = ok ((List.range n.toNat).map λ(k:Nat)=>D.int (k:Int)):=by
 show (if n <= (eM:Int) /\ -(eM:Int) <= n then _ else _) = _
 have:(eM:Int) = 1000000:=rfl
 rw [if_pos (by omega)]
theorem cj {n:Nat} (h:n <= 1000000):n <= eM:=h
theorem iH {Φ:az} {t:Tg} {it:CI} {b:List CS} {ρ ρ1:aB} {items:List D} {r:O (Fo × aB)} (h:gn Φ it ρ = ok (items,ρ1)) (h':eW (λd ρ=>cC t d ρ) (λρ=>bM Φ b ρ) items ρ1 = r):p9 Φ (.fr t it b) ρ = r:=by
 show bd (gn Φ it ρ) _ = _
 rw [h];exact h'
theorem mZ (bind:D -> aB -> O aB) (body:aB -> O (Fo × aB)) (ρ:aB):eW bind body [] ρ = ok (.nx,ρ):=rfl
theorem fJ {bind:D -> aB -> O aB} {body:aB -> O (Fo × aB)} {x:D} {xs:List D} {ρ ρ1 ρ2:aB} {r:O (Fo × aB)} (h1:bind x ρ = ok ρ1) (h2:body ρ1 = ok (.nx,ρ2)) (h3:eW bind body xs ρ2 = r):eW bind body (x :: xs) ρ = r:=by
 rw [eW,h1,dU,h2];exact h3
theorem zG {Φ:az} {a:CE} {ρ:aB} {n:Int} (h:aQ Φ a ρ = ok (.int n)) (h0:0 <= n) (h1:n <= 1000000):gn Φ (.lC a) ρ = ok ((List.range n.toNat).map λ(k:Nat)=>D.int (k:Int),ρ):=by
 show bd (aQ Φ a ρ) _ = _
 rw [h]
 show (if n <= (eM:Int) /\ -(eM:Int) <= n then _ else _) = _
 have:(eM:Int) = 1000000:=rfl
 rw [if_pos (by omega)]
theorem NU {Φ:az} {a:CE} {ρ:aB} {f:Fl} {ds:List D} (h:aQ Φ a ρ = ok (.lst f ds)):gn Φ (.seq a) ρ = ok (af aI ds,if (b_ f || aw b_ ds) then so (iJ a) 0 ρ else ρ):=by
 show bd (aQ Φ a ρ) _ = _
 rw [h,<- Cq]
 show ok (_,if aH b_ (.lst f ds) then _ else _) = _
 rw [Ci]
end DI
end
section
namespace DI
open PySem (Str)
noncomputable def fL (t b:Int):Int:=if b < 0 then -(Int.gcd t b:Int) else (Int.gcd t b:Int)
noncomputable def Jd (t b:Int):Int:=t.fdiv (fL t b)
noncomputable def Je (t b:Int):Int:=b.fdiv (fL t b)
theorem yt {t b:Int} (h:b ≠ 0):0 < Int.gcd t b:=Int.gcd_pos_of_ne_zero_right t h
theorem jR {t b:Int} (h:b ≠ 0):fL t b ≠ 0:=by
 have:=yt (t:=t) h
 unfold fL;split <;> omega
theorem Kg {t b:Int} (h:b ≠ 0):Int.gcd t b <= b.natAbs:=Nat.le_of_dvd (by omega) (Nat.gcd_dvd_right _ _)
theorem FF {t b:Int} (h:b ≠ 0):(fL t b).natAbs <= b.natAbs:=by
 have:=Kg (t:=t) h
 unfold fL;split <;> omega
theorem nY {t b:Int} (h:b ≠ 0):∃ t' b':Int,t = fL t b * t' /\ b = fL t b * b' /\ Jd t b = t' /\ Je t b = b' /\ 1 <= b' /\ Int.gcd t' b' = 1:=by
 have hg:=yt (t:=t) h
 obtain ⟨t1,ht⟩:(Int.gcd t b:Int) ∣ t:=Int.gcd_dvd_left ..
 obtain ⟨b1,hb⟩:(Int.gcd t b:Int) ∣ b:=Int.gcd_dvd_right ..
 have hc:Int.gcd t1 b1 = 1:=by
  have e:Int.gcd ((Int.gcd t b:Int) * t1) ((Int.gcd t b:Int) * b1) = Int.gcd t b * Int.gcd t1 b1:=by
   rw [Int.gcd_mul_left];simp
  rw [<- ht,<- hb] at e
  have:Int.gcd t b * 1 = Int.gcd t b * Int.gcd t1 b1:=by rw [Nat.mul_one];exact e
  exact (Nat.eq_of_mul_eq_mul_left hg this).symm
 by_cases hn:b < 0
 ·have ed:fL t b = -(Int.gcd t b:Int):=by simp [fL,hn]
  have e1:t = fL t b * (-t1):=by rw [ed,Int.neg_mul_neg];exact ht
  have e2:b = fL t b * (-b1):=by rw [ed,Int.neg_mul_neg];exact hb
  refine ⟨-t1,-b1,e1,e2,?_,?_,?_,by rw [Int.gcd_neg,Int.neg_gcd];exact hc⟩
  ·unfold Jd
   conv=>lhs;arg 1;rw [e1]
   exact Int.mul_fdiv_cancel_left _ (jR h)
  ·unfold Je
   conv=>lhs;arg 1;rw [e2]
   exact Int.mul_fdiv_cancel_left _ (jR h)
  ·have:b1 < 0:=by
    by_cases W9:b1 < 0
    ·exact W9
    ·have:0 <= (Int.gcd t b:Int) * b1:=Int.mul_nonneg (by omega) (by omega)
     omega
   omega
 ·have ed:fL t b = (Int.gcd t b:Int):=by simp [fL,hn]
  have e1:t = fL t b * t1:=by rw [ed];exact ht
  have e2:b = fL t b * b1:=by rw [ed];exact hb
  refine ⟨t1,b1,e1,e2,?_,?_,?_,hc⟩
  ·unfold Jd
   conv=>lhs;arg 1;rw [e1]
   exact Int.mul_fdiv_cancel_left _ (jR h)
  ·unfold Je
   conv=>lhs;arg 1;rw [e2]
   exact Int.mul_fdiv_cancel_left _ (jR h)
  ·have:0 < b1:=by
    by_cases W9:0 < b1
    ·exact W9
    ·have:(Int.gcd t b:Int) * b1 <= 0:=Int.mul_nonpos_of_nonneg_of_nonpos (by omega) (by omega)
     omega
   omega
noncomputable def qD (q:Rat):D:=.tup [.int q.num,.int q.den]
@[simp] theorem Jl (g:Fl -> Fl) (q:Rat):aA g (qD q) = qD q:=by unfold qD;simp
@[simp] theorem J7 (g:Fl -> Bool) (q:Rat):aH g (qD q) = false:=by unfold qD;simp
noncomputable def aS (qs:List Rat):List D:=qs.map qD
@[simp] theorem QH (qs:List Rat):(aS qs).length = qs.length:=List.length_map ..
@[simp] theorem QG:aS [] = []:=rfl
@[simp] theorem M6 (q:Rat) (qs:List Rat):aS (q :: qs) = qD q :: aS qs:=rfl
@[simp] theorem M5 (qs:List Rat) (q:Rat):aS qs ++ [qD q] = aS (qs ++ [q]):=by simp [aS]
@[simp] theorem Ek (qs:List Rat) (i:Nat):(aS qs)[i]? = qs[i]?.map qD:=List.getElem?_map ..
@[simp] theorem QF (qs:List Rat) (i:Nat) (q:Rat):(aS qs).set i (qD q) = aS (qs.set i q):=by unfold aS;rw [List.map_set]
@[simp] theorem BP (g:Fl -> Fl) (qs:List Rat):af g (aS qs) = aS qs:=cG g (Jl g) qs
@[simp] theorem OF (g:Fl -> Bool) (qs:List Rat):aw g (aS qs) = false:=cH g (J7 g) qs
theorem qF (n:Nat) (q:Rat):cK (n + 1) (qD q) = true:=by
 unfold qD
 rw [js,List.all_cons,List.all_cons,fU,fU];rfl
theorem uW (p q:Rat):kc (qD p) (qD q) = decide (p = q):=by
 unfold qD
 rw [FA,lN,lN,Cv,sv,sv,Bool.and_true]
 by_cases h:p = q
 ·subst h;simp
 ·rw [decide_eq_false h]
  cases e1:decide (p.num = q.num) with
  | false=>rfl
  | true =>
   cases e2:decide ((p.den:Int) = (q.den:Int)) with
   | false=>rfl
   | true =>
    refine absurd (Rat.ext (by simpa using e1) ?_) h
    have:(p.den:Int) = q.den:=by simpa using e2
    omega
@[simp] theorem aa5 (q:Rat):zF (qD q) (.int 0) = ok (.int q.num):=by unfold qD;simp
@[simp] theorem aa4 (q:Rat):zF (qD q) (.int 1) = ok (.int q.den):=by unfold qD;simp
theorem su {t b:Int} (hb:b ≠ 0):t.fdiv (fL t b) = (Rat.divInt t b).num /\ b.fdiv (fL t b) = ((Rat.divInt t b).den:Int):=by
 obtain ⟨t',b',e1,e2,h1,h2,h3,h4⟩:=nY (t:=t) hb
 have hd:=jR (t:=t) hb
 have e:Rat.divInt t b = Rat.divInt t' b':=by
  generalize fL t b = d at *
  rw [e1,e2]
  exact Rat.divInt_mul_left hd
 obtain ⟨n,rfl⟩:∃ n:Nat,b' = (n:Int):=⟨b'.toNat,by omega⟩
 have hc:t'.natAbs.Coprime n:=by
  have:Nat.gcd t'.natAbs n = 1:=by simpa [Int.gcd] using h4
  exact this
 have hn:n ≠ 0:=by omega
 have e3:Rat.divInt t' (n:Int) = ⟨t',n,hn,hc⟩:=Rat.mk_eq_divInt.symm
 rw [e,e3]
 exact ⟨h1,h2⟩
theorem kB (q:Rat):(q.den:Int) ≠ 0:=by have:=q.den_pos;omega
theorem M7 (q:Rat):(1:Int) <= q.den:=by have:=q.den_pos;omega
theorem jM (q:Rat):Rat.divInt q.num q.den = q:=Rat.num_divInt_den q
theorem mV {t b:Int} (hb:b ≠ 0):(Rat.divInt t b).num.natAbs <= t.natAbs /\ (Rat.divInt t b).den <= b.natAbs:=by
 obtain ⟨t',b',e1,e2,h1,h2,h3,h4⟩:=nY (t:=t) hb
 obtain ⟨g1,g2⟩:=su (t:=t) hb
 have hd:1 <= (fL t b).natAbs:=by have:=jR (t:=t) hb;omega
 rw [show t.fdiv (fL t b) = t' from h1] at g1
 rw [show b.fdiv (fL t b) = b' from h2] at g2
 refine ⟨?_,?_⟩
 ·rw [<- g1]
  have:t.natAbs = (fL t b).natAbs * t'.natAbs:=by rw [<- Int.natAbs_mul,<- e1]
  rw [this];exact Nat.le_mul_of_pos_left _ hd
 ·have hz:(Rat.divInt t b).den = b'.natAbs:=by omega
  rw [hz]
  have:b.natAbs = (fL t b).natAbs * b'.natAbs:=by rw [<- Int.natAbs_mul,<- e2]
  rw [this];exact Nat.le_mul_of_pos_left _ hd
theorem GN (p q:Rat):p + q = Rat.divInt (p.num * q.den + q.num * p.den) (p.den * q.den):=by
 conv=>lhs;rw [<- jM p,<- jM q]
 exact Rat.divInt_add_divInt _ _ (kB p) (kB q)
theorem GI (p q:Rat):p - q = Rat.divInt (p.num * q.den - q.num * p.den) (p.den * q.den):=by
 conv=>lhs;rw [<- jM p,<- jM q]
 exact Rat.divInt_sub_divInt _ _ (kB p) (kB q)
theorem GL (p q:Rat):p * q = Rat.divInt (p.num * q.num) (p.den * q.den):=by
 conv=>lhs;rw [<- jM p,<- jM q]
 exact Rat.divInt_mul_divInt _ _
noncomputable def Sm (k:Nat) (q:Rat):Prop:=q.num.natAbs < 2 ^ k /\ q.den < 2 ^ k
theorem Sm.mono {k l:Nat} {q:Rat} (h:Sm k q) (hl:k <= l):Sm l q :=
 ⟨Nat.lt_of_lt_of_le h.1 (Nat.pow_le_pow_right (by decide) hl),Nat.lt_of_lt_of_le h.2 (Nat.pow_le_pow_right (by decide) hl)⟩
theorem aO {a b k l:Nat} (h:a < 2 ^ k) (h':b < 2 ^ l):a * b < 2 ^ (k + l):=by
 rw [Nat.pow_add]
 exact Nat.mul_lt_mul'' h h'
theorem Ge (a b:Int):(a + b).natAbs <= a.natAbs + b.natAbs:=by omega
theorem Gd (a b:Int):(a - b).natAbs <= a.natAbs + b.natAbs:=by omega
section
variable {k l:Nat} {p q:Rat}
theorem Sm.den (h:Sm k p) (h':Sm l q):((p.den:Int) * q.den).natAbs < 2 ^ (k + l):=by
 rw [Int.natAbs_mul];exact aO (by simpa using h.2) (by simpa using h'.2)
theorem Sm.add (h:Sm k p) (h':Sm l q):Sm (k + l + 1) (p + q):=by
 have hb:(p.den:Int) * q.den ≠ 0:=Int.mul_ne_zero (kB p) (kB q)
 obtain ⟨g1,g2⟩:=mV (t:=p.num * q.den + q.num * p.den) hb
 rw [<- GN] at g1 g2
 have n1:(p.num * q.den).natAbs < 2 ^ (k + l):=by rw [Int.natAbs_mul];exact aO h.1 (by simpa using h'.2)
 have n2:(q.num * p.den).natAbs < 2 ^ (k + l):=by rw [Int.natAbs_mul,Nat.add_comm];exact aO h'.1 (by simpa using h.2)
 have:=Ge (p.num * q.den) (q.num * p.den)
 have e:2 ^ (k + l + 1) = 2 ^ (k + l) * 2:=Nat.pow_succ ..
 have d:=h.den h'
 exact ⟨by omega,by omega⟩
theorem Sm.sub (h:Sm k p) (h':Sm l q):Sm (k + l + 1) (p - q):=by
 have hb:(p.den:Int) * q.den ≠ 0:=Int.mul_ne_zero (kB p) (kB q)
 obtain ⟨g1,g2⟩:=mV (t:=p.num * q.den - q.num * p.den) hb
 rw [<- GI] at g1 g2
 have n1:(p.num * q.den).natAbs < 2 ^ (k + l):=by rw [Int.natAbs_mul];exact aO h.1 (by simpa using h'.2)
 have n2:(q.num * p.den).natAbs < 2 ^ (k + l):=by rw [Int.natAbs_mul,Nat.add_comm];exact aO h'.1 (by simpa using h.2)
 have:=Gd (p.num * q.den) (q.num * p.den)
 have e:2 ^ (k + l + 1) = 2 ^ (k + l) * 2:=Nat.pow_succ ..
 have d:=h.den h'
 exact ⟨by omega,by omega⟩
theorem Sm.mul (h:Sm k p) (h':Sm l q):Sm (k + l) (p * q):=by
 have hb:(p.den:Int) * q.den ≠ 0:=Int.mul_ne_zero (kB p) (kB q)
 obtain ⟨g1,g2⟩:=mV (t:=p.num * q.num) hb
 rw [<- GL] at g1 g2
 have n1:(p.num * q.num).natAbs < 2 ^ (k + l):=by rw [Int.natAbs_mul];exact aO h.1 h'.1
 have d:=h.den h'
 exact ⟨by omega,by omega⟩
theorem Sm.big (h:Sm k p) (hk:k <= 9000):p.num.natAbs < 2 ^ 9000 /\ (p.den:Int).natAbs < 2 ^ 9000:=by
 have:=h.mono hk
 exact ⟨this.1,by simpa using this.2⟩
end
theorem qw {t b:Int} {k:Nat} (hb:b ≠ 0) (h1:t.natAbs < 2 ^ k) (h2:b.natAbs < 2 ^ k):Sm k (Rat.divInt t b):=by
 obtain ⟨g1,g2⟩:=mV (t:=t) hb
 exact ⟨by omega,by omega⟩
end DI
end
section
namespace DI
open PySem (Str)
noncomputable def d5 (d:D):Bool:=dS .int d && !dS .bool d
noncomputable def dW (m:List D -> O D):Prop:=∀ d,m [d] = ok (.bl (d5 d))
noncomputable def h_:List CS:=[.ret (.and [(.oo (.v 0) .int),(.not (.oo (.v 0) .bool))])]
theorem cy (Φ:az):dW (mk Φ 1 1 h_):=by
 intro d
 simp [mk_eq,h_,d5]
theorem oP (a:Int) {b:Int} (h:b ≠ 0):(a.fmod b).natAbs < b.natAbs:=by
 rcases Int.lt_or_gt_of_ne h with hb | hb
 ·have e:=Int.neg_fmod_neg a b
  have h1:=Int.fmod_nonneg_of_pos (-a) (show 0 < -b by omega)
  have h2:=Int.fmod_lt_of_pos (-a) (show 0 < -b by omega)
  omega
 ·have h1:=Int.fmod_nonneg_of_pos a hb
  have h2:=Int.fmod_lt_of_pos a hb
  omega
theorem Cn (a b:Int):Int.gcd b (a.fmod b) = Int.gcd a b:=by
 rw [Int.fmod_def,Int.gcd_sub_mul_left_right,Int.gcd_comm]
noncomputable def aR (m:List D -> O D):Prop:=∀ a b:Int,m [.int a,.int b] = ok (.int (Int.gcd a b))
noncomputable def AM:CS:=.HD (.cmp .ne (.v 1) (.int 0)) [.asg (.nm 2) (.bin .mod (.v 0) (.v 1)),.asg (.nm 0) (.v 1),.asg (.nm 1) (.v 2)]
noncomputable def de:List CS:=[AM,.ret (.bf .abs [(.v 0)])]
theorem FQ (Φ:az):∀ (n:Nat) (a b:Int) (r:Option D),b.natAbs <= n -> ∃ (g:Int) (r':Option D),p9 Φ AM [some (.int a),some (.int b),r] = ok (.nx,[some (.int g),some (.int 0),r']) /\ g.natAbs = Int.gcd a b:=by
 intro n
 induction n with
 | zero =>
  intro a b r h
  have hb:b = 0:=by omega
  subst hb
  refine ⟨a,r,?_,by simp⟩
  rw [AM,qo]
  exact gW (by simp)
 | succ n ih =>
  intro a b r h
  by_cases hb:b = 0
  ·subst hb
   refine ⟨a,r,?_,by simp⟩
   rw [AM,qo]
   exact gW (by simp)
  ·have hV:=oP a hb
   obtain ⟨g,r',e,hg⟩:=ih b (a.fmod b) (some (.int (a.fmod b))) (by omega)
   refine ⟨g,r',?_,by rw [hg,Cn]⟩
   rw [AM,qo] at e ⊢
   rw [<- e]
   exact ny (by simp [hb])
theorem aP (Φ:az):aR (mk Φ 2 3 de):=by
 intro a b
 obtain ⟨g,r',e,hg⟩:=FQ Φ b.natAbs a b none (Nat.le_refl _)
 have e1:(g.natAbs:Int) = (Int.gcd a b:Int):=by omega
 simp [mk_eq,de,e,e1]
noncomputable def ic (m:List D -> O D):Prop:=∀ t b:Int,b ≠ 0 -> b.natAbs < 2 ^ 9000 -> m [.int t,.int b] = ok (qD (Rat.divInt t b))
noncomputable def dA (m:List D -> O D):Prop:=ic m /\ ∀ t:Int,m [.int t,.int 0] = some (.error 0)
noncomputable def cI:List CS:=[.ifs (.cmp .eq (.v 1) (.int 0)) [.rs 0] [],.asg (.nm 2) (.call 1 [(.v 0),(.v 1)]),.ifs (.cmp .lt (.v 1) (.int 0)) [.asg (.nm 2) (.neg (.v 2))] [],.ret (.tup [(.bin .fdiv (.v 0) (.v 2)),(.bin .fdiv (.v 1) (.v 2))])]
theorem m6 {t b:Int} (hb:b ≠ 0) (h:b.natAbs < 2 ^ 9000) (x:Int):dc .fdiv (.int x) (.int (fL t b)) = ok (.int (x.fdiv (fL t b))) :=
 sV (kM (jR hb) (Nat.lt_of_le_of_lt (FF hb) h))
theorem bq (Φ:az) (h1:aR (Φ 1)):dA (mk Φ 2 3 cI):=by
 refine ⟨λt b hb h=>?_,λt=>by simp [mk_eq,cI]⟩
 obtain ⟨e1,e2⟩:=su (t:=t) hb
 unfold aR at h1
 have d1:=m6 (t:=t) hb h t
 have d2:=m6 (t:=t) hb h b
 rw [qD,<- e1,<- e2]
 by_cases hn:b < 0
 ·have ed:-(Int.gcd t b:Int) = fL t b:=by simp [fL,hn]
  simp [mk_eq,cI,hb,h1,hn,ed,d1,d2]
 ·have ed:(Int.gcd t b:Int) = fL t b:=by simp [fL,hn]
  simp [mk_eq,cI,hb,h1,hn,ed,d1,d2]
noncomputable def dZ:D -> Bool
 | .tup [.int a,.int b]=>decide (1 <= b) && decide (Int.gcd a b = 1)
 | _=>false
theorem yy (q:Rat):dZ (qD q) = true:=by
 have h1:=M7 q
 have h2:Int.gcd q.num q.den = 1:=by
  have:=q.reduced
  simpa [Int.gcd] using this
 simp [qD,dZ,h1,h2]
noncomputable def dz (m:List D -> O D):Prop:=∀ d,m [d] = ok (.bl (dZ d))
noncomputable def bz:List CS:=[.ifs (.or [(.not (.oo (.v 0) .tuple)),(.cmp .ne (.bf .len [(.v 0)]) (.int 2))]) [.ret (.bl false)] [],.ifs (.or [(.not (.call 0 [(.ix (.v 0) (.int 0))])),(.not (.call 0 [(.ix (.v 0) (.int 1))]))]) [.ret (.bl false)] [],.ret (.and [(.cmp .ge (.ix (.v 0) (.int 1)) (.int 1)),(.cmp .eq (.call 1 [(.ix (.v 0) (.int 0)),(.ix (.v 0) (.int 1))]) (.int 1))])]
theorem mi (g:Fl -> Fl) (d:D):d5 (aA g d) = d5 d:=by simp [d5]
theorem nv {d:D} (h:d5 d = true):∃ i,d = .int i:=by
 cases d <;> simp [d5,dS] at h ⊢
theorem qP {x y:D} (h:d5 x = false \/ d5 y = false):dZ (.tup [x,y]) = false:=by
 cases x <;> cases y <;> simp [d5,dS] at h <;> rfl
theorem z_ {ds:List D} (h:ds.length ≠ 2):dZ (.tup ds) = false:=by
 unfold dZ
 split
 ·rename_i e;cases e;simp at h
 ·rfl
theorem bp (Φ:az) (h0:dW (Φ 0)) (h1:aR (Φ 1)):dz (mk Φ 1 1 bz):=by
 intro d
 unfold dW at h0
 unfold aR at h1
 cases d with
 | tup ds =>
  by_cases hl:ds.length = 2
  ·match ds,hl with
   | [x,y],_ =>
    by_cases hx:d5 x = true
    ·by_cases hy:d5 y = true
     ·obtain ⟨a,rfl⟩:=nv hx
      obtain ⟨b,rfl⟩:=nv hy
      simp [mk_eq,bz,h0,h1,hx,hy,dS,dZ]
      by_cases hg:a.gcd b = 1
      ·simp [hg]
      ·simp [hg];omega
     ·simp [mk_eq,bz,h0,hx,hy,dS,mi,qP (.inr (by simpa using hy))]
    ·simp [mk_eq,bz,h0,hx,dS,mi,qP (.inl (by simpa using hx))]
  ·have vF:¬ (ds.length:Int) = 2:=by omega
   simp [mk_eq,bz,dS,vF,z_ hl]
 | _=>simp [mk_eq,bz,dS,dZ]
noncomputable def my (m:List D -> O D):Prop:=∀ p q,Sm 4000 p -> Sm 4000 q -> m [qD p,qD q] = ok (qD (p + q))
noncomputable def tf (m:List D -> O D):Prop:=∀ p q,Sm 4000 p -> Sm 4000 q -> m [qD p,qD q] = ok (qD (p - q))
noncomputable def dD (m:List D -> O D):Prop:=∀ p q,Sm 4000 p -> Sm 4000 q -> m [qD p,qD q] = ok (qD (p * q))
noncomputable def yR (f:Nat):List CS:=[.ret (.call f [(.bin .add (.bin .mul (.ix (.v 0) (.int 0)) (.ix (.v 1) (.int 1))) (.bin .mul (.ix (.v 1) (.int 0)) (.ix (.v 0) (.int 1)))),(.bin .mul (.ix (.v 0) (.int 1)) (.ix (.v 1) (.int 1)))])]
noncomputable def sT (f:Nat):List CS:=[.ret (.call f [(.bin .sub (.bin .mul (.ix (.v 0) (.int 0)) (.ix (.v 1) (.int 1))) (.bin .mul (.ix (.v 1) (.int 0)) (.ix (.v 0) (.int 1)))),(.bin .mul (.ix (.v 0) (.int 1)) (.ix (.v 1) (.int 1)))])]
noncomputable def jx (f:Nat):List CS:=[.ret (.call f [(.bin .mul (.ix (.v 0) (.int 0)) (.ix (.v 1) (.int 0))),(.bin .mul (.ix (.v 0) (.int 1)) (.ix (.v 1) (.int 1)))])]
section
variable (Φ:az) {f:Nat} (h2:ic (Φ f))
theorem K7 {p q:Rat} (hp:Sm 4000 p) (hq:Sm 4000 q):(p.den:Int) * q.den ≠ 0 /\ ((p.den:Int) * q.den).natAbs < 2 ^ 9000 :=
 ⟨Int.mul_ne_zero (kB p) (kB q),Nat.lt_of_lt_of_le (hp.den hq) (Nat.pow_le_pow_right (by decide) (by decide))⟩
theorem BM {p q:Rat} (hp:Sm 4000 p) (hq:Sm 4000 q):dc .mul (.int p.num) (.int q.den) = ok (.int (p.num * q.den)) /\ dc .mul (.int p.num) (.int q.num) = ok (.int (p.num * q.num)) /\ dc .mul (.int p.den) (.int q.den) = ok (.int (p.den * q.den)) /\ dc .mul (.int p.den) (.int q.num) = ok (.int (p.den * q.num)):=by
 obtain ⟨a,b⟩:=hp.big (by decide)
 obtain ⟨c,d⟩:=hq.big (by decide)
 exact ⟨gM (mulOk_of a d),gM (mulOk_of a c),gM (mulOk_of b d),gM (mulOk_of b c)⟩
include h2
theorem MR:my (mk Φ 2 2 (yR f)):=by
 intro p q hp hq
 obtain ⟨a,b,c,d⟩:=BM hp hq
 obtain ⟨a',b',c',d'⟩:=BM hq hp
 obtain ⟨n,k⟩:=K7 hp hq
 have e:=h2 (p.num * q.den + q.num * p.den) _ n k
 rw [<- GN] at e
 simp [mk_eq,yR,a,a',c,e]
theorem Im:tf (mk Φ 2 2 (sT f)):=by
 intro p q hp hq
 obtain ⟨a,b,c,d⟩:=BM hp hq
 obtain ⟨a',b',c',d'⟩:=BM hq hp
 obtain ⟨n,k⟩:=K7 hp hq
 have e:=h2 (p.num * q.den - q.num * p.den) _ n k
 rw [<- GI] at e
 simp [mk_eq,sT,a,a',c,e]
theorem xF:dD (mk Φ 2 2 (jx f)):=by
 intro p q hp hq
 obtain ⟨a,b,c,d⟩:=BM hp hq
 obtain ⟨n,k⟩:=K7 hp hq
 have e:=h2 (p.num * q.num) _ n k
 rw [<- GL] at e
 simp [mk_eq,jx,b,c,e]
omit h2 in
end
end DI
end
section
namespace DI
open PySem (Str)
theorem vc {bind:D -> O aB} {test:aB -> O Bool} {el:aB -> O D} {g:D -> D} {xs:List D} (h:∀ x ∈ xs,∃ ρ,bind x = ok ρ /\ test ρ = ok true /\ el ρ = ok (g x)):gL bind test el xs = ok (xs.map g):=by
 have:=bE (bind:=bind) (test:=test) (el:=el) (e:=λd=>d) (g:=g) (xs:=xs) h
 rwa [List.map_id'] at this
theorem jO (g:Fl -> Fl) (d:D):dZ (aA g d) = dZ d:=by
 cases d with
 | tup ds =>
  match ds with
  | []=>simp
  | [_]=>simp [dZ]
  | [x,y]=>cases x <;> cases y <;> simp [dZ]
  | _ :: _ :: _ :: _=>simp [dZ]
 | _=>simp [dZ]
noncomputable def lU (d:D) (n:Int):Bool:=match d with
 | .lst _ ds=>decide ((ds.length:Int) = n) && ds.all dZ
 | _=>false
noncomputable def qi (d:D):Prop:=match d with
 | .lst _ ds=>ds.length <= 1000000
 | .tup ds=>ds.length < 64
 | _=>True
noncomputable def dF (m:List D -> O D):Prop:=∀ d n,qi d -> m [d,.int n] = ok (.bl (lU d n))
noncomputable def bO:List CS:=[.ifs (.or [(.not (.oo (.v 0) .list)),(.cmp .ne (.bf .len [(.v 0)]) (.v 1))]) [.ret (.bl false)] [],.ret (.bf .all1 [(.comp 1 (.nm 0) [] .seq [(.v 0)] [] (.call 3 [(.v 0)]))])]
theorem aY (Φ:az) (h3:dz (Φ 3)):dF (mk Φ 2 2 bO):=by
 intro d n hc
 unfold dz at h3
 cases d with
 | lst f ds =>
  by_cases hn:(ds.length:Int) = n
  ·have qM:aQ Φ (.comp 1 (.nm 0) [] .seq [(.v 0)] [] (.call 3 [(.v 0)])) [some (.lst f ds),some (.int n)] = ok (.lst .ow (kR (ds.map dZ))):=by
    rw [cV (xs:=[.lst (ba f) (af ba ds)]) (by simp) (fc ..) (vc (g:=λd=>.bl (dZ d)) λx _=>⟨[some x],by simp [bc],by simp,by simp [h3,jO]⟩) (by simp;exact cj hc)]
    simp [av,Function.comp_def,jO,kR]
   simp [mk_eq,bO,dS,hn,qM,lU]
  ·simp [mk_eq,bO,dS,hn,lU]
 | _=>simp [mk_eq,bO,dS,lU]
theorem CU (f:Fl) (qs:List Rat) (n:Int):lU (.lst f (aS qs)) n = decide ((qs.length:Int) = n):=by
 unfold lU
 have:(aS qs).all dZ = true:=by unfold aS;rw [List.all_map];exact List.all_eq_true.mpr λq _=>yy q
 simp [this]
noncomputable def bh (qs:List Rat):Nat:=qs.foldl (λb q=>Nat.lcm b q.den) 1
theorem BX (b:Nat) (q:Rat):(b:Int).fdiv (Int.gcd b q.den) * q.den = (Nat.lcm b q.den:Nat):=by
 have hg:0 < Nat.gcd b q.den:=Nat.gcd_pos_of_pos_right _ q.den_pos
 have e:Int.gcd (b:Int) (q.den:Int) = Nat.gcd b q.den:=by simp [Int.gcd]
 rw [e,Int.fdiv_eq_ediv_of_nonneg _ (by omega)]
 have:((b:Int) / (Nat.gcd b q.den:Nat)) = ((b / Nat.gcd b q.den:Nat):Int):=(Int.natCast_ediv ..).symm
 rw [this,Nat.lcm]
 have hd:Nat.gcd b q.den ∣ b:=Nat.gcd_dvd_left ..
 rw [Nat.mul_comm b,Nat.mul_div_assoc _ hd,Nat.mul_comm]
 exact (Int.natCast_mul ..).symm
theorem lcm_pos {b:Nat} (hb:0 < b) (q:Rat):0 < Nat.lcm b q.den:=Nat.lcm_pos hb q.den_pos
theorem x9:∀ (qs:List Rat) (b k j:Nat),0 < b -> b < 2 ^ j -> (∀ q ∈ qs,Sm k q) -> 0 < qs.foldl (λb q=>Nat.lcm b q.den) b /\ qs.foldl (λb q=>Nat.lcm b q.den) b < 2 ^ (j + k * qs.length) /\ b ∣ qs.foldl (λb q=>Nat.lcm b q.den) b /\ ∀ q ∈ qs,q.den ∣ qs.foldl (λb q=>Nat.lcm b q.den) b
 | [],b,k,j,h0,h1,_=>⟨h0,by simpa using h1,Nat.dvd_refl _,λq hq=>nomatch hq⟩
 | q :: qs,b,k,j,h0,h1,hs=>by
  have hq:=hs q List.mem_cons_self
  have h2:Nat.lcm b q.den < 2 ^ (j + k):=Nat.lt_of_le_of_lt (Nat.lcm_le_mul h0 q.den_pos) (aO h1 hq.2)
  obtain ⟨g1,g2,g3,g4⟩:=x9 qs (Nat.lcm b q.den) k (j + k) (lcm_pos h0 q) h2 λp hp=>hs p (List.mem_cons_of_mem _ hp)
  have e:j + k * (q :: qs).length = j + k + k * qs.length:=by rw [List.length_cons,Nat.mul_succ];omega
  refine ⟨g1,by rw [e];exact g2,Nat.dvd_trans (Nat.dvd_lcm_left ..) g3,λp hp=>?_⟩
  rcases List.mem_cons.mp hp with rfl | hp
  ·exact Nat.dvd_trans (Nat.dvd_lcm_right ..) g3
  ·exact g4 p hp
structure xj (k:Nat) (qs:List Rat):Prop where
 sm:∀ q ∈ qs,Sm k q
 mr:k * qs.length <= 3000
 len:qs.length <= 1000
theorem xj.lcm {k:Nat} {qs:List Rat} (h:xj k qs):0 < bh qs /\ bh qs < 2 ^ (1 + k * qs.length) /\ ∀ q ∈ qs,q.den ∣ bh qs:=by
 obtain ⟨g1,g2,_,g4⟩:=x9 qs 1 k 1 (by decide) (by decide) h.sm
 exact ⟨g1,g2,g4⟩
theorem wq {n j:Nat} (h:n < 2 ^ j) (hj:j <= 9000):n < 2 ^ 9000:=Nat.lt_of_lt_of_le h (Nat.pow_le_pow_right (by decide) hj)
noncomputable def dE (m:List D -> O D):Prop:=∀ f qs k,xj k qs -> m [.lst f (aS qs)] = ok (.int (bh qs))
noncomputable def bN:List CS:=[.asg (.nm 1) (.bin .mul (.bin .fdiv (.v 1) (.call 1 [(.v 1),(.ix (.v 2) (.int 1))])) (.ix (.v 2) (.int 1)))]
noncomputable def cE:List CS:=[.asg (.nm 1) (.int 1),.fr (.nm 2) (.seq (.v 0)) bN,.ret (.v 1)]
theorem yP (Φ:az) (h1:aR (Φ 1)) (x:Option D):∀ (qs:List Rat) (b k j:Nat) (z:Option D),0 < b -> b < 2 ^ j -> j + k * qs.length <= 8000 -> (∀ q ∈ qs,Sm k q) ->
  ∃ z',eW (λd ρ=>cC (.nm 2) d ρ) (λρ=>bM Φ bN ρ) (aS qs) [x,some (.int b),z] = ok (.nx,[x,some (.int (qs.foldl (λb q=>Nat.lcm b q.den) b:Nat)),z'])
 | [],b,k,j,z,_,_,_,_=>⟨z,rfl⟩
 | q :: qs,b,k,j,z,h0,hb,hj,hs=>by
  have hq:=hs q List.mem_cons_self
  have h2:Nat.lcm b q.den < 2 ^ (j + k):=Nat.lt_of_le_of_lt (Nat.lcm_le_mul h0 q.den_pos) (aO hb hq.2)
  have e:j + k * (q :: qs).length = j + k + k * qs.length:=by rw [List.length_cons,Nat.mul_succ];omega
  obtain ⟨z',ih⟩:=yP Φ h1 x qs (Nat.lcm b q.den) k (j + k) (some (qD q)) (lcm_pos h0 q) h2 (by omega) λp hp=>hs p (List.mem_cons_of_mem _ hp)
  have hg:0 < Nat.gcd b q.den:=Nat.gcd_pos_of_pos_right _ q.den_pos
  have eg:Int.gcd (b:Int) (q.den:Int) = Nat.gcd b q.den:=by simp [Int.gcd]
  have Oq:Nat.gcd b q.den <= b:=Nat.le_of_dvd h0 (Nat.gcd_dvd_left ..)
  have hb9:b < 2 ^ 9000:=wq hb (by omega)
  have d1:dc .fdiv (.int b) (.int (Nat.gcd b q.den:Nat)) = ok (.int ((b:Int).fdiv (Nat.gcd b q.den:Nat))):=sV (kM (by omega) (by simpa using Nat.lt_of_le_of_lt Oq hb9))
  have hm:((b:Int).fdiv (Nat.gcd b q.den:Nat)).natAbs <= b:=by
   rw [Int.fdiv_eq_ediv_of_nonneg _ (by omega),<- Int.natCast_ediv]
   simp;exact Nat.div_le_self ..
  have d2:dc .mul (.int ((b:Int).fdiv (Nat.gcd b q.den:Nat))) (.int q.den) = ok (.int (Nat.lcm b q.den:Nat)):=by
   have:=BX b q
   rw [eg] at this
   rw [gM (mulOk_of (Nat.lt_of_le_of_lt hm hb9) (hq.big (by
    rw [e] at hj
    have:k <= j + k + k * qs.length:=by omega
    omega)).2),this]
  unfold aR at h1
  refine ⟨z',fJ (ρ1:=[x,some (.int b),some (qD q)]) (by simp) (ρ2:=[x,some (.int (Nat.lcm b q.den:Nat)),some (qD q)]) ?_ ih⟩
  simp [bN,h1,d1,d2]
theorem aW (Φ:az) (h1:aR (Φ 1)):dE (mk Φ 1 3 cE):=by
 intro f qs k hs
 have hit:gn Φ (.seq (.v 0)) [some (.lst f (aS qs)),some (.int 1),none] = ok (aS qs,if (b_ (ba f) || false) then [some (.lst (aI f) (aS qs)),some (.int 1),none] else [some (.lst f (aS qs)),some (.int 1),none]):=by
  rw [NU (f:=ba f) (ds:=aS qs) (by simp)]
  simp [show iJ (.v 0) = [0] from rfl]
 have hk:=hs.mr
 have hx:∀ x:Option D,∃ z',eW (λd ρ=>cC (.nm 2) d ρ) (λρ=>bM Φ bN ρ) (aS qs) [x,some (.int (1:Nat)),none] = ok (.nx,[x,some (.int (bh qs)),z']):=λx=>yP Φ h1 x qs 1 k 1 none (by decide) (by decide) (by omega) hs.sm
 cases hf:(b_ (ba f) || false) with
 | true =>
  rw [hf] at hit
  obtain ⟨z',e⟩:=hx (some (.lst (aI f) (aS qs)))
  have:=iH (t:=.nm 2) (b:=bN) hit e
  simp [mk_eq,cE,this]
 | false =>
  rw [hf] at hit
  obtain ⟨z',e⟩:=hx (some (.lst f (aS qs)))
  have:=iH (t:=.nm 2) (b:=bN) hit e
  simp [mk_eq,cE,this]
noncomputable def aU (b:Nat) (q:Rat):Int:=q.num * (b:Int).fdiv q.den
theorem GJ (q:Rat):(q.num:Rat) = q * (q.den:Rat):=by
 have h:(q.den:Rat) ≠ 0:=by
  have:=q.den_pos
  intro z
  have:((q.den:Int):Rat) = 0:=by rw [Rat.intCast_natCast];exact z
  rw [Rat.intCast_eq_zero_iff] at this
  omega
 have e:q = (q.num:Rat) / (q.den:Rat):=by
  conv=>lhs;rw [<- jM q,Rat.divInt_eq_div,Rat.intCast_natCast]
 grind
theorem iS {b:Nat} {q:Rat} (h:q.den ∣ b):((aU b q:Int):Rat) = q * (b:Rat):=by
 obtain ⟨c,rfl⟩:=h
 have hd:(q.den:Int) ≠ 0:=kB q
 unfold aU
 rw [Int.natCast_mul,Int.mul_fdiv_cancel_left _ hd,Rat.intCast_mul,GJ,Rat.natCast_mul,Rat.intCast_natCast]
 grind
theorem nF {b:Nat}:∀ {qs:List Rat},(∀ q ∈ qs,q.den ∣ b) -> (((qs.map (aU b)).sum:Int):Rat) = qs.sum * (b:Rat)
 | [],_=>by simp
 | q :: qs,h=>by
  rw [List.map_cons,List.sum_cons,List.sum_cons,Rat.intCast_add,iS (h q List.mem_cons_self),nF λp hp=>h p (List.mem_cons_of_mem _ hp)]
  grind
noncomputable def gf (m:List D -> O D):Prop:=∀ f qs k (b:Nat),xj k qs -> b < 2 ^ 8000 -> m [.lst f (aS qs),.int b] = ok (.lst .ow (ab (qs.map (aU b))))
noncomputable def fZ:List CS:=[.ret (.comp 1 (.nm 0) [1] .seq [(.v 0)] [] (.bin .mul (.ix (.v 0) (.int 0)) (.bin .fdiv (.v 1) (.ix (.v 0) (.int 1)))))]
theorem D8 {k:Nat} {qs:List Rat} (h:xj k qs) {q:Rat} (hq:q ∈ qs):Sm 3000 q:=by
 refine (h.sm q hq).mono ?_
 have h1:=h.mr
 have h2:0 < qs.length:=List.length_pos_of_mem hq
 have:k * 1 <= k * qs.length:=Nat.mul_le_mul_left _ h2
 omega
theorem bP (Φ:az):gf (mk Φ 2 2 fZ):=by
 intro f qs k b hs hb
 have qM:aQ Φ (.comp 1 (.nm 0) [1] .seq [(.v 0)] [] (.bin .mul (.ix (.v 0) (.int 0)) (.bin .fdiv (.v 1) (.ix (.v 0) (.int 1))))) [some (.lst f (aS qs)),some (.int b)] = ok (.lst .ow (ab (qs.map (aU b)))):=by
  rw [cV (xs:=[.lst (ba f) (aS qs)]) (items:=aS qs) (ds:=qs.map λq=>.int (aU b q)) (by simp) (by rw [fc];simp) (bE λq hq=>?_) (by have:=hs.len;simp;exact cj (by omega))]
  ·have:(qs.map λq=>D.int (aU b q)) = ab (qs.map (aU b)):=by simp [ab]
   rw [this,eR]
  ·refine ⟨[some (qD q),some (.int b)],by simp [bc],by simp,?_⟩
   have h3:=D8 hs hq
   obtain ⟨g1,g2⟩:=h3.big (by decide)
   have d1:dc .fdiv (.int b) (.int q.den) = ok (.int ((b:Int).fdiv q.den)):=sV (kM (kB q) g2)
   have d2:dc .mul (.int q.num) (.int ((b:Int).fdiv q.den)) = ok (.int (q.num * (b:Int).fdiv q.den)):=by
    refine gM (mulOk_of g1 ?_)
    rw [Int.fdiv_eq_ediv_of_nonneg _ (by omega),<- Int.natCast_ediv]
    have:=Nat.div_le_self b q.den
    have h9:=wq hb (by decide)
    rw [Int.natAbs_natCast];exact Nat.lt_of_le_of_lt this h9
   simp [d1,d2,aU]
 simp [mk_eq,fZ,qM]
noncomputable def ib (m:List D -> O D):Prop:=∀ f qs k,xj k qs -> m [.lst f (aS qs)] = ok (.tup [.int (bh qs),.lst .ow (ab (qs.map (aU (bh qs))))])
noncomputable def hZ:List CS:=[.asg (.nm 1) (.call 9 [(.v 0)]),.ret (.tup [(.v 1),(.call 10 [(.v 0),(.v 1)])])]
theorem xj.ES {k:Nat} {qs:List Rat} (h:xj k qs):bh qs < 2 ^ 8000:=Nat.lt_of_lt_of_le h.lcm.2.1 (Nat.pow_le_pow_right (by decide) (by have:=h.mr;omega))
theorem cv (Φ:az) (h9:dE (Φ 9)) (Kd:gf (Φ 10)):ib (mk Φ 1 2 hZ):=by
 intro f qs k hs
 have e1:=λf=>h9 f qs k hs
 have e2:=λf=>Kd f qs k (bh qs) hs hs.ES
 simp [mk_eq,hZ,e1,e2]
noncomputable def fi (m:List D -> O D):Prop:=∀ f qs k,xj k qs -> m [.lst f (aS qs)] = ok (qD qs.sum)
noncomputable def fh:List CS:=[.asg (.nm 1) (.call 41 [(.v 0)]),.ret (.call 2 [(.bf .iM [(.ix (.v 1) (.int 1))]),(.ix (.v 1) (.int 0))])]
theorem DT {b:Nat} {qs:List Rat} (h0:0 < b) (h:∀ q ∈ qs,q.den ∣ b):Rat.divInt (qs.map (aU b)).sum b = qs.sum:=by
 have hb:((b:Nat):Rat) ≠ 0:=by
  intro z
  have:((b:Int):Rat) = 0:=by rw [Rat.intCast_natCast];exact z
  rw [Rat.intCast_eq_zero_iff] at this
  omega
 rw [Rat.divInt_eq_div,nF h,Rat.intCast_natCast]
 grind
theorem bw (Φ:az) (h2:dA (Φ 2)) (Xm:ib (Φ 41)):fi (mk Φ 1 2 fh):=by
 intro f qs k hs
 have e1:=λf=>Xm f qs k hs
 obtain ⟨g1,g2,g3⟩:=hs.lcm
 have e2:=h2.1 (qs.map (aU (bh qs))).sum (bh qs) (by omega) (by have:=wq hs.ES (by decide);simpa using this)
 rw [DT g1 g3] at e2
 simp [mk_eq,fh,e1,e2]
end DI
end
section
namespace DI
open PySem (Str)
noncomputable def cc (n:Int):D -> Bool
 | .int i=>decide (0 <= i) && decide (i < n)
 | _=>false
theorem mn (g:Fl -> Fl) (n:Int) (d:D):cc n (aA g d) = cc n d:=by
 cases d <;> simp [cc]
theorem fX {n:Int}:∀ {ds:List D},ds.all (cc n) = true -> ∃ ns:List Int,ds = ab ns
 | [],_=>⟨[],rfl⟩
 | d :: ds,h=>by
  simp only [List.all_cons,Bool.and_eq_true] at h
  obtain ⟨ns,rfl⟩:=fX h.2
  cases d with
  | int i=>exact ⟨i :: ns,rfl⟩
  | _=>simp [cc] at h
noncomputable def numsOf (ds:List D):List Int:=(intsOf ds).getD []
theorem fV (ns:List Int):numsOf (ab ns) = ns:=by unfold numsOf ab;rw [aZ];rfl
noncomputable def cB (d:D) (n:Int):Bool:=match d with
 | .tup ds=>ds.all (cc n) && decide ((sC (numsOf ds)).length = ds.length)
 | _=>false
noncomputable def ux (d:D) (n:Int):Bool:=cB d n && (match d with
 | .tup ds=>decide (numsOf ds = sortI (numsOf ds))
 | _=>false)
noncomputable def fj (m:List D -> O D):Prop:=∀ d n,qi d -> m [d,.int n] = ok (.bl (cB d n))
noncomputable def df:List CS:=[.ifs (.not (.oo (.v 0) .tuple)) [.ret (.bl false)] [],.ifs (.not (.bf .all1 [(.comp 1 (.nm 0) [1] .seq [(.v 0)] [] (.and [(.call 0 [(.v 0)]),(.cmp .ge (.v 0) (.int 0)),(.cmp .lt (.v 0) (.v 1))]))])) [.ret (.bl false)] [],.ret (.cmp .eq (.lH (.v 0)) (.bf .len [(.v 0)]))]
theorem bx (Φ:az) (h0:dW (Φ 0)):fj (mk Φ 2 2 df):=by
 intro d n hc
 unfold dW at h0
 cases d with
 | tup ds =>
  have hl:ds.length < 64:=hc
  have qM:aQ Φ (.comp 1 (.nm 0) [1] .seq [(.v 0)] [] (.and [(.call 0 [(.v 0)]),(.cmp .ge (.v 0) (.int 0)),(.cmp .lt (.v 0) (.v 1))])) [some (.tup ds),some (.int n)] = ok (.lst .ow (kR (ds.map (cc n)))):=by
   rw [cV (xs:=[.tup (af ba ds)]) (by simp) (ya ..) (vc (g:=λd=>.bl (cc n d)) λx _=>⟨[some x,some (.int n)],by simp [bc],by simp,?_⟩) (by simp;exact cj (by omega))]
   ·simp [av,Function.comp_def,mn,kR]
   ·cases x with
    | int i =>
     simp [h0,d5,dS,cc]
    | _=>simp [h0,d5,dS,cc]
  cases ha:ds.all (cc n) with
  | true =>
   obtain ⟨ns,rfl⟩:=fX ha
   have vF:ns.length < 4000:=by simp at hl;omega
   have e:(List.all (List.map (cc n) (ab ns)) id) = true:=by rw [List.all_map];exact ha
   simp [mk_eq,df,dS,qM,e,KO vF,cB,ha,fV]
   simp [Int.natCast_inj]
  | false =>
   have e:(List.all (List.map (cc n) ds) id) = false:=by rw [List.all_map];exact ha
   simp only [mk_eq,df,List.length_cons,List.length_nil]
   simp [dS,qM,e,cB,ha]
 | _=>simp [mk_eq,df,dS,cB]
noncomputable def pd (m:List D -> O D):Prop:=∀ d n,qi d -> m [d,.int n] = ok (.bl (ux d n))
noncomputable def gN:List CS:=[.ret (.and [(.call 43 [(.v 0),(.v 1)]),(.cmp .eq (.bf .list1 [(.v 0)]) (.bf .fS [(.v 0)]))])]
theorem uo (n:Nat) (f:Fl) (ns:List Int):cK (n + 1) (.lst f (ab ns)) = true:=g9 (fU n) ns
theorem Ad (ns ms:List Int):dq (ab ns) (ab ms) = decide (ns = ms):=i8 (λx y=>sv x y) ns ms
theorem kF (g:Fl -> Fl) (d:D) (n:Int):cB (aA g d) n = cB d n:=by
 cases d with
 | tup ds =>
  cases h:ds.all (cc n) with
  | true =>
   obtain ⟨ns,rfl⟩:=fX h
   simp
  | false =>
   have h2:(af g ds).all (cc n) = false:=by
    rw [av,List.all_map,show (cc n ∘ aA g) = cc n from funext λd=>mn g n d];exact h
   simp [cB,h,h2]
 | _=>simp [cB]
theorem ju {g:Fl -> Fl} {d:D} (h:qi d):qi (aA g d):=by
 cases d <;> simp_all [qi]
theorem d7 (Φ:az) (Xl:fj (Φ 43)):pd (mk Φ 2 2 gN):=by
 intro d n hc
 have e1:=Xl (aA aI (aA ba d)) n (ju (ju hc))
 rw [kF,kF] at e1
 cases d with
 | tup ds =>
  have hl:ds.length < 64:=hc
  simp only [BQ] at e1
  cases ha:cB (.tup ds) n with
  | true =>
   have Q4:=ha
   simp only [cB,Bool.and_eq_true] at Q4
   obtain ⟨ns,rfl⟩:=fX Q4.1
   have vF:ns.length < 64:=by simpa using hl
   have e2:eG .eq (.lst .ow (ab ns)) (.lst .ow (ab (sortI ns))) = ok (.bl (decide (ns = sortI ns))):=by
    rw [FU (uo 39 _ _) (uo 39 _ _),FC,Ad]
   rw [ha] at e1
   simp at e1
   simp [mk_eq,gN,e1,yA vF,e2,ux,ha,fV]
  | false =>
   rw [ha] at e1
   simp [mk_eq,gN,e1,ux,ha]
 | _=>(simp at e1;simp [mk_eq,gN,e1,ux,cB])
noncomputable def C5 (n:Nat) (l:List Int):Prop:=l.Pairwise (· < ·) /\ ∀ h ∈ l,0 <= h /\ h < (n:Int)
theorem sA:∀ (l m:List Int),(∀ x ∈ l,x ∉ m) -> l.Nodup -> l.foldl (λ(m:List Int) (k:Int)=>if m.any (· == k) then m else m ++ [k]) m = m ++ l
 | [],m,_,_=>by simp
 | x :: l,m,h,hn=>by
  have hx:m.any (· == x) = false:=by
   rw [List.any_eq_false]
   intro y hy z
   have:y = x:=by simpa using z
   exact h x List.mem_cons_self (this ▸ hy)
  rw [List.foldl_cons,hx,if_neg Bool.false_ne_true,sA l (m ++ [x])]
  ·simp
  ·intro y hy z
   rcases List.mem_append.mp z with z | z
   ·exact h y (List.mem_cons_of_mem _ hy) z
   ·have:y = x:=by simpa using z
    subst this
    exact (List.nodup_cons.mp hn).1 hy
  ·exact (List.nodup_cons.mp hn).2
theorem C5.nodup {n:Nat} {l:List Int} (h:C5 n l):l.Nodup:=h.1.imp λz=>by omega
theorem Ba {l:List Int} (h:l.Pairwise (· < ·)):sortI l = l:=by
 unfold sortI
 apply List.mergeSort_of_pairwise
 exact h.imp λz=>by simp;omega
theorem C5.ux {n:Nat} {l:List Int} (h:C5 n l):ux (.tup (ab l)) n = true:=by
 have h1:(ab l).all (cc n) = true:=by
  unfold ab
  rw [List.all_map,List.all_eq_true]
  intro x hx
  have:=h.2 x hx
  simp [cc,this.1,this.2]
 have h2:sC l = l:=by
  have:=sA l [] (by simp) h.nodup
  rw [List.nil_append] at this
  exact this
 simp [DI.ux,cB,h1,fV,h2,Ba h.1]
noncomputable def kZ (c:Nat) (p:D -> Int -> Bool) (m:List D -> O D):Prop:=∀ d n,qi d -> m [d,.int n] = if p d n then ok .bA else some (.error c)
noncomputable def kW (f c:Nat):List CS:=[.ifs (.not (.call f [(.v 0),(.v 1)])) [.rs c] []]
theorem Au (g:Fl -> Fl) (d:D) (n:Int):lU (aA g d) n = lU d n:=by
 cases d <;> simp [lU]
 rw [av,List.all_map,show (dZ ∘ aA g) = dZ from funext λd=>jO g d]
theorem Ed (Φ:az) {f c:Nat} {p:D -> Int -> Bool} (hp:∀ g d n,p (aA g d) n = p d n) (h:∀ d n,qi d -> Φ f [d,.int n] = ok (.bl (p d n))):kZ c p (mk Φ 2 2 (kW f c)):=by
 intro d n hc
 have e1:=h (aA aI (aA ba d)) n (ju (ju hc))
 rw [hp,hp] at e1
 cases hd:p d n with
 | true=>rw [hd] at e1;simp [mk_eq,kW,e1]
 | false=>rw [hd] at e1;simp [mk_eq,kW,e1]
end DI
end
section
namespace DI
open PySem (Str)
noncomputable def jI (ns:List Int) (k:Int):Int :=
 let c:=if k < ns.length then ns.getD k.toNat 0 else 0
 if (10:Int) ^ 18 <= c then (c - 10 ^ 18).fmod (10 ^ 60) else
  let n:=(c * 48271 + k * 69621 + 11).fmod 2147483629
  let n:=(n * n).fmod 2147483587
  n * 2147483563 + (n * n).fmod 2147483563
noncomputable def lX (m:List D -> O D):Prop:=∀ (ns:List Int) (k:Int),0 <= k -> m [.lst .sc (ab ns),.int k] = ok (.int (jI ns k))
noncomputable def eX:List CS:=[.asg (.nm 2) (.int 0),.ifs (.cmp .lt (.v 1) (.bf .len [(.v 0)])) [.asg (.nm 2) (.ix (.v 0) (.v 1))] [],.ifs (.cmp .ge (.v 2) (.bin .pow (.int 10) (.int 18))) [.ret (.bin .mod (.bin .sub (.v 2) (.bin .pow (.int 10) (.int 18))) (.bin .pow (.int 10) (.int 60)))] [],.asg (.nm 3) (.bin .mod (.bin .add (.bin .add (.bin .mul (.v 2) (.int 48271)) (.bin .mul (.v 1) (.int 69621))) (.int 11)) (.int 2147483629)),.asg (.nm 3) (.bin .mod (.bin .mul (.v 3) (.v 3)) (.int 2147483587)),.ret (.bin .add (.bin .mul (.v 3) (.int 2147483563)) (.bin .mod (.bin .mul (.v 3) (.v 3)) (.int 2147483563)))]
theorem ff (a:Int) {b:Int} (h:0 < b):0 <= a.fmod b /\ a.fmod b < b:=⟨Int.fmod_nonneg_of_pos a h,Int.fmod_lt_of_pos a h⟩
theorem Am (Φ:az) (x:D) (k c:Int) (hx:dS .list x = true) (o:Option D):p_ (bM Φ (eX.drop 2) [some x,some (.int k),some (.int c),o]) = ok (.int (if (10:Int) ^ 18 <= c then (c - 10 ^ 18).fmod (10 ^ 60) else
  let n:=(c * 48271 + k * 69621 + 11).fmod 2147483629
  let n:=(n * n).fmod 2147483587
  n * 2147483563 + (n * n).fmod 2147483563)):=by
 have p1:dc .pow (.int 10) (.int 18) = ok (.int (10 ^ 18)):=Ho (by decide)
 have p2:dc .pow (.int 10) (.int 60) = ok (.int (10 ^ 60)):=Ho (by decide)
 by_cases h:(10:Int) ^ 18 <= c
 ·have h':(1000000000000000000:Int) <= c:=h
  simp [eX,p1,p2,h']
 ·have h':¬ (1000000000000000000:Int) <= c:=h
  obtain ⟨a1,a2⟩:=ff (c * 48271 + k * 69621 + 11) (b:=2147483629) (by decide)
  generalize hn:(c * 48271 + k * 69621 + 11).fmod 2147483629 = n at *
  obtain ⟨a3,a4⟩:=ff (n * n) (b:=2147483587) (by decide)
  have m1:dc .mul (.int n) (.int n) = ok (.int (n * n)):=gM (rO _ (by omega))
  generalize hm:(n * n).fmod 2147483587 = m at *
  have m2:dc .mul (.int m) (.int m) = ok (.int (m * m)):=gM (rO _ (by omega))
  simp [eX,p1,h',hn,m1,hm,m2]
theorem Iq (Φ:az):lX (mk Φ 2 4 eX):=by
 intro ns k hk
 have:=λc=>Am Φ (.lst .sc (ab ns)) k c rfl none
 by_cases h:k < ns.length
 ·have hg:qZ (ab ns) k = ok (.int (ns.getD k.toNat 0)):=by
   have hl:k.toNat < ns.length:=by omega
   rw [at_of hk (d:=.int (ns.getD k.toNat 0)) (by rw [zM,List.getElem?_eq_getElem hl,Option.map_some,List.getD_eq_getElem?_getD,List.getElem?_eq_getElem hl];rfl)]
   simp
  have e:p_ (bM Φ eX ([some (D.lst Fl.sc (ab ns)),some (D.int k)] ++ [none,none])) = p_ (bM Φ (eX.drop 2) [some (.lst .sc (ab ns)),some (.int k),some (.int (ns.getD k.toNat 0)),none]):=by
   rw [eX,jK,Gk]
   simp only [G4,Hh,uC,oA]
   simp only [List.cons_append,List.nil_append,yY,List.length_cons,List.length_nil,Nat.reduceAdd,Nat.reduceLT,tL,List.set_cons_succ,List.set_cons_zero]
   rw [jK,Mc]
   simp [h,hg]
  rw [mk_eq (ar:=2) (ds:=[_,_]) rfl]
  refine (show _ = _ from e).trans ?_
  rw [this,jI,if_pos h]
 ·have e:p_ (bM Φ eX ([some (D.lst Fl.sc (ab ns)),some (D.int k)] ++ [none,none])) = p_ (bM Φ (eX.drop 2) [some (.lst .sc (ab ns)),some (.int k),some (.int 0),none]):=by
   rw [eX,jK,Gk]
   simp only [G4,Hh,uC,oA]
   simp only [List.cons_append,List.nil_append,yY,List.length_cons,List.length_nil,Nat.reduceAdd,Nat.reduceLT,tL,List.set_cons_succ,List.set_cons_zero]
   rw [jK,Mc]
   simp [h]
  rw [mk_eq (ar:=2) (ds:=[_,_]) rfl]
  refine (show _ = _ from e).trans ?_
  rw [this,jI,if_neg h]
noncomputable def kh:CS:=.HD (.cmp .gt (.v 3) (.int 0)) [.par 2 3 (.v 3) (.bin .mod (.v 2) (.v 3))]
noncomputable def kS:List CS:=[.asg (.nm 2) (.bf .abs [(.v 0)]),.asg (.nm 3) (.bf .abs [(.v 1)]),kh,.ifs (.cmp .lt (.v 1) (.int 0)) [.asg (.nm 2) (.bin .sub (.int 0) (.v 2))] [],.ret (.tup [(.bin .fdiv (.v 0) (.v 2)),(.bin .fdiv (.v 1) (.v 2))])]
theorem wt (Φ:az) (x y:Option D):∀ (n:Nat) (a b:Nat),b <= n -> p9 Φ kh [x,y,some (.int a),some (.int b)] = ok (.nx,[x,y,some (.int (Nat.gcd a b)),some (.int 0)]):=by
 intro n
 induction n with
 | zero =>
  intro a b h
  have hb:b = 0:=by omega
  subst hb
  rw [kh,qo]
  exact gW (by simp)
 | succ n ih =>
  intro a b h
  by_cases hb:b = 0
  ·subst hb
   rw [kh,qo]
   exact gW (by simp)
  ·have hV:=Nat.mod_lt a (show 0 < b by omega)
   have e:=ih b (a % b) (by omega)
   have eg:Nat.gcd b (a % b) = Nat.gcd a b:=by rw [Nat.gcd_comm a b,Nat.gcd_rec b a,Nat.gcd_comm]
   rw [eg] at e
   rw [kh,qo] at e ⊢
   rw [<- e]
   have uI:0 < b:=by omega
   have em:((a:Int)).fmod (b:Int) = ((a % b:Nat):Int):=by
    rw [Int.fmod_eq_emod_of_nonneg _ (by omega)];exact (Int.natCast_emod a b).symm
   have ep:p9 Φ (.par 2 3 (.v 3) (.bin .mod (.v 2) (.v 3))) [x,y,some (.int a),some (.int b)] = ok (.nx,[x,y,some (.int b),some (.int ((a % b:Nat):Int))]):=by
    rw [Mb]
    simp [hb,em]
   exact ny (by simp [uI,ep])
theorem Ec (Φ:az):ic (mk Φ 2 4 kS):=by
 intro t b hb h
 obtain ⟨e1,e2⟩:=su (t:=t) hb
 have d1:=m6 (t:=t) hb h t
 have d2:=m6 (t:=t) hb h b
 have hl:=wt Φ (some (.int t)) (some (.int b)) b.natAbs t.natAbs b.natAbs (Nat.le_refl _)
 rw [qD,<- e1,<- e2]
 by_cases hn:b < 0
 ·have ed:0 - (Nat.gcd t.natAbs b.natAbs:Int) = fL t b:=by simp [fL,hn,Int.gcd]
  have ed':-(Nat.gcd t.natAbs b.natAbs:Int) = fL t b:=by simp [fL,hn,Int.gcd]
  simp [mk_eq,kS,hl,hn,ed',d1,d2]
 ·have ed:(Nat.gcd t.natAbs b.natAbs:Int) = fL t b:=by simp [fL,hn,Int.gcd]
  simp [mk_eq,kS,hl,hn,ed,d1,d2]
noncomputable def C2 (m:List D -> O D):Prop:=∀ q,m [qD q] = ok (.bl true)
noncomputable def yV:List CS:=[.ifs (.or [(.not (.oo (.v 0) .tuple)),(.cmp .ne (.bf .len [(.v 0)]) (.int 2))]) [.ret (.bl false)] [],.ret (.cmp .eq (.bf .len [(.comp 1 (.nm 0) [] .seq [(.v 0)] [(.or [(.not (.oo (.v 0) .int)),(.oo (.v 0) .bool)])] (.v 0))]) (.int 0))]
theorem MX (Φ:az):C2 (mk Φ 1 1 yV):=by
 intro q
 have hc:aQ Φ (.comp 1 (.nm 0) [] .seq [(.v 0)] [(.or [(.not (.oo (.v 0) .int)),(.oo (.v 0) .bool)])] (.v 0)) [some (qD q)] = ok (.lst .ow []):=by
  rw [cV (xs:=[qD q]) (items:=[.int q.num,.int q.den]) (ds:=[]) (by simp) (by unfold qD;rw [ya];simp) (by simp [gL,bc,dS]) (by simp)]
  simp
 have h2:dS .tuple (qD q) = true:=rfl
 have h3:qk .len [qD q] = ok (.int 2):=rfl
 simp [mk_eq,yV,hc,h2,h3]
end DI
end
section
namespace DI
open PySem (Str)
noncomputable def ng (qs:List Rat) (h:Int):Rat:=qs.getD h.toNat 0
theorem nc {qs:List Rat} {h:Int} (h0:0 <= h) (h1:h < qs.length):qs[h.toNat]? = some (ng qs h) /\ ng qs h ∈ qs:=by
 have hl:h.toNat < qs.length:=by omega
 have e:qs[h.toNat]? = some (ng qs h):=by
  unfold ng
  rw [List.getD_eq_getElem?_getD,List.getElem?_eq_getElem hl];rfl
 exact ⟨e,List.mem_of_getElem? e⟩
theorem Qf {qs:List Rat} {h:Int} (h0:0 <= h) (h1:h < qs.length):qZ (aS qs) h = ok (qD (ng qs h)):=by
 rw [at_of h0 (d:=qD (ng qs h)) (by rw [Ek,(nc h0 h1).1];rfl)]
 simp
theorem yC (ps qs:List Rat):dq (aS ps) (aS qs) = decide (ps = qs):=i8 uW ps qs
theorem wc (n:Nat) (f:Fl) (qs:List Rat):cK (n + 2) (.lst f (aS qs)) = true:=g9 (qF n) qs
theorem qB {q:Rat} (h:0 < q):0 < q.num:=by
 have:=(Rat.lt_iff 0 q).mp h
 simpa using this
theorem C5.len {n:Nat} {l:List Int} (h:C5 n l):l.length <= n:=by
 have hn:(l.map Int.toNat).Nodup:=by
  unfold List.Nodup
  rw [List.pairwise_map]
  refine h.1.imp_of_mem λha hb z e=>?_
  have:=h.2 _ ha
  have:=h.2 _ hb
  omega
 have hs:(l.map Int.toNat) ⊆ List.range n:=λx hx=>by
  obtain ⟨y,hy,rfl⟩:=List.mem_map.mp hx
  have:=h.2 y hy
  rw [List.mem_range];omega
 have:=hn.length_le_of_subset hs
 simpa using this
theorem C5.eM {n:Nat} {l:List Int} (h:C5 n l) (hn:n <= 12):qi (.tup (ab l)):=by
 have:=h.len
 show (ab l).length < 64
 simp;omega
end DI
end
section
namespace DI
open PySem (Str)
theorem GC {t b:Int} {k:Nat} (h0:b ≠ 0) (h1:t.natAbs < 2 ^ k) (h2:b.natAbs < 2 ^ k):Sm k (Rat.divInt t b):=qw h0 h1 h2
theorem wV {t b:Int} (ht:0 < t) (hb:0 < b):0 < Rat.divInt t b:=by
 rw [Rat.divInt_eq_div]
 have h1:(0:Rat) < (t:Rat):=by
  have:=Rat.intCast_lt_intCast (a:=0) (b:=t);simpa using this.mpr ht
 have h2:(0:Rat) < (b:Rat):=by
  have:=Rat.intCast_lt_intCast (a:=0) (b:=b);simpa using this.mpr hb
 rw [Rat.div_def]
 exact Rat.mul_pos h1 (Rat.inv_pos.mpr h2)
end DI
end
section
namespace DI
open PySem (Str)
theorem Sm.neg {k:Nat} {q:Rat} (h:Sm k q):Sm k (-q):=⟨by simpa using h.1,h.2⟩
theorem Sm.zero (k:Nat) (h:1 <= k):Sm k 0:=by
 have:Sm 1 (0:Rat):=by constructor <;> decide
 exact this.mono h
theorem Sm.sum {k:Nat}:∀ {qs:List Rat},(∀ q ∈ qs,Sm k q) -> Sm (1 + (k + 1) * qs.length) qs.sum
 | [],_=>Sm.zero _ (by simp)
 | q :: qs,h=>by
  have h1:=h q List.mem_cons_self
  have h2:=Sm.sum (qs:=qs) λp hp=>h p (List.mem_cons_of_mem _ hp)
  rw [List.sum_cons]
  refine (h1.add h2).mono ?_
  rw [List.length_cons,Nat.mul_succ];omega
noncomputable def R8 (l:List Int) (f:Int -> Rat):Rat:=(l.map f).sum
@[simp] theorem MH (f:Int -> Rat):R8 [] f = 0:=rfl
end DI
end
section
namespace DI
open PySem (Str)
noncomputable abbrev Row:=Rat × List Int
noncomputable def rD (r:Row):D:=.tup [qD r.1,.tup (ab r.2)]
@[simp] theorem Jk (g:Fl -> Fl) (r:Row):aA g (rD r) = rD r:=by unfold rD;simp
@[simp] theorem J6 (g:Fl -> Bool) (r:Row):aH g (rD r) = false:=by unfold rD;simp
noncomputable def bH (rs:List Row):List D:=rs.map rD
@[simp] theorem QC (rs:List Row):(bH rs).length = rs.length:=List.length_map ..
@[simp] theorem kC (g:Fl -> Fl) (rs:List Row):af g (bH rs) = bH rs:=cG g (Jk g) rs
@[simp] theorem OE (g:Fl -> Bool) (rs:List Row):aw g (bH rs) = false:=cH g (J6 g) rs
theorem Nt (n:Nat) (r:Row):cK (n + 2) (rD r) = true:=by
 unfold rD
 rw [js,List.all_cons,List.all_cons,qF n]
 have:cK (n + 1) (.tup (ab r.2)) = true:=by
  rw [js];exact g9 (λ_=>by cases n <;> rfl) r.2
 rw [this];rfl
theorem uX (a b:List Int):dq (ab a) (ab b) = decide (a = b):=i8 (λx y=>by show (x == y) = _;rfl) a b
theorem O7 (r s:Row):kc (rD r) (rD s) = decide (r = s):=by
 unfold rD
 show (kc (qD r.1) (qD s.1) && (dq (ab r.2) (ab s.2) && true)) = _
 rw [uW,uX,Bool.and_true]
 have:decide (r = s) = decide (r.1 = s.1 /\ r.2 = s.2):=by
  congr 1
  exact propext ⟨λh=>by rw [h];exact ⟨rfl,rfl⟩,λh=>Prod.ext h.1 h.2⟩
 rw [this,<- Bool.decide_and]
theorem Fz (r s:List Row):dq (bH r) (bH s) = decide (r = s):=i8 O7 r s
noncomputable def bU (n:Nat) (rs:List Row):D:=.tup [.int n,.lst .fz (bH rs)]
noncomputable def Lp (rs:List Row):Prop:=∃ W:Nat,0 < W /\ W < 64 /\ ∀ r ∈ rs,r.1.den ∣ W
noncomputable def Rw (n:Nat) (l:List Int):Prop:=l.Nodup /\ l.length <= n /\ ∀ h ∈ l,0 <= h /\ h < (n:Int)
theorem C5.rw {n:Nat} {l:List Int} (h:C5 n l):Rw n l:=⟨h.nodup,h.len,h.2⟩
structure Dp (P:List Int -> Prop) (k n:Nat) (rs:List Row):Prop where
 n1:1 <= n
 n2:n <= 12
 mr:k * (rs.length + 1) <= 66
 fin:k * (rs.length + 1) <= 60 \/ Lp rs
 len:rs.length <= 1000
 Dh:∀ r ∈ rs,P r.2
 pos:∀ r ∈ rs,0 < r.1
 sm:∀ r ∈ rs,Sm k r.1
 one:(rs.map (·.1)).sum = 1
 rise:xl (rs.map (·.2))
noncomputable abbrev Dr (k n:Nat) (rs:List Row):Prop:=Dp (C5 n) k n rs
theorem Dp.imp {P Q:List Int -> Prop} {k n:Nat} {rs:List Row} (I:Dp P k n rs) (h:∀ r ∈ rs,P r.2 -> Q r.2):Dp Q k n rs:=⟨I.n1,I.n2,I.mr,I.fin,I.len,λr hr=>h r hr (I.Dh r hr),I.pos,I.sm,I.one,I.rise⟩
noncomputable def di (rs:List Row):List Rat:=rs.map (·.1)
section
variable {P:List Int -> Prop} {k n:Nat} {rs:List Row} (I:Dp P k n rs)
include I
theorem Dp.Lu:xj k (di rs):=⟨λq hq=>by
 obtain ⟨r,hr,rfl⟩:=List.mem_map.mp hq
 exact I.sm r hr,by
  have:=I.mr
  have h:k * (di rs).length <= k * (rs.length + 1):=Nat.mul_le_mul_left _ (by simp [di])
  omega,by simp [di];exact I.len⟩
omit I in
theorem oh {W:Nat}:∀ (qs:List Rat) (b:Nat),b ∣ W -> (∀ q ∈ qs,q.den ∣ W) -> qs.foldl (λb q=>Nat.lcm b q.den) b ∣ W
 | [],_,h,_=>h
 | q :: qs,b,h,hq=>oh qs _ (Nat.lcm_dvd h (hq q List.mem_cons_self)) λp hp=>hq p (List.mem_cons_of_mem _ hp)
theorem Dp.bot:0 < bh (di rs) /\ bh (di rs) < 2 ^ 61 /\ ∀ q ∈ di rs,q.den ∣ bh (di rs):=by
 obtain ⟨a,b,c⟩:=I.Lu.lcm
 refine ⟨a,?_,c⟩
 rcases I.fin with f | ⟨W,w0,w1,w2⟩
 ·refine Nat.lt_of_lt_of_le b (Nat.pow_le_pow_right (by decide) ?_)
  have h:k * (di rs).length <= k * (rs.length + 1):=Nat.mul_le_mul_left _ (by simp [di])
  omega
 ·have:bh (di rs) ∣ W:=oh _ 1 (Nat.one_dvd _) λq hq=>by
   obtain ⟨r,hr,rfl⟩:=List.mem_map.mp hq
   exact w2 r hr
  exact Nat.lt_of_le_of_lt (Nat.le_of_dvd w0 this) (Nat.lt_of_lt_of_le w1 (by decide))
theorem Dp.top {r:Row} (hr:r ∈ rs):(aU (bh (di rs)) r.1).natAbs < 2 ^ 64:=by
 obtain ⟨a,b,c⟩:=I.Lu.lcm
 have s:=I.sm r hr
 unfold aU
 rw [Int.natAbs_mul,Int.fdiv_eq_ediv_of_nonneg _ (by omega),<- Int.natCast_ediv,Int.natAbs_natCast]
 have h4:(di rs).length = rs.length:=by simp [di]
 have h3:=I.mr
 rcases I.fin with f | ⟨W,w0,w1,w2⟩
 ·have h1:bh (di rs) / r.1.den < 2 ^ (1 + k * (di rs).length):=Nat.lt_of_le_of_lt (Nat.div_le_self _ _) b
  have h2:=aO s.1 h1
  refine Nat.lt_of_lt_of_le h2 (Nat.pow_le_pow_right (by decide) ?_)
  rw [h4]
  rw [Nat.mul_succ] at f
  omega
 ·have:bh (di rs) ∣ W:=oh _ 1 (Nat.one_dvd _) λq hq=>by
   obtain ⟨r,hr,rfl⟩:=List.mem_map.mp hq
   exact w2 r hr
  have h1:bh (di rs) / r.1.den < 2 ^ 6:=Nat.lt_of_le_of_lt (Nat.div_le_self _ _) (Nat.lt_of_le_of_lt (Nat.le_of_dvd w0 this) w1)
  have h2:=aO s.1 h1
  refine Nat.lt_of_lt_of_le h2 (Nat.pow_le_pow_right (by decide) ?_)
  have hl:1 <= rs.length:=List.length_pos_of_mem hr
  have:k * 2 <= k * (rs.length + 1):=Nat.mul_le_mul_left _ (by omega)
  omega
end
noncomputable def kY (m:List D -> O D):Prop:=∀ (r:Row) (n:Nat),n <= 12 -> Rw n r.2 -> 0 < r.1 -> m [rD r,.int n] = ok (.bl true)
noncomputable def kU:List CS:=[.ifs (.or [(.not (.oo (.v 0) .tuple)),(.cmp .ne (.bf .len [(.v 0)]) (.int 2))]) [.ret (.bl false)] [],.ifs (.not (.call 43 [(.ix (.v 0) (.int 1)),(.v 1)])) [.ret (.bl false)] [],.ret (.and [(.call 3 [(.ix (.v 0) (.int 0))]),(.cmp .gt (.ix (.ix (.v 0) (.int 0)) (.int 0)) (.int 0))])]
theorem Rw.JR {n:Nat} {l:List Int} (h:Rw n l):cB (.tup (ab l)) n = true:=by
 have h1:(ab l).all (cc n) = true:=by
  unfold ab
  rw [List.all_map,List.all_eq_true]
  intro x hx
  have:=h.2.2 x hx
  simp [cc,this.1,this.2]
 have h2:sC l = l:=by
  have:=sA l [] (by simp) h.1
  rw [List.nil_append] at this
  exact this
 simp [cB,h1,fV,h2]
theorem Rw.eM {n:Nat} {l:List Int} (h:Rw n l) (hn:n <= 12):qi (.tup (ab l)):=by
 have:=h.2.1
 show (ab l).length < 64
 simp;omega
theorem d6 (Φ:az) (h3:dz (Φ 3)) (Xl:fj (Φ 43)):kY (mk Φ 2 2 kU):=by
 intro r n hn hl hp
 have e1:=Xl (.tup (ab r.2)) n (hl.eM hn)
 rw [hl.JR] at e1
 have e2:=h3 (qD r.1)
 rw [yy] at e2
 have WO:=qB hp
 have e3:rD r = .tup [qD r.1,.tup (ab r.2)]:=rfl
 have e4:qD r.1 = .tup [.int r.1.num,.int r.1.den]:=rfl
 simp [mk_eq,kU,e3,dS,e1,e2]
 simp [e4,WO]
theorem Eg {Φ:az} (kH:Φ 1022 = Hc) {a b:List Int} (h:HT.lexLt a b = true):Φ 1022 [.tup (ab a),.tup (ab b)] = ok (.bl false):=by
 rw [kH]
 show (match intsOf (ab a) with | some ns=>(match intsOf (ab b) with | some ms=>ok (D.bl (!HT.lexLt ns ms)) | none=>none) | none=>none) = _
 unfold ab
 rw [aZ,aZ]
 show ok (D.bl (!HT.lexLt a b)) = _
 rw [h];rfl
noncomputable def jc (m:List D -> O D):Prop:=∀ (rs:List Row),1 <= rs.length -> xl (rs.map (·.2)) -> m [.lst .fz (bH rs)] = ok (.bl true)
noncomputable def DU:List CS:=[.ifs (.du 1022 [(.ix (.v 1) (.int 1)),(.ix (.v 2) (.int 1))]) [.ret (.bl false)] []]
noncomputable def gd:List CS:=[.fr (.tp [1,2]) (.De 1000 [(.v 0),(.du 1020 [(.v 0),(.int 1)])]) DU,.ret (.bl true)]
theorem xG (Φ:az) (kH:Φ 1022 = Hc) (c0:Option D):∀ (rs:List Row) (r:Row) (c1 c2:Option D),xl ((r :: rs).map (·.2)) ->
  ∃ Zz Lf,eW (λd ρ=>cC (.tp [1,2]) d ρ) (λρ=>bM Φ DU ρ) (List.zipWith (λx y=>D.tup [x,y]) (bH (r :: rs)) (bH rs)) [c0,c1,c2] = ok (.nx,[c0,Zz,Lf])
 | [],r,c1,c2,_=>⟨c1,c2,rfl⟩
 | s :: rs,r,c1,c2,h=>by
  have h':=List.pairwise_cons.mp h
  obtain ⟨Zz,Lf,ih⟩:=xG Φ kH c0 rs s (some (rD r)) (some (rD s)) h'.2
  have hl:=h'.1 s.2 (by simp)
  have e:=Eg kH hl
  refine ⟨Zz,Lf,fJ (ρ1:=[c0,some (rD r),some (rD s)]) (by simp) (ρ2:=[c0,some (rD r),some (rD s)]) ?_ ih⟩
  have e1:∀ r:Row,rD r = .tup [qD r.1,.tup (ab r.2)]:=λ_=>rfl
  simp [DU,e1,e]
theorem bR (Φ:az) (fY:Φ 1000 = nr) (yq:Φ 1020 = cutD true) (kH:Φ 1022 = Hc):jc (mk Φ 1 3 gd):=by
 intro rs h1 hr
 obtain ⟨r,rs,rfl⟩:∃ r wa,rs = r :: wa:=by
  cases rs with
  | nil=>simp at h1
  | cons r rs=>exact ⟨r,rs,rfl⟩
 obtain ⟨c1,c2,e⟩:=xG Φ kH (some (.lst .fz (bH (r :: rs)))) rs r none none hr
 have e1:Φ 1020 [.lst .fz (bH (r :: rs)),.int 1] = ok (.lst .ow (bH rs)):=by
  rw [yq]
  show (if (0:Int) <= 1 /\ (1:Int) <= ((bH (r :: rs)).length:Nat) then ok (D.lst .ow (af ba (qa true (1:Int).toNat (bH (r :: rs))))) else none) = _
  rw [if_pos ⟨by decide,by simp;omega⟩]
  show ok (D.lst .ow (af ba (bH rs))) = _
  simp
 have e2:Φ 1000 [.lst .fz (bH (r :: rs)),.lst .ow (bH rs)] = ok (.lst .ow (List.zipWith (λx y=>D.tup [x,y]) (bH (r :: rs)) (bH rs))):=by rw [fY];rfl
 have e3:af aI (List.zipWith (λx y=>D.tup [x,y]) (bH (r :: rs)) (bH rs)) = List.zipWith (λx y=>D.tup [x,y]) (bH (r :: rs)) (bH rs):=by
  have:=cQ aI (bH (r :: rs)) (bH rs)
  rw [kC,kC] at this
  exact this
 have hit:gn Φ (.De 1000 [(.v 0),(.du 1020 [(.v 0),(.int 1)])]) [some (.lst .fz (bH (r :: rs))),none,none] = ok (List.zipWith (λx y=>D.tup [x,y]) (bH (r :: rs)) (bH rs),[some (.lst .fz (bH (r :: rs))),none,none]):=by
  show bd (cD Φ [(.v 0),(.du 1020 [(.v 0),(.int 1)])] [some (.lst .fz (bH (r :: rs))),none,none]) _ = _
  have:cD Φ [(.v 0),(.du 1020 [(.v 0),(.int 1)])] [some (.lst .fz (bH (r :: rs))),none,none] = ok [.lst .fz (bH (r :: rs)),.lst .ow (bH rs)]:=by simp [e1]
  rw [this,dU,e2,dU]
  show ok (af aI (List.zipWith (λx y=>D.tup [x,y]) (bH (r :: rs)) (bH rs)),if aw b_ [D.lst .fz (bH (r :: rs)),.lst .ow (bH rs)] then _ else _) = _
  rw [e3]
  simp
 have hf:=iH (Φ:=Φ) (t:=.tp [1,2]) (b:=DU) hit e
 simp [mk_eq,gd,hf]
end DI
end
section
namespace DI
open PySem (Str)
noncomputable def fF (rs:List Row):List D:=rs.map λr=>.tup (ab r.2)
@[simp] theorem n9 (g:Fl -> Fl) (rs:List Row):af g (fF rs) = fF rs:=cG g (λr=>by simp) rs
@[simp] theorem J3 (g:Fl -> Bool) (rs:List Row):aw g (fF rs) = false:=cH g (λr=>by simp) rs
noncomputable def nu (b:Nat) (rs:List Row):List D:=rs.map λr=>.tup [.int (aU b r.1),.tup (ab r.2)]
@[simp] theorem uu (g:Fl -> Fl) (b:Nat) (rs:List Row):af g (nu b rs) = nu b rs:=cG g (λr=>by simp) rs
@[simp] theorem OD (g:Fl -> Bool) (b:Nat) (rs:List Row):aw g (nu b rs) = false:=cH g (λr=>by simp) rs
noncomputable def FE:CE:=.comp 2 (.tp [0,1]) [] .seq [(.v 0)] [] (.v 0)
noncomputable def FD:CE:=.comp 2 (.tp [0,1]) [] .seq [(.v 0)] [] (.v 1)
theorem Pl (Φ:az) {rs:List Row} (h:rs.length <= 1000) (r:aB):aQ Φ FE (some (.lst .fz (bH rs)) :: r) = ok (.lst .ow (aS (di rs))):=by
 unfold FE
 rw [cV (xs:=[.lst .fz (bH rs)]) (items:=bH rs) (ds:=rs.map λr=>qD r.1) (by simp) (by rw [fc];simp) (bE λr hr=>?_) (by simp;exact cj (by omega))]
 ·simp [aS,di,av]
 ·exact ⟨[some (qD r.1),some (.tup (ab r.2))],by simp [bc,rD],by simp,by simp⟩
theorem NM (Φ:az) {rs:List Row} (h:rs.length <= 1000) (r:aB):aQ Φ FD (some (.lst .fz (bH rs)) :: r) = ok (.lst .ow (fF rs)):=by
 unfold FD
 rw [cV (xs:=[.lst .fz (bH rs)]) (items:=bH rs) (ds:=rs.map λr=>.tup (ab r.2)) (by simp) (by rw [fc];simp) (bE λr hr=>?_) (by simp;exact cj (by omega))]
 ·exact congrArg (λx=>ok (D.lst .ow x)) (n9 jB rs)
 ·exact ⟨[some (qD r.1),some (.tup (ab r.2))],by simp [bc,rD],by simp,by simp⟩
noncomputable def gO (m:List D -> O D):Prop:=∀ (rs:List Row) k,xj k (di rs) -> m [.lst .fz (bH rs)] = ok (.tup [.int (bh (di rs)),.lst .ow (nu (bh (di rs)) rs)])
noncomputable def jw:List CS:=[.asg (.nm 1) FE,.asg (.nm 2) FD,.asg (.nm 3) (.call 9 [(.v 1)]),.ret (.tup [(.v 3),(.du 1040 [(.call 10 [(.v 1),(.v 3)]),(.v 2)])])]
theorem zu (Φ:az) (h9:dE (Φ 9)) (Kd:gf (Φ 10)) (yj:Φ 1040 = Jn):gO (mk Φ 1 4 jw):=by
 intro rs k hs
 have hl:rs.length <= 1000:=by have:=hs.len;simpa [di] using this
 have e1:=Pl Φ hl
 have e2:=NM Φ hl
 have e3:=λf=>h9 f (di rs) k hs
 have e4:=λf=>Kd f (di rs) k (bh (di rs)) hs hs.ES
 generalize bh (di rs) = b at *
 have e5:Φ 1040 [.lst .ow (ab ((di rs).map (aU b))),.lst .al (fF rs)] = ok (.lst .ow (nu b rs)):=by
  rw [yj]
  show ok (D.lst .ow (af ba (List.zipWith pairD (ab ((di rs).map (aU b))) (fF rs)))) = _
  rw [cQ,eR,n9]
  unfold di ab fF nu
  rw [List.map_map,List.map_map,List.zipWith_map,List.zipWith_self]
  rfl
 simp [mk_eq,jw,VC Φ FE _ rfl,VC Φ FD _ rfl,e1,e2,e3,e4,e5]
noncomputable def KW:CE:=.comp 2 (.tp [0,1]) [] .seq [(.ix (.v 1) (.int 1))] [] (.v 0)
noncomputable def gv (m:List D -> O D):Prop:=∀ (rs:List Row) k,xj k (di rs) -> (di rs).sum = 1 -> m [.lst .fz (bH rs)] = ok (.bl true)
noncomputable def eN:List CS:=[.asg (.nm 1) (.call 14 [(.v 0)]),.ret (.cmp .eq (.bf .iM [KW]) (.ix (.v 1) (.int 0)))]
theorem AY {b:Nat} {qs:List Rat} (h:∀ q ∈ qs,q.den ∣ b) (h1:qs.sum = 1):(qs.map (aU b)).sum = (b:Int):=by
 have:=nF h
 rw [h1,Rat.one_mul,<- Rat.intCast_natCast] at this
 exact Rat.intCast_inj.mp this
theorem bo (Φ:az) (OW:gO (Φ 14)):gv (mk Φ 1 2 eN):=by
 intro rs k hs h1
 have hl:rs.length <= 1000:=by have:=hs.len;simpa [di] using this
 have e1:=OW rs k hs
 have hb:=hs.lcm
 have e2:=AY hb.2.2 h1
 generalize bh (di rs) = b at *
 have e3:∀ c0,aQ Φ KW [c0,some (.tup [.int b,.lst .ow (nu b rs)])] = ok (.lst .ow (ab ((di rs).map (aU b)))):=λc0=>by
  unfold KW
  rw [cV (xs:=[.lst .al (nu b rs)]) (items:=nu b rs) (ds:=rs.map λr=>.int (aU b r.1)) (by simp) (by rw [fc];simp) (bE λr hr=>?_) (by simp;exact cj (by omega))]
  ·simp [ab,di,av]
  ·exact ⟨[some (.int (aU b r.1)),some (.tup (ab r.2))],by simp [bc],by simp,by simp⟩
 have e4:qk .iM [.lst .ow (ab ((di rs).map (aU b)))] = ok (.int b):=by
  show (match intsOf (ab ((di rs).map (aU b))) with | some ns=>ok (D.int ns.sum) | none=>none) = _
  unfold ab
  rw [aZ]
  show ok (D.int ((di rs).map (aU b)).sum) = _
  rw [e2]
 have e5:eG .eq (.int (b:Int)) (.int (b:Int)) = ok (.bl true):=by
  show (if cK 40 (.int (b:Int)) && cK 40 (.int (b:Int)) then ok (D.bl ((b:Int) == (b:Int))) else none) = _
  simp [cK]
 simp [mk_eq,eN,e1,e3,e4,e5]
noncomputable def mS:List CS:=[.ifs (.not (.call 12 [(.v 3),(.v 1)])) [.ret (.bl false)] []]
noncomputable def ia:List CS:=[.ifs (.or [(.not (.oo (.v 0) .tuple)),(.cmp .ne (.bf .len [(.v 0)]) (.int 2))]) [.ret (.bl false)] [],.asg (.nm 1) (.ix (.v 0) (.int 0)),.asg (.nm 2) (.ix (.v 0) (.int 1)),.ifs (.or [(.not (.call 0 [(.v 1)])),(.cmp .lt (.v 1) (.int 1)),(.cmp .gt (.v 1) (.glo "MOST_HOUSES" 12))]) [.ret (.bl false)] [],.ifs (.not (.oo (.v 2) .list)) [.ret (.bl false)] [],.fr (.nm 3) (.seq (.v 2)) mS,.ret (.and [(.call 44 [(.v 2)]),(.call 15 [(.v 2)])])]
noncomputable def Lm (m:List D -> O D):Prop:=∀ k n rs,Dr k n rs -> m [bU n rs] = ok (.bl true)
noncomputable def mz (m:List D -> O D):Prop:=∀ k n rs,Dp (Rw n) k n rs -> m [bU n rs] = ok (.bl true)
theorem oW (Φ:az) (yh:kY (Φ 12)) {n:Nat} (hn:n <= 12) (c0 c2:Option D):∀ (rs:List Row) (c3:Option D),(∀ r ∈ rs,Rw n r.2 /\ 0 < r.1) -> ∃ Le,eW (λd ρ=>cC (.nm 3) d ρ) (λρ=>bM Φ mS ρ) (bH rs) [c0,some (.int n),c2,c3] = ok (.nx,[c0,some (.int n),c2,Le])
 | [],c3,_=>⟨c3,rfl⟩
 | r :: rs,c3,h=>by
  obtain ⟨Le,ih⟩:=oW Φ yh hn c0 c2 rs (some (rD r)) λs hs=>h s (List.mem_cons_of_mem _ hs)
  have h1:=h r List.mem_cons_self
  have e:=yh r n hn h1.1 h1.2
  refine ⟨Le,fJ (ρ1:=[c0,some (.int n),c2,some (rD r)]) (by simp) (ρ2:=[c0,some (.int n),c2,some (rD r)]) ?_ ih⟩
  simp [mS,e]
theorem Dp.some {P:List Int -> Prop} {k n:Nat} {rs:List Row} (I:Dp P k n rs):1 <= rs.length:=by
 cases rs with
 | nil=>have:=I.one;simp at this
 | cons r rs=>simp
theorem cz (Φ:az) (h0:dW (Φ 0)) (yh:kY (Φ 12)) (h15:gv (Φ 15)) (h44:jc (Φ 44)):mz (mk Φ 1 4 ia):=by
 intro k n rs I
 have n1:=I.n1
 have n2:=I.n2
 have e1:=h15 rs k I.Lu I.one
 have e2:=h44 rs I.some I.rise
 have e3:Φ 0 [.int (n:Int)] = ok (.bl true):=by rw [h0];rfl
 obtain ⟨c3,e4⟩:=oW Φ yh n2 (some (bU n rs)) (some (.lst .fz (bH rs))) rs none λr hr=>⟨I.Dh r hr,I.pos r hr⟩
 have hit:gn Φ (.seq (.v 2)) [some (bU n rs),some (.int n),some (.lst .fz (bH rs)),none] = ok (bH rs,[some (bU n rs),some (.int n),some (.lst .fz (bH rs)),none]):=by
  rw [NU (f:=.fz) (ds:=bH rs) (by simp)]
  simp
 have hf:=iH (Φ:=Φ) (t:=.nm 3) (b:=mS) hit e4
 have c1:eG .lt (.int (n:Int)) (.int 1) = ok (.bl false):=by
  show ok (D.bl (decide ((n:Int) < 1))) = _
  rw [decide_eq_false (by omega)]
 have c2:eG .gt (.int (n:Int)) (.int 12) = ok (.bl false):=by
  show ok (D.bl (decide ((12:Int) < n))) = _
  rw [decide_eq_false (by omega)]
 have ty1:∀ ds,dS .tuple (.tup ds) = true:=λ_=>rfl
 have RJ:∀ f ds,dS .list (.lst f ds) = true:=λ_ _=>rfl
 unfold bU at hf ⊢
 simp [mk_eq,ia,ty1,RJ,e3,c1,c2,hf,e2,e1]
noncomputable def K1:CE:=.comp 2 (.tp [0,1]) [0] .seq [(.ix (.v 0) (.int 1))] [] (.call 11 [(.v 1),(.ix (.v 2) (.int 0))])
noncomputable def fg:List CS:=[.ret (.and [(.call 45 [(.v 0)]),(.bf .all1 [K1])])]
theorem bu (Φ:az) (h11:pd (Φ 11)) (Xk:mz (Φ 45)):Lm (mk Φ 1 1 fg):=by
 intro k n rs I
 have e1:=Xk k n rs (I.imp λ_ _ h=>h.rw)
 have e2:aQ Φ K1 [some (bU n rs)] = ok (.lst .ow (kR (rs.map λ_=>true))):=by
  unfold K1
  rw [cV (xs:=[.lst .fz (bH rs)]) (items:=bH rs) (ds:=rs.map λ_=>.bl true) (by simp [bU]) (by rw [fc];simp) (bE λr hr=>?_) (by simp;exact cj (by have:=I.len;omega))]
  ·simp [kR,av]
  ·have hl:=I.Dh r hr
   have e:=h11 (.tup (ab r.2)) n (hl.eM I.n2)
   rw [hl.ux] at e
   exact ⟨[some (qD r.1),some (.tup (ab r.2)),some (bU n rs)],by simp [bc,rD,bU],by simp,by simp [bU,e]⟩
 have e3:qk .all1 [.lst .ow (kR (rs.map λ_=>true))] = ok (.bl true):=by
  show (match ja (kR (rs.map λ_=>true)) with | some bs=>ok (D.bl (bs.all id)) | none=>none) = _
  unfold kR
  rw [lS]
  show ok (D.bl ((rs.map λ_=>true).all id)) = _
  congr 2
  simp
 have m1:aA aI (bU n rs) = bU n rs:=by simp [bU]
 have m2:aA ba (bU n rs) = bU n rs:=by simp [bU]
 simp [mk_eq,fg,m1,m2,e1,e2,e3]
noncomputable def jW (m:List D -> O D):Prop:=∀ k n rs,Dr k n rs -> m [bU n rs] = ok .bA
noncomputable def dC:List CS:=[.ifs (.not (.call 16 [(.v 0)])) [.rs 1] []]
theorem aX (Φ:az) (h16:Lm (Φ 16)):jW (mk Φ 1 1 dC):=by
 intro k n rs I
 have e1:=h16 k n rs I
 have m1:aA aI (bU n rs) = bU n rs:=by simp [bU]
 have m2:aA ba (bU n rs) = bU n rs:=by simp [bU]
 simp [mk_eq,dC,m1,m2,e1]
end DI
end
section
namespace DI
open PySem (Str)
noncomputable def Nc (ws xs:List Rat):List Rat:=(ws.zip xs).map λp=>p.1 * p.2
structure Gs (j n:Nat) (ws xs:List Rat):Prop where
 l1:ws.length = n
 l2:xs.length = n
 s1:∀ q ∈ ws,Sm j q
 s2:∀ q ∈ xs,Sm j q
 jj:j <= 100
theorem Gs.Lu {j n:Nat} {ws xs:List Rat} (G:Gs j n ws xs) (hn:n <= 12):xj (j + j) (Nc ws xs):=by
 have hl:(Nc ws xs).length = n:=by unfold Nc;rw [List.length_map,List.length_zip,G.l1,G.l2,Nat.min_self]
 have hj:=G.jj
 refine ⟨λq hq=>?_,?_,by omega⟩
 ·obtain ⟨p,hp,rfl⟩:=List.mem_map.mp hq
  have m:=List.of_mem_zip hp
  exact (G.s1 _ m.1).mul (G.s2 _ m.2)
 ·rw [hl]
  have:(j + j) * n <= 200 * 12:=Nat.mul_le_mul (by omega) hn
  omega
theorem Gs.at {j n:Nat} {ws xs:List Rat} (G:Gs j n ws xs) {h:Int} (h0:0 <= h) (h1:h < n):ng (Nc ws xs) h = ng ws h * ng xs h:=by
 obtain ⟨g1,_⟩:=nc (qs:=ws) h0 (by rw [G.l1];exact h1)
 obtain ⟨g2,_⟩:=nc (qs:=xs) h0 (by rw [G.l2];exact h1)
 unfold ng at *
 unfold Nc
 rw [List.getD_eq_getElem?_getD,List.getElem?_map,List.zip,List.getElem?_zipWith,g1,g2]
 rfl
noncomputable def Ae:CE:=.comp 2 (.tp [0,1]) [] (.du 1000) [(.ix (.v 2) (.int 1)),(.ix (.v 1) (.int 1))] [] (.bin .mul (.ix (.v 0) (.int 0)) (.v 1))
noncomputable def jz:List CS:=[.asg (.nm 2) (.call 14 [(.v 0)]),.asg (.nm 3) (.bf .iM [Ae]),.ret (.call 2 [(.v 3),(.bin .mul (.ix (.v 2) (.int 0)) (.ix (.v 1) (.int 0)))])]
noncomputable def iL (b:Nat) (rs:List Row) (gs:List Int):Int:=((rs.zip gs).map λp=>aU b p.1.1 * p.2).sum
noncomputable def lV (m:List D -> O D):Prop:=∀ {P:List Int -> Prop} k n rs gs (gb:Nat),Dp P k n rs -> gs.length = rs.length -> 0 < gb -> gb < 2 ^ 8000 -> m [.lst .fz (bH rs),.tup [.int gb,.lst .fz (ab gs)]] = ok (qD (Rat.divInt (iL (bh (di rs)) rs gs) ((bh (di rs):Int) * gb)))
theorem cY (Φ:az) (h2:dA (Φ 2)) (OW:gO (Φ 14)) (fY:Φ 1000 = nr):lV (mk Φ 2 4 jz):=by
 intro P k n rs gs gb I hl g0 g1
 have e1:=OW rs k I.Lu
 obtain ⟨b0,b1,_⟩:=I.bot
 have ht:=λr hr=>I.top (r:=r) hr
 generalize bh (di rs) = b at *
 have hz:dk Φ (.du 1000) [.lst .al (nu b rs),.lst .fz (ab gs)] = ok ((rs.zip gs).map λp=>.tup [.tup [.int (aU b p.1.1),.tup (ab p.1.2)],.int p.2]):=by
  show bd (Φ 1000 _) ku = _
  rw [fY]
  show ok (af aI (List.zipWith (λx y=>D.tup [x,y]) (nu b rs) (ab gs))) = _
  have:=cQ aI (nu b rs) (ab gs)
  rw [uu,eR] at this
  refine congrArg ok (Eq.trans this ?_)
  unfold nu ab
  rw [List.zipWith_map,List.zip,List.map_zipWith]
  rfl
 have k1:∀ a b',aQ Φ Ae [a,some (.tup [.int gb,.lst .fz (ab gs)]),some (.tup [.int b,.lst .ow (nu b rs)]),b'] = ok (.lst .ow (ab ((rs.zip gs).map λp=>aU b p.1.1 * p.2))):=λa b'=>by
  unfold Ae
  rw [cV (xs:=[.lst .al (nu b rs),.lst .fz (ab gs)]) (by simp) hz (ds:=(rs.zip gs).map λp=>.int (aU b p.1.1 * p.2)) (bE λp hp=>?_) (by simp;exact cj (by have:=I.len;omega))]
  ·simp [ab,av]
  ·have m:=List.of_mem_zip hp
   have e:=jy (j:=p.2) (ht p.1 m.1)
   exact ⟨[some (.tup [.int (aU b p.1.1),.tup (ab p.1.2)]),some (.int p.2)],by simp [bc],by simp,by simp [e]⟩
 have k2:qk .iM [.lst .ow (ab ((rs.zip gs).map λp=>aU b p.1.1 * p.2))] = ok (.int (iL b rs gs)):=by
  show (match intsOf (ab ((rs.zip gs).map λp=>aU b p.1.1 * p.2)) with | some ns=>ok (D.int ns.sum) | none=>none) = _
  unfold ab
  rw [aZ];rfl
 have Fj:((b:Int)).natAbs < 2 ^ 64:=by rw [Int.natAbs_natCast];exact Nat.lt_of_lt_of_le b1 (by decide)
 have k3:=jy (j:=(gb:Int)) Fj
 have k4:=h2.1 (iL b rs gs) ((b:Int) * gb) (by
  have:(0:Int) < (b:Int) * gb:=Int.mul_pos (by omega) (by omega)
  omega) (by
  rw [Int.natAbs_mul,Int.natAbs_natCast,Int.natAbs_natCast]
  exact Nat.lt_of_lt_of_le (aO b1 g1) (Nat.pow_le_pow_right (by decide) (by decide)))
 simp [mk_eq,jz,e1,k1,k2,k3,k4]
end DI
end
section
namespace DI
open PySem (Str)
theorem HC {Φ:az} {p i:Nat} {es:List CE} {ρ:aB} {xs:List D} {d d':D} (h1:cD Φ es ρ = ok xs) (h2:aw b_ xs = false) (h3:ρ[i]? = some (some d)) (h4:Φ p (d :: xs) = ok d'):p9 Φ (.mut p i es) ρ = ok (.nx,ρ.set i (some d')):=by
 show bd (cD Φ es ρ) (λxs=>we Φ p i (om es xs ρ)) = _
 rw [h1,dU]
 unfold om
 rw [h2,if_neg Bool.false_ne_true]
 unfold we
 rw [h3]
 show bd (Φ p (d :: xs)) _ = _
 rw [h4];rfl
theorem lJ (c:List Int):∀ (cs:List (List Int)) (ws:List Int),cf cs (ab ws) c = (cf cs ws c).map D.int
 | [],_=>by cases ‹List Int› <;> rfl
 | _ :: _,[]=>rfl
 | c' :: cs,w :: ws=>by
  show (if c' = c then some (D.int w) else cf cs (ab ws) c) = Option.map D.int (if c' = c then some w else cf cs ws c)
  by_cases e:c' = c
  ·rw [if_pos e,if_pos e];rfl
  ·rw [if_neg e,if_neg e];exact lJ c cs ws
theorem qx (c:List Int) (v:Int):∀ (cs:List (List Int)) (ws:List Int),setC cs (ab ws) c (.int v) = ab (setC cs ws c v)
 | [],_=>by cases ‹List Int› <;> rfl
 | _ :: _,[]=>rfl
 | c' :: cs,w :: ws=>by
  show (if c' = c then D.int v else D.int w) :: setC cs (ab ws) c (.int v) = D.int (if c' = c then v else w) :: ab (setC cs ws c v)
  rw [qx c v cs ws]
  by_cases e:c' = c
  ·rw [if_pos e,if_pos e]
  ·rw [if_neg e,if_neg e]
theorem vJ (cs:List (List Int)) (ws:List Int) (c:List Int) (v:Int):bB cs (ab ws) c (.int v) = ab (bB cs ws c v):=by
 unfold bB
 by_cases e:c ∈ cs
 ·rw [if_pos e,if_pos e];exact qx c v cs ws
 ·rw [if_neg e,if_neg e];simp
noncomputable def cm (cs:List (List Int)) (ws:List Int) (c:List Int):Int:=(cf cs ws c).getD 0
theorem oE {α:Type} {c:List Int}:∀ {cs:List (List Int)} (ws:List α),c ∉ cs -> cf cs ws c = none
 | [],_,_=>by cases ‹List α› <;> rfl
 | _ :: _,[],_=>rfl
 | c' :: cs,w :: ws,h=>by
  show (if c' = c then some w else cf cs ws c) = none
  rw [if_neg λe=>h (by rw [e];exact List.mem_cons_self)]
  exact oE ws λz=>h (List.mem_cons_of_mem _ z)
theorem kJ {α:Type} {c:List Int}:∀ {cs:List (List Int)} {ws:List α},cs.length = ws.length -> c ∈ cs -> ∃ w,cf cs ws c = some w /\ w ∈ ws
 | [],_,_,h=>nomatch h
 | _ :: _,[],hl,_=>by simp at hl
 | c' :: cs,w :: ws,hl,h=>by
  by_cases e:c' = c
  ·exact ⟨w,if_pos e,List.mem_cons_self⟩
  ·have h':c ∈ cs:=(List.mem_cons.mp h).resolve_left λz=>e z.symm
   obtain ⟨w',e1,e2⟩:=kJ (cs:=cs) (ws:=ws) (by simpa using hl) h'
   exact ⟨w',(if_neg e).trans e1,List.mem_cons_of_mem _ e2⟩
theorem n8:∀ {cs:List (List Int)} {ws:List Int},cs.Nodup -> cs.length = ws.length -> cs.map (cm cs ws) = ws
 | [],[],_,_=>rfl
 | [],_ :: _,_,h=>by simp at h
 | _ :: _,[],_,h=>by simp at h
 | c :: cs,w :: ws,hn,hl=>by
  have ye:=List.nodup_cons.mp hn
  have ih:=n8 (cs:=cs) (ws:=ws) ye.2 (by simpa using hl)
  rw [List.map_cons]
  have e1:cm (c :: cs) (w :: ws) c = w:=by
   show (if c = c then some w else cf cs ws c).getD 0 = w
   rw [if_pos rfl];rfl
  have e2:cs.map (cm (c :: cs) (w :: ws)) = cs.map (cm cs ws):=List.map_congr_left λx hx=>by
   show (if c = x then some w else cf cs ws x).getD 0 = _
   rw [if_neg (show ¬ c = x from λz=>ye.1 (by rw [z];exact hx))];rfl
  rw [e1,e2,ih]
theorem tU {c:List Int} {v:Int}:∀ {cs:List (List Int)} {ws:List Int},cs.Nodup -> cs.length = ws.length -> c ∈ cs -> (setC cs ws c v).sum = ws.sum - cm cs ws c + v /\ (setC cs ws c v).length = ws.length
 | [],_,_,_,h=>nomatch h
 | _ :: _,[],_,h,_=>by simp at h
 | c' :: cs,w :: ws,hn,hl,h=>by
  have ye:=List.nodup_cons.mp hn
  have vF:cs.length = ws.length:=by simpa using hl
  have es:setC (c' :: cs) (w :: ws) c v = (if c' = c then v else w) :: setC cs ws c v:=rfl
  by_cases e:c' = c
  ·have N9:∀ {cs:List (List Int)} {ws:List Int},cs.length = ws.length -> c ∉ cs -> setC cs ws c v = ws:=λ{cs}=>by
    induction cs with
    | nil=>intro ws hl _;cases ws with | nil=>rfl | cons _ _=>simp at hl
    | cons d cs ih =>
     intro ws hl hc
     cases ws with
     | nil=>simp at hl
     | cons w ws =>
      show (if d = c then v else w) :: setC cs ws c v = _
      rw [if_neg λz=>hc (by rw [z];exact List.mem_cons_self),ih (by simpa using hl) λz=>hc (List.mem_cons_of_mem _ z)]
   have hcn:c ∉ cs:=e ▸ ye.1
   rw [es,if_pos e,N9 vF hcn]
   have eg:cm (c' :: cs) (w :: ws) c = w:=by
    show (if c' = c then some w else cf cs ws c).getD 0 = w
    rw [if_pos e];rfl
   rw [eg]
   refine ⟨?_,rfl⟩
   rw [List.sum_cons,List.sum_cons]
   omega
  ·have h':c ∈ cs:=(List.mem_cons.mp h).resolve_left λz=>e z.symm
   obtain ⟨i1,i2⟩:=tU (v:=v) ye.2 vF h'
   have eg:cm (c' :: cs) (w :: ws) c = cm cs ws c:=by
    show (if c' = c then some w else cf cs ws c).getD 0 = _
    rw [if_neg e];rfl
   rw [es,if_neg e,eg]
   refine ⟨?_,by rw [List.length_cons,List.length_cons,i2]⟩
   rw [List.sum_cons,List.sum_cons,i1]
   omega
theorem tV {c:List Int} {v:Int}:∀ {cs:List (List Int)} {ws:List Int} {x:Int},x ∈ setC cs ws c v -> x ∈ ws \/ x = v
 | [],_,_,h=>by cases ‹List Int› <;> exact nomatch h
 | _ :: _,[],_,h=>nomatch h
 | c' :: cs,w :: ws,x,h=>by
  have h:x ∈ (if c' = c then v else w) :: setC cs ws c v:=h
  rcases List.mem_cons.mp h with e | h
  ·by_cases q:c' = c
   ·rw [if_pos q] at e;exact .inr e
   ·rw [if_neg q] at e;rw [e];exact .inl List.mem_cons_self
  ·rcases tV h with h | h
   ·exact .inl (List.mem_cons_of_mem _ h)
   ·exact .inr h
structure Tab (P:List Int -> Prop) (j:Nat) (cs:List (List Int)) (ws:List Int):Prop where
 nd:cs.Nodup
 ln:cs.length = ws.length
 mr:cs.length <= j
 Dh:∀ c ∈ cs,P c
 pos:∀ w ∈ ws,1 <= w
 sum:ws.sum <= 7 * j
 ne:1 <= j -> cs ≠ []
theorem Tab.get {n:List Int -> Prop} {j:Nat} {cs:List (List Int)} {ws:List Int} (T:Tab n j cs ws) (c:List Int):0 <= cm cs ws c:=by
 by_cases h:c ∈ cs
 ·obtain ⟨w,e,m⟩:=kJ T.ln h
  unfold cm
  rw [e]
  have:=T.pos w m
  show 0 <= w
  omega
 ·unfold cm
  rw [oE ws h];exact Int.le_refl _
theorem Tab.put {n:List Int -> Prop} {j:Nat} {cs:List (List Int)} {ws:List Int} (T:Tab n j cs ws) {c:List Int} (hc:n c) {i:Int} (h1:1 <= i) (h7:i <= 7):Tab n (j + 1) (cS cs c) (bB cs ws c (cm cs ws c + i)):=by
 have hg:=T.get c
 have hf:=T.mr
 have hs:=T.sum
 by_cases h:c ∈ cs
 ·obtain ⟨s1,s2⟩:=tU (v:=cm cs ws c + i) T.nd T.ln h
  unfold cS bB
  rw [if_pos h,if_pos h]
  refine ⟨T.nd,by rw [s2];exact T.ln,by omega,T.Dh,λw hw=>?_,by rw [s1];omega,λ_ z=>by rw [z] at h;cases h⟩
  rcases tV hw with hw | rfl
  ·exact T.pos w hw
  ·omega
 ·have hz:cm cs ws c = 0:=by unfold cm;rw [oE ws h];rfl
  unfold cS bB
  rw [if_neg h,if_neg h,hz]
  refine ⟨?_,by rw [List.length_append,List.length_append,T.ln];rfl,by rw [List.length_append,List.length_singleton];omega,λd hd=>?_,λw hw=>?_,by rw [List.sum_append];simp;omega,λ_ z=>by simp at z⟩
  ·refine List.nodup_append.mpr ⟨T.nd,List.nodup_cons.mpr ⟨List.not_mem_nil,List.nodup_nil⟩,λa ha b hb e=>?_⟩
   rw [List.mem_singleton.mp hb] at e
   exact h (e ▸ ha)
  ·rcases List.mem_append.mp hd with hd | hd
   ·exact T.Dh d hd
   ·rw [List.mem_singleton.mp hd];exact hc
  ·rcases List.mem_append.mp hw with hw | hw
   ·exact T.pos w hw
   ·rw [List.mem_singleton.mp hw];omega
noncomputable def mD (cs:List (List Int)) (ws:List Int):List Row:=(bJ cs).map λc=>(Rat.divInt (cm cs ws c) ws.sum,c)
theorem Tab.xZ {n:List Int -> Prop} {j:Nat} {cs:List (List Int)} {ws:List Int} (T:Tab n j cs ws):∀ w ∈ ws,w <= ws.sum:=λw hw=>by
 have:∀ l:List Int,(∀ x ∈ l,1 <= x) -> 0 <= l.sum /\ ∀ x ∈ l,x <= l.sum:=λl=>by
  induction l with
  | nil=>intro _;exact ⟨Int.le_refl _,λ_ h=>nomatch h⟩
  | cons a l ih =>
   intro h
   obtain ⟨i1,i2⟩:=ih λx hx=>h x (List.mem_cons_of_mem _ hx)
   have ha:=h a List.mem_cons_self
   rw [List.sum_cons]
   refine ⟨by omega,λx hx=>?_⟩
   rcases List.mem_cons.mp hx with rfl | hx
   ·omega
   ·have:=i2 x hx;omega
 exact (this ws T.pos).2 w hw
theorem xA (W:Int) (hW:W ≠ 0):∀ ls:List Int,(ls.map λx=>Rat.divInt x W).sum = Rat.divInt ls.sum W
 | []=>by simp
 | x :: ls=>by
  rw [List.map_cons,List.sum_cons,xA W hW ls,List.sum_cons,Rat.divInt_eq_div,Rat.divInt_eq_div,Rat.divInt_eq_div,Rat.intCast_add]
  grind
theorem Bv {a b:List Rat} (h:a.Perm b):a.sum = b.sum:=by
 induction h with
 | nil=>rfl
 | cons x _ ih=>rw [List.sum_cons,List.sum_cons,ih]
 | swap x y l=>rw [List.sum_cons,List.sum_cons,List.sum_cons,List.sum_cons];grind
 | trans _ _ i1 i2=>rw [i1,i2]
theorem Tab.dr {P:List Int -> Prop} {n j:Nat} {cs:List (List Int)} {ws:List Int} (T:Tab P j cs ws) (h1:1 <= j) (h6:j <= 8) (n1:1 <= n) (n2:n <= 12):Dp P 6 n (mD cs ws):=by
 have hp:(bJ cs).Perm cs:=List.mergeSort_perm _ _
 have hl:(mD cs ws).length = cs.length:=by unfold mD;rw [List.length_map];exact hp.length_eq
 have hf:=T.mr
 have hs:=T.sum
 have val:∀ c ∈ bJ cs,1 <= cm cs ws c /\ cm cs ws c <= ws.sum:=λc hc=>by
  obtain ⟨w,e,m⟩:=kJ T.ln (hp.mem_iff.mp hc)
  unfold cm
  rw [e]
  exact ⟨T.pos w m,T.xZ w m⟩
 have hW:1 <= ws.sum:=by
  obtain ⟨c,hc⟩:=List.exists_mem_of_ne_nil cs (T.ne h1)
  have:=val c (hp.mem_iff.mpr hc)
  omega
 refine ⟨n1,n2,by rw [hl];omega,.inl (by rw [hl];omega),by rw [hl];omega,λr hr=>?_,λr hr=>?_,λr hr=>?_,?_,?_⟩
 ·obtain ⟨c,hc,rfl⟩:=List.mem_map.mp hr
  exact T.Dh c (hp.mem_iff.mp hc)
 ·obtain ⟨c,hc,rfl⟩:=List.mem_map.mp hr
  exact wV (by have:=val c hc;omega) (by omega)
 ·obtain ⟨c,hc,rfl⟩:=List.mem_map.mp hr
  have:=val c hc
  exact GC (by omega) (by show _ < 64;omega) (by show _ < 64;omega)
 ·have e:(mD cs ws).map (·.1) = (bJ cs).map λc=>Rat.divInt (cm cs ws c) ws.sum:=by
   unfold mD;rw [List.map_map];rfl
  rw [e]
  have e2:((bJ cs).map λc=>Rat.divInt (cm cs ws c) ws.sum).sum = (cs.map λc=>Rat.divInt (cm cs ws c) ws.sum).sum:=Bv (hp.map _)
  have e3:(cs.map λc=>Rat.divInt (cm cs ws c) ws.sum) = (cs.map (cm cs ws)).map λx=>Rat.divInt x ws.sum:=by rw [List.map_map];rfl
  rw [e2,e3,n8 T.nd T.ln,xA _ (by omega),Rat.divInt_eq_div]
  have z:((ws.sum:Int):Rat) ≠ 0:=λz=>by rw [Rat.intCast_eq_zero_iff] at z;omega
  grind
 ·have e:(mD cs ws).map (·.2) = bJ cs:=by
   unfold mD;rw [List.map_map]
   exact (List.map_congr_left λ_ _=>rfl).trans (List.map_id _)
  rw [e];exact nJ T.nd
end DI
end
section
namespace DI
open PySem (Str)
structure C7 (Φ:az):Prop where
 yp:Φ 1030 = u_
 yo:Φ 1031 = oY
 yn:Φ 1032 = wU
 ym:Φ 1033 = oX
 yk:Φ 1035 = jS
 yi:Φ 1100 = jT
theorem K6 {Φ:az} (P:C7 Φ) (f:Fl) (cs:List (List Int)) (ws:List Int) (c:List Int):Φ 1031 [.cg f cs (ab ws),.tup (ab c),.int 0] = ok (.int (cm cs ws c)):=by
 rw [P.yo]
 show (match intsOf (ab c) with | some c=>if aw anyF (ab ws) = false /\ aH anyF (.int 0) = false then ok ((cf cs (ab ws) c).getD (.int 0)) else none | none=>none) = _
 unfold ab
 rw [aZ]
 show (if aw anyF (ab ws) = false /\ aH anyF (.int 0) = false then ok ((cf cs (ab ws) c).getD (.int 0)) else none) = _
 rw [if_pos ⟨uJ _ _,rfl⟩,lJ]
 unfold cm
 cases cf cs ws c <;> rfl
theorem K3 {Φ:az} (P:C7 Φ) {cs:List (List Int)} (hl:cs.length < 1000) (ws:List Int) (c:List Int) (v:Int):Φ 1033 [.cg .ow cs (ab ws),.int v,.tup (ab c)] = ok (.cg .ow (cS cs c) (ab (bB cs ws c v))):=by
 rw [P.ym]
 show (match intsOf (ab c) with | some c=>if eC .ow = true /\ aH anyF (.int v) = false /\ cs.length < eM then ok (D.cg .ow (cS cs c) (bB cs (ab ws) c (.int v))) else none | none=>none) = _
 unfold ab
 rw [aZ]
 show (if eC .ow = true /\ aH anyF (.int v) = false /\ cs.length < eM then ok (D.cg .ow (cS cs c) (bB cs (ab ws) c (.int v))) else none) = _
 rw [if_pos ⟨rfl,rfl,by show _ < 1000000;omega⟩,vJ];rfl
theorem Hj {Φ:az} (P:C7 Φ) (f:Fl) {cs:List (List Int)} {ws:List Int} (hl:cs.length = ws.length) {c:List Int} (h:c ∈ cs):Φ 1032 [.cg f cs (ab ws),.tup (ab c)] = ok (.int (cm cs ws c)):=by
 obtain ⟨w,e,_⟩:=kJ hl h
 rw [P.yn]
 show (match intsOf (ab c) with | some c=>(match cf cs (ab ws) c with | some v=>if aH anyF v = false then ok v else none | none=>none) | none=>none) = _
 unfold ab
 rw [aZ]
 show (match cf cs (ab ws) c with | some v=>if aH anyF v = false then ok v else none | none=>none) = _
 rw [lJ,e]
 unfold cm
 rw [e]
 rfl
theorem wW {t b:Int} (hb:b ≠ 0):(Rat.divInt t b).den ∣ b.natAbs:=by
 obtain ⟨t',b',e1,e2,h1,h2,h3,h4⟩:=nY (t:=t) hb
 obtain ⟨g1,g2⟩:=su (t:=t) hb
 rw [show b.fdiv (fL t b) = b' from h2] at g2
 have hz:(Rat.divInt t b).den = b'.natAbs:=by omega
 have:b.natAbs = (fL t b).natAbs * b'.natAbs:=by rw [<- Int.natAbs_mul,<- e2]
 rw [hz,this]
 exact Nat.dvd_mul_left ..
end DI
end
section
namespace DI
open PySem (Str)
noncomputable def ni (m:List D -> O D):Prop:=∀ (N:Int) (n:Nat),n <= 12 -> ∃ qs:List Rat,m [.int N,.int n] = ok (.lst .ow (aS qs)) /\ qs.length = n /\ ∀ q ∈ qs,Sm 3 q
noncomputable def mR:List CS:=[.app 2 (.call 201 [(.bin .sub (.bin .mod (.v 0) (.int 13)) (.int 6)),(.bin .add (.int 1) (.bin .mod (.bin .fdiv (.v 0) (.int 13)) (.int 4)))]),.asg (.nm 0) (.bin .fdiv (.v 0) (.int 52))]
noncomputable def m_:List CS:=[.asg (.nm 2) (.lst []),.fr (.nm 3) (.lC (.v 1)) mR,.ret (.v 2)]
theorem oe (Φ:az) (zW:ic (Φ 201)) (y:Option D):∀ (ks:List D) (acc:List Rat) (n:Int) (w:Option D),acc.length + ks.length <= 1000 -> (∀ q ∈ acc,Sm 3 q) ->
  ∃ (qs:List Rat) (n' w':Option D),eW (λd ρ=>cC (.nm 3) d ρ) (λρ=>bM Φ mR ρ) ks [some (.int n),y,some (.lst .ow (aS acc)),w] = ok (.nx,[n',y,some (.lst .ow (aS qs)),w']) /\ qs.length = acc.length + ks.length /\ ∀ q ∈ qs,Sm 3 q
 | [],acc,n,w,_,hs=>⟨acc,some (.int n),w,rfl,rfl,hs⟩
 | k :: ks,acc,n,w,h,hs=>by
  simp only [List.length_cons] at h
  obtain ⟨a1,a2⟩:=ff n (b:=13) (by decide)
  obtain ⟨a3,a4⟩:=ff (n.fdiv 13) (b:=4) (by decide)
  have e:=zW (n.fmod 13 - 6) (1 + (n.fdiv 13).fmod 4) (by omega) (wo (by omega))
  have sq:Sm 3 (Rat.divInt (n.fmod 13 - 6) (1 + (n.fdiv 13).fmod 4)):=GC (by omega) (by omega) (by omega)
  generalize Rat.divInt (n.fmod 13 - 6) (1 + (n.fdiv 13).fmod 4) = q at *
  obtain ⟨qs,n',w',e',l,s⟩:=oe Φ zW y ks (acc ++ [q]) (n.fdiv 52) (some k) (by simp;omega) (λp hp=>by
   rcases List.mem_append.mp hp with hp | hp
   ·exact hs p hp
   ·have:p = q:=by simpa using hp
    subst this;exact sq)
  have hc:acc.length < eM:=by show _ < 1000000;omega
  refine ⟨qs,n',w',fJ (ρ1:=[some (.int n),y,some (.lst .ow (aS acc)),some k]) (by simp) (ρ2:=[some (.int (n.fdiv 52)),y,some (.lst .ow (aS (acc ++ [q]))),some k]) ?_ e',by rw [l];simp;omega,s⟩
  simp [mR,e,hc]
theorem Eb (Φ:az) (zW:ic (Φ 201)):ni (mk Φ 2 4 m_):=by
 intro N n hn
 have hit:=zG (Φ:=Φ) (a:=.v 1) (ρ:=[some (.int N),some (.int n),some (.lst .ow []),none]) (n:=n) (by simp) (by omega) (by omega)
 obtain ⟨qs,n',w',el,l,s⟩:=oe Φ zW (some (.int n)) ((List.range (n:Int).toNat).map λ(k:Nat)=>D.int (k:Int)) [] N none (by simp;omega) (by simp)
 have hf:=iH (t:=.nm 3) (b:=mR) hit el
 refine ⟨qs,?_,by simpa using l,s⟩
 simp [mk_eq,m_,hf]
structure Gs2 (i j n:Nat) (ws xs:List Rat):Prop where
 l1:ws.length = n
 l2:xs.length = n
 s1:∀ q ∈ ws,Sm i q
 s2:∀ q ∈ xs,Sm j q
 jj:i + j <= 20
theorem Gs.two {j n:Nat} {ws xs:List Rat} (G:Gs j n ws xs) (hj:j <= 10):Gs2 j j n ws xs:=⟨G.l1,G.l2,G.s1,G.s2,by omega⟩
noncomputable def lW (m:List D -> O D):Prop:=∀ n rs,m [bU n rs] = ok (.tup [.int n,.lst .ow (bH rs)])
noncomputable def jA:List CS:=[.ret (.tup [(.ix (.v 0) (.int 0)),(.bf .list1 [(.ix (.v 0) (.int 1))])])]
theorem zw (Φ:az):lW (mk Φ 1 1 jA):=by
 intro n rs
 simp [mk_eq,jA,bU]
theorem GX (q:Rat):eG .ne (qD q) (qD q) = ok (.bl false):=by
 rw [FT (qF 39 _) (qF 39 _),uW];simp
noncomputable def jQ (f:Fl) (n:Nat) (rs:List Row):D:=.tup [.int n,.lst f (bH rs)]
@[simp] theorem QS (g:Fl -> Fl) (f:Fl) (n:Nat) (rs:List Row):aA g (jQ f n rs) = jQ (g f) n rs:=by simp [jQ]
theorem yF (n:Nat) (rs:List Row):jQ .fz n rs = bU n rs:=rfl
@[simp] theorem Q3 (p:Fl -> Bool) (f:Fl) (n:Nat) (rs:List Row):aH p (jQ f n rs) = p f:=by simp [jQ]
@[simp] theorem We (f:Fl) (n:Nat) (rs:List Row):zF (jQ f n rs) (.int 0) = ok (.int n):=by simp [jQ]
end DI
end
section
namespace DI
open PySem (Str)
noncomputable def Qb (g h:Int) (r:Row):Bool:=decide (g ∈ r.2) && decide (h ∈ r.2)
noncomputable def Nk (rs:List Row) (g h:Int):Rat:=(di (rs.filter (Qb g h))).sum
noncomputable def shQ (n:Nat) (rs:List Row):List Rat:=(List.range n).map λ(k:Nat)=>Nk rs k k
theorem gj (p:Row -> Bool):∀ (rs:List Row),(∀ r ∈ rs,0 < r.1) -> 0 <= (di (rs.filter p)).sum /\ (di (rs.filter p)).sum <= (di rs).sum
 | [],_=>by simp [di,Rat.le_refl]
 | r :: rs,h=>by
  obtain ⟨a,b⟩:=gj p rs λx hx=>h x (List.mem_cons_of_mem _ hx)
  have hr:=h r List.mem_cons_self
  have e:(di (r :: rs)).sum = r.1 + (di rs).sum:=rfl
  rw [e]
  cases hp:p r with
  | true =>
   rw [List.filter_cons_of_pos hp]
   have e':(di (r :: rs.filter p)).sum = r.1 + (di (rs.filter p)).sum:=rfl
   rw [e']
   constructor <;> grind
  | false =>
   rw [List.filter_cons_of_neg (by simp [hp])]
   constructor <;> grind
@[simp] theorem Qz (n:Nat) (rs:List Row):(shQ n rs).length = n:=by simp [shQ]
noncomputable def GH (q:Rat):D:=if 0 < q then qD (1 / q) else .bA
@[simp] theorem EM (g:Fl -> Fl) (q:Rat):aA g (GH q) = GH q:=by
 unfold GH
 split
 ·simp
 ·rfl
@[simp] theorem Fp (g:Fl -> Bool) (q:Rat):aH g (GH q) = false:=by
 unfold GH
 split
 ·simp
 ·rfl
@[simp] theorem LA (g:Fl -> Fl) (qs:List Rat):af g (qs.map GH) = qs.map GH:=cG g (λq=>EM g q) qs
@[simp] theorem LV (g:Fl -> Bool) (qs:List Rat):aw g (qs.map GH) = false:=cH g (λq=>Fp g q) qs
end DI
end
section
namespace DI
open PySem (Str)
noncomputable def Gn (n:Nat) (h:Nat):List Rat:=(List.range n).map λ(k:Nat)=>if k = h then 1 else 0
end DI
end
section
namespace DI
open PySem (Str)
end DI
end
section
namespace DI
open PySem (Str)
noncomputable def c19:CS:=.setI 4 (.v 10) (.call 202 [(.ix (.v 4) (.v 10)),(.call 201 [(.bin .add (.int 1) (.bin .mul (.bin .mod (.bin .fdiv (.v 8) (.int 15)) (.int 5)) (.bin .add (.v 9) (.int 1)))),(.int 7)])])
theorem kf (Φ:az):∀ (a b:List CS) (ρ ρ':aB),bM Φ a ρ = ok (.nx,ρ') -> bM Φ (a ++ b) ρ = bM Φ b ρ'
 | [],b,ρ,ρ',h=>by cases h;rfl
 | s :: a,b,ρ,ρ',h=>by
  rw [jK] at h
  rw [List.cons_append,jK]
  cases e:p9 Φ s ρ with
  | none=>rw [e] at h;cases h
  | some r=>cases r with
   | error c=>rw [e] at h;cases h
   | ok r =>
    obtain ⟨fo,ρ1⟩:=r
    rw [e] at h
    cases fo with
    | nx=>exact kf Φ a b ρ1 ρ' h
    | _=>cases h
end DI
end
section
namespace DI
open PySem (Str)
@[simp] theorem Mn (n x:Nat):(Gn n x).length = n:=by simp [Gn]
end DI
end
section
namespace DI
open PySem (Str)
noncomputable def c20:CS:=.setI 8 (.v 9) (.call 202 [(.ix (.v 8) (.v 9)),(.tup [(.int 1),(.bin .add (.int 1) (.bin .mod (.bin .fdiv (.call 200 [(.v 0),(.int 10)]) (.int 5)) (.int 9)))])])
end DI
end
section
namespace DI
open PySem (Str)
theorem rP {i j:Int} (h:i.natAbs < 2 ^ 9000) (h':j.natAbs < 2 ^ 9000):gH i j = true:=by simp only [gH,big,h,h',decide_true,Bool.and_self,Bool.or_true]
theorem y_ {B:Nat}:∀ (l:List Int),(∀ z ∈ l,z.natAbs <= B) -> l.sum.natAbs <= l.length * B
 | [],_=>by simp
 | z :: l,h=>by
  have ih:=y_ l λx hx=>h x (List.mem_cons_of_mem _ hx)
  have hz:=h z List.mem_cons_self
  have ht:=Int.natAbs_add_le z l.sum
  rw [List.sum_cons,List.length_cons,Nat.succ_mul]
  omega
noncomputable def tP (b:Nat) (rs:List Row) (gs:List Int):Int:=((rs.zip gs).map λp=>aU b p.1.1 * p.2 * p.2).sum
noncomputable def kr (b gb:Nat) (rs:List Row) (gs:List Int):Rat:=Rat.divInt ((b:Int) * tP b rs gs - iL b rs gs * iL b rs gs) ((b:Int) * gb * ((b:Int) * gb))
noncomputable def KU:CE:=.comp 2 (.tp [0,1]) [] (.du 1000) [(.ix (.v 2) (.int 1)),(.ix (.v 1) (.int 1))] [] (.bin .mul (.bin .mul (.ix (.v 0) (.int 0)) (.v 1)) (.v 1))
noncomputable def f_:List CS:=[.asg (.nm 2) (.call 14 [(.v 0)]),.asg (.nm 3) (.bf .iM [Ae]),.asg (.nm 4) (.bf .iM [KU]),.asg (.nm 5) (.bin .mul (.ix (.v 2) (.int 0)) (.ix (.v 1) (.int 0))),.ret (.call 2 [(.bin .sub (.bin .mul (.ix (.v 2) (.int 0)) (.v 4)) (.bin .mul (.v 3) (.v 3))),(.bin .mul (.v 5) (.v 5))])]
noncomputable def jb (m:List D -> O D):Prop:=∀ {P:List Int -> Prop} k n rs gs (gb:Nat),Dp P k n rs -> gs.length = rs.length -> 0 < gb -> gb < 2 ^ 2000 -> (∀ g ∈ gs,g.natAbs < 2 ^ 2000) -> m [.lst .fz (bH rs),.tup [.int gb,.lst .fz (ab gs)]] = ok (qD (kr (bh (di rs)) gb rs gs))
theorem bQ (Φ:az) (h2:dA (Φ 2)) (OW:gO (Φ 14)) (fY:Φ 1000 = nr):jb (mk Φ 2 6 f_):=by
 intro P k n rs gs gb I hl g0 g1 gs1
 have e1:=OW rs k I.Lu
 obtain ⟨b0,b1,_⟩:=I.bot
 have ht:=λr hr=>I.top (r:=r) hr
 have hlen:=I.len
 generalize bh (di rs) = b at *
 have hz:dk Φ (.du 1000) [.lst .al (nu b rs),.lst .fz (ab gs)] = ok ((rs.zip gs).map λp=>.tup [.tup [.int (aU b p.1.1),.tup (ab p.1.2)],.int p.2]):=by
  show bd (Φ 1000 _) ku = _
  rw [fY]
  show ok (af aI (List.zipWith (λx y=>D.tup [x,y]) (nu b rs) (ab gs))) = _
  have:=cQ aI (nu b rs) (ab gs)
  rw [uu,eR] at this
  refine congrArg ok (Eq.trans this ?_)
  unfold nu ab
  rw [List.zipWith_map,List.zip,List.map_zipWith]
  rfl
 have pr:∀ p ∈ rs.zip gs,(aU b p.1.1 * p.2).natAbs < 2 ^ 2064:=λp hp=>by
  have m:=List.of_mem_zip hp
  rw [Int.natAbs_mul,show (2064:Nat) = 64 + 2000 from rfl]
  exact aO (ht p.1 m.1) (gs1 p.2 m.2)
 have k1:∀ r,aQ Φ Ae (some (.lst .fz (bH rs)) :: some (.tup [.int gb,.lst .fz (ab gs)]) :: some (.tup [.int b,.lst .ow (nu b rs)]) :: r) = ok (.lst .ow (ab ((rs.zip gs).map λp=>aU b p.1.1 * p.2))):=λr=>by
  unfold Ae
  rw [cV (xs:=[.lst .al (nu b rs),.lst .fz (ab gs)]) (by simp) hz (ds:=(rs.zip gs).map λp=>.int (aU b p.1.1 * p.2)) (bE λp hp=>?_) (by simp;exact cj (by omega))]
  ·simp [ab,av]
  ·have m:=List.of_mem_zip hp
   have e:=jy (j:=p.2) (ht p.1 m.1)
   exact ⟨[some (.tup [.int (aU b p.1.1),.tup (ab p.1.2)]),some (.int p.2)],by simp [bc],by simp,by simp [e]⟩
 have k1':∀ r,aQ Φ KU (some (.lst .fz (bH rs)) :: some (.tup [.int gb,.lst .fz (ab gs)]) :: some (.tup [.int b,.lst .ow (nu b rs)]) :: r) = ok (.lst .ow (ab ((rs.zip gs).map λp=>aU b p.1.1 * p.2 * p.2))):=λr=>by
  unfold KU
  rw [cV (xs:=[.lst .al (nu b rs),.lst .fz (ab gs)]) (by simp) hz (ds:=(rs.zip gs).map λp=>.int (aU b p.1.1 * p.2 * p.2)) (bE λp hp=>?_) (by simp;exact cj (by omega))]
  ·simp [ab,av]
  ·have m:=List.of_mem_zip hp
   have e:=jy (j:=p.2) (ht p.1 m.1)
   have e':dc .mul (.int (aU b p.1.1 * p.2)) (.int p.2) = ok (.int (aU b p.1.1 * p.2 * p.2)):=gM (rP (Nat.lt_of_lt_of_le (pr p hp) (Nat.pow_le_pow_right (by decide) (by decide))) (Nat.lt_of_lt_of_le (gs1 p.2 m.2) (Nat.pow_le_pow_right (by decide) (by decide))))
   exact ⟨[some (.tup [.int (aU b p.1.1),.tup (ab p.1.2)]),some (.int p.2)],by simp [bc],by simp,by simp [e,e']⟩
 have ks:∀ l:List Int,qk .iM [.lst .ow (ab l)] = ok (.int l.sum):=λl=>by
  show (match intsOf (ab l) with | some ns=>ok (D.int ns.sum) | none=>none) = _
  unfold ab
  rw [aZ]
 have kt:qk .iM [.lst .ow (ab ((rs.zip gs).map λp=>aU b p.1.1 * p.2))] = ok (.int (iL b rs gs)):=ks _
 have kq:qk .iM [.lst .ow (ab ((rs.zip gs).map λp=>aU b p.1.1 * p.2 * p.2))] = ok (.int (tP b rs gs)):=ks _
 have ta:(iL b rs gs).natAbs < 2 ^ 2100:=by
  have h:=y_ (B:=2 ^ 2064) ((rs.zip gs).map λp=>aU b p.1.1 * p.2) λz hz=>by
   obtain ⟨p,hp,rfl⟩:=List.mem_map.mp hz
   exact Nat.le_of_lt (pr p hp)
  have hz:((rs.zip gs).map λp=>aU b p.1.1 * p.2).length <= 1000:=by simp;omega
  refine Nat.lt_of_le_of_lt (Nat.le_trans h (Nat.mul_le_mul_right _ hz)) ?_
  rw [show (2100:Nat) = 36 + 2064 from rfl,Nat.pow_add]
  exact Nat.mul_lt_mul_of_pos_right (by decide) (Nat.two_pow_pos _)
 have Fj:((b:Int)).natAbs < 2 ^ 64:=by rw [Int.natAbs_natCast];exact Nat.lt_of_lt_of_le b1 (by decide)
 have m1:=jy (j:=(gb:Int)) Fj
 have m2:=jy (j:=tP b rs gs) Fj
 have m3:dc .mul (.int (iL b rs gs)) (.int (iL b rs gs)) = ok (.int (iL b rs gs * iL b rs gs)):=gM (rP (Nat.lt_of_lt_of_le ta (Nat.pow_le_pow_right (by decide) (by decide))) (Nat.lt_of_lt_of_le ta (Nat.pow_le_pow_right (by decide) (by decide))))
 have Q2:((b:Int) * gb).natAbs < 2 ^ 2061:=by
  rw [Int.natAbs_mul,Int.natAbs_natCast,Int.natAbs_natCast,show (2061:Nat) = 61 + 2000 from rfl]
  exact aO b1 g1
 have m4:dc .mul (.int ((b:Int) * gb)) (.int ((b:Int) * gb)) = ok (.int ((b:Int) * gb * ((b:Int) * gb))):=gM (rP (Nat.lt_of_lt_of_le Q2 (Nat.pow_le_pow_right (by decide) (by decide))) (Nat.lt_of_lt_of_le Q2 (Nat.pow_le_pow_right (by decide) (by decide))))
 have k4:=h2.1 ((b:Int) * tP b rs gs - iL b rs gs * iL b rs gs) ((b:Int) * gb * ((b:Int) * gb)) (by
  have:(0:Int) < (b:Int) * gb:=Int.mul_pos (by omega) (by omega)
  have:=Int.mul_pos this this
  omega) (by
  rw [Int.natAbs_mul]
  exact Nat.lt_of_lt_of_le (aO Q2 Q2) (Nat.pow_le_pow_right (by decide) (by decide)))
 change _ = ok (qD (kr b gb rs gs)) at k4
 generalize kr b gb rs gs = sp at *
 simp [mk_eq,f_,e1,k1,k1',kt,kq,m1,m2,m3,m4,k4]
end DI
end
section
namespace DI
open PySem (Str)
end DI
end
section
namespace DI
open PySem (Str)
noncomputable def C9 (p:Int × Int):D:=.tup [.int p.1,.int p.2]
noncomputable def DS (ps:List (Int × Int)):List D:=ps.map C9
@[simp] theorem EL (g:Fl -> Fl) (p:Int × Int):aA g (C9 p) = C9 p:=by unfold C9;simp
@[simp] theorem Fn (g:Fl -> Bool) (p:Int × Int):aH g (C9 p) = false:=by unfold C9;simp
@[simp] theorem Lz (g:Fl -> Fl) (ps:List (Int × Int)):af g (DS ps) = DS ps:=cG g (EL g) ps
@[simp] theorem LU (g:Fl -> Bool) (ps:List (Int × Int)):aw g (DS ps) = false:=cH g (Fn g) ps
@[simp] theorem Mo (ps:List (Int × Int)):(DS ps).length = ps.length:=List.length_map ..
@[simp] theorem Wd (p:Int × Int):zF (C9 p) (.int 0) = ok (.int p.1):=by unfold C9;simp
@[simp] theorem Wc (p:Int × Int):zF (C9 p) (.int 1) = ok (.int p.2):=by unfold C9;simp
theorem DR (n:Nat):(qq (n:Int)).length = n:=by simp [qq]
theorem DQ {n:Nat} {h:Int}:h ∈ qq (n:Int) ↔ ∃ k:Nat,k < n /\ h = k:=by
 unfold qq
 simp [eq_comm]
end DI
end
section
namespace DI
open PySem (Str)
end DI
end
section
namespace DI
open PySem (Str)
noncomputable def Fm (M B:Nat) (q:Rat):Prop:=0 < M /\ ∃ z:Int,z.natAbs <= B /\ q * (M:Rat) = (z:Rat)
section
variable {M N B C:Nat} {p q:Rat}
theorem n6 {M:Nat} (h:0 < M):(M:Rat) ≠ 0:=λz=>by
 have:((M:Int):Rat) = 0:=by rw [Rat.intCast_natCast];exact z
 rw [Rat.intCast_eq_zero_iff] at this;omega
theorem Fm.divInt (h:Fm M B q):∃ z:Int,z.natAbs <= B /\ q = Rat.divInt z M:=by
 obtain ⟨h0,z,hz,e⟩:=h
 refine ⟨z,hz,?_⟩
 rw [Rat.divInt_eq_div,<- e,Rat.intCast_natCast]
 have:=n6 h0
 grind
theorem Fm.sm {k:Nat} (h:Fm M B q) (h1:M < 2 ^ k) (h2:B < 2 ^ k):Sm k q:=by
 have h0:=h.1
 obtain ⟨z,hz,rfl⟩:=h.divInt
 exact qw (by omega) (by omega) (by simpa using h1)
theorem Fm.mono (h:Fm M B q) (hl:B <= C):Fm M C q:=⟨h.1,h.2.choose,Nat.le_trans h.2.choose_spec.1 hl,h.2.choose_spec.2⟩
theorem Fm.add (h:Fm M B p) (h':Fm M C q):Fm M (B + C) (p + q):=by
 obtain ⟨h0,z,hz,e⟩:=h
 obtain ⟨_,w,hw,e'⟩:=h'
 exact ⟨h0,z + w,by omega,by rw [Rat.intCast_add,<- e,<- e'];grind⟩
theorem Fm.sub (h:Fm M B p) (h':Fm M C q):Fm M (B + C) (p - q):=by
 obtain ⟨h0,z,hz,e⟩:=h
 obtain ⟨_,w,hw,e'⟩:=h'
 exact ⟨h0,z - w,by omega,by rw [Rat.intCast_sub,<- e,<- e'];grind⟩
theorem Fm.mul (h:Fm M B p) (h':Fm N C q):Fm (M * N) (B * C) (p * q):=by
 obtain ⟨h0,z,hz,e⟩:=h
 obtain ⟨h0',w,hw,e'⟩:=h'
 exact ⟨Nat.mul_pos h0 h0',z * w,by rw [Int.natAbs_mul];exact Nat.mul_le_mul hz hw,by rw [Rat.intCast_mul,<- e,<- e',Rat.natCast_mul];grind⟩
theorem Fm.lift (c:Nat) (hc:0 < c) (h:Fm M B q):Fm (c * M) (c * B) q:=by
 obtain ⟨h0,z,hz,e⟩:=h
 exact ⟨Nat.mul_pos hc h0,c * z,by rw [Int.natAbs_mul,Int.natAbs_natCast];exact Nat.mul_le_mul_left _ hz,by rw [Rat.intCast_mul,<- e,Rat.natCast_mul,Rat.intCast_natCast];grind⟩
theorem Fm.zero (h:0 < M):Fm M 0 0:=⟨h,0,by decide,by rw [Rat.zero_mul];rfl⟩
theorem Fm.sum {qs:List Rat} (h0:0 < M) (h:∀ q ∈ qs,Fm M B q):Fm M (qs.length * B) qs.sum:=by
 induction qs with
 | nil=>simpa using Fm.zero h0
 | cons q qs ih =>
  rw [List.sum_cons,List.length_cons,Nat.succ_mul,Nat.add_comm]
  exact (h q List.mem_cons_self).add (ih λp hp=>h p (List.mem_cons_of_mem _ hp))
theorem Ct (h0:0 < M) (hd:q.den ∣ M) (hn:q.num.natAbs <= B * q.den):Fm M (B * M) q:=by
 obtain ⟨c,rfl⟩:=hd
 refine ⟨h0,q.num * c,?_,?_⟩
 ·rw [Int.natAbs_mul,Int.natAbs_natCast,<- Nat.mul_assoc]
  exact Nat.mul_le_mul_right _ hn
 ·rw [Rat.intCast_mul,GJ,Rat.natCast_mul,Rat.intCast_natCast];grind
theorem O1 (h:Sm 3 q):Fm 420 (7 * 420) q:=by
 have hp:=q.den_pos
 have h1:=h.1
 have h2:=h.2
 refine Ct (by decide) ?_ ?_
 ·have:q.den = 1 \/ q.den = 2 \/ q.den = 3 \/ q.den = 4 \/ q.den = 5 \/ q.den = 6 \/ q.den = 7:=by omega
  rcases this with e | e | e | e | e | e | e <;> rw [e] <;> decide
 ·have:7 * 1 <= 7 * q.den:=Nat.mul_le_mul_left _ hp
  omega
end
theorem Hf {P:List Int -> Prop} {k n W:Nat} {rs:List Row} (I:Dp P k n rs) (h0:0 < W) (hd:∀ r ∈ rs,r.1.den ∣ W) {r:Row} (hr:r ∈ rs):Fm W (1 * W) r.1:=by
 refine Ct h0 (hd r hr) ?_
 have h:=gj (λs=>decide (s = r)) rs I.pos
 have hp:=I.pos r hr
 have key:∀ l:List Row,(∀ s ∈ l,0 < s.1) -> r ∈ l -> r.1 <= (di l).sum:=λl=>by
  induction l with
  | nil=>intro _ h;cases h
  | cons s l ih =>
   intro hp hm
   have e:(di (s :: l)).sum = s.1 + (di l).sum:=rfl
   rw [e]
   have h1:=hp s List.mem_cons_self
   have h2:=(gj (λ_=>true) l λx hx=>hp x (List.mem_cons_of_mem _ hx)).1
   have h3:l.filter (λ_=>true) = l:=by simp
   rw [h3] at h2
   rcases List.mem_cons.mp hm with rfl | hm
   ·grind
   ·have:=ih (λx hx=>hp x (List.mem_cons_of_mem _ hx)) hm
    grind
 have h1:r.1 <= 1:=by have:=key rs I.pos hr;have e:(di rs).sum = 1:=I.one;rw [e] at this;exact this
 have n0:=qB hp
 have:r.1.num <= r.1.den:=by
  rw [Rat.le_iff] at h1
  simpa using h1
 omega
noncomputable def Hd:Nat:=12 * (7 * 420 * (7 * 420))
noncomputable def Ke:Nat:=420 * 420
structure LsB (W M Bm Bg dv:Nat):Prop where
 w1:W < 64
 m1:M < 2 ^ 200
 m2:M * M < 2 ^ 200
 m3:W * (M * M) < 2 ^ 200
 bm:Bm < 2 ^ 200
 bg:Bg < 2 ^ 200
 ds:Bg + Bm <= dv
 d1:dv < 2 ^ 200
 d2:dv * dv < 2 ^ 200
 d3:12 * (64 * (dv * dv)) < 2 ^ 200
theorem Vx {W:Nat} (w1:W < 64):LsB W (W * Ke) (12 * (W * Hd)) (W * Hd) (13 * (64 * Hd)):=by
 have hW:W <= 64:=by omega
 have a1:W * Ke <= 64 * Ke:=Nat.mul_le_mul_right _ hW
 have a2:W * Hd <= 64 * Hd:=Nat.mul_le_mul_right _ hW
 exact ⟨w1,Nat.lt_of_le_of_lt a1 (by decide +kernel),Nat.lt_of_le_of_lt (Nat.mul_le_mul a1 a1) (by decide +kernel),Nat.lt_of_le_of_lt (Nat.mul_le_mul hW (Nat.mul_le_mul a1 a1)) (by decide +kernel),Nat.lt_of_le_of_lt (Nat.mul_le_mul_left _ a2) (by decide +kernel),Nat.lt_of_le_of_lt a2 (by decide +kernel),by omega,by decide +kernel,by decide +kernel,by decide +kernel⟩
end DI
end
section
namespace DI
open PySem (Str)
noncomputable abbrev Rg:=Row × List Rat
noncomputable def br (ps:List Rg):List Row:=ps.map (·.1)
noncomputable def d4 (f:Fl) (ps:List Rg):List D:=ps.map λp=>.lst f (aS p.2)
@[simp] theorem Ef (ps:List Rg):(br ps).length = ps.length:=List.length_map ..
@[simp] theorem Q9 (f:Fl) (ps:List Rg):(d4 f ps).length = ps.length:=List.length_map ..
@[simp] theorem n_ (g:Fl -> Fl) (f:Fl) (ps:List Rg):af g (d4 f ps) = d4 (g f) ps:=by
 unfold d4
 rw [av,List.map_map]
 refine List.map_congr_left λx _=>?_
 show aA g (.lst f (aS _)) = _
 simp
theorem oz (g:Fl -> Bool) (f:Fl) (ps:List Rg) (h:g f = false):aw g (d4 f ps) = false:=cH g (λx=>by simp [h]) ps
noncomputable def wrQ (ws:List Rat) (row:List Int) (xs:List Rat):Rat:=((row.zip ws).map λp=>p.2 * ng xs p.1).sum
noncomputable def cq (xs:List Rat) (p:Rg):Rat:=wrQ p.2 p.1.2 xs
structure Rk (n:Nat) (ps:List Rg) (xs:List Rat):Prop where
 dr:Dp (Rw n) 6 n (br ps)
 ln:∀ p ∈ ps,p.2.length = p.1.2.length
 sw:∀ p ∈ ps,∀ q ∈ p.2,Sm 3 q
 l2:xs.length = n
 s2:∀ q ∈ xs,Sm 3 q
section
variable {n:Nat} {ps:List Rg} {xs:List Rat} (K:Rk n ps xs)
include K
theorem Rk.GZ:n <= 12:=K.dr.n2
theorem Rk.mr:ps.length <= 10:=by have:=K.dr.mr;rw [Ef] at this;omega
theorem Rk.rw {p:Rg} (hp:p ∈ ps):Rw n p.1.2:=K.dr.Dh p.1 (List.mem_map_of_mem hp)
theorem Rk.at {p:Rg} (hp:p ∈ ps) {h:Int} (hh:h ∈ p.1.2):qZ (aS xs) h = ok (qD (ng xs h)) /\ Sm 3 (ng xs h):=by
 have:=(K.rw hp).2.2 h hh
 have l:=K.l2
 exact ⟨Qf this.1 (by omega),K.s2 _ (nc this.1 (by omega)).2⟩
theorem Rk.GP {p:Rg} (hp:p ∈ ps):xj 6 ((p.1.2.zip p.2).map λz=>z.2 * ng xs z.1):=by
 have hl:=(K.rw hp).2.1
 have:=K.GZ
 refine ⟨λq hq=>?_,by rw [List.length_map,List.length_zip];omega,by rw [List.length_map,List.length_zip];omega⟩
 obtain ⟨z,hz,rfl⟩:=List.mem_map.mp hq
 have m:=List.of_mem_zip hz
 exact (K.sw p hp _ m.2).mul (K.at hp m.1).2
theorem Rk.pv {p:Rg} (hp:p ∈ ps):Sm 85 (cq xs p):=by
 have h:=Sm.sum (K.GP hp).sm
 have hl:=(K.rw hp).2.1
 have:=K.GZ
 exact h.mono (by rw [List.length_map,List.length_zip];omega)
theorem Rk.Dd:xj 85 (ps.map (cq xs)):=by
 have:=K.mr
 refine ⟨λq hq=>?_,by rw [List.length_map];omega,by rw [List.length_map];omega⟩
 obtain ⟨p,hp,rfl⟩:=List.mem_map.mp hq
 exact K.pv hp
end
noncomputable def sU:List CS:=[.ret (.call 45 [(.v 0)])]
theorem Io (Φ:az) (Xk:mz (Φ 45)):mz (mk Φ 1 1 sU):=by
 intro k n rs I
 have e:=Xk k n rs I
 have m1:aA aI (bU n rs) = bU n rs:=by simp [bU]
 have m2:aA ba (bU n rs) = bU n rs:=by simp [bU]
 simp [mk_eq,sU,m1,m2,e]
noncomputable def pf (m:List D -> O D):Prop:=∀ k n rs,Dp (Rw n) k n rs -> m [bU n rs] = ok .bA
noncomputable def sW:List CS:=[.ifs (.not (.call 72 [(.v 0)])) [.rs 1] []]
theorem Ip (Φ:az) (Xg:mz (Φ 72)):pf (mk Φ 1 1 sW):=by
 intro k n rs I
 have e:=Xg k n rs I
 have m1:aA aI (bU n rs) = bU n rs:=by simp [bU]
 have m2:aA ba (bU n rs) = bU n rs:=by simp [bU]
 simp [mk_eq,sW,m1,m2,e]
noncomputable def Dc (p:Rg):D:=.tup [rD p.1,.lst .fz (aS p.2)]
theorem Hx (ps:List Rg):List.zipWith (λx y=>D.tup [x,y]) (bH (br ps)) (d4 .fz ps) = ps.map Dc:=by
 unfold bH br d4
 rw [List.map_map,List.zipWith_map,List.zipWith_self]
 rfl
theorem AJ {Φ:az} (fY:Φ 1000 = nr) (a b:Nat) (ps:List Rg) {ρ:aB} (ha:aQ Φ (.v a) ρ = ok (.lst .fz (bH (br ps)))) (hb:aQ Φ (.v b) ρ = ok (.lst .fz (d4 .fz ps))):gn Φ (.De 1000 [(.v a),(.v b)]) ρ = ok (ps.map Dc,ρ):=by
 show bd (cD Φ [(.v a),(.v b)] ρ) _ = _
 have:cD Φ [(.v a),(.v b)] ρ = ok [.lst .fz (bH (br ps)),.lst .fz (d4 .fz ps)]:=by simp [ha,hb]
 rw [this,dU,fY]
 show bd (ok (D.lst .ow (List.zipWith (λx y=>D.tup [x,y]) (bH (br ps)) (d4 .fz ps)))) _ = _
 rw [Hx,dU]
 have e:af aI (ps.map Dc) = ps.map Dc:=cG aI (λp=>by unfold Dc;simp) ps
 show ok (af aI (ps.map Dc),if aw b_ [D.lst .fz (bH (br ps)),.lst .fz (d4 .fz ps)] then _ else _) = _
 rw [e]
 have:aw b_ [D.lst .fz (bH (br ps)),.lst .fz (d4 .fz ps)] = false:=by
  have:=oz b_ .fz ps rfl
  simp [this]
 rw [this];rfl
noncomputable def DX:List CS:=[.ifs (.not (.call 40 [(.v 3),(.bf .len [(.ix (.v 2) (.int 1))])])) [.rs 8] []]
noncomputable def FZ:List CS:=[.ifs (.or [(.not (.oo (.v 0) .list)),(.cmp .ne (.bf .len [(.v 0)]) (.bf .len [(.v 1)]))]) [.rs 8] [],.fr (.tp [2,3]) (.De 1000 [(.v 1),(.v 0)]) DX]
noncomputable def C3 (m:List D -> O D):Prop:=∀ n ps xs,Rk n ps xs -> m [.lst .fz (d4 .fz ps),.lst .fz (bH (br ps))] = ok .bA
theorem yO (Φ:az) (Q8:dF (Φ 40)) (c0 c1:Option D):∀ (ps:List Rg) (c2 c3:Option D),(∀ p ∈ ps,p.2.length = p.1.2.length /\ p.2.length <= 12) -> ∃ Lf Le,eW (λd ρ=>cC (.tp [2,3]) d ρ) (λρ=>bM Φ DX ρ) (ps.map Dc) [c0,c1,c2,c3] = ok (.nx,[c0,c1,Lf,Le])
 | [],c2,c3,_=>⟨c2,c3,rfl⟩
 | p :: ps,c2,c3,h=>by
  obtain ⟨Lf,Le,ih⟩:=yO Φ Q8 c0 c1 ps (some (rD p.1)) (some (.lst .fz (aS p.2))) λs hs=>h s (List.mem_cons_of_mem _ hs)
  have h1:=h p List.mem_cons_self
  have e:=λf=>Q8 (.lst f (aS p.2)) p.1.2.length (by show (aS p.2).length <= 1000000;simp;omega)
  simp only [CU,h1.1,decide_true] at e
  have e1:rD p.1 = .tup [qD p.1.1,.tup (ab p.1.2)]:=rfl
  refine ⟨Lf,Le,fJ (ρ1:=[c0,c1,some (rD p.1),some (.lst .fz (aS p.2))]) (by simp [Dc]) (ρ2:=[c0,c1,some (rD p.1),some (.lst .fz (aS p.2))]) ?_ ih⟩
  simp [DX,e1,e]
theorem SX (Φ:az) (Q8:dF (Φ 40)) (fY:Φ 1000 = nr):C3 (mk Φ 2 4 FZ):=by
 intro n ps xs K
 have hn:=K.GZ
 obtain ⟨c2,c3,e⟩:=yO Φ Q8 (some (.lst .fz (d4 .fz ps))) (some (.lst .fz (bH (br ps)))) ps none none λp hp=>⟨K.ln p hp,by have:=(K.rw hp).2.1;have:=K.ln p hp;omega⟩
 have hit:=AJ fY 1 0 ps (ρ:=[some (.lst .fz (d4 .fz ps)),some (.lst .fz (bH (br ps))),none,none]) (by simp) (by simp)
 have hf:=iH (Φ:=Φ) (t:=.tp [2,3]) (b:=DX) hit e
 have RJ:∀ f ds,dS .list (.lst f ds) = true:=λ_ _=>rfl
 simp [mk_eq,FZ,RJ,hf]
noncomputable def K0:CE:=.comp 2 (.tp [0,1]) [2] (.du 1015) [(.ix (.v 4) (.int 1)),(.v 5)] [] (.call 6 [(.v 1),(.ix (.v 2) (.v 0))])
noncomputable def DV:List CS:=[.app 3 (.call 42 [K0])]
noncomputable def FX:List CS:=[.asg (.nm 3) (.lst []),.fr (.tp [4,5]) (.De 1000 [(.v 0),(.v 1)]) DV,.ret (.call 41 [(.v 3)])]
noncomputable def CY (m:List D -> O D):Prop:=∀ n ps xs,Rk n ps xs -> m [.lst .fz (bH (br ps)),.lst .fz (d4 .fz ps),.lst .fz (aS xs)] = ok (.tup [.int (bh (ps.map (cq xs))),.lst .ow (ab ((ps.map (cq xs)).map (aU (bh (ps.map (cq xs))))))])
theorem Ei (Φ:az) (h6:dD (Φ 6)) (kI:Φ 1015 = mh) {n:Nat} {qs:List Rg} {xs:List Rat} (K:Rk n qs xs) {p:Rg} (hp:p ∈ qs) (c0 c1 c3:Option D):aQ Φ K0 [c0,c1,some (.lst .fz (aS xs)),c3,some (rD p.1),some (.lst .fz (aS p.2))] = ok (.lst .ow (aS ((p.1.2.zip p.2).map λz=>z.2 * ng xs z.1))):=by
 have hl:=(K.rw hp).2.1
 have hn:=K.GZ
 have hz:dk Φ (.du 1015) [.tup (ab p.1.2),.lst .fz (aS p.2)] = ok ((p.1.2.zip p.2).map λz=>.tup [.int z.1,qD z.2]):=by
  show bd (Φ 1015 _) ku = _
  rw [kI]
  show ok (af aI (List.zipWith (λx y=>D.tup [x,y]) (ab p.1.2) (aS p.2))) = _
  have:=cQ aI (ab p.1.2) (aS p.2)
  rw [BP,eR] at this
  refine congrArg ok (Eq.trans this ?_)
  unfold aS ab
  rw [List.zipWith_map,List.zip,List.map_zipWith]
  rfl
 unfold K0
 have e1:rD p.1 = .tup [qD p.1.1,.tup (ab p.1.2)]:=rfl
 rw [cV (xs:=[.tup (ab p.1.2),.lst .fz (aS p.2)]) (by simp [e1]) hz (ds:=(p.1.2.zip p.2).map λz=>qD (z.2 * ng xs z.1)) (bE λz hz=>?_) (by simp;exact cj (by omega))]
 ·simp [aS,av]
 ·have m:=List.of_mem_zip hz
  obtain ⟨a1,a2⟩:=K.at hp m.1
  have e:=h6 z.2 (ng xs z.1) ((K.sw p hp _ m.2).mono (by decide)) (a2.mono (by decide))
  exact ⟨[some (.int z.1),some (qD z.2),some (.lst .fz (aS xs))],by simp [bc],by simp,by simp [a1,e]⟩
theorem xI (Φ:az) (h6:dD (Φ 6)) (Q7:fi (Φ 42)) (kI:Φ 1015 = mh) {n:Nat} {qs:List Rg} {xs:List Rat} (K:Rk n qs xs) (c0 c1:Option D):∀ (ps:List Rg) (acc:List Rat) (c4 c5:Option D),(∀ p ∈ ps,p ∈ qs) -> acc.length + ps.length <= 100 ->
  ∃ CQ xh,eW (λd ρ=>cC (.tp [4,5]) d ρ) (λρ=>bM Φ DV ρ) (ps.map Dc) [c0,c1,some (.lst .fz (aS xs)),some (.lst .ow (aS acc)),c4,c5] = ok (.nx,[c0,c1,some (.lst .fz (aS xs)),some (.lst .ow (aS (acc ++ ps.map (cq xs)))),CQ,xh])
 | [],acc,c4,c5,_,_=>⟨c4,c5,by simp [mZ]⟩
 | p :: ps,acc,c4,c5,h,hl=>by
  rw [List.length_cons] at hl
  obtain ⟨CQ,xh,ih⟩:=xI Φ h6 Q7 kI K c0 c1 ps (acc ++ [cq xs p]) (some (rD p.1)) (some (.lst .fz (aS p.2))) (λs hs=>h s (List.mem_cons_of_mem _ hs)) (by simp;omega)
  have hp:=h p List.mem_cons_self
  have e1:=Ei Φ h6 kI K hp c0 c1 (some (.lst .ow (aS acc)))
  have e2:=λf=>Q7 f _ 6 (K.GP hp)
  change ∀ f,Φ 42 _ = ok (qD (cq xs p)) at e2
  have hc:acc.length < eM:=by show _ < 1000000;omega
  have ea:aS acc ++ [qD (cq xs p)] = aS (acc ++ [cq xs p]):=by simp [aS]
  refine ⟨CQ,xh,fJ (ρ1:=[c0,c1,some (.lst .fz (aS xs)),some (.lst .ow (aS acc)),some (rD p.1),some (.lst .fz (aS p.2))]) (by simp [Dc]) (ρ2:=[c0,c1,some (.lst .fz (aS xs)),some (.lst .ow (aS (acc ++ [cq xs p]))),some (rD p.1),some (.lst .fz (aS p.2))]) ?_ (ih.trans (by simp))⟩
  simp [DV,e1,e2,ea,hc]
theorem SV (Φ:az) (h6:dD (Φ 6)) (Xm:ib (Φ 41)) (Q7:fi (Φ 42)) (fY:Φ 1000 = nr) (kI:Φ 1015 = mh):CY (mk Φ 3 6 FX):=by
 intro n ps xs K
 have hf:=K.mr
 obtain ⟨c4,c5,e⟩:=xI Φ h6 Q7 kI K (some (.lst .fz (bH (br ps)))) (some (.lst .fz (d4 .fz ps))) ps [] none none (λ_ h=>h) (by simp;omega)
 have q0:aS [] = []:=rfl
 rw [List.nil_append,q0] at e
 have hit:=AJ fY 0 1 ps (ρ:=[some (.lst .fz (bH (br ps))),some (.lst .fz (d4 .fz ps)),some (.lst .fz (aS xs)),some (.lst .ow []),none,none]) (by simp) (by simp)
 have hx:=iH (Φ:=Φ) (t:=.tp [4,5]) (b:=DV) hit e
 have eo:=λf=>Xm f _ 85 K.Dd
 simp [mk_eq,FX,hx,eo]
end DI
end
section
namespace DI
open PySem (Str)
noncomputable def g_ (ps:List Rg) (xs:List Rat):Rat:=(ps.map λp=>p.1.1 * cq xs p).sum
noncomputable def Bi (ps:List Rg) (xs:List Rat):Rat:=(ps.map λp=>p.1.1 * (cq xs p * cq xs p)).sum
noncomputable def AD (ps:List Rg) (xs:List Rat) (m:Rat):Rat:=(ps.map λp=>p.1.1 * ((cq xs p - m) * (cq xs p - m))).sum
theorem vR {b c:Nat} (xs:List Rat):∀ (ps:List Rg),(∀ p ∈ ps,p.1.1.den ∣ b /\ (cq xs p).den ∣ c) ->
  ((iL b (br ps) ((ps.map (cq xs)).map (aU c)):Int):Rat) = g_ ps xs * ((b:Rat) * (c:Rat)) /\ ((tP b (br ps) ((ps.map (cq xs)).map (aU c)):Int):Rat) = Bi ps xs * ((b:Rat) * ((c:Rat) * (c:Rat)))
 | [],_=>by constructor <;> simp [iL,tP,g_,Bi,br,Rat.zero_mul]
 | p :: ps,h=>by
  obtain ⟨i1,i2⟩:=vR xs ps λs hs=>h s (List.mem_cons_of_mem _ hs)
  obtain ⟨d1,d2⟩:=h p List.mem_cons_self
  have e1:iL b (br (p :: ps)) (((p :: ps).map (cq xs)).map (aU c)) = aU b p.1.1 * aU c (cq xs p) + iL b (br ps) ((ps.map (cq xs)).map (aU c)):=rfl
  have e2:tP b (br (p :: ps)) (((p :: ps).map (cq xs)).map (aU c)) = aU b p.1.1 * aU c (cq xs p) * aU c (cq xs p) + tP b (br ps) ((ps.map (cq xs)).map (aU c)):=rfl
  have e3:g_ (p :: ps) xs = p.1.1 * cq xs p + g_ ps xs:=by unfold g_;rw [List.map_cons,List.sum_cons]
  have e4:Bi (p :: ps) xs = p.1.1 * (cq xs p * cq xs p) + Bi ps xs:=by unfold Bi;rw [List.map_cons,List.sum_cons]
  constructor
  ·rw [e1,e3,Rat.intCast_add,Rat.intCast_mul,iS d1,iS d2,i1];grind
  ·rw [e2,e4,Rat.intCast_add,Rat.intCast_mul,Rat.intCast_mul,iS d1,iS d2,i2];grind
theorem Cw (xs:List Rat) (m:Rat):∀ ps:List Rg,AD ps xs m = Bi ps xs - 2 * m * g_ ps xs + m * m * (di (br ps)).sum
 | []=>by show (0:Rat) = 0 - 2 * m * 0 + m * m * 0;grind
 | p :: ps=>by
  have ih:=Cw xs m ps
  have e1:AD (p :: ps) xs m = p.1.1 * ((cq xs p - m) * (cq xs p - m)) + AD ps xs m:=by unfold AD;rw [List.map_cons,List.sum_cons]
  have e3:g_ (p :: ps) xs = p.1.1 * cq xs p + g_ ps xs:=by unfold g_;rw [List.map_cons,List.sum_cons]
  have e4:Bi (p :: ps) xs = p.1.1 * (cq xs p * cq xs p) + Bi ps xs:=by unfold Bi;rw [List.map_cons,List.sum_cons]
  have e5:(di (br (p :: ps))).sum = p.1.1 + (di (br ps)).sum:=rfl
  rw [e1,e3,e4,e5,ih];grind
section
variable {n:Nat} {ps:List Rg} {xs:List Rat} (K:Rk n ps xs)
include K
theorem Rk.dev:AD ps xs (g_ ps xs) = Bi ps xs - g_ ps xs * g_ ps xs:=by
 have h1:(di (br ps)).sum = 1:=K.dr.one
 rw [Cw,h1];grind
theorem Rk.Pa:∀ p ∈ ps,p.1.1.den ∣ bh (di (br ps)) /\ (cq xs p).den ∣ bh (ps.map (cq xs)):=λp hp =>
 ⟨K.dr.bot.2.2 _ (List.mem_map_of_mem (List.mem_map_of_mem hp)),K.Dd.lcm.2.2 _ (List.mem_map_of_mem hp)⟩
theorem Rk.Vw:Rat.divInt (iL (bh (di (br ps))) (br ps) ((ps.map (cq xs)).map (aU (bh (ps.map (cq xs)))))) ((bh (di (br ps)):Int) * (bh (ps.map (cq xs)):Int)) = g_ ps xs:=by
 have t:=(vR xs ps K.Pa).1
 have z1:=n6 K.dr.bot.1
 have z2:=n6 K.Dd.lcm.1
 rw [Rat.divInt_eq_div,t,Rat.intCast_mul,Rat.intCast_natCast,Rat.intCast_natCast]
 generalize ((bh (di (br ps)):Nat):Rat) = B at *
 generalize ((bh (ps.map (cq xs)):Nat):Rat) = C at *
 grind
theorem Rk.spread:kr (bh (di (br ps))) (bh (ps.map (cq xs))) (br ps) ((ps.map (cq xs)).map (aU (bh (ps.map (cq xs))))) = AD ps xs (g_ ps xs):=by
 obtain ⟨t,q⟩:=vR xs ps K.Pa
 have z1:=n6 K.dr.bot.1
 have z2:=n6 K.Dd.lcm.1
 rw [K.dev]
 unfold kr
 rw [Rat.divInt_eq_div]
 simp only [Rat.intCast_sub,Rat.intCast_mul,Rat.intCast_natCast,t,q]
 generalize ((bh (di (br ps)):Nat):Rat) = B at *
 generalize ((bh (ps.map (cq xs)):Nat):Rat) = C at *
 generalize g_ ps xs = m at *
 generalize Bi ps xs = s at *
 grind
theorem Rk.tops:∀ g ∈ (ps.map (cq xs)).map (aU (bh (ps.map (cq xs)))),g.natAbs < 2 ^ 2000:=λg hg=>by
 obtain ⟨q,hq,rfl⟩:=List.mem_map.mp hg
 have s:=K.Dd.sm q hq
 have c3:=K.Dd.lcm.2.1
 have hl:=K.mr
 rw [List.length_map] at c3
 unfold aU
 rw [Int.natAbs_mul]
 have f1:((bh (ps.map (cq xs)):Int).fdiv q.den).natAbs <= bh (ps.map (cq xs)):=by
  rw [Int.fdiv_eq_ediv_of_nonneg _ (by omega)]
  have:=Int.natAbs_ediv_le_natAbs (bh (ps.map (cq xs)):Int) (q.den:Int)
  simpa using this
 exact Nat.lt_of_lt_of_le (aO s.1 (Nat.lt_of_le_of_lt f1 c3)) (Nat.pow_le_pow_right (by decide) (by omega))
theorem Rk.ZC:bh (ps.map (cq xs)) < 2 ^ 2000:=by
 have hl:=K.mr
 have c3:=K.Dd.lcm.2.1
 rw [List.length_map] at c3
 exact Nat.lt_of_lt_of_le c3 (Nat.pow_le_pow_right (by decide) (by omega))
end
noncomputable def vv (f:Nat):List CS:=[.ex (.call 73 [(.v 0)]),.ex (.call 74 [(.v 1),(.ix (.v 0) (.int 1))]),.ex (.call 47 [(.v 2),(.ix (.v 0) (.int 0))]),.ret (.call f [(.ix (.v 0) (.int 1)),(.call 75 [(.ix (.v 0) (.int 1)),(.v 1),(.v 2)])])]
noncomputable def mQ (g:List Rg -> List Rat -> Rat) (m:List D -> O D):Prop:=∀ n ps xs,Rk n ps xs -> m [bU n (br ps),.lst .fz (d4 .fz ps),.lst .fz (aS xs)] = ok (qD (g ps xs))
noncomputable def mF (ps:List Rg) (xs:List Rat):Rat:=AD ps xs (g_ ps xs)
theorem GG (Φ:az) {f:Nat} {g:List Rg -> List Rat -> Rat} (OR:kZ 4 lU (Φ 47)) (OP:pf (Φ 73)) (OO:C3 (Φ 74)) (ON:CY (Φ 75)) (hf:∀ n ps xs,Rk n ps xs -> Φ f [.lst .fz (bH (br ps)),.tup [.int (bh (ps.map (cq xs))),.lst .fz (ab ((ps.map (cq xs)).map (aU (bh (ps.map (cq xs))))))]] = ok (qD (g ps xs))):mQ g (mk Φ 3 3 (vv f)):=by
 intro n ps xs K
 have hn:=K.GZ
 have l2:=K.l2
 have e1:=OP 6 n _ K.dr
 have e2:=OO n ps xs K
 have e3:=λf=>OR (.lst f (aS xs)) n (by show (aS xs).length <= 1000000;simp;omega)
 simp only [CU,l2,decide_true,if_true] at e3
 have e4:=ON n ps xs K
 have e5:=hf n ps xs K
 have m1:aA aI (bU n (br ps)) = bU n (br ps):=by simp [bU]
 have m2:aA ba (bU n (br ps)) = bU n (br ps):=by simp [bU]
 have hd:bU n (br ps) = .tup [.int n,.lst .fz (bH (br ps))]:=rfl
 have x0:zF (bU n (br ps)) (.int 0) = ok (.int n):=by rw [hd];simp
 have x1:zF (bU n (br ps)) (.int 1) = ok (.lst .fz (bH (br ps))):=by rw [hd];simp
 generalize bh (ps.map (cq xs)) = c at *
 generalize (ps.map (cq xs)).map (aU c) = ts at *
 simp [mk_eq,vv,m1,m2,x0,x1,e1,e2,e3,e4,e5]
theorem SU (Φ:az) (OR:kZ 4 lU (Φ 47)) (h49:lV (Φ 49)) (OP:pf (Φ 73)) (OO:C3 (Φ 74)) (ON:CY (Φ 75)):mQ g_ (mk Φ 3 3 (vv 49)) :=
 GG Φ OR OP OO ON λn ps xs K=>by
  have:=h49 6 n (br ps) ((ps.map (cq xs)).map (aU (bh (ps.map (cq xs))))) (bh (ps.map (cq xs))) K.dr (by simp) K.Dd.lcm.1 K.Dd.ES
  rw [K.Vw] at this
  exact this
theorem MS (Φ:az) (OR:kZ 4 lU (Φ 47)) (h50:jb (Φ 50)) (OP:pf (Φ 73)) (OO:C3 (Φ 74)) (ON:CY (Φ 75)):mQ mF (mk Φ 3 3 (vv 50)) :=
 GG Φ OR OP OO ON λn ps xs K=>by
  have:=h50 6 n (br ps) ((ps.map (cq xs)).map (aU (bh (ps.map (cq xs))))) (bh (ps.map (cq xs))) K.dr (by simp) K.Dd.lcm.1 K.ZC K.tops
  rw [K.spread] at this
  exact this
noncomputable def As (f:Nat):List CS:=[.ex (.call 17 [(.v 0)]),.ret (.call f [(.v 0),(.v 1),(.v 2)])]
noncomputable def C1 (g:List Rg -> List Rat -> Rat) (m:List D -> O D):Prop:=∀ n ps xs,Rk n ps xs -> Dr 6 n (br ps) -> m [bU n (br ps),.lst .fz (d4 .fz ps),.lst .fz (aS xs)] = ok (qD (g ps xs))
theorem MW (Φ:az) {f:Nat} {g:List Rg -> List Rat -> Rat} (h17:jW (Φ 17)) (hf:mQ g (Φ f)):C1 g (mk Φ 3 3 (As f)):=by
 intro n ps xs K I
 have e1:=h17 6 n _ I
 have e2:=hf n ps xs K
 have m1:aA aI (bU n (br ps)) = bU n (br ps):=by simp [bU]
 have m2:aA ba (bU n (br ps)) = bU n (br ps):=by simp [bU]
 simp [mk_eq,As,m1,m2,e1,e2]
end DI
end
section
namespace DI
open PySem (Str)
theorem sx {α:Type} {l:List α} {j:Nat} {x:α} (h:l[j]? = some x):l.drop j = x :: l.drop (j + 1):=by
 obtain ⟨hj,e⟩:=List.getElem?_eq_some_iff.mp h
 rw [List.drop_eq_getElem_cons hj,e]
theorem oD {α:Type} {l:List α} {j:Nat} (h:j < l.length):∃ x,l[j]? = some x /\ x ∈ l:=⟨l[j],List.getElem?_eq_getElem h,List.getElem_mem h⟩
noncomputable def DW:List CS:=[.asg (.nm 3) (.call 202 [(.v 3),(.call 203 [(.ix (.v 0) (.v 4)),(.ix (.v 2) (.ix (.v 1) (.v 4)))])])]
noncomputable def FY:List CS:=[.asg (.nm 3) (.tup [(.int 0),(.int 1)]),.fr (.nm 4) (.lC (.bf .len [(.v 1)])) DW,.ret (.v 3)]
noncomputable def Aw (m:List D -> O D):Prop:=∀ n ps xs p,Rk n ps xs -> p ∈ ps -> m [.lst .fz (aS p.2),.tup (ab p.1.2),.lst .fz (aS xs)] = ok (qD (cq xs p))
theorem x4 (Φ:az) (kG:my (Φ 202)) (jN:dD (Φ 203)) {n:Nat} {ps:List Rg} {xs:List Rat} {p:Rg} (K:Rk n ps xs) (hp:p ∈ ps):∀ (k j:Nat) (acc:Rat) (c4:Option D),j + k = p.1.2.length -> Sm (1 + 7 * j) acc ->
  ∃ CQ,eW (λd ρ=>cC (.nm 4) d ρ) (λρ=>bM Φ DW ρ) ((List.range' j k).map λ(i:Nat)=>D.int (i:Int)) [some (.lst .fz (aS p.2)),some (.tup (ab p.1.2)),some (.lst .fz (aS xs)),some (qD acc),c4] =
   ok (.nx,[some (.lst .fz (aS p.2)),some (.tup (ab p.1.2)),some (.lst .fz (aS xs)),some (qD (acc + (((p.1.2.zip p.2).drop j).map λz=>z.2 * ng xs z.1).sum)),CQ])
 | 0,j,acc,c4,hj,_=>⟨c4,by
   have hl:=K.ln p hp
   rw [List.drop_eq_nil_of_le (by rw [List.length_zip];omega)]
   simp [mZ,Rat.add_zero]⟩
 | k + 1,j,acc,c4,hj,hs=>by
  have hl:=K.ln p hp
  have hw:=(K.rw hp).2.1
  have hn:=K.GZ
  obtain ⟨h,h1,h2⟩:=oD (l:=p.1.2) (j:=j) (by omega)
  obtain ⟨w,w1,w2⟩:=oD (l:=p.2) (j:=j) (by omega)
  have hz:(p.1.2.zip p.2)[j]? = some (h,w):=by rw [List.getElem?_zip_eq_some];exact ⟨h1,w1⟩
  obtain ⟨a1,a2⟩:=K.at hp h2
  have b1:qZ (ab p.1.2) (j:Int) = ok (.int h):=at_of (d:=.int h) (by omega) (by unfold ab;rw [Int.toNat_natCast,List.getElem?_map,h1];rfl)
  have b2:qZ (aS p.2) (j:Int) = ok (qD w):=by
   have:=at_of (ds:=aS p.2) (i:=(j:Int)) (d:=qD w) (by omega) (by unfold aS;rw [Int.toNat_natCast,List.getElem?_map,w1];rfl)
   simpa using this
  have s3:=K.sw p hp w w2
  have e1:=jN w (ng xs h) (s3.mono (by decide)) (a2.mono (by decide))
  have s4:Sm 6 (w * ng xs h):=s3.mul a2
  have e2:=kG acc (w * ng xs h) (hs.mono (by omega)) (s4.mono (by decide))
  obtain ⟨CQ,ih⟩:=x4 Φ kG jN K hp k (j + 1) (acc + w * ng xs h) (some (.int j)) (by omega) ((hs.add s4).mono (by omega))
  rw [List.range'_succ,List.map_cons,sx hz,List.map_cons,List.sum_cons,<- Rat.add_assoc]
  refine ⟨CQ,fJ (ρ1:=[some (.lst .fz (aS p.2)),some (.tup (ab p.1.2)),some (.lst .fz (aS xs)),some (qD acc),some (.int j)]) (by simp) (ρ2:=[some (.lst .fz (aS p.2)),some (.tup (ab p.1.2)),some (.lst .fz (aS xs)),some (qD (acc + w * ng xs h)),some (.int j)]) ?_ ih⟩
  simp [DW,b1,b2,a1,e1,e2]
theorem SW (Φ:az) (kG:my (Φ 202)) (jN:dD (Φ 203)):Aw (mk Φ 3 5 FY):=by
 intro n ps xs p K hp
 have hw:=(K.rw hp).2.1
 have hn:=K.GZ
 have z0:D.tup [.int 0,.int 1] = qD 0:=rfl
 obtain ⟨c4,e⟩:=x4 Φ kG jN K hp p.1.2.length 0 0 none (by omega) (by constructor <;> decide)
 rw [List.drop_zero,Rat.zero_add] at e
 have hit:=zG (Φ:=Φ) (a:=.bf .len [(.v 1)]) (ρ:=[some (.lst .fz (aS p.2)),some (.tup (ab p.1.2)),some (.lst .fz (aS xs)),some (qD 0),none]) (n:=p.1.2.length) (by simp) (by omega) (by omega)
 rw [Int.toNat_natCast,List.range_eq_range'] at hit
 have hx:=iH (Φ:=Φ) (t:=.nm 4) (b:=DW) hit e
 simp [mk_eq,FY,z0,hx]
 rfl
noncomputable def xy:List CS:=[.asg (.tp [5,6]) (.ix (.ix (.v 0) (.int 1)) (.v 4)),.asg (.nm 3) (.call 202 [(.v 3),(.call 203 [(.v 5),(.call 244 [(.ix (.v 1) (.v 4)),(.v 6),(.v 2)])])])]
noncomputable def yU:List CS:=[.asg (.nm 3) (.tup [(.int 0),(.int 1)]),.fr (.nm 4) (.lC (.bf .len [(.v 1)])) xy,.ret (.v 3)]
theorem Hb {ps:List Rg} {j:Nat} {p:Rg} (h:ps[j]? = some p):qZ (d4 .fz ps) (j:Int) = ok (.lst .fz (aS p.2)) /\ qZ (bH (br ps)) (j:Int) = ok (rD p.1):=by
 constructor
 ·have:=at_of (ds:=d4 .fz ps) (i:=(j:Int)) (d:=.lst .fz (aS p.2)) (by omega) (by unfold d4;rw [Int.toNat_natCast,List.getElem?_map,h];rfl)
  have e:aA ba (.lst .fz (aS p.2)) = .lst .fz (aS p.2):=by simp [ba]
  rw [e] at this
  exact this
 ·have:=at_of (ds:=bH (br ps)) (i:=(j:Int)) (d:=rD p.1) (by omega) (by unfold bH br;rw [Int.toNat_natCast,List.getElem?_map,List.getElem?_map,h];rfl)
  simpa using this
theorem uy (Φ:az) (kG:my (Φ 202)) (jN:dD (Φ 203)) (se:Aw (Φ 244)) {n:Nat} {ps:List Rg} {xs:List Rat} (K:Rk n ps xs):∀ (k j:Nat) (acc:Rat) (c4 c5 c6:Option D),j + k = ps.length -> Sm (1 + 92 * j) acc ->
  ∃ CQ xh CP,eW (λd ρ=>cC (.nm 4) d ρ) (λρ=>bM Φ xy ρ) ((List.range' j k).map λ(i:Nat)=>D.int (i:Int)) [some (bU n (br ps)),some (.lst .fz (d4 .fz ps)),some (.lst .fz (aS xs)),some (qD acc),c4,c5,c6] =
   ok (.nx,[some (bU n (br ps)),some (.lst .fz (d4 .fz ps)),some (.lst .fz (aS xs)),some (qD (acc + g_ (ps.drop j) xs)),CQ,xh,CP])
 | 0,j,acc,c4,c5,c6,hj,_=>⟨c4,c5,c6,by
   rw [List.drop_eq_nil_of_le (by omega)]
   simp [mZ,g_,Rat.add_zero]⟩
 | k + 1,j,acc,c4,c5,c6,hj,hs=>by
  have hf:=K.mr
  obtain ⟨p,h1,hp⟩:=oD (l:=ps) (j:=j) (by omega)
  obtain ⟨g1,g2⟩:=Hb h1
  have e0:=se n ps xs p K hp
  have s1:Sm 6 p.1.1:=K.dr.sm p.1 (List.mem_map_of_mem hp)
  have s2:=K.pv hp
  have e1:=jN p.1.1 (cq xs p) (s1.mono (by decide)) (s2.mono (by decide))
  have s3:=s1.mul s2
  have e2:=kG acc (p.1.1 * cq xs p) (hs.mono (by omega)) (s3.mono (by decide))
  obtain ⟨CQ,xh,CP,ih⟩:=uy Φ kG jN se K k (j + 1) (acc + p.1.1 * cq xs p) (some (.int j)) (some (qD p.1.1)) (some (.tup (ab p.1.2))) (by omega) ((hs.add s3).mono (by omega))
  have em:g_ (ps.drop j) xs = p.1.1 * cq xs p + g_ (ps.drop (j + 1)) xs:=by unfold g_;rw [sx h1,List.map_cons,List.sum_cons]
  rw [List.range'_succ,List.map_cons,em,<- Rat.add_assoc]
  refine ⟨CQ,xh,CP,fJ (ρ1:=[some (bU n (br ps)),some (.lst .fz (d4 .fz ps)),some (.lst .fz (aS xs)),some (qD acc),some (.int j),c5,c6]) (by simp) (ρ2:=[some (bU n (br ps)),some (.lst .fz (d4 .fz ps)),some (.lst .fz (aS xs)),some (qD (acc + p.1.1 * cq xs p)),some (.int j),some (qD p.1.1),some (.tup (ab p.1.2))]) ?_ ih⟩
  have hd:bU n (br ps) = .tup [.int n,.lst .fz (bH (br ps))]:=rfl
  have hr:rD p.1 = .tup [qD p.1.1,.tup (ab p.1.2)]:=rfl
  rw [hr] at g2
  simp [xy,hd,g1,g2,e0,e1,e2]
theorem MV (Φ:az) (kG:my (Φ 202)) (jN:dD (Φ 203)) (se:Aw (Φ 244)):mQ g_ (mk Φ 3 7 yU):=by
 intro n ps xs K
 have hf:=K.mr
 have z0:D.tup [.int 0,.int 1] = qD 0:=rfl
 obtain ⟨c4,c5,c6,e⟩:=uy Φ kG jN se K ps.length 0 0 none none none (by omega) (by constructor <;> decide)
 rw [List.drop_zero,Rat.zero_add] at e
 have hit:=zG (Φ:=Φ) (a:=.bf .len [(.v 1)]) (ρ:=[some (bU n (br ps)),some (.lst .fz (d4 .fz ps)),some (.lst .fz (aS xs)),some (qD 0),none,none,none]) (n:=ps.length) (by simp) (by omega) (by omega)
 rw [Int.toNat_natCast,List.range_eq_range'] at hit
 have hx:=iH (Φ:=Φ) (t:=.nm 4) (b:=xy) hit e
 simp [mk_eq,yU,z0,hx]
section
variable {n W:Nat} {ps:List Rg} {xs:List Rat} (K:Rk n ps xs)
include K
theorem Rk.fm {p:Rg} (hp:p ∈ ps):Fm Ke Hd (cq xs p):=by
 have:=Fm.sum (M:=Ke) (B:=7 * 420 * (7 * 420)) (qs:=(p.1.2.zip p.2).map λz=>z.2 * ng xs z.1) (by decide) λq hq=>by
  obtain ⟨z,hz,rfl⟩:=List.mem_map.mp hq
  have m:=List.of_mem_zip hz
  exact (O1 (K.sw p hp _ m.2)).mul (O1 (K.at hp m.1).2)
 refine this.mono (Nat.mul_le_mul_right _ ?_)
 have h1:=(K.rw hp).2.1
 have h2:=K.GZ
 rw [List.length_map,List.length_zip]
 omega
theorem Rk.O0 (h0:0 < W) (hd:∀ r ∈ br ps,r.1.den ∣ W):Fm (W * Ke) (12 * (W * Hd)) (g_ ps xs):=by
 have:=Fm.sum (M:=W * Ke) (B:=W * Hd) (qs:=ps.map λp=>p.1.1 * cq xs p) (Nat.mul_pos h0 (by decide)) λq hq=>by
  obtain ⟨p,hp,rfl⟩:=List.mem_map.mp hq
  have:=(Hf K.dr h0 hd (List.mem_map_of_mem hp)).mul (K.fm hp)
  rw [Nat.one_mul] at this
  exact this
 rw [List.length_map] at this
 exact this.mono (Nat.mul_le_mul_right _ (by have:=K.mr;omega))
end
noncomputable def xx:List CS:=[.asg (.tp [6,7]) (.ix (.ix (.v 0) (.int 1)) (.v 5)),.asg (.nm 8) (.call 222 [(.call 244 [(.ix (.v 1) (.v 5)),(.v 7),(.v 2)]),(.v 3)]),.asg (.nm 4) (.call 202 [(.v 4),(.call 203 [(.v 6),(.call 203 [(.v 8),(.v 8)])])])]
noncomputable def yT:List CS:=[.asg (.nm 3) (.call 232 [(.v 0),(.v 1),(.v 2)]),.asg (.nm 4) (.tup [(.int 0),(.int 1)]),.fr (.nm 5) (.lC (.bf .len [(.v 1)])) xx,.ret (.v 4)]
theorem uw (Φ:az) (kG:my (Φ 202)) (jN:dD (Φ 203)) (Ft:tf (Φ 222)) (se:Aw (Φ 244)) {n W M Bm Bg dv:Nat} {ps:List Rg} {xs:List Rat} (K:Rk n ps xs) (L:LsB W M Bm Bg dv) (m:Rat) (sm:Fm M Bm m) (hq:∀ p ∈ ps,Fm W (1 * W) p.1.1 /\ Fm M Bg (cq xs p)):∀ (k j:Nat) (acc:Rat) (c5 c6 c7 c8:Option D),j + k = ps.length -> Fm (W * (M * M)) (j * (64 * (dv * dv))) acc ->
  ∃ xh CP Ld Lc,eW (λd ρ=>cC (.nm 5) d ρ) (λρ=>bM Φ xx ρ) ((List.range' j k).map λ(i:Nat)=>D.int (i:Int)) [some (bU n (br ps)),some (.lst .fz (d4 .fz ps)),some (.lst .fz (aS xs)),some (qD m),some (qD acc),c5,c6,c7,c8] =
   ok (.nx,[some (bU n (br ps)),some (.lst .fz (d4 .fz ps)),some (.lst .fz (aS xs)),some (qD m),some (qD (acc + AD (ps.drop j) xs m)),xh,CP,Ld,Lc])
 | 0,j,acc,c5,c6,c7,c8,hj,_=>⟨c5,c6,c7,c8,by
   rw [List.drop_eq_nil_of_le (by omega)]
   simp [mZ,AD,Rat.add_zero]⟩
 | k + 1,j,acc,c5,c6,c7,c8,hj,hs=>by
  have hf:=K.mr
  obtain ⟨p,h1,hp⟩:=oD (l:=ps) (j:=j) (by omega)
  obtain ⟨g1,g2⟩:=Hb h1
  have e0:=se n ps xs p K hp
  obtain ⟨s1,s2⟩:=hq p hp
  have s3:Fm M dv (cq xs p - m):=(s2.sub sm).mono L.ds
  have s4:=s3.mul s3
  have s5:Fm (W * (M * M)) (64 * (dv * dv)) (p.1.1 * ((cq xs p - m) * (cq xs p - m))):=(s1.mul s4).mono (Nat.mul_le_mul_right _ (by have:=L.w1;omega))
  have up:∀ {M B q},Fm M B q -> M < 2 ^ 200 -> B < 2 ^ 200 -> Sm 4000 q:=λh a b=>(h.sm a b).mono (by decide)
  have hW:W < 2 ^ 200:=Nat.lt_of_lt_of_le L.w1 (Nat.pow_le_pow_right (n:=2) (by decide) (show 6 <= 200 by decide))
  have e1:=Ft (cq xs p) m (up s2 L.m1 L.bg) (up sm L.m1 L.bm)
  have e2:=jN _ _ (up s3 L.m1 L.d1) (up s3 L.m1 L.d1)
  have e3:=jN p.1.1 _ (up s1 hW (by rw [Nat.one_mul];exact hW)) (up s4 L.m2 L.d2)
  have tq:64 * (dv * dv) <= 12 * (64 * (dv * dv)):=Nat.le_mul_of_pos_left _ (by decide)
  have fe:j * (64 * (dv * dv)) < 2 ^ 200:=Nat.lt_of_le_of_lt (Nat.mul_le_mul_right _ (show j <= 12 by omega)) L.d3
  have e4:=kG acc _ (up hs L.m3 fe) (up s5 L.m3 (Nat.lt_of_le_of_lt tq L.d3))
  obtain ⟨xh,CP,Ld,Lc,ih⟩:=uw Φ kG jN Ft se K L m sm hq k (j + 1) (acc + p.1.1 * ((cq xs p - m) * (cq xs p - m))) (some (.int j)) (some (qD p.1.1)) (some (.tup (ab p.1.2))) (some (qD (cq xs p - m))) (by omega) (by rw [Nat.succ_mul];exact hs.add s5)
  have em:AD (ps.drop j) xs m = p.1.1 * ((cq xs p - m) * (cq xs p - m)) + AD (ps.drop (j + 1)) xs m:=by unfold AD;rw [sx h1,List.map_cons,List.sum_cons]
  rw [List.range'_succ,List.map_cons,em,<- Rat.add_assoc]
  refine ⟨xh,CP,Ld,Lc,fJ (ρ1:=[some (bU n (br ps)),some (.lst .fz (d4 .fz ps)),some (.lst .fz (aS xs)),some (qD m),some (qD acc),some (.int j),c6,c7,c8]) (by simp) (ρ2:=[some (bU n (br ps)),some (.lst .fz (d4 .fz ps)),some (.lst .fz (aS xs)),some (qD m),some (qD (acc + p.1.1 * ((cq xs p - m) * (cq xs p - m)))),some (.int j),some (qD p.1.1),some (.tup (ab p.1.2)),some (qD (cq xs p - m))]) ?_ ih⟩
  have hd:bU n (br ps) = .tup [.int n,.lst .fz (bH (br ps))]:=rfl
  have hr:rD p.1 = .tup [qD p.1.1,.tup (ab p.1.2)]:=rfl
  rw [hr] at g2
  simp [xx,hd,g1,g2,e0,e1,e2,e3,e4]
noncomputable def C0 (m:List D -> O D):Prop:=∀ n ps xs,Rk n ps xs -> Lp (br ps) -> m [bU n (br ps),.lst .fz (d4 .fz ps),.lst .fz (aS xs)] = ok (qD (mF ps xs))
theorem MU (Φ:az) (kG:my (Φ 202)) (jN:dD (Φ 203)) (Ft:tf (Φ 222)) (Kc:mQ g_ (Φ 232)) (se:Aw (Φ 244)):C0 (mk Φ 3 9 yT):=by
 intro n ps xs K Fi
 have hf:=K.mr
 obtain ⟨W,w0,w1,w2⟩:=Fi
 have z0:D.tup [.int 0,.int 1] = qD 0:=rfl
 have em:=Kc n ps xs K
 obtain ⟨c5,c6,c7,c8,e⟩:=uw Φ kG jN Ft se K (Vx w1) (g_ ps xs) (K.O0 w0 w2) (λp hp=>⟨Hf K.dr w0 w2 (List.mem_map_of_mem hp),(K.fm hp).lift W w0⟩) ps.length 0 0 none none none none (by omega) (by
  rw [Nat.zero_mul]
  exact Fm.zero (Nat.mul_pos w0 (Nat.mul_pos (Nat.mul_pos w0 (by decide)) (Nat.mul_pos w0 (by decide)))))
 rw [List.drop_zero,Rat.zero_add] at e
 have hit:=zG (Φ:=Φ) (a:=.bf .len [(.v 1)]) (ρ:=[some (bU n (br ps)),some (.lst .fz (d4 .fz ps)),some (.lst .fz (aS xs)),some (qD (g_ ps xs)),some (qD 0),none,none,none,none]) (n:=ps.length) (by simp) (by omega) (by omega)
 rw [Int.toNat_natCast,List.range_eq_range'] at hit
 have hx:=iH (Φ:=Φ) (t:=.nm 5) (b:=xx) hit e
 have m1:aA aI (bU n (br ps)) = bU n (br ps):=by simp [bU]
 have m2:aA ba (bU n (br ps)) = bU n (br ps):=by simp [bU]
 simp [mk_eq,yT,z0,m1,m2,em,hx]
 rfl
end DI
end
section
namespace DI
open PySem (Str)
theorem HB {Φ:az} {i j:Nat} {e:CE} {ρ:aB} {z:Int} {ns ms:List Int} {m:Nat} (h1:aQ Φ e ρ = ok (.int z)) (hi:ρ[i]? = some (some (.tup (ab ns)))) (hj:ρ[j]? = some (some (.lst .ow (ab ms)))) (hm:tm ms.length z = some m) (l1:ns.length < 1000) (l2:ms.length < 1000) (iP:i ≠ j) :
  p9 Φ (.pop2 i j e) ρ = ok (.nx,(ρ.set j (some (.lst .ow (ab (ms.eraseIdx m))))).set i (some (.tup (ab (ns ++ [ms.getD m 0]))))):=by
 show bd (bd (aQ Φ e ρ) intD) (qC i j ρ) = _
 rw [h1]
 show qC i j ρ z = _
 unfold qC
 rw [hi,hj]
 unfold ab at *
 simp only [um,aZ,hm,if_pos (And.intro l1 (And.intro l2 iP))]
theorem oT:∀ (l:List Int) (m:Nat) (h:m < l.length),(l[m] :: l.eraseIdx m).Perm l
 | [],_,h=>by cases h
 | x :: l,0,_=>List.Perm.refl _
 | x :: l,m + 1,h=>by
  have hm:m < l.length:=by simpa using h
  show (l[m] :: x :: l.eraseIdx m).Perm (x :: l)
  exact (List.Perm.swap ..).trans ((oT l m hm).cons x)
structure Pk (n:Nat) (row left:List Int):Prop where
 pm:(row ++ left).Perm (qq n)
theorem Pk.ln {n:Nat} {row left:List Int} (h:Pk n row left):row.length + left.length = n:=by
 have:=h.pm.length_eq
 rw [DR,List.length_append] at this
 exact this
theorem Pk.rw {n:Nat} {row left:List Int} (h:Pk n row left):Rw n row:=by
 have hl:=h.ln
 have nd:(qq (n:Int)).Nodup:=by
  unfold qq List.Nodup
  rw [Int.toNat_natCast,List.pairwise_map]
  exact List.nodup_range.imp λh z=>h (by omega)
 refine ⟨(List.nodup_append.mp (h.pm.nodup_iff.mpr nd)).1,by omega,λx hx=>?_⟩
 obtain ⟨k,hk,rfl⟩:=DQ.mp (h.pm.mem_iff.mp (List.mem_append_left _ hx))
 omega
theorem Pk.pop {n:Nat} {row left:List Int} (h:Pk n row left) {m:Nat} (hm:m < left.length):Pk n (row ++ [left.getD m 0]) (left.eraseIdx m):=by
 refine ⟨List.Perm.trans ?_ h.pm⟩
 rw [List.append_assoc]
 refine List.Perm.append_left _ ?_
 have:left.getD m 0 = left[m]:=by rw [List.getD_eq_getElem?_getD,List.getElem?_eq_getElem hm];rfl
 rw [this]
 exact oT left m hm
noncomputable def xw:List CS:=[.asg (.nm 6) (.bin .fdiv (.v 6) (.int 5)),.pop2 8 7 (.bin .mod (.v 6) (.bf .len [(.v 7)]))]
theorem ue (Φ:az) {n:Nat} (hn:n <= 12) (c0 c1 c2 c3 c4 c5 c10:Option D):∀ (ks:List D) (row left:List Int) (N:Int) (c9:Option D),Pk n row left -> row.length + ks.length <= n ->
  ∃ Eh BW N' Du,eW (λd ρ=>cC (.nm 9) d ρ) (λρ=>bM Φ xw ρ) ks [c0,c1,c2,c3,c4,c5,some (.int N),some (.lst .ow (ab left)),some (.tup (ab row)),c9,c10] =
   ok (.nx,[c0,c1,c2,c3,c4,c5,some (.int N'),some (.lst .ow (ab BW)),some (.tup (ab Eh)),Du,c10]) /\ Rw n Eh
 | [],row,left,N,c9,h,_=>⟨row,left,N,c9,rfl,h.rw⟩
 | k :: ks,row,left,N,c9,h,hl=>by
  rw [List.length_cons] at hl
  have JX:=h.ln
  obtain ⟨f1,f2⟩:=ff (N.fdiv 5) (b:=(left.length:Int)) (by omega)
  have hm:tm left.length ((N.fdiv 5).fmod left.length) = some ((N.fdiv 5).fmod left.length).toNat:=by
   unfold tm
   rw [if_pos f1,if_pos f2]
  obtain ⟨Eh,BW,N',Du,ih,hr⟩:=ue Φ hn c0 c1 c2 c3 c4 c5 c10 ks _ _ (N.fdiv 5) (some k) (h.pop (m:=((N.fdiv 5).fmod left.length).toNat) (by omega)) (by rw [List.length_append,List.length_singleton];omega)
  have e1:dc .mod (.int (N.fdiv 5)) (.int left.length) = ok (.int ((N.fdiv 5).fmod left.length)):=Hq (by omega)
  have x1:=HB (Φ:=Φ) (i:=8) (j:=7) (e:=.bin .mod (.v 6) (.bf .len [(.v 7)])) (ρ:=[c0,c1,c2,c3,c4,c5,some (.int (N.fdiv 5)),some (.lst .ow (ab left)),some (.tup (ab row)),some k,c10]) (z:=(N.fdiv 5).fmod left.length) (ns:=row) (ms:=left) (by simp [e1]) rfl rfl hm (by omega) (by omega) (by decide)
  refine ⟨Eh,BW,N',Du,?_,hr⟩
  refine fJ (ρ1:=[c0,c1,c2,c3,c4,c5,some (.int N),some (.lst .ow (ab left)),some (.tup (ab row)),some k,c10]) (by simp) (ρ2:=[c0,c1,c2,c3,c4,c5,some (.int (N.fdiv 5)),some (.lst .ow (ab (left.eraseIdx ((N.fdiv 5).fmod left.length).toNat))),some (.tup (ab (row ++ [left.getD ((N.fdiv 5).fmod left.length).toNat 0]))),some k,c10]) ?_ ih
  simp [xw]
  rw [x1]
  rfl
noncomputable def sQ:CS:=.mut 1033 4 [(.bin .add (.bin .add (.du 1031 [(.v 4),(.v 8),(.int 0)]) (.int 1)) (.bin .mod (.bin .fdiv (.v 6) (.int 64)) (.int 5))),(.v 8)]
noncomputable def rl:List CS:=[.asg (.nm 6) (.call 200 [(.v 0),(.bin .add (.bin .add (.v 1) (.int 1)) (.v 5))]),.asg (.nm 7) (.du 1041 [(.v 3)]),.asg (.nm 8) (.tup [])]
noncomputable def A1:List CS:=[.fr (.nm 9) (.lC (.bin .mod (.v 6) (.bin .add (.v 3) (.int 1)))) xw,sQ]
noncomputable def A2:List CS:=rl ++ A1
noncomputable def KY:CE:=.comp 1 (.nm 0) [4] (.du 1100) [(.v 4)] [] (.du 1032 [(.v 1),(.v 0)])
noncomputable def KZ:CE:=.comp 1 (.nm 0) [10,4] .seq [(.du 1035 [(.v 4)])] [] (.tup [(.call 201 [(.du 1032 [(.v 2),(.v 0)]),(.v 1)]),(.v 0)])
noncomputable def sS:List CS:=[.asg (.nm 2) (.call 200 [(.v 0),(.v 1)]),.asg (.nm 3) (.bin .add (.int 1) (.bin .mod (.v 2) (.int 4))),.asg (.nm 2) (.bin .fdiv (.v 2) (.int 4)),.asg (.nm 4) (.du 1030 []),.fr (.nm 5) (.lC (.bin .add (.int 1) (.bin .mod (.v 2) (.int 8)))) A2,.asg (.nm 10) (.bf .iM [KY]),.ret (.tup [(.v 3),KZ])]
theorem ud (Φ:az) (P:C7 Φ) (oB:Φ 1041 = G0) (sf:lX (Φ 200)) (ns:List Int) {a:Int} (ha:0 <= a) {n:Nat} (hn:n <= 12) (c2:Option D):∀ (k j:Nat) (cs:List (List Int)) (ws:List Int) (c5 c6 c7 c8 c9:Option D),Tab (Rw n) j cs ws -> j + k <= 8 ->
  ∃ Hk Qo xh CP Ld Lc Du,eW (λd ρ=>cC (.nm 5) d ρ) (λρ=>bM Φ A2 ρ) ((List.range' j k).map λ(i:Nat)=>D.int (i:Int)) [some (.lst .sc (ab ns)),some (.int a),c2,some (.int n),some (.cg .ow cs (ab ws)),c5,c6,c7,c8,c9,none] =
   ok (.nx,[some (.lst .sc (ab ns)),some (.int a),c2,some (.int n),some (.cg .ow Hk (ab Qo)),xh,CP,Ld,Lc,Du,none]) /\ Tab (Rw n) (j + k) Hk Qo
 | 0,j,cs,ws,c5,c6,c7,c8,c9,T,_=>⟨cs,ws,c5,c6,c7,c8,c9,rfl,T⟩
 | k + 1,j,cs,ws,c5,c6,c7,c8,c9,T,hj=>by
  have e1:=sf ns (a + 1 + j) (by omega)
  have e2:Φ 1041 [.int (n:Int)] = ok (.lst .ow (ab (qq n))):=by
   rw [oB]
   show (if (n:Int) <= eM /\ -eM <= (n:Int) then ok (D.lst .ow ((qq n).map D.int)) else none) = _
   have:(eM:Int) = 1000000:=rfl
   rw [if_pos (by omega)];rfl
  generalize jI ns (a + 1 + j) = N at *
  obtain ⟨t1,t2⟩:=ff N (b:=(n:Int) + 1) (by omega)
  obtain ⟨q,hq⟩:∃ q:Nat,N.fmod ((n:Int) + 1) = (q:Int):=⟨(N.fmod ((n:Int) + 1)).toNat,by omega⟩
  have e3:dc .mod (.int N) (.int ((n:Int) + 1)) = ok (.int q):=by rw [<- hq];exact Hq (by omega)
  obtain ⟨row,left,N',Du,el,hr⟩:=ue Φ hn (some (.lst .sc (ab ns))) (some (.int a)) c2 (some (.int n)) (some (.cg .ow cs (ab ws))) (some (.int j)) none ((List.range q).map λ(i:Nat)=>D.int (i:Int)) [] (qq n) N c9 ⟨List.Perm.refl _⟩ (by simp;omega)
  have hit:=zG (Φ:=Φ) (a:=.bin .mod (.v 6) (.bin .add (.v 3) (.int 1))) (ρ:=[some (.lst .sc (ab ns)),some (.int a),c2,some (.int n),some (.cg .ow cs (ab ws)),some (.int j),some (.int N),some (.lst .ow (ab (qq n))),some (.tup (ab [])),c9,none]) (n:=q) (by simp [e3]) (by omega) (by omega)
  rw [Int.toNat_natCast] at hit
  have hf:=iH (Φ:=Φ) (t:=.nm 9) (b:=xw) hit el
  obtain ⟨f1,f2⟩:=ff (N'.fdiv 64) (b:=5) (by decide)
  have hw:cm cs ws row + 1 + (N'.fdiv 64).fmod 5 = cm cs ws row + (1 + (N'.fdiv 64).fmod 5):=by omega
  have T':=T.put hr (i:=1 + (N'.fdiv 64).fmod 5) (by omega) (by omega)
  obtain ⟨Hk,Qo,xh,CP,Ld,Lc,Zy,ih,T''⟩:=ud Φ P oB sf ns ha hn c2 k (j + 1) _ _ (some (.int j)) (some (.int N')) (some (.lst .ow (ab left))) (some (.tup (ab row))) Du T' (by omega)
  have g1:=λf=>K6 P f cs ws row
  have hfw:=T.mr
  have g2:=K3 P (cs:=cs) (by omega) ws row (cm cs ws row + (1 + (N'.fdiv 64).fmod 5))
  have x1:p9 Φ sQ [some (.lst .sc (ab ns)),some (.int a),c2,some (.int n),some (.cg .ow cs (ab ws)),some (.int j),some (.int N'),some (.lst .ow (ab left)),some (.tup (ab row)),Du,none] = ok (.nx,[some (.lst .sc (ab ns)),some (.int a),c2,some (.int n),some (.cg .ow (cS cs row) (ab (bB cs ws row (cm cs ws row + (1 + (N'.fdiv 64).fmod 5))))),some (.int j),some (.int N'),some (.lst .ow (ab left)),some (.tup (ab row)),Du,none]):=by
   unfold sQ
   refine (HC (xs:=[.int (cm cs ws row + (1 + (N'.fdiv 64).fmod 5)),.tup (ab row)]) (d:=.cg .ow cs (ab ws)) ?_ (by simp) rfl g2).trans rfl
   simp [g1,hw]
  refine ⟨Hk,Qo,xh,CP,Ld,Lc,Zy,?_,by rw [show j + (k + 1) = j + 1 + k by omega];exact T''⟩
  rw [List.range'_succ,List.map_cons]
  have i0:ab [] = []:=rfl
  have ga:bM Φ rl [some (.lst .sc (ab ns)),some (.int a),c2,some (.int n),some (.cg .ow cs (ab ws)),some (.int j),c6,c7,c8,c9,none] = ok (.nx,[some (.lst .sc (ab ns)),some (.int a),c2,some (.int n),some (.cg .ow cs (ab ws)),some (.int j),some (.int N),some (.lst .ow (ab (qq n))),some (.tup (ab [])),c9,none]):=by
   simp [rl,e1,e2,i0]
  refine fJ (ρ1:=[some (.lst .sc (ab ns)),some (.int a),c2,some (.int n),some (.cg .ow cs (ab ws)),some (.int j),c6,c7,c8,c9,none]) (by simp) (ρ2:=[some (.lst .sc (ab ns)),some (.int a),c2,some (.int n),some (.cg .ow (cS cs row) (ab (bB cs ws row (cm cs ws row + (1 + (N'.fdiv 64).fmod 5))))),some (.int j),some (.int N'),some (.lst .ow (ab left)),some (.tup (ab row)),Du,none]) ((kf Φ rl _ _ _ ga).trans ?_) ih
  rw [A1,jK,hf]
  show nG Φ [] (p9 Φ sQ _) = _
  rw [x1];rfl
noncomputable def xk (m:List D -> O D):Prop:=∀ (ns:List Int) (a:Int),0 <= a -> ∃ n rs,n <= 4 /\ Dp (Rw n) 6 n rs /\ Lp rs /\ m [.lst .sc (ab ns),.int a] = ok (jQ .ow n rs)
theorem Il (Φ:az) (P:C7 Φ) (oB:Φ 1041 = G0) (sf:lX (Φ 200)) (zW:ic (Φ 201)):xk (mk Φ 2 11 sS):=by
 intro ns a ha
 have e1:=sf ns a ha
 generalize jI ns a = N at *
 obtain ⟨f1,f2⟩:=ff N (b:=4) (by omega)
 obtain ⟨n,hn⟩:∃ n:Nat,1 + N.fmod 4 = (n:Int):=⟨(1 + N.fmod 4).toNat,by omega⟩
 obtain ⟨g1,g2⟩:=ff (N.fdiv 4) (b:=8) (by decide)
 obtain ⟨k,hk⟩:∃ k:Nat,1 + (N.fdiv 4).fmod 8 = (k:Int):=⟨(1 + (N.fdiv 4).fmod 8).toNat,by omega⟩
 have T0:Tab (Rw n) 0 [] []:=⟨List.nodup_nil,rfl,Nat.le_refl _,(λ_ h=>nomatch h),(λ_ h=>nomatch h),by simp,λh=>by omega⟩
 obtain ⟨cs,ws,c5,c6,c7,c8,c9,el,T⟩:=ud Φ P oB sf ns ha (n:=n) (by omega) (some (.int (N.fdiv 4))) k 0 [] [] none none none none none T0 (by omega)
 rw [Nat.zero_add] at T
 have D6:=T.dr (n:=n) (by omega) (by omega) (by omega) (by omega)
 have JT:Φ 1030 [] = ok (.cg .ow [] []):=by rw [P.yp];rfl
 have i0:ab [] = []:=rfl
 rw [i0] at el
 have hit:gn Φ (.lC (.bin .add (.int 1) (.bin .mod (.v 2) (.int 8)))) [some (.lst .sc (ab ns)),some (.int a),some (.int (N.fdiv 4)),some (.int n),some (.cg .ow [] []),none,none,none,none,none,none] = ok ((List.range' 0 k).map λ(i:Nat)=>D.int (i:Int),[some (.lst .sc (ab ns)),some (.int a),some (.int (N.fdiv 4)),some (.int n),some (.cg .ow [] []),none,none,none,none,none,none]):=by
  rw [zG (n:=k) (by simp [hk]) (by omega) (by omega),Int.toNat_natCast,List.range_eq_range']
 have hf:=iH (Φ:=Φ) (t:=.nm 5) (b:=A2) hit el
 have hp:(bJ cs).Perm cs:=List.mergeSort_perm _ _
 have mq:∀ f,dk Φ (.du 1100) [.cg f cs (ab ws)] = ok (cs.map gk):=λf=>by
  show bd (Φ 1100 _) ku = _
  rw [P.yi]
  show ok (af aI (cs.map gk)) = _
  rw [fW]
 have hfew:=T.mr
 have N_:∀ c,gk c = .tup (ab c):=λ_=>rfl
 have s1:∀ r,aQ Φ KY [some (.lst .sc (ab ns)),some (.int a),some (.int (N.fdiv 4)),some (.int n),some (.cg .ow cs (ab ws)),c5,c6,c7,c8,c9,r] = ok (.lst .ow (ab (cs.map (cm cs ws)))):=λr=>by
  unfold KY
  rw [cV (xs:=[.cg .al cs (ab ws)]) (by simp) (mq _) (ds:=cs.map λc=>.int (cm cs ws c)) (bE λc hc=>?_) (by simp;exact cj (by omega))]
  ·simp [ab,av]
  ·have e:=Hj P .fz T.ln hc
   exact ⟨[some (.tup (ab c)),some (.cg .fz cs (ab ws))],by simp [bc,N_],by simp,by simp [e]⟩
 rw [n8 T.nd T.ln] at s1
 have s2:qk .iM [.lst .ow (ab ws)] = ok (.int ws.sum):=by
  show (match intsOf (ab ws) with | some ns=>ok (D.int ns.sum) | none=>none) = _
  unfold ab
  rw [aZ]
 have hW:1 <= ws.sum /\ ws.sum <= 56:=by
  have hs:=T.sum
  refine ⟨?_,by omega⟩
  obtain ⟨c,hc⟩:=List.exists_mem_of_ne_nil cs (T.ne (by omega))
  obtain ⟨w,e,m⟩:=kJ T.ln hc
  have:=T.pos w m
  have:=T.xZ w m
  omega
 refine ⟨n,mD cs ws,by omega,D6,⟨ws.sum.toNat,by omega,by omega,λr hr=>?_⟩,?_⟩
 ·unfold mD at hr
  obtain ⟨c,_,rfl⟩:=List.mem_map.mp hr
  have h:ws.sum = ((ws.sum.toNat:Nat):Int):=by omega
  show (Rat.divInt (cm cs ws c) ws.sum).den ∣ _
  have d:=wW (t:=cm cs ws c) (b:=ws.sum) (by omega)
  rwa [show ws.sum.natAbs = ws.sum.toNat by omega] at d
 have N8:∀ f,Φ 1035 [.cg f cs (ab ws)] = ok (.lst .ow ((bJ cs).map gk)):=λf=>by
  rw [P.yk]
  show (if cs.length < 64 then ok (D.lst .ow ((bJ cs).map gk)) else none) = _
  rw [if_pos (by omega)]
 have s3:aQ Φ KZ [some (.lst .sc (ab ns)),some (.int a),some (.int (N.fdiv 4)),some (.int n),some (.cg .ow cs (ab ws)),c5,c6,c7,c8,c9,some (.int ws.sum)] = ok (.lst .ow (bH (mD cs ws))):=by
  unfold KZ
  rw [cV (xs:=[.lst .ow ((bJ cs).map gk)]) (by simp [N8]) (items:=(bJ cs).map gk) (by rw [fc,fW]) (ds:=(bJ cs).map λc=>rD (Rat.divInt (cm cs ws c) ws.sum,c)) (bE λc hc=>?_) (by rw [List.length_map];exact cj (by rw [hp.length_eq];omega))]
  ·have:((bJ cs).map λc=>rD (Rat.divInt (cm cs ws c) ws.sum,c)) = bH (mD cs ws):=by unfold bH mD;rw [List.map_map];rfl
   rw [this,kC]
  ·have e:=Hj P .fz T.ln (hp.mem_iff.mp hc)
   have e':=zW (cm cs ws c) ws.sum (by omega) (wo (by omega))
   exact ⟨[some (.tup (ab c)),some (.int ws.sum),some (.cg .fz cs (ab ws))],by simp [bc,N_],by simp,by simp [e,e',rD]⟩
 simp [mk_eq,sS,e1,hn,JT]
 rw [hf]
 simp [s1,s2,s3,jQ]
noncomputable def yE:CE:=.comp 1 (.nm 0) [0,1,2] .lC [(.bf .len [(.ix (.v 2) (.int 1))])] [] (.call 230 [(.call 200 [(.v 1),(.bin .add (.v 2) (.v 0))]),(.bf .len [(.ix (.ix (.ix (.v 3) (.int 1)) (.v 0)) (.int 1))])])
noncomputable def yS:List CS:=[.ret yE]
noncomputable def CZ (m:List D -> O D):Prop:=∀ (ns:List Int) (a:Int) n rs,0 <= a -> Dp (Rw n) 6 n rs -> ∃ ps,br ps = rs /\ (∀ p ∈ ps,p.2.length = p.1.2.length /\ ∀ q ∈ p.2,Sm 3 q) /\ m [.lst .sc (ab ns),.int a,bU n rs] = ok (.lst .ow (d4 .ow ps))
theorem MT (Φ:az) (sf:lX (Φ 200)) (Cm:ni (Φ 230)):CZ (mk Φ 3 3 yS):=by
 intro ns a n rs ha I
 have hn:=I.n2
 have hf:=I.mr
 let W:Nat -> Rg:=λk=>(rs.getD k (0,[]),if h:(rs.getD k (0,[])).2.length <= 12 then Classical.choose (Cm (jI ns (a + k)) (rs.getD k (0,[])).2.length h) else [])
 have wk:∀ k,k < rs.length -> rs[k]? = some (W k).1 /\ Φ 230 [.int (jI ns (a + k)),.int (W k).1.2.length] = ok (.lst .ow (aS (W k).2)) /\ (W k).2.length = (W k).1.2.length /\ ∀ q ∈ (W k).2,Sm 3 q:=λk hk=>by
  obtain ⟨r,h1,h2⟩:=oD hk
  have hr:rs.getD k (0,[]) = r:=by rw [List.getD_eq_getElem?_getD,h1];rfl
  have yh:(rs.getD k (0,[])).2.length <= 12:=by rw [hr];have:=(I.Dh r h2).2.1;omega
  have hs:=Classical.choose_spec (Cm (jI ns (a + k)) (rs.getD k (0,[])).2.length yh)
  have e:W k = (rs.getD k (0,[]),Classical.choose (Cm (jI ns (a + k)) (rs.getD k (0,[])).2.length yh)):=by show (_,_) = _;rw [dif_pos yh]
  rw [e]
  exact ⟨by rw [h1];exact congrArg some hr.symm,hs.1,hs.2.1,hs.2.2⟩
 refine ⟨(List.range rs.length).map W,?_,λp hp=>?_,?_⟩
 ·unfold br
  rw [List.map_map]
  refine List.ext_getElem (by simp) λi h1 h2=>?_
  have:=(wk i h2).1
  rw [List.getElem?_eq_getElem h2] at this
  simpa using (Option.some.inj this).symm
 ·obtain ⟨k,hk,rfl⟩:=List.mem_map.mp hp
  exact (wk k (List.mem_range.mp hk)).2.2
 ·have hd:bU n rs = .tup [.int n,.lst .fz (bH rs)]:=rfl
  have m1:aA aI (bU n rs) = bU n rs:=by simp [bU]
  have m2:aA ba (bU n rs) = bU n rs:=by simp [bU]
  have x1:zF (bU n rs) (.int 1) = ok (.lst .fz (bH rs)):=by rw [hd];simp
  have k1:aQ Φ yE [some (.lst .sc (ab ns)),some (.int a),some (bU n rs)] = ok (.lst .ow (d4 .ow ((List.range rs.length).map W))):=by
   unfold yE
   rw [cV (xs:=[.int rs.length]) (ds:=(List.range rs.length).map λ(k:Nat)=>.lst .ow (aS (W k).2)) (by simp [m2,x1]) (EX Φ (by omega) (by omega)) (bE λk hk=>⟨[some (.int k),some (.lst .sc (ab ns)),some (.int a),some (bU n rs)],by simp [bc,m1,aI],by simp,?_⟩) (by simp;exact cj (by omega))]
   ·have:((List.range rs.length).map λ(k:Nat)=>D.lst .ow (aS (W k).2)) = d4 .ow ((List.range rs.length).map W):=by unfold d4;rw [List.map_map];rfl
    rw [this,n_];rfl
   ·rw [Int.toNat_natCast,List.mem_range] at hk
    obtain ⟨w1,w2,w3,_⟩:=wk k hk
    have e1:=sf ns (a + k) (by omega)
    have a1:qZ (bH rs) (k:Int) = ok (rD (W k).1):=by
     have:=at_of (ds:=bH rs) (i:=(k:Int)) (d:=rD (W k).1) (by omega) (by unfold bH;rw [Int.toNat_natCast,List.getElem?_map,w1];rfl)
     simpa using this
    have hr:rD (W k).1 = .tup [qD (W k).1.1,.tup (ab (W k).1.2)]:=rfl
    rw [hr] at a1
    generalize W k = w at *
    simp [m2,x1,e1,a1,w2,ba]
  have f2:=oz b_ .ow ((List.range rs.length).map W) rfl
  generalize (List.range rs.length).map W = ps at *
  simp [mk_eq,yS,VC Φ yE _ rfl,k1,f2]
end DI
end
section
namespace DI
open PySem (Str)
noncomputable def K2:CE:=.comp 1 (.nm 0) [] .seq [(.v 2)] [] (.bf .list1 [(.v 0)])
theorem Pd (Φ:az) {ps:List Rg} (hl:ps.length <= 10) (c0 c1:Option D) (r:aB):aQ Φ K2 (c0 :: c1 :: some (.lst .ow (d4 .ow ps)) :: r) = ok (.lst .ow (d4 .ow ps)):=by
 unfold K2
 rw [cV (xs:=[.lst .al (d4 .al ps)]) (items:=ps.map λp=>.lst .fz (aS p.2)) (ds:=ps.map λp=>.lst .ow (aS p.2)) (by simp [ba]) (by rw [fc,n_];rfl) (bE λp hp=>⟨[some (.lst .fz (aS p.2))],by simp [bc],by simp,by simp [ba]⟩) (by simp;exact cj (by omega))]
 show ok (D.lst .ow (af jB (d4 .ow ps))) = _
 rw [n_];rfl
theorem EI (n:Nat) (ps:List Rg) (xs:List Rat) (f g a b c d a' b' c' d':Fl):eG .ne (.lst f [jQ a n (br ps),.lst b (d4 c ps),.lst d (aS xs)]) (.lst g [jQ a' n (br ps),.lst b' (d4 c' ps),.lst d' (aS xs)]) = ok (.bl false):=by
 have k1:∀ a,cK 39 (jQ a n (br ps)) = true:=λa=>by
  unfold jQ
  rw [js]
  simp only [List.all_cons,List.all_nil,fU,Bool.true_and,Bool.and_true]
  rw [jt]
  exact g9 (Nt 35) _
 have k3:∀ b c,cK 39 (.lst b (d4 c ps)) = true:=λb c=>by
  rw [jt]
  exact g9 (λp=>wc 36 _ _) ps
 rw [FT (by rw [jt];simp only [List.all_cons,List.all_nil,wc 37,k1,k3,Bool.and_self]) (by rw [jt];simp only [List.all_cons,List.all_nil,wc 37,k1,k3,Bool.and_self])]
 have k2:kc (jQ a n (br ps)) (jQ a' n (br ps)) = true:=by
  show (((n:Int) == (n:Int)) && (dq (bH (br ps)) (bH (br ps)) && true)) = true
  rw [Fz];simp
 have k4:∀ l:List Rg,dq (d4 c l) (d4 c' l) = true:=λl=>by
  induction l with
  | nil=>rfl
  | cons p l ih =>
   show (dq (aS p.2) (aS p.2) && dq (d4 c l) (d4 c' l)) = true
   rw [ih,yC];simp
 show ok (D.bl (!(kc (jQ a n (br ps)) (jQ a' n (br ps)) && (dq (d4 c ps) (d4 c' ps) && (dq (aS xs) (aS xs) && true))))) = _
 rw [k2,k4,yC];simp
noncomputable def KS:CE:=.comp 2 (.tp [0,1]) [] .seq [(.ix (.v 1) (.int 1))] [(.cmp .ne (.bf .tuple1 [(.bf .fS [(.v 1)])]) (.v 1))] (.v 1)
noncomputable def AU (r:Row):Bool:=!decide (sortI r.2 = r.2)
theorem EH (a b:List Int):eG .ne (.tup (ab a)) (.tup (ab b)) = ok (.bl (!decide (a = b))):=by
 rw [FT (by rw [js];exact g9 (λ_=>rfl) a) (by rw [js];exact g9 (λ_=>rfl) b)]
 show ok (D.bl (!dq (ab a) (ab b))) = _
 rw [uX]
theorem Ml (Φ:az) {n:Nat} {rs:List Row} (I:Dp (Rw n) 6 n rs) (c0:Option D) (r:aB):aQ Φ KS (c0 :: some (jQ .ow n rs) :: r) = ok (.lst .ow (fF (rs.filter AU))):=by
 have hn:=I.n2
 have hf:=I.mr
 unfold KS
 rw [cV (xs:=[.lst .al (bH rs)]) (items:=bH rs) (ds:=(rs.filter AU).map λr=>.tup (ab r.2)) (by simp [jQ,ba]) (by rw [fc,kC]) (mw λr hr=>⟨[some (qD r.1),some (.tup (ab r.2))],by simp [bc,rD],?_,λ_=>by simp⟩) (by
  have:=List.length_filter_le AU rs
  simp only [List.length_map]
  exact cj (by omega))]
 ·show ok (D.lst .ow (af jB (fF (rs.filter AU)))) = _
  have:af jB (fF (rs.filter AU)) = fF (rs.filter AU):=cG jB (λr=>by simp) _
  rw [this]
 ·have hl:=(I.Dh r hr).2.1
  have e1:=yA (ns:=r.2) (by omega)
  have e2:=EH (sortI r.2) r.2
  simp [e1,e2,AU]
theorem Mm {n:Nat} {rs:List Row} (I:Dp (Rw n) 6 n rs) (h:rs.filter AU = []):Dr 6 n rs:=by
 refine I.imp λr hr hw=>⟨?_,hw.2.2⟩
 have:AU r = false:=by
  have:=List.filter_eq_nil_iff.mp h r hr
  simpa using this
 have e:sortI r.2 = r.2:=by
  unfold AU at this
  simpa using this
 have s:=tR r.2
 rw [e] at s
 have nd:r.2.Pairwise (· ≠ ·):=hw.1
 exact (s.and nd).imp λz=>by omega
noncomputable def IT:List CS:=[.asg (.nm 1) (.call 242 [(.v 0),(.int 0)]),.asg (.nm 2) (.call 243 [(.v 0),(.int 10),(.v 1)]),.asg (.nm 3) (.call 230 [(.call 200 [(.v 0),(.int 20)]),(.ix (.v 1) (.int 0))]),.asg (.nm 4) (.lst [(.call 215 [(.v 1)]),K2,(.bf .list1 [(.v 3)])])]
noncomputable def IS:List CS:=[.ifs (.cmp (.wd true) (.call 72 [(.ix (.v 4) (.int 0))]) (.bl true)) [.ret (.bl false)] [],.asg (.nm 5) (.call 77 [(.ix (.v 4) (.int 0)),(.ix (.v 4) (.int 1)),(.ix (.v 4) (.int 2))]),.asg (.nm 6) (.call 78 [(.ix (.v 4) (.int 0)),(.ix (.v 4) (.int 1)),(.ix (.v 4) (.int 2))])]
noncomputable def IQ:List CS:=[.ifs (.or [(.not (.call 204 [(.v 5)])),(.not (.call 204 [(.v 6)])),(.cmp .ne (.v 5) (.call 232 [(.v 1),(.v 2),(.v 3)]))]) [.ret (.bl false)] [],.ifs (.or [(.cmp .ne (.v 6) (.call 237 [(.v 1),(.v 2),(.v 3)])),(.cmp .ne (.v 4) (.lst [(.v 1),(.v 2),(.v 3)]))]) [.ret (.bl false)] []]
noncomputable def IP:List CS:=[.asg (.nm 7) (.cmp .eq (.bf .len [KS]) (.int 0)),.ifs (.not (.v 7)) [.ret (.bl true)] [],.ret (.cmp .eq (.lst [(.call 80 [(.v 1),(.v 2),(.v 3)]),(.call 81 [(.v 1),(.v 2),(.v 3)])]) (.lst [(.v 5),(.v 6)]))]
noncomputable def kT:List CS:=IT ++ (IS ++ (IQ ++ IP))
theorem KP (f g:Fl) (p q:Rat):eG .eq (.lst f [qD p,qD q]) (.lst g [qD p,qD q]) = ok (.bl true):=by
 rw [FU (by rw [jt];simp only [List.all_cons,List.all_nil,qF 38,Bool.and_self]) (by rw [jt];simp only [List.all_cons,List.all_nil,qF 38,Bool.and_self])]
 show ok (D.bl (kc (qD p) (qD p) && (kc (qD q) (qD q) && true))) = _
 rw [uW,uW];simp
theorem NN (Φ:az) (Xg:mz (Φ 72)) (h77:mQ g_ (Φ 77)) (h78:mQ mF (Φ 78)) (h80:C1 g_ (Φ 80)) (h81:C1 mF (Φ 81)) (sf:lX (Φ 200)) (OV:C2 (Φ 204)) (Xr:lW (Φ 215)) (Cm:ni (Φ 230)) (Kc:mQ g_ (Φ 232)) (Xq:C0 (Φ 237)) (Xp:xk (Φ 242)) (Xo:CZ (Φ 243)) (ns:List Int) :
  mk Φ 1 8 kT [.lst .sc (ab ns)] = ok (.bl true):=by
 obtain ⟨n,rs,n4,I,Fi,e1⟩:=Xp ns 0 (by decide)
 obtain ⟨ps,rfl,WE,e2⟩:=Xo ns 10 n rs (by decide) I
 have c20:=sf ns 20 (by decide)
 obtain ⟨xs,x1,x2,x3⟩:=Cm (jI ns 20) n I.n2
 have K:Rk n ps xs:=⟨I,λp hp=>(WE p hp).1,λp hp=>(WE p hp).2,x2,x3⟩
 have hf:=K.mr
 have e3:Φ 215 [bU n (br ps)] = ok (jQ .ow n (br ps)):=Xr n (br ps)
 have e4:=Pd Φ hf
 have f1:jB .ow = .ow:=rfl
 have f2:=oz b_ .ow ps rfl
 rw [mk_eq (show [D.lst .sc (ab ns)].length = 1 from rfl)]
 show p_ (bM Φ kT [some (.lst .sc (ab ns)),none,none,none,none,none,none,none]) = _
 have ga:bM Φ IT [some (.lst .sc (ab ns)),none,none,none,none,none,none,none] = ok (.nx,[some (.lst .sc (ab ns)),some (jQ .ow n (br ps)),some (.lst .ow (d4 .ow ps)),some (.lst .ow (aS xs)),some (.lst .ow [jQ .ow n (br ps),.lst .ow (d4 .ow ps),.lst .ow (aS xs)]),none,none,none]):=by
  simp [IT,e1,e2,yF,e3,e4,c20,x1,f1,f2]
 have g72:=Xg 6 n _ I
 have g77:=h77 n ps xs K
 have g78:=h78 n ps xs K
 have c3:eG (.wd true) (.bl true) (.bl true) = ok (.bl false):=rfl
 have gb:bM Φ IS [some (.lst .sc (ab ns)),some (jQ .ow n (br ps)),some (.lst .ow (d4 .ow ps)),some (.lst .ow (aS xs)),some (.lst .ow [jQ .ow n (br ps),.lst .ow (d4 .ow ps),.lst .ow (aS xs)]),none,none,none] = ok (.nx,[some (.lst .sc (ab ns)),some (jQ .ow n (br ps)),some (.lst .ow (d4 .ow ps)),some (.lst .ow (aS xs)),some (.lst .ow [jQ .ow n (br ps),.lst .ow (d4 .ow ps),.lst .ow (aS xs)]),some (qD (g_ ps xs)),some (qD (mF ps xs)),none]):=by
  simp [IS,yF,g72,g77,g78,c3]
 have i1:=OV (g_ ps xs)
 have i2:=OV (mF ps xs)
 have Xw:=Kc n ps xs K
 have Xv:=Xq n ps xs K Fi
 have q1:=GX (g_ ps xs)
 have q2:=GX (mF ps xs)
 have q3:=λf g a b c d a' b' c' d'=>EI n ps xs f g a b c d a' b' c' d'
 have gc:bM Φ IQ [some (.lst .sc (ab ns)),some (jQ .ow n (br ps)),some (.lst .ow (d4 .ow ps)),some (.lst .ow (aS xs)),some (.lst .ow [jQ .ow n (br ps),.lst .ow (d4 .ow ps),.lst .ow (aS xs)]),some (qD (g_ ps xs)),some (qD (mF ps xs)),none] = ok (.nx,[some (.lst .sc (ab ns)),some (jQ .ow n (br ps)),some (.lst .ow (d4 .ow ps)),some (.lst .ow (aS xs)),some (.lst .ow [jQ .ow n (br ps),.lst .ow (d4 .ow ps),.lst .ow (aS xs)]),some (qD (g_ ps xs)),some (qD (mF ps xs)),none]):=by
  simp [IQ,yF,Xw,Xv,i1,i2,q1,q2,q3]
 rw [kT,kf Φ _ _ _ _ ga,kf Φ _ _ _ _ gb,kf Φ _ _ _ _ gc]
 have u1:=Ml Φ I
 cases W2:(br ps).filter AU with
 | cons r l =>
  rw [W2] at u1
  have hz:eG .eq (.int ((fF (r :: l)).length:Int)) (.int 0) = ok (.bl false):=by
   rw [FU rfl rfl]
   show ok (D.bl (((fF (r :: l)).length:Int) == 0)) = _
   have:(((fF (r :: l)).length:Int) == 0) = false:=by
    rw [beq_eq_false_iff_ne]
    show ((l.map _).length + 1:Int) ≠ 0
    omega
   rw [this]
  simp [IP,u1,hz]
 | nil =>
  have J:=Mm I W2
  rw [W2] at u1
  have l0:fF [] = []:=rfl
  rw [l0] at u1
  have hz:eG .eq (.int 0) (.int 0) = ok (.bl true):=rfl
  have g80:=h80 n ps xs K J
  have g81:=h81 n ps xs K J
  have q4:=λf g=>KP f g (g_ ps xs) (mF ps xs)
  simp [IP,u1,hz,yF,g80,g81,q4]
end DI
end
noncomputable def PySem.W.Fast.tw8150278442695355538:Nat:=0
noncomputable def PySem.W.Fast.tw2494985950073425083:Nat:=0
noncomputable def PySem.W.Fast.tw3019053704570744487:Nat:=0
noncomputable def PySem.W.Fast.tw7969629144556182751:Nat:=0
noncomputable def PySem.W.Fast.tw10196872556738983958:Nat:=0
noncomputable def PySem.W.Fast.tw6607321058522631097:Nat:=0
noncomputable def PySem.W.Fast.tw4851700140334418587:Nat:=0
noncomputable def PySem.W.Fast.tw3767144775032955673:Nat:=0
noncomputable def PySem.W.Fast.tw12265339028155545041:Nat:=0
noncomputable def PySem.W.Fast.tw8371728006785076116:Nat:=0
noncomputable def PySem.W.Fast.tw13173490169515660425:Nat:=0
noncomputable def PySem.W.Fast.tw8255062269599135193:Nat:=0
noncomputable def PySem.W.Fast.tw6660901277069545625:Nat:=0
noncomputable def PySem.W.Fast.tw14466655475444378045:Nat:=0
noncomputable def PySem.W.Fast.tw13547339112401830374:Nat:=0
noncomputable def PySem.W.Fast.tw11843607719634114717:Nat:=0
noncomputable def PySem.W.Fast.tw6176372350907100430:Nat:=0
noncomputable def PySem.W.Fast.tw5067189540896689576:Nat:=0
noncomputable def PySem.W.Fast.tw17308163269593816547:Nat:=0
noncomputable def PySem.W.Fast.tw14987707678679700970:Nat:=0
noncomputable def PySem.W.Fast.tw8816776849546616122:Nat:=0
noncomputable def PySem.W.Fast.tw5304026977245377958:Nat:=0
noncomputable def PySem.W.Fast.tw5869592761438456856:Nat:=0
noncomputable def PySem.W.Fast.tw17042672579297548087:Nat:=0
noncomputable def PySem.W.Fast.tw14557504835205695687:Nat:=0
noncomputable def PySem.W.Fast.tw10868657397150344010:Nat:=0
noncomputable def PySem.W.Fast.tw12523546673343807716:Nat:=0
noncomputable def PySem.W.Fast.tw3674817109895969201:Nat:=0
noncomputable def PySem.W.Fast.tw12369601866980223771:Nat:=0
noncomputable def PySem.W.Fast.tw11085846531506860655:Nat:=0
noncomputable def PySem.W.Fast.tw10495910842176748024:Nat:=0
noncomputable def PySem.W.Fast.tw3568506680289896309:Nat:=0
noncomputable def PySem.W.Fast.tw9921037486535347098:Nat:=0
noncomputable def PySem.W.Fast.tw17185699012147049750:Nat:=0
noncomputable def PySem.W.Fast.tw12265747066375251364:Nat:=0
noncomputable def PySem.W.Fast.tw6641844204141465054:Nat:=0
noncomputable def PySem.W.Fast.tw7624942036627573332:Nat:=0
noncomputable def PySem.W.Fast.tw3281111803738064222:Nat:=0
noncomputable def PySem.W.Fast.tw6112816221512633335:Nat:=0
noncomputable def PySem.W.Fast.tw4838278034656645757:Nat:=0
noncomputable def PySem.W.Fast.tw12047205109480605714:Nat:=0
noncomputable def PySem.W.Fast.tw5023308653823205960:Nat:=0
noncomputable def PySem.W.Fast.tw297848188642583846:Nat:=0
noncomputable def PySem.W.Fast.tw6990790430806720112:Nat:=0
noncomputable def PySem.W.Fast.tw3207318515059731547:Nat:=0
noncomputable def PySem.W.Fast.tw11091612350490272791:Nat:=0
noncomputable def PySem.W.Fast.tw13304055121290157901:Nat:=0
noncomputable def PySem.W.Fast.tw9484917283169311342:Nat:=0
noncomputable def PySem.W.Fast.tw10656888961614567288:Nat:=0
noncomputable def PySem.W.Fast.tw13800117034815648154:Nat:=0
noncomputable def PySem.W.Fast.tw12712808333221800193:Nat:=0
noncomputable def PySem.W.Fast.tw13464318555711417129:Nat:=0
namespace Asm
open PySem PySem.Spec PyProof.Rows L2 DI
noncomputable def top (i:Nat):Stmt:=PySem.Challenge.pw_sharesample_k32_row_guesses.main.body.getD i (.Pass ⟨0,0,0,0⟩)
noncomputable def px:Px:=⟨λn sc bl e=>if n = 1020 then sL true sc bl e else if n = 1022 then yN sc bl e else if n = 1030 then sJ sc bl e else if n = 1031 then m9 sc bl e else if n = 1032 then xc sc bl e else if n = 1035 then i_ "sorted" sc bl e else if n = 1040 then yL sc bl e else if n = 1041 then yM sc bl e else none,λn sc bl e=>if n = 1000 then gq sc bl e else if n = 1015 then gq sc bl e else if n = 1100 then CM sc bl e else none,λn sc bl e=>if n = 1033 then m8 sc bl e else none⟩
theorem fR {Φ:az} (fY:Φ 1000 = nr) (kI:Φ 1015 = mh) (yq:Φ 1020 = (cutD true)) (kH:Φ 1022 = Hc) (yp:Φ 1030 = u_) (yo:Φ 1031 = oY) (yn:Φ 1032 = wU) (ym:Φ 1033 = oX) (yk:Φ 1035 = jS) (yj:Φ 1040 = Jn) (oB:Φ 1041 = G0) (yi:Φ 1100 = jT):Gg px Φ:=⟨(λX sc bl k L p e args he F cs hs=>by
  dsimp only [px] at he
  split at he
  ·rename_i hp;subst hp
   exact K8 yq L he hs
  ·split at he
   ·rename_i hp;subst hp
    exact OX kH L he hs
   ·split at he
    ·rename_i hp;subst hp
     exact FH yp L he hs
    ·split at he
     ·rename_i hp;subst hp
      exact FJ yo L he hs
     ·split at he
      ·rename_i hp;subst hp
       exact K5 yn L he hs
      ·split at he
       ·rename_i hp;subst hp
        exact Cy yk L he hs
       ·split at he
        ·rename_i hp;subst hp
         exact NK yj L he hs
        ·split at he
         ·rename_i hp;subst hp
          exact NL oB L he hs
         ·cases he),(λX sc bl k L p e args he F cs tg ht hs pins s σ H R τ ρ xs d items I Si c_ ed ei Rr hR=>by
  dsimp only [px] at he
  split at he
  ·rename_i hp;subst hp
   exact Hy fY L he ht hs I Si c_ ed ei Rr hR
  ·split at he
   ·rename_i hp;subst hp
    exact DB kI L he ht hs I Si c_ ed ei Rr hR
   ·split at he
    ·rename_i hp;subst hp
     exact Cz yi L he ht hs I Si c_ ed ei Rr hR
    ·cases he)⟩
theorem fT {Φ:az} (fY:Φ 1000 = nr) (kI:Φ 1015 = mh) (yq:Φ 1020 = (cutD true)) (kH:Φ 1022 = Hc) (yp:Φ 1030 = u_) (yo:Φ 1031 = oY) (yn:Φ 1032 = wU) (ym:Φ 1033 = oX) (yk:Φ 1035 = jS) (yj:Φ 1040 = Jn) (oB:Φ 1041 = G0) (yi:Φ 1100 = jT):Ry px Φ:=⟨(λX sc bl k L hN Dk p st x pos args he i hi hl pe F cs hs=>by
  dsimp only [px] at he
  split at he
  ·rename_i hp;subst hp
   exact FG ym L hN Dk he hi hl pe hs
  ·cases he)⟩
noncomputable def PT:az
 | 1000=>nr
 | 1015=>mh
 | 1020=>(cutD true)
 | 1022=>Hc
 | 1030=>u_
 | 1031=>oY
 | 1032=>wU
 | 1033=>oX
 | 1035=>jS
 | 1040=>Jn
 | 1041=>G0
 | 1100=>jT
 | _=>λ_=>none
noncomputable def j8:az
 | n=>PT n
noncomputable def fM:List D -> O D:=mk j8 2 4 (eX)
noncomputable def iC:az
 | n=>PT n
noncomputable def ir:List D -> O D:=mk iC 1 1 (jA)
noncomputable def pz:az
 | n=>PT n
noncomputable def pj:List D -> O D:=mk pz 1 1 (yV)
noncomputable def j7:az
 | n=>PT n
noncomputable def dX:List D -> O D:=mk j7 2 4 (kS)
noncomputable def j6:az
 | 201=>dX
 | n=>PT n
noncomputable def iq:List D -> O D:=mk j6 2 4 (m_)
noncomputable def mf:az
 | 201=>dX
 | n=>PT n
noncomputable def gS:List D -> O D:=mk mf 2 2 (yR 201)
noncomputable def me:az
 | 201=>dX
 | n=>PT n
noncomputable def gR:List D -> O D:=mk me 2 2 (jx 201)
noncomputable def jm:az
 | 202=>gS
 | 203=>gR
 | n=>PT n
noncomputable def gh:List D -> O D:=mk jm 3 5 (FY)
noncomputable def j5:az
 | 202=>gS
 | 203=>gR
 | 244=>gh
 | n=>PT n
noncomputable def ip:List D -> O D:=mk j5 3 7 (yU)
noncomputable def j4:az
 | 200=>fM
 | 201=>dX
 | n=>PT n
noncomputable def jY:List D -> O D:=mk j4 2 11 (sS)
noncomputable def md:az
 | 201=>dX
 | n=>PT n
noncomputable def lZ:List D -> O D:=mk md 2 2 (sT 201)
noncomputable def iB:az
 | 202=>gS
 | 203=>gR
 | 222=>lZ
 | 232=>ip
 | 244=>gh
 | n=>PT n
noncomputable def il:List D -> O D:=mk iB 3 9 (yT)
noncomputable def gC:az
 | 200=>fM
 | 230=>iq
 | n=>PT n
noncomputable def gy:List D -> O D:=mk gC 3 3 (yS)
noncomputable def j9:az
 | n=>PT n
noncomputable def fN:List D -> O D:=mk j9 1 1 (h_)
noncomputable def iG:az
 | 0=>fN
 | n=>PT n
noncomputable def ft:List D -> O D:=mk iG 2 2 (df)
noncomputable def eJ:az
 | n=>PT n
noncomputable def cn:List D -> O D:=mk eJ 2 3 (de)
noncomputable def gD:az
 | 0=>fN
 | 1=>cn
 | n=>PT n
noncomputable def eP:List D -> O D:=mk gD 1 1 (bz)
noncomputable def pA:az
 | 3=>eP
 | 43=>ft
 | n=>PT n
noncomputable def pk:List D -> O D:=mk pA 2 2 (kU)
noncomputable def jk:az
 | n=>PT n
noncomputable def jf:List D -> O D:=mk jk 1 3 (gd)
noncomputable def eY:az
 | 1=>cn
 | n=>PT n
noncomputable def dG:List D -> O D:=mk eY 1 3 (cE)
noncomputable def jh:az
 | n=>PT n
noncomputable def gg:List D -> O D:=mk jh 2 2 (fZ)
noncomputable def fP:az
 | 9=>dG
 | 10=>gg
 | n=>PT n
noncomputable def cW:List D -> O D:=mk fP 1 4 (jw)
noncomputable def gz:az
 | 14=>cW
 | n=>PT n
noncomputable def gw:List D -> O D:=mk gz 1 2 (eN)
noncomputable def j_:az
 | 0=>fN
 | 12=>pk
 | 15=>gw
 | 44=>jf
 | n=>PT n
noncomputable def iu:List D -> O D:=mk j_ 1 4 (ia)
noncomputable def eI:az
 | 45=>iu
 | n=>PT n
noncomputable def dg:List D -> O D:=mk eI 1 1 (sU)
noncomputable def pB:az
 | 43=>ft
 | n=>PT n
noncomputable def pq:List D -> O D:=mk pB 2 2 (gN)
noncomputable def iD:az
 | 11=>pq
 | 45=>iu
 | n=>PT n
noncomputable def iw:List D -> O D:=mk iD 1 1 (fg)
noncomputable def eZ:az
 | 16=>iw
 | n=>PT n
noncomputable def dH:List D -> O D:=mk eZ 1 1 (dC)
noncomputable def e6:az
 | 3=>eP
 | n=>PT n
noncomputable def dI:List D -> O D:=mk e6 2 2 (bO)
noncomputable def gF:az
 | 40=>dI
 | n=>PT n
noncomputable def eQ:List D -> O D:=mk gF 2 4 (FZ)
noncomputable def dt:az
 | 72=>dg
 | n=>PT n
noncomputable def ck:List D -> O D:=mk dt 1 1 (sW)
noncomputable def fQ:az
 | 40=>dI
 | n=>PT n
noncomputable def d_:List D -> O D:=mk fQ 2 2 (kW 40 4)
noncomputable def gE:az
 | 1=>cn
 | n=>PT n
noncomputable def cJ:List D -> O D:=mk gE 2 3 (cI)
noncomputable def ma:az
 | 2=>cJ
 | 14=>cW
 | n=>PT n
noncomputable def lY:List D -> O D:=mk ma 2 4 (jz)
noncomputable def iF:az
 | 2=>cJ
 | n=>PT n
noncomputable def iz:List D -> O D:=mk iF 2 2 (jx 2)
noncomputable def j3:az
 | 9=>dG
 | 10=>gg
 | n=>PT n
noncomputable def ig:List D -> O D:=mk j3 1 2 (hZ)
noncomputable def iE:az
 | 2=>cJ
 | 41=>ig
 | n=>PT n
noncomputable def iy:List D -> O D:=mk iE 1 2 (fh)
noncomputable def gA:az
 | 6=>iz
 | 41=>ig
 | 42=>iy
 | n=>PT n
noncomputable def eO:List D -> O D:=mk gA 3 6 (FX)
noncomputable def j0:az
 | 47=>d_
 | 49=>lY
 | 73=>ck
 | 74=>eQ
 | 75=>eO
 | n=>PT n
noncomputable def ie:List D -> O D:=mk j0 3 3 (vv 49)
noncomputable def jl:az
 | 17=>dH
 | 77=>ie
 | n=>PT n
noncomputable def jg:List D -> O D:=mk jl 3 3 (As 77)
noncomputable def ji:az
 | 2=>cJ
 | 14=>cW
 | n=>PT n
noncomputable def je:List D -> O D:=mk ji 2 6 (f_)
noncomputable def iA:az
 | 47=>d_
 | 50=>je
 | 73=>ck
 | 74=>eQ
 | 75=>eO
 | n=>PT n
noncomputable def fq:List D -> O D:=mk iA 3 3 (vv 50)
noncomputable def gB:az
 | 17=>dH
 | 78=>fq
 | n=>PT n
noncomputable def gx:List D -> O D:=mk gB 3 3 (As 78)
noncomputable def C6:az
 | 72=>dg
 | 77=>ie
 | 78=>fq
 | 80=>jg
 | 81=>gx
 | 200=>fM
 | 204=>pj
 | 215=>ir
 | 230=>iq
 | 232=>ip
 | 237=>il
 | 242=>jY
 | 243=>gy
 | n=>PT n
noncomputable def Qm:List D -> O D:=mk C6 1 8 (kT)
theorem HQ:lX fM:=Iq j8
theorem R4:lW ir:=zw iC
theorem R5:C2 pj:=MX pz
theorem A5:ic dX:=Ec j7
theorem MG:ni iq:=Eb j6 A5
theorem HP:my gS:=MR mf (f:=201) A5
theorem HN:dD gR:=xF me (f:=201) A5
theorem ME:Aw gh:=SW jm HP HN
theorem MF:mQ g_ ip:=MV j5 HP HN ME
theorem RX:xk jY:=Il j4 ⟨rfl,rfl,rfl,rfl,rfl,rfl⟩ rfl HQ A5
theorem RZ:tf lZ:=Im md (f:=201) A5
theorem RY:C0 il:=MU iB HP HN RZ MF ME
theorem RW:CZ gy:=MT gC HQ MG
theorem t0:dW fN:=cy j9
theorem t43:fj ft:=bx iG t0
theorem t1:aR cn:=aP eJ
theorem t3:dz eP:=bp gD t0 t1
theorem t12:kY pk:=d6 pA t3 t43
theorem t44:jc jf:=bR jk rfl rfl rfl
theorem t9:dE dG:=aW eY t1
theorem t10:gf gg:=bP jh
theorem R6:gO cW:=zu fP t9 t10 rfl
theorem t15:gv gw:=bo gz R6
theorem t45:mz iu:=cz j_ t0 t12 t15 t44
theorem t72:mz dg:=Io eI t45
theorem t11:pd pq:=d7 pB t43
theorem t16:Lm iw:=bu iD t11 t45
theorem t17:jW dH:=aX eZ t16
theorem t40:dF dI:=aY e6 t3
theorem t74:C3 eQ:=SX gF t40 rfl
theorem t73:pf ck:=Ip dt t72
theorem t47:kZ 4 lU d_:=Ed fQ (f:=40) Au t40
theorem t2:dA cJ:=bq gE t1
theorem t49:lV lY:=cY ma t2 R6 rfl
theorem t6:dD iz:=xF iF (f:=2) t2.1
theorem t41:ib ig:=cv j3 t9 t10
theorem t42:fi iy:=bw iE t2 t41
theorem t75:CY eO:=SV gA t6 t41 t42 rfl rfl
theorem t77:mQ g_ ie:=SU j0 t47 t49 t73 t74 t75
theorem t80:C1 g_ jg:=MW jl (f:=77) t17 t77
theorem t50:jb je:=bQ ji t2 R6 rfl
theorem t78:mQ mF fq:=MS iA t47 t50 t73 t74 t75
theorem t81:C1 mF gx:=MW gB (f:=78) t17 t78
theorem zD:∀ ns:List Int,Qm [.lst .sc (ab ns)] = ok (.bl true):=NN C6 t72 t77 t78 t80 t81 HQ R5 R4 MG MF RY RX RW
noncomputable abbrev dQ:Stmt:=top 42
theorem ua:au ["_law_script","_law_k","_law_cell_here","_law_number"] ["_law_script","_law_k"] (aa dQ):=⟨rfl,rfl,rfl,by decide +kernel,rfl,by decide +kernel,by decide +kernel⟩
noncomputable def uR:Nat -> Option Str:=λn=>List.lookup n []
theorem vm:aL ⟨aa dQ,["_law_script","_law_k","_law_cell_here","_law_number"],uR,["len"],[],px⟩ (eX) (ae dQ) = true:=by decide +kernel
noncomputable abbrev cx:Stmt:=top 54
theorem pN:au ["_law_drawing"] ["_law_drawing"] (aa cx):=⟨rfl,rfl,rfl,by decide +kernel,rfl,by decide +kernel,by decide +kernel⟩
noncomputable def pY:Nat -> Option Str:=λn=>List.lookup n []
theorem qd:aL ⟨aa cx,["_law_drawing"],pY,["list"],[],px⟩ (jA) (ae cx) = true:=by decide +kernel
noncomputable abbrev fC:Stmt:=top 53
theorem zp:au ["_law_found"] ["_law_found"] (aa fC):=⟨rfl,rfl,rfl,by decide +kernel,rfl,by decide +kernel,by decide +kernel⟩
noncomputable def zX:Nat -> Option Str:=λn=>List.lookup n []
theorem Ah:aL ⟨aa fC,["_law_found"],zX,["bool","int","isinstance","len","tuple"],[],px⟩ (yV) (ae fC) = true:=by decide +kernel
noncomputable abbrev dP:Stmt:=top 43
theorem t_:au ["_law_top","_law_bottom","_law_one","_law_other"] ["_law_top","_law_bottom"] (aa dP):=⟨rfl,rfl,rfl,by decide +kernel,rfl,by decide +kernel,by decide +kernel⟩
noncomputable def uQ:Nat -> Option Str:=λn=>List.lookup n []
theorem vk:aL ⟨aa dP,["_law_top","_law_bottom","_law_one","_law_other"],uQ,["abs"],[],px⟩ (kS) (ae dP) = true:=by decide +kernel
noncomputable abbrev dO:Stmt:=top 47
theorem t7:au ["_law_number","_law_many","_law_found","_law_k"] ["_law_number","_law_many"] (aa dO):=⟨rfl,rfl,rfl,by decide +kernel,rfl,by decide +kernel,by decide +kernel⟩
noncomputable def uP:Nat -> Option Str:=λn=>List.lookup n [(201,"_law_frac")]
theorem vj:aL ⟨aa dO,["_law_number","_law_many","_law_found","_law_k"],uP,["range"],[],px⟩ (m_) (ae dO) = true:=by decide +kernel
noncomputable abbrev eA:Stmt:=top 44
theorem vZ:au ["_law_one","_law_other"] ["_law_one","_law_other"] (aa eA):=⟨rfl,rfl,rfl,by decide +kernel,rfl,by decide +kernel,by decide +kernel⟩
noncomputable def wL:Nat -> Option Str:=λn=>List.lookup n [(201,"_law_frac")]
theorem w_:aL ⟨aa eA,["_law_one","_law_other"],wL,[],[],px⟩ (yR 201) (ae eA) = true:=by decide +kernel
noncomputable abbrev eu:Stmt:=top 45
theorem vY:au ["_law_one","_law_other"] ["_law_one","_law_other"] (aa eu):=⟨rfl,rfl,rfl,by decide +kernel,rfl,by decide +kernel,by decide +kernel⟩
noncomputable def wK:Nat -> Option Str:=λn=>List.lookup n [(201,"_law_frac")]
theorem w9:aL ⟨aa eu,["_law_one","_law_other"],wK,[],[],px⟩ (jx 201) (ae eu) = true:=by decide +kernel
noncomputable abbrev cO:Stmt:=top 50
theorem rE:au ["_law_weights_here","_law_row","_law_worths","_law_found","_law_k"] ["_law_weights_here","_law_row","_law_worths"] (aa cO):=⟨rfl,rfl,rfl,by decide +kernel,rfl,by decide +kernel,by decide +kernel⟩
noncomputable def sk:Nat -> Option Str:=λn=>List.lookup n [(202,"_law_add"),(203,"_law_mul")]
theorem sI:aL ⟨aa cO,["_law_weights_here","_law_row","_law_worths","_law_found","_law_k"],sk,["len","range"],[],px⟩ (FY) (ae cO) = true:=by decide +kernel
noncomputable abbrev dN:Stmt:=top 51
theorem tZ:au ["_law_drawing","_law_guess","_law_worths","_law_found","_law_k","_law_chance","_law_row"] ["_law_drawing","_law_guess","_law_worths"] (aa dN):=⟨rfl,rfl,rfl,by decide +kernel,rfl,by decide +kernel,by decide +kernel⟩
noncomputable def uO:Nat -> Option Str:=λn=>List.lookup n [(202,"_law_add"),(203,"_law_mul"),(244,"_law_worth")]
theorem vi:aL ⟨aa dN,["_law_drawing","_law_guess","_law_worths","_law_found","_law_k","_law_chance","_law_row"],uO,["len","range"],[],px⟩ (yU) (ae dN) = true:=by decide +kernel
noncomputable abbrev dM:Stmt:=top 48
theorem tY:au ["_law_script","_law_at","_law_number","_law_many","_law_found","_law_k","_law_other","_law_left","_law_row","_law_turn","_law_whole"] ["_law_script","_law_at"] (aa dM):=⟨rfl,rfl,rfl,by decide +kernel,rfl,by decide +kernel,by decide +kernel⟩
noncomputable def uN:Nat -> Option Str:=λn=>List.lookup n [(200,"_law_cell"),(201,"_law_frac")]
theorem vh:aL ⟨aa dM,["_law_script","_law_at","_law_number","_law_many","_law_found","_law_k","_law_other","_law_left","_law_row","_law_turn","_law_whole"],uN,["len","list","range","sorted","sum"],[],px⟩ (sS) (ae dM) = true:=by decide +kernel
noncomputable abbrev ej:Stmt:=top 46
theorem vX:au ["_law_one","_law_other"] ["_law_one","_law_other"] (aa ej):=⟨rfl,rfl,rfl,by decide +kernel,rfl,by decide +kernel,by decide +kernel⟩
noncomputable def wJ:Nat -> Option Str:=λn=>List.lookup n [(201,"_law_frac")]
theorem w8:aL ⟨aa ej,["_law_one","_law_other"],wJ,[],[],px⟩ (sT 201) (ae ej) = true:=by decide +kernel
noncomputable abbrev cw:Stmt:=top 52
theorem pM:au ["_law_drawing","_law_guess","_law_worths","_law_mean_here","_law_found","_law_k","_law_chance","_law_row","_law_gap"] ["_law_drawing","_law_guess","_law_worths"] (aa cw):=⟨rfl,rfl,rfl,by decide +kernel,rfl,by decide +kernel,by decide +kernel⟩
noncomputable def pW:Nat -> Option Str:=λn=>List.lookup n [(202,"_law_add"),(203,"_law_mul"),(222,"_law_sub"),(232,"_law_mean"),(244,"_law_worth")]
theorem qc:aL ⟨aa cw,["_law_drawing","_law_guess","_law_worths","_law_mean_here","_law_found","_law_k","_law_chance","_law_row","_law_gap"],pW,["len","range"],[],px⟩ (yT) (ae cw) = true:=by decide +kernel
noncomputable abbrev bX:Stmt:=top 49
theorem nP:au ["_law_script","_law_at","_law_drawing"] ["_law_script","_law_at","_law_drawing"] (aa bX):=⟨rfl,rfl,rfl,by decide +kernel,rfl,by decide +kernel,by decide +kernel⟩
noncomputable def oI:Nat -> Option Str:=λn=>List.lookup n [(200,"_law_cell"),(230,"_law_list")]
theorem o6:aL ⟨aa bX,["_law_script","_law_at","_law_drawing"],oI,["len","range"],[],px⟩ (yS) (ae bX) = true:=by decide +kernel
noncomputable abbrev cy:Stmt:=top 7
theorem ub:au ["thing"] ["thing"] (aa cy):=⟨rfl,rfl,rfl,by decide +kernel,rfl,by decide +kernel,by decide +kernel⟩
noncomputable def uS:Nat -> Option Str:=λn=>List.lookup n []
theorem vn:aL ⟨aa cy,["thing"],uS,["bool","int","isinstance"],[],px⟩ (h_) (ae cy) = true:=by decide +kernel
noncomputable abbrev bx:Stmt:=top 19
theorem pR:au ["thing","many"] ["thing","many"] (aa bx):=⟨rfl,rfl,rfl,by decide +kernel,rfl,by decide +kernel,by decide +kernel⟩
noncomputable def p7:Nat -> Option Str:=λn=>List.lookup n [(0,"is_whole")]
theorem qh:aL ⟨aa bx,["thing","many"],p7,["all","isinstance","len","set","tuple"],[],px⟩ (df) (ae bx) = true:=by decide +kernel
noncomputable abbrev aP:Stmt:=top 8
theorem kz:au ["one","other","rest"] ["one","other"] (aa aP):=⟨rfl,rfl,rfl,by decide +kernel,rfl,by decide +kernel,by decide +kernel⟩
noncomputable def kL:Nat -> Option Str:=λn=>List.lookup n []
theorem kP:aL ⟨aa aP,["one","other","rest"],kL,["abs"],[],px⟩ (de) (ae aP) = true:=by decide +kernel
noncomputable abbrev bp:Stmt:=top 10
theorem nQ:au ["thing"] ["thing"] (aa bp):=⟨rfl,rfl,rfl,by decide +kernel,rfl,by decide +kernel,by decide +kernel⟩
noncomputable def oJ:Nat -> Option Str:=λn=>List.lookup n [(0,"is_whole"),(1,"common_divisor")]
theorem o7:aL ⟨aa bp,["thing"],oJ,["isinstance","len","tuple"],[],px⟩ (bz) (ae bp) = true:=by decide +kernel
noncomputable abbrev d6:Stmt:=top 21
theorem zq:au ["thing","many"] ["thing","many"] (aa d6):=⟨rfl,rfl,rfl,by decide +kernel,rfl,by decide +kernel,by decide +kernel⟩
noncomputable def zY:Nat -> Option Str:=λn=>List.lookup n [(3,"is_fraction"),(43,"are_houses")]
theorem Ai:aL ⟨aa d6,["thing","many"],zY,["isinstance","len","tuple"],[],px⟩ (kU) (ae d6) = true:=by decide +kernel
noncomputable abbrev bR:Stmt:=top 22
theorem rB:au ["rows","ahead","behind"] ["rows"] (aa bR):=⟨rfl,rfl,rfl,by decide +kernel,rfl,by decide +kernel,by decide +kernel⟩
noncomputable def si:Nat -> Option Str:=λn=>List.lookup n []
theorem sG:aL ⟨aa bR,["rows","ahead","behind"],si,["zip"],[],px⟩ (gd) (ae bR) = true:=by decide +kernel
noncomputable abbrev aW:Stmt:=top 13
theorem lz:au ["some","bottom","part"] ["some"] (aa aW):=⟨rfl,rfl,rfl,by decide +kernel,rfl,by decide +kernel,by decide +kernel⟩
noncomputable def lK:Nat -> Option Str:=λn=>List.lookup n [(1,"common_divisor")]
theorem lO:aL ⟨aa aW,["some","bottom","part"],lK,[],[],px⟩ (cE) (ae aW) = true:=by decide +kernel
noncomputable abbrev bP:Stmt:=top 14
theorem rz:au ["some","bottom"] ["some","bottom"] (aa bP):=⟨rfl,rfl,rfl,by decide +kernel,rfl,by decide +kernel,by decide +kernel⟩
noncomputable def sg:Nat -> Option Str:=λn=>List.lookup n []
theorem sE:aL ⟨aa bP,["some","bottom"],sg,[],[],px⟩ (fZ) (ae bP) = true:=by decide +kernel
noncomputable abbrev bC:Stmt:=top 23
theorem mH:au ["rows","chances","lots","bottom"] ["rows"] (aa bC):=⟨rfl,rfl,rfl,by decide +kernel,rfl,by decide +kernel,by decide +kernel⟩
noncomputable def mM:Nat -> Option Str:=λn=>List.lookup n [(9,"common_bottom"),(10,"tops_over")]
theorem mO:aL ⟨aa bC,["rows","chances","lots","bottom"],mM,["list","zip"],[],px⟩ (jw) (ae bC) = true:=by decide +kernel
noncomputable abbrev bo:Stmt:=top 24
theorem nL:au ["rows","weighed"] ["rows"] (aa bo):=⟨rfl,rfl,rfl,by decide +kernel,rfl,by decide +kernel,by decide +kernel⟩
noncomputable def oF:Nat -> Option Str:=λn=>List.lookup n [(14,"weighed_lots")]
theorem o3:aL ⟨aa bo,["rows","weighed"],oF,["sum"],[],px⟩ (eN) (ae bo) = true:=by decide +kernel
noncomputable abbrev cz:Stmt:=top 25
theorem uc:au ["thing","many","rows","row"] ["thing"] (aa cz):=⟨rfl,rfl,rfl,by decide +kernel,rfl,by decide +kernel,by decide +kernel⟩
noncomputable def uT:Nat -> Option Str:=λn=>List.lookup n [(0,"is_whole"),(12,"is_row"),(15,"sums_to_one"),(44,"rows_rise")]
theorem vo:aL ⟨aa cz,["thing","many","rows","row"],uT,["isinstance","len","list","tuple"],[("MOST_HOUSES",GK.i 12)],px⟩ (ia) (ae cz) = true:=by decide +kernel
noncomputable abbrev bj:Stmt:=top 33
theorem kv:au ["thing"] ["thing"] (aa bj):=⟨rfl,rfl,rfl,by decide +kernel,rfl,by decide +kernel,by decide +kernel⟩
noncomputable def kK:Nat -> Option Str:=λn=>List.lookup n [(45,"is_drawn")]
theorem kO:aL ⟨aa bj,["thing"],kK,[],[],px⟩ (sU) (ae bj) = true:=by decide +kernel
noncomputable abbrev d7:Stmt:=top 20
theorem zr:au ["thing","many"] ["thing","many"] (aa d7):=⟨rfl,rfl,rfl,by decide +kernel,rfl,by decide +kernel,by decide +kernel⟩
noncomputable def zZ:Nat -> Option Str:=λn=>List.lookup n [(43,"are_houses")]
theorem Aj:aL ⟨aa d7,["thing","many"],zZ,["list","sorted"],[],px⟩ (gN) (ae d7) = true:=by decide +kernel
noncomputable abbrev bu:Stmt:=top 26
theorem pO:au ["thing"] ["thing"] (aa bu):=⟨rfl,rfl,rfl,by decide +kernel,rfl,by decide +kernel,by decide +kernel⟩
noncomputable def pZ:Nat -> Option Str:=λn=>List.lookup n [(11,"is_lot"),(45,"is_drawn")]
theorem qe:aL ⟨aa bu,["thing"],pZ,["all"],[],px⟩ (fg) (ae bu) = true:=by decide +kernel
noncomputable abbrev aX:Stmt:=top 27
theorem lA:au ["thing"] ["thing"] (aa aX):=⟨rfl,rfl,rfl,by decide +kernel,rfl,by decide +kernel,by decide +kernel⟩
noncomputable def lL:Nat -> Option Str:=λn=>List.lookup n [(16,"is_drawing")]
theorem lP:aL ⟨aa aX,["thing"],lL,[],[],px⟩ (dC) (ae aX) = true:=by decide +kernel
noncomputable abbrev aY:Stmt:=top 11
theorem lB:au ["thing","many"] ["thing","many"] (aa aY):=⟨rfl,rfl,rfl,by decide +kernel,rfl,by decide +kernel,by decide +kernel⟩
noncomputable def lM:Nat -> Option Str:=λn=>List.lookup n [(3,"is_fraction")]
theorem lQ:aL ⟨aa aY,["thing","many"],lM,["all","isinstance","len","list"],[],px⟩ (bO) (ae aY) = true:=by decide +kernel
noncomputable abbrev bY:Stmt:=top 35
theorem nU:au ["thing","rows","row","weights"] ["thing","rows"] (aa bY):=⟨rfl,rfl,rfl,by decide +kernel,rfl,by decide +kernel,by decide +kernel⟩
noncomputable def oM:Nat -> Option Str:=λn=>List.lookup n [(40,"are_fractions")]
theorem o9:aL ⟨aa bY,["thing","rows","row","weights"],oM,["isinstance","len","list","zip"],[],px⟩ (FZ) (ae bY) = true:=by decide +kernel
noncomputable abbrev aT:Stmt:=top 34
theorem iU:au ["thing"] ["thing"] (aa aT):=⟨rfl,rfl,rfl,by decide +kernel,rfl,by decide +kernel,by decide +kernel⟩
noncomputable def i5:Nat -> Option Str:=λn=>List.lookup n [(72,"is_row_drawing")]
theorem i9:aL ⟨aa aT,["thing"],i5,[],[],px⟩ (sW) (ae aT) = true:=by decide +kernel
noncomputable abbrev bD:Stmt:=top 29
theorem mI:au ["thing","many"] ["thing","many"] (aa bD):=⟨rfl,rfl,rfl,by decide +kernel,rfl,by decide +kernel,by decide +kernel⟩
noncomputable def mN:Nat -> Option Str:=λn=>List.lookup n [(40,"are_fractions")]
theorem mP:aL ⟨aa bD,["thing","many"],mN,[],[],px⟩ (kW 40 4) (ae bD) = true:=by decide +kernel
noncomputable abbrev bq:Stmt:=top 9
theorem nS:au ["top","bottom","divisor"] ["top","bottom"] (aa bq):=⟨rfl,rfl,rfl,by decide +kernel,rfl,by decide +kernel,by decide +kernel⟩
noncomputable def oK:Nat -> Option Str:=λn=>List.lookup n [(1,"common_divisor")]
theorem o8:aL ⟨aa bq,["top","bottom","divisor"],oK,[],[],px⟩ (cI) (ae bq) = true:=by decide +kernel
noncomputable abbrev cY:Stmt:=top 30
theorem vW:au ["rows","guesses","weighed","total"] ["rows","guesses"] (aa cY):=⟨rfl,rfl,rfl,by decide +kernel,rfl,by decide +kernel,by decide +kernel⟩
noncomputable def wI:Nat -> Option Str:=λn=>List.lookup n [(2,"fraction_of"),(14,"weighed_lots")]
theorem w6:aL ⟨aa cY,["rows","guesses","weighed","total"],wI,["sum","zip"],[],px⟩ (jz) (ae cY) = true:=by decide +kernel
noncomputable abbrev cA:Stmt:=top 12
theorem pQ:au ["one","other"] ["one","other"] (aa cA):=⟨rfl,rfl,rfl,by decide +kernel,rfl,by decide +kernel,by decide +kernel⟩
noncomputable def p6:Nat -> Option Str:=λn=>List.lookup n [(2,"fraction_of")]
theorem qg:aL ⟨aa cA,["one","other"],p6,[],[],px⟩ (jx 2) (ae cA) = true:=by decide +kernel
noncomputable abbrev cv:Stmt:=top 15
theorem tX:au ["some","bottom"] ["some"] (aa cv):=⟨rfl,rfl,rfl,by decide +kernel,rfl,by decide +kernel,by decide +kernel⟩
noncomputable def uM:Nat -> Option Str:=λn=>List.lookup n [(9,"common_bottom"),(10,"tops_over")]
theorem vg:aL ⟨aa cv,["some","bottom"],uM,[],[],px⟩ (hZ) (ae cv) = true:=by decide +kernel
noncomputable abbrev bw:Stmt:=top 16
theorem pP:au ["some","tops"] ["some"] (aa bw):=⟨rfl,rfl,rfl,by decide +kernel,rfl,by decide +kernel,by decide +kernel⟩
noncomputable def p5:Nat -> Option Str:=λn=>List.lookup n [(2,"fraction_of"),(41,"over_one")]
theorem qf:aL ⟨aa bw,["some","tops"],p5,["sum"],[],px⟩ (fh) (ae bw) = true:=by decide +kernel
noncomputable abbrev bV:Stmt:=top 36
theorem nM:au ["rows","guess","worths","told","row","weights"] ["rows","guess","worths"] (aa bV):=⟨rfl,rfl,rfl,by decide +kernel,rfl,by decide +kernel,by decide +kernel⟩
noncomputable def oG:Nat -> Option Str:=λn=>List.lookup n [(6,"frac_times"),(41,"over_one"),(42,"frac_total")]
theorem o4:aL ⟨aa bV,["rows","guess","worths","told","row","weights"],oG,["zip"],[],px⟩ (FX) (ae bV) = true:=by decide +kernel
noncomputable abbrev dJ:Stmt:=top 37
theorem tW:au ["drawing","guess","worths"] ["drawing","guess","worths"] (aa dJ):=⟨rfl,rfl,rfl,by decide +kernel,rfl,by decide +kernel,by decide +kernel⟩
noncomputable def uL:Nat -> Option Str:=λn=>List.lookup n [(47,"check_worths"),(49,"mean_of"),(73,"check_row_drawing"),(74,"check_guess"),(75,"row_guesses")]
theorem vf:aL ⟨aa dJ,["drawing","guess","worths"],uL,[],[],px⟩ (vv 49) (ae dJ) = true:=by decide +kernel
noncomputable abbrev cN:Stmt:=top 39
theorem rC:au ["drawing","guess","worths"] ["drawing","guess","worths"] (aa cN):=⟨rfl,rfl,rfl,by decide +kernel,rfl,by decide +kernel,by decide +kernel⟩
noncomputable def sj:Nat -> Option Str:=λn=>List.lookup n [(17,"check_drawing"),(77,"row_mean")]
theorem sH:aL ⟨aa cN,["drawing","guess","worths"],sj,[],[],px⟩ (As 77) (ae cN) = true:=by decide +kernel
noncomputable abbrev bQ:Stmt:=top 31
theorem rA:au ["rows","guesses","weighed","total","squares","bottom"] ["rows","guesses"] (aa bQ):=⟨rfl,rfl,rfl,by decide +kernel,rfl,by decide +kernel,by decide +kernel⟩
noncomputable def sh:Nat -> Option Str:=λn=>List.lookup n [(2,"fraction_of"),(14,"weighed_lots")]
theorem sF:aL ⟨aa bQ,["rows","guesses","weighed","total","squares","bottom"],sh,["sum","zip"],[],px⟩ (f_) (ae bQ) = true:=by decide +kernel
noncomputable abbrev cu:Stmt:=top 38
theorem pL:au ["drawing","guess","worths"] ["drawing","guess","worths"] (aa cu):=⟨rfl,rfl,rfl,by decide +kernel,rfl,by decide +kernel,by decide +kernel⟩
noncomputable def pV:Nat -> Option Str:=λn=>List.lookup n [(47,"check_worths"),(50,"spread_of"),(73,"check_row_drawing"),(74,"check_guess"),(75,"row_guesses")]
theorem qb:aL ⟨aa cu,["drawing","guess","worths"],pV,[],[],px⟩ (vv 50) (ae cu) = true:=by decide +kernel
noncomputable abbrev bW:Stmt:=top 40
theorem nN:au ["drawing","guess","worths"] ["drawing","guess","worths"] (aa bW):=⟨rfl,rfl,rfl,by decide +kernel,rfl,by decide +kernel,by decide +kernel⟩
noncomputable def oH:Nat -> Option Str:=λn=>List.lookup n [(17,"check_drawing"),(78,"row_spread")]
theorem o5:aL ⟨aa bW,["drawing","guess","worths"],oH,[],[],px⟩ (As 78) (ae bW) = true:=by decide +kernel
noncomputable abbrev jF:Stmt:=top 55
theorem Ik:au ["_law_script","_law_drawing","_law_guess","_law_worths","_law_handed","_law_mean_here","_law_spread_here","_law_lots"] ["_law_script"] (aa jF):=⟨rfl,rfl,rfl,by decide +kernel,rfl,by decide +kernel,by decide +kernel⟩
noncomputable def Ki:Nat -> Option Str:=λn=>List.lookup n [(72,"is_row_drawing"),(77,"row_mean"),(78,"row_spread"),(80,"lots_mean"),(81,"lots_spread"),(200,"_law_cell"),(204,"_law_is"),(215,"_law_copied"),(230,"_law_list"),(232,"_law_mean"),(237,"_law_spread"),(242,"_law_rows"),(243,"_law_weights")]
theorem La:aL ⟨aa jF,["_law_script","_law_drawing","_law_guess","_law_worths","_law_handed","_law_mean_here","_law_spread_here","_law_lots"],Ki,["len","list","sorted","tuple"],[],px⟩ (kT) (ae jF) = true:=by decide +kernel
theorem all_mk {l:PySem.W.OpenLaw} {w:World} {K:PySem.W.Frag} {h:Heap} {mg:Str -> Option Value} {fa f0 f1 f2 f3 f4 f5 f6 f7 f8 f9 Yb Ya X_ X9 X8 X7 X6 X5 X4 X3 X2 X1 X0 XZ XY XX XW XU XT XS XR XQ XO XN XM XJ XI XH XG XF XE XD XC XB:Addr} (X:K.In h) (G:h.Ns mainGlobals mg) (hfa:mg "law" = some (.ref fa))
  {od0 an0 od1 an1 od2 an2 od3 an3 od4 an4 od5 an5 od6 an6 od7 an7 od8 an8 od9 an9 UT aac US aab UR aaa UQ Z_ UP Z9 UO Z8 UN Z7 UM Z6 UL Z5 UK Z4 UJ Z3 UI Z2 UH Z1 UG Z0 UE ZZ UD ZY UC ZX UB ZW UA ZV Uz ZU Uy ZT Ux ZS Uw ZR Uv ZQ Uu ZP Ut ZO Us ZN Ur ZM Uq ZL Uo ZK Um ZJ Ul ZI Uk ZH Uj Qj:Option Addr} {sl0 sl1 vD sl3 sl4 sl5 sl6 sl7 sl8 sl9 SR SQ SO SN SM SK SJ SH SG SF SE SD SA Sz Sy Sw Sv Su Ss Sr Sq So Sn Sl Sk Sj Sh Sg Sf Se Sd Sb Sa R_:Array (Option Value)} {oc0 kV0 dc0 pm0 cd0 ct0 oc1 kV1 dc1 pm1 cd1 ct1 oc2 kV2 dc2 pm2 cd2 ct2 oc3 kV3 dc3 pm3 cd3 ct3 oc4 kV4 dc4 pm4 cd4 ct4 oc5 kV5 dc5 pm5 cd5 ct5 oc6 kV6 dc6 pm6 cd6 ct6 oc7 kV7 dc7 pm7 cd7 ct7 oc8 kV8 dc8 pm8 cd8 ct8 oc9 kV9 dc9 pm9 cd9 ct9 Vr Wb Y0 T_ P8 Zx Vq Wa YZ T9 P7 Zw Vp V_ YY T8 P6 Zv Vo V9 YX T7 P5 Zu Vn V8 YW T6 P4 Zt Vm V7 YV T5 P0 Zs Vl V6 YU T4 PZ Zr Vk V5 YT T3 PY Zq Vj V4 YS T2 PV Zp Vi V3 YR T1 PU Zo Vh V2 YQ TZ PR Zn Vg V1 YO TY PQ Zm Vf V0 YN TX PN Zk Ve VZ YM TV PM Zj Vd VY YL TU PL Zi Vc VX YK TR PK Zh Vb VW YJ TQ PJ Zg Va VV YI TN PH Zf U_ VU YH TM PF Ze U9 VT YG TL PD Zd U8 VS YF TK PC Zc U7 VR YE TJ PB Zb U6 VQ YD TH Pz Za U5 VP YC TF Py Y_ U4 VO YB TC Pw Y9 U3 VN YA TB Pu Y8 U2 VM Yz Tz Pt Y7 U1 VL Yy Tx Pr Y6 U0 VJ Yx Tw Pq Y5 UZ VI Yw Tv Pp Y4 UY VH Yv Tu Po Y3 UX VG Yu Tt Pn Y2 UW VF Yt Ts Pm Y1 UU NS Pb Nf Lb Pc u0:Value}
  (a0:PySem.W.nsIn K mainGlobals "_law_cell" = some (some (.ref f0))) (l0:K.lookup f0 = some ⟨oc0,od0,.func (PySem.W.fnOf "_law_cell" "_law_cell" (aq dQ) (ae dQ) (aa dQ) .none kV0 dc0 pm0 an0 cd0 ct0),sl0⟩) (c0:PySem.W.codeIn K cd0 "_law_cell" = true) (k0:PySem.W.keepIn K (.ref f0) = true)
  (a1:PySem.W.nsIn K mainGlobals "_law_copied" = some (some (.ref f1))) (l1:K.lookup f1 = some ⟨oc1,od1,.func (PySem.W.fnOf "_law_copied" "_law_copied" (aq cx) (ae cx) (aa cx) .none kV1 dc1 pm1 an1 cd1 ct1),sl1⟩) (c1:PySem.W.codeIn K cd1 "_law_copied" = true) (k1:PySem.W.keepIn K (.ref f1) = true)
  (a2:PySem.W.nsIn K mainGlobals "_law_is" = some (some (.ref f2))) (l2:K.lookup f2 = some ⟨oc2,od2,.func (PySem.W.fnOf "_law_is" "_law_is" (aq fC) (ae fC) (aa fC) .none kV2 dc2 pm2 an2 cd2 ct2),vD⟩) (c2:PySem.W.codeIn K cd2 "_law_is" = true) (k2:PySem.W.keepIn K (.ref f2) = true)
  (a3:PySem.W.nsIn K mainGlobals "_law_frac" = some (some (.ref f3))) (l3:K.lookup f3 = some ⟨oc3,od3,.func (PySem.W.fnOf "_law_frac" "_law_frac" (aq dP) (ae dP) (aa dP) .none kV3 dc3 pm3 an3 cd3 ct3),sl3⟩) (c3:PySem.W.codeIn K cd3 "_law_frac" = true) (k3:PySem.W.keepIn K (.ref f3) = true)
  (a4:PySem.W.nsIn K mainGlobals "_law_list" = some (some (.ref f4))) (l4:K.lookup f4 = some ⟨oc4,od4,.func (PySem.W.fnOf "_law_list" "_law_list" (aq dO) (ae dO) (aa dO) .none kV4 dc4 pm4 an4 cd4 ct4),sl4⟩) (c4:PySem.W.codeIn K cd4 "_law_list" = true) (k4:PySem.W.keepIn K (.ref f4) = true)
  (a5:PySem.W.nsIn K mainGlobals "_law_add" = some (some (.ref f5))) (l5:K.lookup f5 = some ⟨oc5,od5,.func (PySem.W.fnOf "_law_add" "_law_add" (aq eA) (ae eA) (aa eA) .none kV5 dc5 pm5 an5 cd5 ct5),sl5⟩) (c5:PySem.W.codeIn K cd5 "_law_add" = true) (k5:PySem.W.keepIn K (.ref f5) = true)
  (a6:PySem.W.nsIn K mainGlobals "_law_mul" = some (some (.ref f6))) (l6:K.lookup f6 = some ⟨oc6,od6,.func (PySem.W.fnOf "_law_mul" "_law_mul" (aq eu) (ae eu) (aa eu) .none kV6 dc6 pm6 an6 cd6 ct6),sl6⟩) (c6:PySem.W.codeIn K cd6 "_law_mul" = true) (k6:PySem.W.keepIn K (.ref f6) = true)
  (a7:PySem.W.nsIn K mainGlobals "_law_worth" = some (some (.ref f7))) (l7:K.lookup f7 = some ⟨oc7,od7,.func (PySem.W.fnOf "_law_worth" "_law_worth" (aq cO) (ae cO) (aa cO) .none kV7 dc7 pm7 an7 cd7 ct7),sl7⟩) (c7:PySem.W.codeIn K cd7 "_law_worth" = true) (k7:PySem.W.keepIn K (.ref f7) = true)
  (a8:PySem.W.nsIn K mainGlobals "_law_mean" = some (some (.ref f8))) (l8:K.lookup f8 = some ⟨oc8,od8,.func (PySem.W.fnOf "_law_mean" "_law_mean" (aq dN) (ae dN) (aa dN) .none kV8 dc8 pm8 an8 cd8 ct8),sl8⟩) (c8:PySem.W.codeIn K cd8 "_law_mean" = true) (k8:PySem.W.keepIn K (.ref f8) = true)
  (a9:PySem.W.nsIn K mainGlobals "_law_rows" = some (some (.ref f9))) (l9:K.lookup f9 = some ⟨oc9,od9,.func (PySem.W.fnOf "_law_rows" "_law_rows" (aq dM) (ae dM) (aa dM) .none kV9 dc9 pm9 an9 cd9 ct9),sl9⟩) (c9:PySem.W.codeIn K cd9 "_law_rows" = true) (k9:PySem.W.keepIn K (.ref f9) = true)
  (a10:PySem.W.nsIn K mainGlobals "_law_sub" = some (some (.ref Yb))) (l10:K.lookup Yb = some ⟨Vr,UT,.func (PySem.W.fnOf "_law_sub" "_law_sub" (aq ej) (ae ej) (aa ej) .none Wb Y0 T_ aac P8 Zx),SR⟩) (c10:PySem.W.codeIn K P8 "_law_sub" = true) (k10:PySem.W.keepIn K (.ref Yb) = true)
  (a11:PySem.W.nsIn K mainGlobals "_law_spread" = some (some (.ref Ya))) (l11:K.lookup Ya = some ⟨Vq,US,.func (PySem.W.fnOf "_law_spread" "_law_spread" (aq cw) (ae cw) (aa cw) .none Wa YZ T9 aab P7 Zw),SQ⟩) (c11:PySem.W.codeIn K P7 "_law_spread" = true) (k11:PySem.W.keepIn K (.ref Ya) = true)
  (a12:PySem.W.nsIn K mainGlobals "_law_weights" = some (some (.ref X_))) (l12:K.lookup X_ = some ⟨Vp,UR,.func (PySem.W.fnOf "_law_weights" "_law_weights" (aq bX) (ae bX) (aa bX) .none V_ YY T8 aaa P6 Zv),SO⟩) (c12:PySem.W.codeIn K P6 "_law_weights" = true) (k12:PySem.W.keepIn K (.ref X_) = true)
  (a13:PySem.W.nsIn K mainGlobals "is_whole" = some (some (.ref X9))) (l13:K.lookup X9 = some ⟨Vo,UQ,.func (PySem.W.fnOf "is_whole" "is_whole" (aq cy) (ae cy) (aa cy) .none V9 YX T7 Z_ P5 Zu),SN⟩) (c13:PySem.W.codeIn K P5 "is_whole" = true) (k13:PySem.W.keepIn K (.ref X9) = true)
  (a14:PySem.W.nsIn K mainGlobals "are_houses" = some (some (.ref X8))) (l14:K.lookup X8 = some ⟨Vn,UP,.func (PySem.W.fnOf "are_houses" "are_houses" (aq bx) (ae bx) (aa bx) .none V8 YW T6 Z9 P4 Zt),SM⟩) (c14:PySem.W.codeIn K P4 "are_houses" = true) (k14:PySem.W.keepIn K (.ref X8) = true)
  (a15:PySem.W.nsIn K mainGlobals "common_divisor" = some (some (.ref X7))) (l15:K.lookup X7 = some ⟨Vm,UO,.func (PySem.W.fnOf "common_divisor" "common_divisor" (aq aP) (ae aP) (aa aP) .none V7 YV T5 Z8 P0 Zs),SK⟩) (c15:PySem.W.codeIn K P0 "common_divisor" = true) (k15:PySem.W.keepIn K (.ref X7) = true)
  (a16:PySem.W.nsIn K mainGlobals "is_fraction" = some (some (.ref X6))) (l16:K.lookup X6 = some ⟨Vl,UN,.func (PySem.W.fnOf "is_fraction" "is_fraction" (aq bp) (ae bp) (aa bp) .none V6 YU T4 Z7 PZ Zr),SJ⟩) (c16:PySem.W.codeIn K PZ "is_fraction" = true) (k16:PySem.W.keepIn K (.ref X6) = true)
  (a17:PySem.W.nsIn K mainGlobals "is_row" = some (some (.ref X5))) (l17:K.lookup X5 = some ⟨Vk,UM,.func (PySem.W.fnOf "is_row" "is_row" (aq d6) (ae d6) (aa d6) .none V5 YT T3 Z6 PY Zq),SH⟩) (c17:PySem.W.codeIn K PY "is_row" = true) (k17:PySem.W.keepIn K (.ref X5) = true)
  (a18:PySem.W.nsIn K mainGlobals "rows_rise" = some (some (.ref X4))) (l18:K.lookup X4 = some ⟨Vj,UL,.func (PySem.W.fnOf "rows_rise" "rows_rise" (aq bR) (ae bR) (aa bR) .none V4 YS T2 Z5 PV Zp),SG⟩) (c18:PySem.W.codeIn K PV "rows_rise" = true) (k18:PySem.W.keepIn K (.ref X4) = true)
  (a19:PySem.W.nsIn K mainGlobals "common_bottom" = some (some (.ref X3))) (l19:K.lookup X3 = some ⟨Vi,UK,.func (PySem.W.fnOf "common_bottom" "common_bottom" (aq aW) (ae aW) (aa aW) .none V3 YR T1 Z4 PU Zo),SF⟩) (c19:PySem.W.codeIn K PU "common_bottom" = true) (k19:PySem.W.keepIn K (.ref X3) = true)
  (a20:PySem.W.nsIn K mainGlobals "tops_over" = some (some (.ref X2))) (l20:K.lookup X2 = some ⟨Vh,UJ,.func (PySem.W.fnOf "tops_over" "tops_over" (aq bP) (ae bP) (aa bP) .none V2 YQ TZ Z3 PR Zn),SE⟩) (c20:PySem.W.codeIn K PR "tops_over" = true) (k20:PySem.W.keepIn K (.ref X2) = true)
  (a21:PySem.W.nsIn K mainGlobals "weighed_lots" = some (some (.ref X1))) (l21:K.lookup X1 = some ⟨Vg,UI,.func (PySem.W.fnOf "weighed_lots" "weighed_lots" (aq bC) (ae bC) (aa bC) .none V1 YO TY Z2 PQ Zm),SD⟩) (c21:PySem.W.codeIn K PQ "weighed_lots" = true) (k21:PySem.W.keepIn K (.ref X1) = true)
  (a22:PySem.W.nsIn K mainGlobals "sums_to_one" = some (some (.ref X0))) (l22:K.lookup X0 = some ⟨Vf,UH,.func (PySem.W.fnOf "sums_to_one" "sums_to_one" (aq bo) (ae bo) (aa bo) .none V0 YN TX Z1 PN Zk),SA⟩) (c22:PySem.W.codeIn K PN "sums_to_one" = true) (k22:PySem.W.keepIn K (.ref X0) = true)
  (a23:PySem.W.nsIn K mainGlobals "is_drawn" = some (some (.ref XZ))) (l23:K.lookup XZ = some ⟨Ve,UG,.func (PySem.W.fnOf "is_drawn" "is_drawn" (aq cz) (ae cz) (aa cz) .none VZ YM TV Z0 PM Zj),Sz⟩) (c23:PySem.W.codeIn K PM "is_drawn" = true) (k23:PySem.W.keepIn K (.ref XZ) = true)
  (a24:PySem.W.nsIn K mainGlobals "is_row_drawing" = some (some (.ref XY))) (l24:K.lookup XY = some ⟨Vd,UE,.func (PySem.W.fnOf "is_row_drawing" "is_row_drawing" (aq bj) (ae bj) (aa bj) .none VY YL TU ZZ PL Zi),Sy⟩) (c24:PySem.W.codeIn K PL "is_row_drawing" = true) (k24:PySem.W.keepIn K (.ref XY) = true)
  (a25:PySem.W.nsIn K mainGlobals "is_lot" = some (some (.ref XX))) (l25:K.lookup XX = some ⟨Vc,UD,.func (PySem.W.fnOf "is_lot" "is_lot" (aq d7) (ae d7) (aa d7) .none VX YK TR ZY PK Zh),Sw⟩) (c25:PySem.W.codeIn K PK "is_lot" = true) (k25:PySem.W.keepIn K (.ref XX) = true)
  (a26:PySem.W.nsIn K mainGlobals "is_drawing" = some (some (.ref XW))) (l26:K.lookup XW = some ⟨Vb,UC,.func (PySem.W.fnOf "is_drawing" "is_drawing" (aq bu) (ae bu) (aa bu) .none VW YJ TQ ZX PJ Zg),Sv⟩) (c26:PySem.W.codeIn K PJ "is_drawing" = true) (k26:PySem.W.keepIn K (.ref XW) = true)
  (a27:PySem.W.nsIn K mainGlobals "check_drawing" = some (some (.ref XU))) (l27:K.lookup XU = some ⟨Va,UB,.func (PySem.W.fnOf "check_drawing" "check_drawing" (aq aX) (ae aX) (aa aX) .none VV YI TN ZW PH Zf),Su⟩) (c27:PySem.W.codeIn K PH "check_drawing" = true) (k27:PySem.W.keepIn K (.ref XU) = true)
  (a28:PySem.W.nsIn K mainGlobals "are_fractions" = some (some (.ref XT))) (l28:K.lookup XT = some ⟨U_,UA,.func (PySem.W.fnOf "are_fractions" "are_fractions" (aq aY) (ae aY) (aa aY) .none VU YH TM ZV PF Ze),Ss⟩) (c28:PySem.W.codeIn K PF "are_fractions" = true) (k28:PySem.W.keepIn K (.ref XT) = true)
  (a29:PySem.W.nsIn K mainGlobals "check_guess" = some (some (.ref XS))) (l29:K.lookup XS = some ⟨U9,Uz,.func (PySem.W.fnOf "check_guess" "check_guess" (aq bY) (ae bY) (aa bY) .none VT YG TL ZU PD Zd),Sr⟩) (c29:PySem.W.codeIn K PD "check_guess" = true) (k29:PySem.W.keepIn K (.ref XS) = true)
  (a30:PySem.W.nsIn K mainGlobals "check_row_drawing" = some (some (.ref XR))) (l30:K.lookup XR = some ⟨U8,Uy,.func (PySem.W.fnOf "check_row_drawing" "check_row_drawing" (aq aT) (ae aT) (aa aT) .none VS YF TK ZT PC Zc),Sq⟩) (c30:PySem.W.codeIn K PC "check_row_drawing" = true) (k30:PySem.W.keepIn K (.ref XR) = true)
  (a31:PySem.W.nsIn K mainGlobals "check_worths" = some (some (.ref XQ))) (l31:K.lookup XQ = some ⟨U7,Ux,.func (PySem.W.fnOf "check_worths" "check_worths" (aq bD) (ae bD) (aa bD) .none VR YE TJ ZS PB Zb),So⟩) (c31:PySem.W.codeIn K PB "check_worths" = true) (k31:PySem.W.keepIn K (.ref XQ) = true)
  (a32:PySem.W.nsIn K mainGlobals "fraction_of" = some (some (.ref XO))) (l32:K.lookup XO = some ⟨U6,Uw,.func (PySem.W.fnOf "fraction_of" "fraction_of" (aq bq) (ae bq) (aa bq) .none VQ YD TH ZR Pz Za),Sn⟩) (c32:PySem.W.codeIn K Pz "fraction_of" = true) (k32:PySem.W.keepIn K (.ref XO) = true)
  (a33:PySem.W.nsIn K mainGlobals "mean_of" = some (some (.ref XN))) (l33:K.lookup XN = some ⟨U5,Uv,.func (PySem.W.fnOf "mean_of" "mean_of" (aq cY) (ae cY) (aa cY) .none VP YC TF ZQ Py Y_),Sl⟩) (c33:PySem.W.codeIn K Py "mean_of" = true) (k33:PySem.W.keepIn K (.ref XN) = true)
  (a34:PySem.W.nsIn K mainGlobals "frac_times" = some (some (.ref XM))) (l34:K.lookup XM = some ⟨U4,Uu,.func (PySem.W.fnOf "frac_times" "frac_times" (aq cA) (ae cA) (aa cA) .none VO YB TC ZP Pw Y9),Sk⟩) (c34:PySem.W.codeIn K Pw "frac_times" = true) (k34:PySem.W.keepIn K (.ref XM) = true)
  (a35:PySem.W.nsIn K mainGlobals "over_one" = some (some (.ref XJ))) (l35:K.lookup XJ = some ⟨U3,Ut,.func (PySem.W.fnOf "over_one" "over_one" (aq cv) (ae cv) (aa cv) .none VN YA TB ZO Pu Y8),Sj⟩) (c35:PySem.W.codeIn K Pu "over_one" = true) (k35:PySem.W.keepIn K (.ref XJ) = true)
  (a36:PySem.W.nsIn K mainGlobals "frac_total" = some (some (.ref XI))) (l36:K.lookup XI = some ⟨U2,Us,.func (PySem.W.fnOf "frac_total" "frac_total" (aq bw) (ae bw) (aa bw) .none VM Yz Tz ZN Pt Y7),Sh⟩) (c36:PySem.W.codeIn K Pt "frac_total" = true) (k36:PySem.W.keepIn K (.ref XI) = true)
  (a37:PySem.W.nsIn K mainGlobals "row_guesses" = some (some (.ref XH))) (l37:K.lookup XH = some ⟨U1,Ur,.func (PySem.W.fnOf "row_guesses" "row_guesses" (aq bV) (ae bV) (aa bV) .none VL Yy Tx ZM Pr Y6),Sg⟩) (c37:PySem.W.codeIn K Pr "row_guesses" = true) (k37:PySem.W.keepIn K (.ref XH) = true)
  (a38:PySem.W.nsIn K mainGlobals "row_mean" = some (some (.ref XG))) (l38:K.lookup XG = some ⟨U0,Uq,.func (PySem.W.fnOf "row_mean" "row_mean" (aq dJ) (ae dJ) (aa dJ) .none VJ Yx Tw ZL Pq Y5),Sf⟩) (c38:PySem.W.codeIn K Pq "row_mean" = true) (k38:PySem.W.keepIn K (.ref XG) = true)
  (a39:PySem.W.nsIn K mainGlobals "lots_mean" = some (some (.ref XF))) (l39:K.lookup XF = some ⟨UZ,Uo,.func (PySem.W.fnOf "lots_mean" "lots_mean" (aq cN) (ae cN) (aa cN) .none VI Yw Tv ZK Pp Y4),Se⟩) (c39:PySem.W.codeIn K Pp "lots_mean" = true) (k39:PySem.W.keepIn K (.ref XF) = true)
  (a40:PySem.W.nsIn K mainGlobals "spread_of" = some (some (.ref XE))) (l40:K.lookup XE = some ⟨UY,Um,.func (PySem.W.fnOf "spread_of" "spread_of" (aq bQ) (ae bQ) (aa bQ) .none VH Yv Tu ZJ Po Y3),Sd⟩) (c40:PySem.W.codeIn K Po "spread_of" = true) (k40:PySem.W.keepIn K (.ref XE) = true)
  (a41:PySem.W.nsIn K mainGlobals "row_spread" = some (some (.ref XD))) (l41:K.lookup XD = some ⟨UX,Ul,.func (PySem.W.fnOf "row_spread" "row_spread" (aq cu) (ae cu) (aa cu) .none VG Yu Tt ZI Pn Y2),Sb⟩) (c41:PySem.W.codeIn K Pn "row_spread" = true) (k41:PySem.W.keepIn K (.ref XD) = true)
  (a42:PySem.W.nsIn K mainGlobals "lots_spread" = some (some (.ref XC))) (l42:K.lookup XC = some ⟨UW,Uk,.func (PySem.W.fnOf "lots_spread" "lots_spread" (aq bW) (ae bW) (aa bW) .none VF Yt Ts ZH Pm Y1),Sa⟩) (c42:PySem.W.codeIn K Pm "lots_spread" = true) (k42:PySem.W.keepIn K (.ref XC) = true)
  (a43:PySem.W.nsIn K mainGlobals "law" = some (some (.ref XB))) (l43:K.lookup XB = some ⟨UU,Uj,.func (PySem.W.fnOf "law" "law" (aq jF) (ae jF) (aa jF) .none NS Pb Nf Qj Lb Pc),R_⟩) (c43:PySem.W.codeIn K Lb "law" = true) (k43:PySem.W.keepIn K (.ref XB) = true)
  (z0:PySem.W.nsIn K mainGlobals "abs" = some none)
  (z1:PySem.W.nsIn K mainGlobals "all" = some none)
  (z2:PySem.W.nsIn K mainGlobals "bool" = some none)
  (z3:PySem.W.nsIn K mainGlobals "int" = some none)
  (z4:PySem.W.nsIn K mainGlobals "isinstance" = some none)
  (z5:PySem.W.nsIn K mainGlobals "len" = some none)
  (z6:PySem.W.nsIn K mainGlobals "list" = some none)
  (z7:PySem.W.nsIn K mainGlobals "range" = some none)
  (z8:PySem.W.nsIn K mainGlobals "set" = some none)
  (z9:PySem.W.nsIn K mainGlobals "sorted" = some none)
  (z10:PySem.W.nsIn K mainGlobals "sum" = some none)
  (z11:PySem.W.nsIn K mainGlobals "tuple" = some none)
  (z12:PySem.W.nsIn K mainGlobals "zip" = some none)
  (q0:PySem.W.nsIn K mainGlobals "MOST_HOUSES" = some (some u0)) (r0:RelV (.int 12) u0) :
  ∃ fd:FuncData,(∀ (s:Shared) (v:Value),BindsTo s fd ⟨[v],[]⟩ [("_law_script",v)]) /\ ∀ base:Heap,K.In base -> base.Ns mainGlobals mg -> jZ l.prog w K mg base C8 45 fa fd ["_law_script"] (GA K 1 uv):=by
 have e:=hfa.symm.trans (PySem.W.mg_of X G a43)
 cases e
 have F0:=aG (st:=dQ) l0 c0 k0
 have b0:=F0.binds (ps:=["_law_script","_law_k"]) λ_ _ _ _ _ _ us hl=>by obtain ⟨_,_,rfl⟩:=gI hl;rfl
 have F1:=aG (st:=cx) l1 c1 k1
 have b1:=F1.binds (ps:=["_law_drawing"]) λ_ _ _ _ _ _ us hl=>by obtain ⟨_,rfl⟩:=iZ hl;rfl
 have F2:=aG (st:=fC) l2 c2 k2
 have b2:=F2.binds (ps:=["_law_found"]) λ_ _ _ _ _ _ us hl=>by obtain ⟨_,rfl⟩:=iZ hl;rfl
 have F3:=aG (st:=dP) l3 c3 k3
 have b3:=F3.binds (ps:=["_law_top","_law_bottom"]) λ_ _ _ _ _ _ us hl=>by obtain ⟨_,_,rfl⟩:=gI hl;rfl
 have F4:=aG (st:=dO) l4 c4 k4
 have b4:=F4.binds (ps:=["_law_number","_law_many"]) λ_ _ _ _ _ _ us hl=>by obtain ⟨_,_,rfl⟩:=gI hl;rfl
 have F5:=aG (st:=eA) l5 c5 k5
 have b5:=F5.binds (ps:=["_law_one","_law_other"]) λ_ _ _ _ _ _ us hl=>by obtain ⟨_,_,rfl⟩:=gI hl;rfl
 have F6:=aG (st:=eu) l6 c6 k6
 have b6:=F6.binds (ps:=["_law_one","_law_other"]) λ_ _ _ _ _ _ us hl=>by obtain ⟨_,_,rfl⟩:=gI hl;rfl
 have F7:=aG (st:=cO) l7 c7 k7
 have b7:=F7.binds (ps:=["_law_weights_here","_law_row","_law_worths"]) λ_ _ _ _ _ _ us hl=>by obtain ⟨_,_,_,rfl⟩:=rT hl;rfl
 have F8:=aG (st:=dN) l8 c8 k8
 have b8:=F8.binds (ps:=["_law_drawing","_law_guess","_law_worths"]) λ_ _ _ _ _ _ us hl=>by obtain ⟨_,_,_,rfl⟩:=rT hl;rfl
 have F9:=aG (st:=dM) l9 c9 k9
 have b9:=F9.binds (ps:=["_law_script","_law_at"]) λ_ _ _ _ _ _ us hl=>by obtain ⟨_,_,rfl⟩:=gI hl;rfl
 have F10:=aG (st:=ej) l10 c10 k10
 have b10:=F10.binds (ps:=["_law_one","_law_other"]) λ_ _ _ _ _ _ us hl=>by obtain ⟨_,_,rfl⟩:=gI hl;rfl
 have F11:=aG (st:=cw) l11 c11 k11
 have b11:=F11.binds (ps:=["_law_drawing","_law_guess","_law_worths"]) λ_ _ _ _ _ _ us hl=>by obtain ⟨_,_,_,rfl⟩:=rT hl;rfl
 have F12:=aG (st:=bX) l12 c12 k12
 have b12:=F12.binds (ps:=["_law_script","_law_at","_law_drawing"]) λ_ _ _ _ _ _ us hl=>by obtain ⟨_,_,_,rfl⟩:=rT hl;rfl
 have F13:=aG (st:=cy) l13 c13 k13
 have b13:=F13.binds (ps:=["thing"]) λ_ _ _ _ _ _ us hl=>by obtain ⟨_,rfl⟩:=iZ hl;rfl
 have F14:=aG (st:=bx) l14 c14 k14
 have b14:=F14.binds (ps:=["thing","many"]) λ_ _ _ _ _ _ us hl=>by obtain ⟨_,_,rfl⟩:=gI hl;rfl
 have F15:=aG (st:=aP) l15 c15 k15
 have b15:=F15.binds (ps:=["one","other"]) λ_ _ _ _ _ _ us hl=>by obtain ⟨_,_,rfl⟩:=gI hl;rfl
 have F16:=aG (st:=bp) l16 c16 k16
 have b16:=F16.binds (ps:=["thing"]) λ_ _ _ _ _ _ us hl=>by obtain ⟨_,rfl⟩:=iZ hl;rfl
 have F17:=aG (st:=d6) l17 c17 k17
 have b17:=F17.binds (ps:=["thing","many"]) λ_ _ _ _ _ _ us hl=>by obtain ⟨_,_,rfl⟩:=gI hl;rfl
 have F18:=aG (st:=bR) l18 c18 k18
 have b18:=F18.binds (ps:=["rows"]) λ_ _ _ _ _ _ us hl=>by obtain ⟨_,rfl⟩:=iZ hl;rfl
 have F19:=aG (st:=aW) l19 c19 k19
 have b19:=F19.binds (ps:=["some"]) λ_ _ _ _ _ _ us hl=>by obtain ⟨_,rfl⟩:=iZ hl;rfl
 have F20:=aG (st:=bP) l20 c20 k20
 have b20:=F20.binds (ps:=["some","bottom"]) λ_ _ _ _ _ _ us hl=>by obtain ⟨_,_,rfl⟩:=gI hl;rfl
 have F21:=aG (st:=bC) l21 c21 k21
 have b21:=F21.binds (ps:=["rows"]) λ_ _ _ _ _ _ us hl=>by obtain ⟨_,rfl⟩:=iZ hl;rfl
 have F22:=aG (st:=bo) l22 c22 k22
 have b22:=F22.binds (ps:=["rows"]) λ_ _ _ _ _ _ us hl=>by obtain ⟨_,rfl⟩:=iZ hl;rfl
 have F23:=aG (st:=cz) l23 c23 k23
 have b23:=F23.binds (ps:=["thing"]) λ_ _ _ _ _ _ us hl=>by obtain ⟨_,rfl⟩:=iZ hl;rfl
 have F24:=aG (st:=bj) l24 c24 k24
 have b24:=F24.binds (ps:=["thing"]) λ_ _ _ _ _ _ us hl=>by obtain ⟨_,rfl⟩:=iZ hl;rfl
 have F25:=aG (st:=d7) l25 c25 k25
 have b25:=F25.binds (ps:=["thing","many"]) λ_ _ _ _ _ _ us hl=>by obtain ⟨_,_,rfl⟩:=gI hl;rfl
 have F26:=aG (st:=bu) l26 c26 k26
 have b26:=F26.binds (ps:=["thing"]) λ_ _ _ _ _ _ us hl=>by obtain ⟨_,rfl⟩:=iZ hl;rfl
 have F27:=aG (st:=aX) l27 c27 k27
 have b27:=F27.binds (ps:=["thing"]) λ_ _ _ _ _ _ us hl=>by obtain ⟨_,rfl⟩:=iZ hl;rfl
 have F28:=aG (st:=aY) l28 c28 k28
 have b28:=F28.binds (ps:=["thing","many"]) λ_ _ _ _ _ _ us hl=>by obtain ⟨_,_,rfl⟩:=gI hl;rfl
 have F29:=aG (st:=bY) l29 c29 k29
 have b29:=F29.binds (ps:=["thing","rows"]) λ_ _ _ _ _ _ us hl=>by obtain ⟨_,_,rfl⟩:=gI hl;rfl
 have F30:=aG (st:=aT) l30 c30 k30
 have b30:=F30.binds (ps:=["thing"]) λ_ _ _ _ _ _ us hl=>by obtain ⟨_,rfl⟩:=iZ hl;rfl
 have F31:=aG (st:=bD) l31 c31 k31
 have b31:=F31.binds (ps:=["thing","many"]) λ_ _ _ _ _ _ us hl=>by obtain ⟨_,_,rfl⟩:=gI hl;rfl
 have F32:=aG (st:=bq) l32 c32 k32
 have b32:=F32.binds (ps:=["top","bottom"]) λ_ _ _ _ _ _ us hl=>by obtain ⟨_,_,rfl⟩:=gI hl;rfl
 have F33:=aG (st:=cY) l33 c33 k33
 have b33:=F33.binds (ps:=["rows","guesses"]) λ_ _ _ _ _ _ us hl=>by obtain ⟨_,_,rfl⟩:=gI hl;rfl
 have F34:=aG (st:=cA) l34 c34 k34
 have b34:=F34.binds (ps:=["one","other"]) λ_ _ _ _ _ _ us hl=>by obtain ⟨_,_,rfl⟩:=gI hl;rfl
 have F35:=aG (st:=cv) l35 c35 k35
 have b35:=F35.binds (ps:=["some"]) λ_ _ _ _ _ _ us hl=>by obtain ⟨_,rfl⟩:=iZ hl;rfl
 have F36:=aG (st:=bw) l36 c36 k36
 have b36:=F36.binds (ps:=["some"]) λ_ _ _ _ _ _ us hl=>by obtain ⟨_,rfl⟩:=iZ hl;rfl
 have F37:=aG (st:=bV) l37 c37 k37
 have b37:=F37.binds (ps:=["rows","guess","worths"]) λ_ _ _ _ _ _ us hl=>by obtain ⟨_,_,_,rfl⟩:=rT hl;rfl
 have F38:=aG (st:=dJ) l38 c38 k38
 have b38:=F38.binds (ps:=["drawing","guess","worths"]) λ_ _ _ _ _ _ us hl=>by obtain ⟨_,_,_,rfl⟩:=rT hl;rfl
 have F39:=aG (st:=cN) l39 c39 k39
 have b39:=F39.binds (ps:=["drawing","guess","worths"]) λ_ _ _ _ _ _ us hl=>by obtain ⟨_,_,_,rfl⟩:=rT hl;rfl
 have F40:=aG (st:=bQ) l40 c40 k40
 have b40:=F40.binds (ps:=["rows","guesses"]) λ_ _ _ _ _ _ us hl=>by obtain ⟨_,_,rfl⟩:=gI hl;rfl
 have F41:=aG (st:=cu) l41 c41 k41
 have b41:=F41.binds (ps:=["drawing","guess","worths"]) λ_ _ _ _ _ _ us hl=>by obtain ⟨_,_,_,rfl⟩:=rT hl;rfl
 have F42:=aG (st:=bW) l42 c42 k42
 have b42:=F42.binds (ps:=["drawing","guess","worths"]) λ_ _ _ _ _ _ us hl=>by obtain ⟨_,_,_,rfl⟩:=rT hl;rfl
 have F43:=aG (st:=jF) l43 c43 k43
 have b43:=F43.binds (ps:=["_law_script"]) λ_ _ _ _ _ _ us hl=>by obtain ⟨_,rfl⟩:=iZ hl;rfl
 have y0:=PySem.W.mg_none_of X G z0
 have y1:=PySem.W.mg_none_of X G z1
 have y2:=PySem.W.mg_none_of X G z2
 have y3:=PySem.W.mg_none_of X G z3
 have y4:=PySem.W.mg_none_of X G z4
 have y5:=PySem.W.mg_none_of X G z5
 have y6:=PySem.W.mg_none_of X G z6
 have y7:=PySem.W.mg_none_of X G z7
 have y8:=PySem.W.mg_none_of X G z8
 have y9:=PySem.W.mg_none_of X G z9
 have Ma:=PySem.W.mg_none_of X G z10
 have Lr:=PySem.W.mg_none_of X G z11
 have Lq:=PySem.W.mg_none_of X G z12
 have x0:∃ u,mg "MOST_HOUSES" = some u /\ RA K (GK.i 12) u:=⟨_,PySem.W.mg_of X G q0,r0⟩
 refine ⟨PySem.W.fnOf "law" "law" (aq jF) (ae jF) (aa jF) .none NS Pb Nf Qj Lb Pc,λs v=>.of_eq rfl,λbase _ _=>?_⟩
 have E0:Ent l.prog w K mg base 2 "_law_cell" fM:=ent (Φ:=j8) (k:=1) F0 (PySem.W.mg_of X G a0) b0 ua vm (fR rfl rfl rfl rfl rfl rfl rfl rfl rfl rfl rfl rfl) (fT rfl rfl rfl rfl rfl rfl rfl rfl rfl rfl rfl rfl) (ak.mem ⟨y5,trivial⟩) (ak.two trivial) (ak.tab trivial) aF
 have E1:Ent l.prog w K mg base 3 "_law_copied" ir:=ent (Φ:=iC) (k:=2) F1 (PySem.W.mg_of X G a1) b1 pN qd (fR rfl rfl rfl rfl rfl rfl rfl rfl rfl rfl rfl rfl) (fT rfl rfl rfl rfl rfl rfl rfl rfl rfl rfl rfl rfl) (ak.mem ⟨y6,trivial⟩) (ak.two trivial) (ak.tab trivial) aF
 have E2:Ent l.prog w K mg base 4 "_law_is" pj:=ent (Φ:=pz) (k:=3) F2 (PySem.W.mg_of X G a2) b2 zp Ah (fR rfl rfl rfl rfl rfl rfl rfl rfl rfl rfl rfl rfl) (fT rfl rfl rfl rfl rfl rfl rfl rfl rfl rfl rfl rfl) (ak.mem ⟨y2,y3,y4,y5,Lr,trivial⟩) (ak.two trivial) (ak.tab trivial) aF
 have E3:Ent l.prog w K mg base 5 "_law_frac" dX:=ent (Φ:=j7) (k:=4) F3 (PySem.W.mg_of X G a3) b3 t_ vk (fR rfl rfl rfl rfl rfl rfl rfl rfl rfl rfl rfl rfl) (fT rfl rfl rfl rfl rfl rfl rfl rfl rfl rfl rfl rfl) (ak.mem ⟨y0,trivial⟩) (ak.two trivial) (ak.tab trivial) aF
 have E4:Ent l.prog w K mg base 6 "_law_list" iq:=ent (Φ:=j6) (k:=5) F4 (PySem.W.mg_of X G a4) b4 t7 vj (fR rfl rfl rfl rfl rfl rfl rfl rfl rfl rfl rfl rfl) (fT rfl rfl rfl rfl rfl rfl rfl rfl rfl rfl rfl rfl) (ak.mem ⟨y7,trivial⟩) (ak.two trivial) (ak.tab ⟨E3.up (by decide),trivial⟩) aF
 have E5:Ent l.prog w K mg base 7 "_law_add" gS:=ent (Φ:=mf) (k:=6) F5 (PySem.W.mg_of X G a5) b5 vZ w_ (fR rfl rfl rfl rfl rfl rfl rfl rfl rfl rfl rfl rfl) (fT rfl rfl rfl rfl rfl rfl rfl rfl rfl rfl rfl rfl) (ak.mem trivial) (ak.two trivial) (ak.tab ⟨E3.up (by decide),trivial⟩) aF
 have E6:Ent l.prog w K mg base 8 "_law_mul" gR:=ent (Φ:=me) (k:=7) F6 (PySem.W.mg_of X G a6) b6 vY w9 (fR rfl rfl rfl rfl rfl rfl rfl rfl rfl rfl rfl rfl) (fT rfl rfl rfl rfl rfl rfl rfl rfl rfl rfl rfl rfl) (ak.mem trivial) (ak.two trivial) (ak.tab ⟨E3.up (by decide),trivial⟩) aF
 have E7:Ent l.prog w K mg base 9 "_law_worth" gh:=ent (Φ:=jm) (k:=8) F7 (PySem.W.mg_of X G a7) b7 rE sI (fR rfl rfl rfl rfl rfl rfl rfl rfl rfl rfl rfl rfl) (fT rfl rfl rfl rfl rfl rfl rfl rfl rfl rfl rfl rfl) (ak.mem ⟨y5,y7,trivial⟩) (ak.two trivial) (ak.tab ⟨E5.up (by decide),E6.up (by decide),trivial⟩) aF
 have E8:Ent l.prog w K mg base 10 "_law_mean" ip:=ent (Φ:=j5) (k:=9) F8 (PySem.W.mg_of X G a8) b8 tZ vi (fR rfl rfl rfl rfl rfl rfl rfl rfl rfl rfl rfl rfl) (fT rfl rfl rfl rfl rfl rfl rfl rfl rfl rfl rfl rfl) (ak.mem ⟨y5,y7,trivial⟩) (ak.two trivial) (ak.tab ⟨E5.up (by decide),E6.up (by decide),E7.up (by decide),trivial⟩) aF
 have E9:Ent l.prog w K mg base 11 "_law_rows" jY:=ent (Φ:=j4) (k:=10) F9 (PySem.W.mg_of X G a9) b9 tY vh (fR rfl rfl rfl rfl rfl rfl rfl rfl rfl rfl rfl rfl) (fT rfl rfl rfl rfl rfl rfl rfl rfl rfl rfl rfl rfl) (ak.mem ⟨y5,y6,y7,y9,Ma,trivial⟩) (ak.two trivial) (ak.tab ⟨E0.up (by decide),E3.up (by decide),trivial⟩) aF
 have E10:Ent l.prog w K mg base 12 "_law_sub" lZ:=ent (Φ:=md) (k:=11) F10 (PySem.W.mg_of X G a10) b10 vX w8 (fR rfl rfl rfl rfl rfl rfl rfl rfl rfl rfl rfl rfl) (fT rfl rfl rfl rfl rfl rfl rfl rfl rfl rfl rfl rfl) (ak.mem trivial) (ak.two trivial) (ak.tab ⟨E3.up (by decide),trivial⟩) aF
 have E11:Ent l.prog w K mg base 13 "_law_spread" il:=ent (Φ:=iB) (k:=12) F11 (PySem.W.mg_of X G a11) b11 pM qc (fR rfl rfl rfl rfl rfl rfl rfl rfl rfl rfl rfl rfl) (fT rfl rfl rfl rfl rfl rfl rfl rfl rfl rfl rfl rfl) (ak.mem ⟨y5,y7,trivial⟩) (ak.two trivial) (ak.tab ⟨E5.up (by decide),E6.up (by decide),E10.up (by decide),E8.up (by decide),E7.up (by decide),trivial⟩) aF
 have E12:Ent l.prog w K mg base 14 "_law_weights" gy:=ent (Φ:=gC) (k:=13) F12 (PySem.W.mg_of X G a12) b12 nP o6 (fR rfl rfl rfl rfl rfl rfl rfl rfl rfl rfl rfl rfl) (fT rfl rfl rfl rfl rfl rfl rfl rfl rfl rfl rfl rfl) (ak.mem ⟨y5,y7,trivial⟩) (ak.two trivial) (ak.tab ⟨E0.up (by decide),E4.up (by decide),trivial⟩) aF
 have E13:Ent l.prog w K mg base 15 "is_whole" fN:=ent (Φ:=j9) (k:=14) F13 (PySem.W.mg_of X G a13) b13 ub vn (fR rfl rfl rfl rfl rfl rfl rfl rfl rfl rfl rfl rfl) (fT rfl rfl rfl rfl rfl rfl rfl rfl rfl rfl rfl rfl) (ak.mem ⟨y2,y3,y4,trivial⟩) (ak.two trivial) (ak.tab trivial) aF
 have E14:Ent l.prog w K mg base 16 "are_houses" ft:=ent (Φ:=iG) (k:=15) F14 (PySem.W.mg_of X G a14) b14 pR qh (fR rfl rfl rfl rfl rfl rfl rfl rfl rfl rfl rfl rfl) (fT rfl rfl rfl rfl rfl rfl rfl rfl rfl rfl rfl rfl) (ak.mem ⟨y1,y4,y5,y8,Lr,trivial⟩) (ak.two trivial) (ak.tab ⟨E13.up (by decide),trivial⟩) aF
 have E15:Ent l.prog w K mg base 17 "common_divisor" cn:=ent (Φ:=eJ) (k:=16) F15 (PySem.W.mg_of X G a15) b15 kz kP (fR rfl rfl rfl rfl rfl rfl rfl rfl rfl rfl rfl rfl) (fT rfl rfl rfl rfl rfl rfl rfl rfl rfl rfl rfl rfl) (ak.mem ⟨y0,trivial⟩) (ak.two trivial) (ak.tab trivial) aF
 have E16:Ent l.prog w K mg base 18 "is_fraction" eP:=ent (Φ:=gD) (k:=17) F16 (PySem.W.mg_of X G a16) b16 nQ o7 (fR rfl rfl rfl rfl rfl rfl rfl rfl rfl rfl rfl rfl) (fT rfl rfl rfl rfl rfl rfl rfl rfl rfl rfl rfl rfl) (ak.mem ⟨y4,y5,Lr,trivial⟩) (ak.two trivial) (ak.tab ⟨E13.up (by decide),E15.up (by decide),trivial⟩) aF
 have E17:Ent l.prog w K mg base 19 "is_row" pk:=ent (Φ:=pA) (k:=18) F17 (PySem.W.mg_of X G a17) b17 zq Ai (fR rfl rfl rfl rfl rfl rfl rfl rfl rfl rfl rfl rfl) (fT rfl rfl rfl rfl rfl rfl rfl rfl rfl rfl rfl rfl) (ak.mem ⟨y4,y5,Lr,trivial⟩) (ak.two trivial) (ak.tab ⟨E16.up (by decide),E14.up (by decide),trivial⟩) aF
 have E18:Ent l.prog w K mg base 20 "rows_rise" jf:=ent (Φ:=jk) (k:=19) F18 (PySem.W.mg_of X G a18) b18 rB sG (fR rfl rfl rfl rfl rfl rfl rfl rfl rfl rfl rfl rfl) (fT rfl rfl rfl rfl rfl rfl rfl rfl rfl rfl rfl rfl) (ak.mem ⟨Lq,trivial⟩) (ak.two trivial) (ak.tab trivial) aF
 have E19:Ent l.prog w K mg base 21 "common_bottom" dG:=ent (Φ:=eY) (k:=20) F19 (PySem.W.mg_of X G a19) b19 lz lO (fR rfl rfl rfl rfl rfl rfl rfl rfl rfl rfl rfl rfl) (fT rfl rfl rfl rfl rfl rfl rfl rfl rfl rfl rfl rfl) (ak.mem trivial) (ak.two trivial) (ak.tab ⟨E15.up (by decide),trivial⟩) aF
 have E20:Ent l.prog w K mg base 22 "tops_over" gg:=ent (Φ:=jh) (k:=21) F20 (PySem.W.mg_of X G a20) b20 rz sE (fR rfl rfl rfl rfl rfl rfl rfl rfl rfl rfl rfl rfl) (fT rfl rfl rfl rfl rfl rfl rfl rfl rfl rfl rfl rfl) (ak.mem trivial) (ak.two trivial) (ak.tab trivial) aF
 have E21:Ent l.prog w K mg base 23 "weighed_lots" cW:=ent (Φ:=fP) (k:=22) F21 (PySem.W.mg_of X G a21) b21 mH mO (fR rfl rfl rfl rfl rfl rfl rfl rfl rfl rfl rfl rfl) (fT rfl rfl rfl rfl rfl rfl rfl rfl rfl rfl rfl rfl) (ak.mem ⟨y6,Lq,trivial⟩) (ak.two trivial) (ak.tab ⟨E19.up (by decide),E20.up (by decide),trivial⟩) aF
 have E22:Ent l.prog w K mg base 24 "sums_to_one" gw:=ent (Φ:=gz) (k:=23) F22 (PySem.W.mg_of X G a22) b22 nL o3 (fR rfl rfl rfl rfl rfl rfl rfl rfl rfl rfl rfl rfl) (fT rfl rfl rfl rfl rfl rfl rfl rfl rfl rfl rfl rfl) (ak.mem ⟨Ma,trivial⟩) (ak.two trivial) (ak.tab ⟨E21.up (by decide),trivial⟩) aF
 have E23:Ent l.prog w K mg base 25 "is_drawn" iu:=ent (Φ:=j_) (k:=24) F23 (PySem.W.mg_of X G a23) b23 uc vo (fR rfl rfl rfl rfl rfl rfl rfl rfl rfl rfl rfl rfl) (fT rfl rfl rfl rfl rfl rfl rfl rfl rfl rfl rfl rfl) (ak.mem ⟨y4,y5,y6,Lr,trivial⟩) (ak.two ⟨x0,trivial⟩) (ak.tab ⟨E13.up (by decide),E17.up (by decide),E22.up (by decide),E18.up (by decide),trivial⟩) aF
 have E24:Ent l.prog w K mg base 26 "is_row_drawing" dg:=ent (Φ:=eI) (k:=25) F24 (PySem.W.mg_of X G a24) b24 kv kO (fR rfl rfl rfl rfl rfl rfl rfl rfl rfl rfl rfl rfl) (fT rfl rfl rfl rfl rfl rfl rfl rfl rfl rfl rfl rfl) (ak.mem trivial) (ak.two trivial) (ak.tab ⟨E23.up (by decide),trivial⟩) aF
 have E25:Ent l.prog w K mg base 27 "is_lot" pq:=ent (Φ:=pB) (k:=26) F25 (PySem.W.mg_of X G a25) b25 zr Aj (fR rfl rfl rfl rfl rfl rfl rfl rfl rfl rfl rfl rfl) (fT rfl rfl rfl rfl rfl rfl rfl rfl rfl rfl rfl rfl) (ak.mem ⟨y6,y9,trivial⟩) (ak.two trivial) (ak.tab ⟨E14.up (by decide),trivial⟩) aF
 have E26:Ent l.prog w K mg base 28 "is_drawing" iw:=ent (Φ:=iD) (k:=27) F26 (PySem.W.mg_of X G a26) b26 pO qe (fR rfl rfl rfl rfl rfl rfl rfl rfl rfl rfl rfl rfl) (fT rfl rfl rfl rfl rfl rfl rfl rfl rfl rfl rfl rfl) (ak.mem ⟨y1,trivial⟩) (ak.two trivial) (ak.tab ⟨E25.up (by decide),E23.up (by decide),trivial⟩) aF
 have E27:Ent l.prog w K mg base 29 "check_drawing" dH:=ent (Φ:=eZ) (k:=28) F27 (PySem.W.mg_of X G a27) b27 lA lP (fR rfl rfl rfl rfl rfl rfl rfl rfl rfl rfl rfl rfl) (fT rfl rfl rfl rfl rfl rfl rfl rfl rfl rfl rfl rfl) (ak.mem trivial) (ak.two trivial) (ak.tab ⟨E26.up (by decide),trivial⟩) aF
 have E28:Ent l.prog w K mg base 30 "are_fractions" dI:=ent (Φ:=e6) (k:=29) F28 (PySem.W.mg_of X G a28) b28 lB lQ (fR rfl rfl rfl rfl rfl rfl rfl rfl rfl rfl rfl rfl) (fT rfl rfl rfl rfl rfl rfl rfl rfl rfl rfl rfl rfl) (ak.mem ⟨y1,y4,y5,y6,trivial⟩) (ak.two trivial) (ak.tab ⟨E16.up (by decide),trivial⟩) aF
 have E29:Ent l.prog w K mg base 31 "check_guess" eQ:=ent (Φ:=gF) (k:=30) F29 (PySem.W.mg_of X G a29) b29 nU o9 (fR rfl rfl rfl rfl rfl rfl rfl rfl rfl rfl rfl rfl) (fT rfl rfl rfl rfl rfl rfl rfl rfl rfl rfl rfl rfl) (ak.mem ⟨y4,y5,y6,Lq,trivial⟩) (ak.two trivial) (ak.tab ⟨E28.up (by decide),trivial⟩) aF
 have E30:Ent l.prog w K mg base 32 "check_row_drawing" ck:=ent (Φ:=dt) (k:=31) F30 (PySem.W.mg_of X G a30) b30 iU i9 (fR rfl rfl rfl rfl rfl rfl rfl rfl rfl rfl rfl rfl) (fT rfl rfl rfl rfl rfl rfl rfl rfl rfl rfl rfl rfl) (ak.mem trivial) (ak.two trivial) (ak.tab ⟨E24.up (by decide),trivial⟩) aF
 have E31:Ent l.prog w K mg base 33 "check_worths" d_:=ent (Φ:=fQ) (k:=32) F31 (PySem.W.mg_of X G a31) b31 mI mP (fR rfl rfl rfl rfl rfl rfl rfl rfl rfl rfl rfl rfl) (fT rfl rfl rfl rfl rfl rfl rfl rfl rfl rfl rfl rfl) (ak.mem trivial) (ak.two trivial) (ak.tab ⟨E28.up (by decide),trivial⟩) aF
 have RB:Ent l.prog w K mg base 34 "fraction_of" cJ:=ent (Φ:=gE) (k:=33) F32 (PySem.W.mg_of X G a32) b32 nS o8 (fR rfl rfl rfl rfl rfl rfl rfl rfl rfl rfl rfl rfl) (fT rfl rfl rfl rfl rfl rfl rfl rfl rfl rfl rfl rfl) (ak.mem trivial) (ak.two trivial) (ak.tab ⟨E15.up (by decide),trivial⟩) aF
 have E33:Ent l.prog w K mg base 35 "mean_of" lY:=ent (Φ:=ma) (k:=34) F33 (PySem.W.mg_of X G a33) b33 vW w6 (fR rfl rfl rfl rfl rfl rfl rfl rfl rfl rfl rfl rfl) (fT rfl rfl rfl rfl rfl rfl rfl rfl rfl rfl rfl rfl) (ak.mem ⟨Ma,Lq,trivial⟩) (ak.two trivial) (ak.tab ⟨RB.up (by decide),E21.up (by decide),trivial⟩) aF
 have E34:Ent l.prog w K mg base 36 "frac_times" iz:=ent (Φ:=iF) (k:=35) F34 (PySem.W.mg_of X G a34) b34 pQ qg (fR rfl rfl rfl rfl rfl rfl rfl rfl rfl rfl rfl rfl) (fT rfl rfl rfl rfl rfl rfl rfl rfl rfl rfl rfl rfl) (ak.mem trivial) (ak.two trivial) (ak.tab ⟨RB.up (by decide),trivial⟩) aF
 have E35:Ent l.prog w K mg base 37 "over_one" ig:=ent (Φ:=j3) (k:=36) F35 (PySem.W.mg_of X G a35) b35 tX vg (fR rfl rfl rfl rfl rfl rfl rfl rfl rfl rfl rfl rfl) (fT rfl rfl rfl rfl rfl rfl rfl rfl rfl rfl rfl rfl) (ak.mem trivial) (ak.two trivial) (ak.tab ⟨E19.up (by decide),E20.up (by decide),trivial⟩) aF
 have E36:Ent l.prog w K mg base 38 "frac_total" iy:=ent (Φ:=iE) (k:=37) F36 (PySem.W.mg_of X G a36) b36 pP qf (fR rfl rfl rfl rfl rfl rfl rfl rfl rfl rfl rfl rfl) (fT rfl rfl rfl rfl rfl rfl rfl rfl rfl rfl rfl rfl) (ak.mem ⟨Ma,trivial⟩) (ak.two trivial) (ak.tab ⟨RB.up (by decide),E35.up (by decide),trivial⟩) aF
 have E37:Ent l.prog w K mg base 39 "row_guesses" eO:=ent (Φ:=gA) (k:=38) F37 (PySem.W.mg_of X G a37) b37 nM o4 (fR rfl rfl rfl rfl rfl rfl rfl rfl rfl rfl rfl rfl) (fT rfl rfl rfl rfl rfl rfl rfl rfl rfl rfl rfl rfl) (ak.mem ⟨Lq,trivial⟩) (ak.two trivial) (ak.tab ⟨E34.up (by decide),E35.up (by decide),E36.up (by decide),trivial⟩) aF
 have E38:Ent l.prog w K mg base 40 "row_mean" ie:=ent (Φ:=j0) (k:=39) F38 (PySem.W.mg_of X G a38) b38 tW vf (fR rfl rfl rfl rfl rfl rfl rfl rfl rfl rfl rfl rfl) (fT rfl rfl rfl rfl rfl rfl rfl rfl rfl rfl rfl rfl) (ak.mem trivial) (ak.two trivial) (ak.tab ⟨E31.up (by decide),E33.up (by decide),E30.up (by decide),E29.up (by decide),E37.up (by decide),trivial⟩) aF
 have E39:Ent l.prog w K mg base 41 "lots_mean" jg:=ent (Φ:=jl) (k:=40) F39 (PySem.W.mg_of X G a39) b39 rC sH (fR rfl rfl rfl rfl rfl rfl rfl rfl rfl rfl rfl rfl) (fT rfl rfl rfl rfl rfl rfl rfl rfl rfl rfl rfl rfl) (ak.mem trivial) (ak.two trivial) (ak.tab ⟨E27.up (by decide),E38.up (by decide),trivial⟩) aF
 have E40:Ent l.prog w K mg base 42 "spread_of" je:=ent (Φ:=ji) (k:=41) F40 (PySem.W.mg_of X G a40) b40 rA sF (fR rfl rfl rfl rfl rfl rfl rfl rfl rfl rfl rfl rfl) (fT rfl rfl rfl rfl rfl rfl rfl rfl rfl rfl rfl rfl) (ak.mem ⟨Ma,Lq,trivial⟩) (ak.two trivial) (ak.tab ⟨RB.up (by decide),E21.up (by decide),trivial⟩) aF
 have E41:Ent l.prog w K mg base 43 "row_spread" fq:=ent (Φ:=iA) (k:=42) F41 (PySem.W.mg_of X G a41) b41 pL qb (fR rfl rfl rfl rfl rfl rfl rfl rfl rfl rfl rfl rfl) (fT rfl rfl rfl rfl rfl rfl rfl rfl rfl rfl rfl rfl) (ak.mem trivial) (ak.two trivial) (ak.tab ⟨E31.up (by decide),E40.up (by decide),E30.up (by decide),E29.up (by decide),E37.up (by decide),trivial⟩) aF
 have E42:Ent l.prog w K mg base 44 "lots_spread" gx:=ent (Φ:=gB) (k:=43) F42 (PySem.W.mg_of X G a42) b42 nN o5 (fR rfl rfl rfl rfl rfl rfl rfl rfl rfl rfl rfl rfl) (fT rfl rfl rfl rfl rfl rfl rfl rfl rfl rfl rfl rfl) (ak.mem trivial) (ak.two trivial) (ak.tab ⟨E27.up (by decide),E41.up (by decide),trivial⟩) aF
 exact uV (Φ:=C6) (k:=44) F43 Ik La (fR rfl rfl rfl rfl rfl rfl rfl rfl rfl rfl rfl rfl) (fT rfl rfl rfl rfl rfl rfl rfl rfl rfl rfl rfl rfl) (ak.mem ⟨y5,y6,y9,Lr,trivial⟩) (ak.two trivial) (ak.tab ⟨(E24.up (by decide)).ex,(E38.up (by decide)).ex,(E41.up (by decide)).ex,(E39.up (by decide)).ex,(E42.up (by decide)).ex,(E0.up (by decide)).ex,(E2.up (by decide)).ex,(E1.up (by decide)).ex,(E4.up (by decide)).ex,(E8.up (by decide)).ex,(E11.up (by decide)).ex,(E9.up (by decide)).ex,(E12.up (by decide)).ex,trivial⟩) (BS λns _=>(aF _ _ (zD ns)).2)
theorem walk {l:PySem.W.OpenLaw} {q:Program} {loose:List Str} {XP:(Str -> Option Value) -> Heap -> Prop} {YP:World -> Heap -> Prop} {d:DefRec} {K:Params -> PySem.W.Frag} (hn:l.most = some 63) (Ov:d.params.defaults = [])
  (hY:∀ (w:World) (h:Heap),YP w h -> (K w.params).In h)
  (F:∀ (w:World) (mg:Str -> Option Value) (fa:Addr) (h:Heap),(K w.params).In h -> h.Ns mainGlobals mg -> mg d.name = some (.ref fa) ->
   ∃ fd:FuncData,(∀ (s:Shared) (u:Value),BindsTo s fd ⟨[u],[]⟩ [("_law_script",u)]) /\ ∀ base:Heap,(K w.params).In base -> base.Ns mainGlobals mg -> jZ l.prog w (K w.params) mg base C8 45 fa fd ["_law_script"] (GA (K w.params) 1 uv)) :
  PySem.W.WalkO q loose XP YP l.row.toRowW d [] (λf vs=>PySem.call f vs) :=
 L2.DE (n:=63) (k:=45) (x:="_law_script") (CX:=λ_=>C8) (sp:=λw=>GA (K w.params) 1 uv) hn (by decide) Ov ⟨rfl,by decide,by decide⟩ hY F (λw H a ns hl hO hS=>Jt (K w.params) H a ns uv (EO hl) hO hS) λ_ _ _ _ _ z=>z
end Asm
open PySem PySem.W PyProof.Rows
set_option maxRecDepth 100000 in
set_option maxHeartbeats 0 in
theorem PySem.Challenge.cw_sharesample_k32_row_guesses_holds : PySem.Challenge.rw_sharesample_k32_row_guesses.Holds := by
 w_on;o_law;k_head;(case hw=>w_witness2)
 k_fill
 refine Asm.walk (l:=PySem.Challenge.rw_sharesample_k32_row_guesses) rfl rfl (fun w h Y=>PySem.W.kIn_of Y) ?F
 case F =>
  intro w mg fa h KX G hmg
  refine' Asm.all_mk KX G hmg ?a0 ?l0 ?c0 ?k0 ?a1 ?l1 ?c1 ?k1 ?a2 ?l2 ?c2 ?k2 ?a3 ?l3 ?c3 ?k3 ?a4 ?l4 ?c4 ?k4 ?a5 ?l5 ?c5 ?k5 ?a6 ?l6 ?c6 ?k6 ?a7 ?l7 ?c7 ?k7 ?a8 ?l8 ?c8 ?k8 ?a9 ?l9 ?c9 ?k9 ?a10 ?l10 ?c10 ?k10 ?a11 ?l11 ?c11 ?k11 ?a12 ?l12 ?c12 ?k12 ?a13 ?l13 ?c13 ?k13 ?a14 ?l14 ?c14 ?k14 ?a15 ?l15 ?c15 ?k15 ?a16 ?l16 ?c16 ?k16 ?a17 ?l17 ?c17 ?k17 ?a18 ?l18 ?c18 ?k18 ?a19 ?l19 ?c19 ?k19 ?a20 ?l20 ?c20 ?k20 ?a21 ?l21 ?c21 ?k21 ?a22 ?l22 ?c22 ?k22 ?a23 ?l23 ?c23 ?k23 ?a24 ?l24 ?c24 ?k24 ?a25 ?l25 ?c25 ?k25 ?a26 ?l26 ?c26 ?k26 ?a27 ?l27 ?c27 ?k27 ?a28 ?l28 ?c28 ?k28 ?a29 ?l29 ?c29 ?k29 ?a30 ?l30 ?c30 ?k30 ?a31 ?l31 ?c31 ?k31 ?a32 ?l32 ?c32 ?k32 ?a33 ?l33 ?c33 ?k33 ?a34 ?l34 ?c34 ?k34 ?a35 ?l35 ?c35 ?k35 ?a36 ?l36 ?c36 ?k36 ?a37 ?l37 ?c37 ?k37 ?a38 ?l38 ?c38 ?k38 ?a39 ?l39 ?c39 ?k39 ?a40 ?l40 ?c40 ?k40 ?a41 ?l41 ?c41 ?k41 ?a42 ?l42 ?c42 ?k42 ?a43 ?l43 ?c43 ?k43 ?z0 ?z1 ?z2 ?z3 ?z4 ?z5 ?z6 ?z7 ?z8 ?z9 ?z10 ?z11 ?z12 ?q0 ?r0
  (case a0=>k_is);(case l0=>k_is);(case c0=>k_is);(case k0=>k_is)
  (case a1=>k_is);(case l1=>k_is);(case c1=>k_is);(case k1=>k_is)
  (case a2=>k_is);(case l2=>k_is);(case c2=>k_is);(case k2=>k_is)
  (case a3=>k_is);(case l3=>k_is);(case c3=>k_is);(case k3=>k_is)
  (case a4=>k_is);(case l4=>k_is);(case c4=>k_is);(case k4=>k_is)
  (case a5=>k_is);(case l5=>k_is);(case c5=>k_is);(case k5=>k_is)
  (case a6=>k_is);(case l6=>k_is);(case c6=>k_is);(case k6=>k_is)
  (case a7=>k_is);(case l7=>k_is);(case c7=>k_is);(case k7=>k_is)
  (case a8=>k_is);(case l8=>k_is);(case c8=>k_is);(case k8=>k_is)
  (case a9=>k_is);(case l9=>k_is);(case c9=>k_is);(case k9=>k_is)
  (case a10=>k_is);(case l10=>k_is);(case c10=>k_is);(case k10=>k_is)
  (case a11=>k_is);(case l11=>k_is);(case c11=>k_is);(case k11=>k_is)
  (case a12=>k_is);(case l12=>k_is);(case c12=>k_is);(case k12=>k_is)
  (case a13=>k_is);(case l13=>k_is);(case c13=>k_is);(case k13=>k_is)
  (case a14=>k_is);(case l14=>k_is);(case c14=>k_is);(case k14=>k_is)
  (case a15=>k_is);(case l15=>k_is);(case c15=>k_is);(case k15=>k_is)
  (case a16=>k_is);(case l16=>k_is);(case c16=>k_is);(case k16=>k_is)
  (case a17=>k_is);(case l17=>k_is);(case c17=>k_is);(case k17=>k_is)
  (case a18=>k_is);(case l18=>k_is);(case c18=>k_is);(case k18=>k_is)
  (case a19=>k_is);(case l19=>k_is);(case c19=>k_is);(case k19=>k_is)
  (case a20=>k_is);(case l20=>k_is);(case c20=>k_is);(case k20=>k_is)
  (case a21=>k_is);(case l21=>k_is);(case c21=>k_is);(case k21=>k_is)
  (case a22=>k_is);(case l22=>k_is);(case c22=>k_is);(case k22=>k_is)
  (case a23=>k_is);(case l23=>k_is);(case c23=>k_is);(case k23=>k_is)
  (case a24=>k_is);(case l24=>k_is);(case c24=>k_is);(case k24=>k_is)
  (case a25=>k_is);(case l25=>k_is);(case c25=>k_is);(case k25=>k_is)
  (case a26=>k_is);(case l26=>k_is);(case c26=>k_is);(case k26=>k_is)
  (case a27=>k_is);(case l27=>k_is);(case c27=>k_is);(case k27=>k_is)
  (case a28=>k_is);(case l28=>k_is);(case c28=>k_is);(case k28=>k_is)
  (case a29=>k_is);(case l29=>k_is);(case c29=>k_is);(case k29=>k_is)
  (case a30=>k_is);(case l30=>k_is);(case c30=>k_is);(case k30=>k_is)
  (case a31=>k_is);(case l31=>k_is);(case c31=>k_is);(case k31=>k_is)
  (case a32=>k_is);(case l32=>k_is);(case c32=>k_is);(case k32=>k_is)
  (case a33=>k_is);(case l33=>k_is);(case c33=>k_is);(case k33=>k_is)
  (case a34=>k_is);(case l34=>k_is);(case c34=>k_is);(case k34=>k_is)
  (case a35=>k_is);(case l35=>k_is);(case c35=>k_is);(case k35=>k_is)
  (case a36=>k_is);(case l36=>k_is);(case c36=>k_is);(case k36=>k_is)
  (case a37=>k_is);(case l37=>k_is);(case c37=>k_is);(case k37=>k_is)
  (case a38=>k_is);(case l38=>k_is);(case c38=>k_is);(case k38=>k_is)
  (case a39=>k_is);(case l39=>k_is);(case c39=>k_is);(case k39=>k_is)
  (case a40=>k_is);(case l40=>k_is);(case c40=>k_is);(case k40=>k_is)
  (case a41=>k_is);(case l41=>k_is);(case c41=>k_is);(case k41=>k_is)
  (case a42=>k_is);(case l42=>k_is);(case c42=>k_is);(case k42=>k_is)
  (case a43=>k_is);(case l43=>k_is);(case c43=>k_is);(case k43=>k_is)
  (case z0=>k_is)
  (case z1=>k_is)
  (case z2=>k_is)
  (case z3=>k_is)
  (case z4=>k_is)
  (case z5=>k_is)
  (case z6=>k_is)
  (case z7=>k_is)
  (case z8=>k_is)
  (case z9=>k_is)
  (case z10=>k_is)
  (case z11=>k_is)
  (case z12=>k_is)
  (case q0=>k_is);(case r0=>exact ⟨_,rfl⟩)
