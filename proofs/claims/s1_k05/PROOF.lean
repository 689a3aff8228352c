import PyProof.Rows.All
import Wide.All
import OpenK.AllK
import Wide.FinOn
import Lean
import PyProof.EqAt
import PyProof.EqKinds
import PyProof.TupleCall
import PyProof.NeKinds
import KE.BitLaws
import PyProof.SumWalkG
import PyProof.ConsumeWalk
import PyProof.WalksMore
import KE.KSortedM
import PyProof.Rows.SetFrom
import PyProof.CompUse
import PyProof.ZipIter
import PyProof.EnumMake
import KE.KSortTup
import PyProof.ListRange
import PyProof.SliceList
import PyProof.DictIter
import PyProof.Rows.DictUnroll
import KE.KDictSum
import PyProof.DictRoadsH
import PyProof.DictKinds
import PySem.Challenge.RW_sharesample_k05_shares_of_drawings
set_option Elab.async false
set_option linter.all false
set_option maxRecDepth 100000
namespace L2
open PySem PySem.Spec PyProof.Rows
noncomputable abbrev Key:=Sum Int Str
noncomputable def Em:Key -> Value -> Bool
 | .inl k,v=>Value.isInt k v
 | .inr x,v=>Value.isStrOf x v
noncomputable def Q6 (w:World):Key -> Int
 | .inl k=>hashInt k
 | .inr x=>hashStr w x
theorem bM:∀ {k:Key} {v:Value},Em k v = true -> (∃ i t,k = Sum.inl i /\ v = Value.int i t) \/ (∃ x t,k = Sum.inr x /\ v = Value.str x t)
 | .inl i,v,h=>by
  obtain ⟨t,e⟩:=Value.isInt_shape (k:=i) (v:=v) h
  exact .inl ⟨i,t,rfl,e⟩
 | .inr x,v,h=>by
  obtain ⟨t,e⟩:=Value.isStrOf_shape (x:=x) (v:=v) h
  exact .inr ⟨x,t,rfl,e⟩
theorem GZ (a b:Int):decide ((Sum.inl a:Key) = Sum.inl b) = (a == b):=by
 by_cases e:a = b
 ·subst e;simp
 ·have h:¬ (Sum.inl a:Key) = Sum.inl b:=fun q=>e (Sum.inl.inj q)
  rw [decide_eq_false h]
  exact (beq_eq_false_iff_ne.mpr e).symm
theorem GW (a b:Str):decide ((Sum.inr a:Key) = Sum.inr b) = decide (a = b):=by
 by_cases e:a = b
 ·subst e;simp
 ·have h:¬ (Sum.inr a:Key) = Sum.inr b:=fun q=>e (Sum.inr.inj q)
  rw [decide_eq_false h,decide_eq_false e]
theorem GY (a:Int) (b:Str):decide ((Sum.inl a:Key) = Sum.inr b) = false:=decide_eq_false (fun q=>nomatch q)
theorem GX (a:Str) (b:Int):decide ((Sum.inr a:Key) = Sum.inl b) = false:=decide_eq_false (fun q=>nomatch q)
noncomputable def vm (prog:Program) (w:World):PySem.KeyKind prog w Key where
 is:=Em
 hash:=Q6 w
 inj:=fun v a b ha hb=>by
  rcases bM ha with ⟨i,t,rfl,rfl⟩ | ⟨x,t,rfl,rfl⟩
  ·rcases bM hb with ⟨j,u,rfl,e⟩ | ⟨y,u,rfl,e⟩
   ·injection e with e1 _;rw [e1]
   ·exact nomatch e
  ·rcases bM hb with ⟨j,u,rfl,e⟩ | ⟨y,u,rfl,e⟩
   ·exact nomatch e
   ·injection e with e1 _;rw [e1]
 byValue:=fun k v h=>by
  rcases bM h with ⟨i,t,rfl,rfl⟩ | ⟨x,t,rfl,rfl⟩ <;> rfl
 pyHash:=fun hv h=>by
  rcases bM hv with ⟨i,t,rfl,rfl⟩ | ⟨x,t,rfl,rfl⟩
  ·exact wpAny_pyHash_int h
  ·exact wpAny_pyHash_str h
 eqBool:=fun hu hv h=>by
  rcases bM hu with ⟨i,t,rfl,rfl⟩ | ⟨x,t,rfl,rfl⟩
  ·rcases bM hv with ⟨j,u,rfl,rfl⟩ | ⟨y,u,rfl,rfl⟩
   ·rw [GZ] at h;exact wpAny_eqBool_int h
   ·rw [GY] at h;exact SeqAt.EqAt.int_str i t y u _ _ _ _ h
  ·rcases bM hv with ⟨j,u,rfl,rfl⟩ | ⟨y,u,rfl,rfl⟩
   ·rw [GX] at h;exact SeqAt.EqAt.str_int x t j u _ _ _ _ h
   ·rw [GW] at h;exact wpAny_eqBool_str h
 «strs»:=fun k x t v h=>by
  rcases bM h with ⟨i,u,rfl,e⟩ | ⟨y,u,rfl,e⟩
  ·exact nomatch e
  ·injection e with e1 _
   subst e1
   cases v <;> rfl
end L2
namespace L2
open PySem PySem.Spec PyProof.Rows
inductive V where
 | bC | bl (b:Bool) | int (i:Int) | str (x:Str) | Uy (b:Array UInt8) | My (b:UInt64) | ref (a:Addr) | ty (n:String)
 deriving DecidableEq
noncomputable def RelV:V -> Value -> Prop
 | .bC,u=>u = Value.none
 | .bl b,u=>u = Value.bool b
 | .int i,u=>∃ t,u = Value.int i t
 | .str x,u=>∃ t,u = Value.str x t
 | .Uy b,u=>∃ t,u = Value.bytes b t
 | .My b,u=>∃ t,u = Value.float b t
 | .ref a,u=>u = Value.ref a
 | .ty n,u=>u = Value.type n
noncomputable abbrev Vals:List V -> List Value -> Prop:=Paired RelV
theorem Vals.length {xs:List V} {us:List Value} (r:Vals xs us):xs.length = us.length:=Paired.length r
theorem Vals.get:∀ {xs:List V} {us:List Value} {i:Nat} {x:V},Vals xs us -> xs[i]? = some x -> ∃ u,us[i]? = some u /\ RelV x u
 | _,_,_,_,.nil,e=>by simp at e
 | _,_,0,_,.cons r _,e=>by simp at e;subst e;exact ⟨_,rfl,r⟩
 | _,_,i + 1,x,.cons _ t,e=>by
  obtain ⟨u,h1,h2⟩:=Vals.get (i:=i) (x:=x) t (by simpa using e)
  exact ⟨u,by simpa using h1,h2⟩
theorem Vals.set {x:V} {u:Value} (r:RelV x u):∀ {xs:List V} {us:List Value} (i:Nat),Vals xs us -> Vals (xs.set i x) (us.set i u)
 | _,_,_,.nil=>.nil
 | _,_,0,.cons _ t=>.cons r t
 | _,_,i + 1,.cons q t=>.cons q (Vals.set r i t)
theorem Vals.append:∀ {xs ys:List V} {us ws:List Value},Vals xs us -> Vals ys ws -> Vals (xs ++ ys) (us ++ ws)
 | _,_,_,_,.nil,s=>s
 | _,_,_,_,.cons r t,s=>.cons r (Vals.append t s)
theorem Vals.take:∀ {xs:List V} {us:List Value} (n:Nat),Vals xs us -> Vals (xs.take n) (us.take n)
 | _,_,0,_=>.nil
 | _,_,_ + 1,.nil=>.nil
 | _,_,n + 1,.cons r t=>.cons r (Vals.take n t)
theorem Vals.drop:∀ {xs:List V} {us:List Value} (n:Nat),Vals xs us -> Vals (xs.drop n) (us.drop n)
 | _,_,0,r=>r
 | _,_,_ + 1,.nil=>.nil
 | _,_,n + 1,.cons _ t=>Vals.drop n t
noncomputable def jX:Option V -> Option Value -> Prop
 | some v,some u=>RelV v u
 | none,none=>True
 | _,_=>False
noncomputable def KV {κ:Type}:List (κ × V) -> List (κ × Value) -> Prop:=Paired fun (p:κ × V) (q:κ × Value)=>p.1 = q.1 /\ RelV p.2 q.2
noncomputable def kV:Key -> V
 | .inl i=>.int i
 | .inr x=>.str x
inductive HO where
 | lst (xs:List V)
 | tup (xs:List V)
 | dK (dc:List (Key × V)) | dT (dc:List (List Key × V))
 | set (S:Int -> Bool) (n:Nat)
 | ins (C dx:Addr) (fs:List (Str × V))
 | own (x:Addr)
 | xd (fs:List (Str × V))
 | met (f x:Addr)
 | ji (lo hi:Int)
 | gZ (o:Obj) (u:HO)
 | DY (ps:Array Value)
 | ext (φ:Heap -> Prop)
noncomputable abbrev Hp:=Addr -> Option HO
noncomputable def upd (H:Hp) (a:Addr) (o:HO):Hp:=fun b=>if b = a then some o else H b
theorem aB {H:Hp} {a:Addr} {o:HO}:upd H a o a = some o:=by unfold upd;rw [if_pos rfl]
theorem av {H:Hp} {a b:Addr} {o:HO} (h:b ≠ a):upd H a o b = H b:=by unfold upd;rw [if_neg h]
theorem bT {H:Hp} {a b:Addr} {o:HO} (h:H a = some o) (h':H b = none):a ≠ b:=by
 intro e;subst e;rw [h] at h';cases h'
section
variable (P:Program) (w:World)
noncomputable def bV (H:Hp) (h:Heap) (a:Addr):HO -> Prop
 | .lst xs=>xs.length <= sizeLine /\ ∃ (ai:List Value) (n:Nat),Vals xs ai /\ h.get? a = some { cls:=.type "list",data:=.seq ai.toArray n }
 | .tup xs=>xs.length <= sizeLine /\ ∃ ai:List Value,Vals xs ai /\ IsTup h a ai.toArray
 | .dK dc=>dc.length <= sizeLine /\ (a == sysModules) = false /\ ∃ vs,KV dc vs /\ h.DictOf (vm P w) a vs
 | .dT dc=>dc.length <= sizeLine /\ (a == sysModules) = false /\ ∃ xs:List (List Key × Addr × Value),
   Paired (fun (p:List Key × V) (q:List Key × Addr × Value)=>p.1 = q.1 /\ H q.2.1 = some (.tup (p.1.map kV)) /\ RelV p.2 q.2.2) dc xs /\
   ∃ o es ep,h.get? a = some o /\ o.ExactDict /\ o.data = .dict es ep /\ es.toList = xs.map (entryOfKey (tupleKind (vm P w))) /\ (xs.map (·.1)).Nodup
 | .set S n=>h.SetOf (intKind P w) a S n
 | .ins C dx fs=>H dx = some (.own a) /\ fs.length <= 1000 /\ dx ≠ a /\ h.get? a = some (PySem.W.instObj C dx) /\
   ∃ mA,h.Ns1 dx mA /\ (∀ f,jX (fs.lookup f) (mA f)) /\ PySem.Within mA (fs.map (·.1))
 | .own _=>∃ o,h.get? a = some o
 | .xd fs=>∃ mA,h.Ns1 a mA /\ ∀ f,jX (fs.lookup f) (mA f)
 | .ji lo hi=>∃ t u v,h.get? a = some { cls:=.type "range",data:=.fields #[.int lo t,.int hi u,.int 1 v] }
 | .gZ o u=>h.get? a = some o /\ bV H h a u
 | .DY ps=>h.get? a = some { cls:=.none,data:=.fields ps }
 | .met f x=>h.get? a = some (PySem.W.methodObj (.ref f) (.ref x))
 | .ext φ=>φ h /\ (∃ o,h.get? a = some o) /\ ∀ h1 h2:Heap,φ h1 -> (∀ o,h1.get? a = some o -> h2.get? a = some o) -> φ h2
noncomputable def kC (H:Hp) (h:Heap):Prop:=∀ a o,H a = some o -> bV P w H h a o
end
section
variable {P:Program} {w:World} {H H':Hp} {h h':Heap} {a:Addr} {o:HO}
theorem bV.lt (x:bV P w H h a o):a < h.objs.size:=by
 cases o with
 | lst xs=>obtain ⟨_,_,_,_,e⟩:=x;exact Heap.lt_size e
 | tup xs=>obtain ⟨_,_,_,p⟩:=x;exact p.lt
 | dK dc=>obtain ⟨_,_,_,_,o,_,_,e,_⟩:=x;exact Heap.lt_size e
 | dT dc=>obtain ⟨_,_,_,_,o,_,_,e,_⟩:=x;exact Heap.lt_size e
 | set S n=>obtain ⟨o,_,_,_,e,_⟩:=x;exact Heap.lt_size e
 | ins C dx fs=>obtain ⟨_,_,_,e,_⟩:=x;exact Heap.lt_size e
 | own y=>obtain ⟨_,e⟩:=x;exact Heap.lt_size e
 | xd fs=>obtain ⟨_,⟨_,_,_,e,_⟩,_⟩:=x;exact Heap.lt_size e
 | ji lo hi=>obtain ⟨_,_,_,e⟩:=x;exact Heap.lt_size e
 | gZ ob u=>obtain ⟨e,_⟩:=x;exact Heap.lt_size e
 | DY ps=>exact Heap.lt_size (show h.get? a = some _ from x)
 | met f y=>exact Heap.lt_size (show h.get? a = some _ from x)
 | ext φ=>obtain ⟨_,⟨_,e⟩,_⟩:=x;exact Heap.lt_size e
theorem Paired.Li {α β:Type} {F G:α -> β -> Prop}:∀ {l₁:List α} {l₂:List β},Paired F l₁ l₂ -> (∀ a b,F a b -> G a b) -> Paired G l₁ l₂
 | _,_,.nil,_=>.nil
 | _,_,.cons r t,f=>.cons (f _ _ r) (Paired.Li t f)
theorem bV.ju (x:bV P w H h a o) (k:∀ b u,(b = a \/ H b = some (.own a)) -> h.get? b = some u -> h'.get? b = some u)
  (ho:∀ b,H b = some (.own a) -> H' b = some (.own a)) (ht:∀ b xs,H b = some (.tup xs) -> H' b = some (.tup xs)):bV P w H' h' a o:=by
 induction o with
 | lst xs=>obtain ⟨z,ai,n,r,e⟩:=x;exact ⟨z,ai,n,r,k _ _ (.inl rfl) e⟩
 | tup xs=>obtain ⟨z,ai,r,ob,e,c⟩:=x;exact ⟨z,ai,r,ob,k _ _ (.inl rfl) e,c⟩
 | dK dc=>obtain ⟨z,y,vs,r,ob,es,ep,e,c⟩:=x;exact ⟨z,y,vs,r,ob,es,ep,k _ _ (.inl rfl) e,c⟩
 | dT dc =>
  obtain ⟨z,y,xs,r,ob,es,ep,e,c⟩:=x
  exact ⟨z,y,xs,Paired.Li r fun p q z=>⟨z.1,ht _ _ z.2.1,z.2.2⟩,ob,es,ep,k _ _ (.inl rfl) e,c⟩
 | set S n=>obtain ⟨ob,es,ep,t,e,c⟩:=x;exact ⟨ob,es,ep,t,k _ _ (.inl rfl) e,c⟩
 | ins C dx fs =>
  obtain ⟨d,z,ne,e,mA,⟨od,es,ep,e2,c⟩,r⟩:=x
  exact ⟨ho _ d,z,ne,k _ _ (.inl rfl) e,mA,⟨od,es,ep,k _ _ (.inr d) e2,c⟩,r⟩
 | own y=>obtain ⟨ob,e⟩:=x;exact ⟨ob,k _ _ (.inl rfl) e⟩
 | xd fs=>obtain ⟨mA,⟨od,es,ep,e,c⟩,r⟩:=x;exact ⟨mA,⟨od,es,ep,k _ _ (.inl rfl) e,c⟩,r⟩
 | ji lo hi=>obtain ⟨t,u,v,e⟩:=x;exact ⟨t,u,v,k _ _ (.inl rfl) e⟩
 | gZ ob u ih=>obtain ⟨e,q⟩:=x;exact ⟨k _ _ (.inl rfl) e,ih q⟩
 | DY ps =>
  have e:h.get? a = some { cls:=.none,data:=.fields ps }:=x
  show h'.get? a = some { cls:=.none,data:=.fields ps }
  exact k a _ (.inl rfl) e
 | met f y =>
  have e:h.get? a = some (PySem.W.methodObj (.ref f) (.ref y)):=x
  show h'.get? a = some (PySem.W.methodObj (.ref f) (.ref y))
  exact k a _ (.inl rfl) e
 | ext φ=>obtain ⟨p,⟨o,e⟩,st⟩:=x;exact ⟨st _ _ p fun o q=>k _ _ (.inl rfl) q,⟨o,k _ _ (.inl rfl) e⟩,st⟩
theorem kC.lt (x:kC P w H h) (e:H a = some o):a < h.objs.size:=(x a o e).lt
theorem kC.fresh (x:kC P w H h) (e:h.objs.size <= a):H a = none:=by
 cases q:H a with
 | none=>rfl
 | some u=>exact absurd (Nat.lt_of_lt_of_le (x.lt q) e) (Nat.lt_irrefl _)
theorem kC.kept (x:kC P w H h) (k:∀ b u,h.get? b = some u -> h'.get? b = some u):kC P w H h':=fun a o e =>
 (x a o e).ju (fun b u _ q=>k b u q) (fun _ q=>q) fun _ _ q=>q
theorem kC.laid (x:kC P w H h) (k:∀ b u,h.get? b = some u -> h'.get? b = some u) (hp:h.objs.size <= a) (new:bV P w (upd H a o) h' a o):kC P w (upd H a o) h':=fun b u e=>by
 have hn:=x.fresh hp
 by_cases hb:b = a
 ·subst hb;rw [aB] at e;cases e;exact new
 ·rw [av hb] at e
  exact (x b u e).ju (fun c v _ q=>k c v q) (fun c q=>by rw [av (bT q hn)];exact q) fun c xs q=>by rw [av (bT q hn)];exact q
end
noncomputable def Rd (H:Hp) (a:Addr) (u:HO):Prop:=H a = some u \/ ∃ o,H a = some (.gZ o u)
theorem Rd.ok {P:Program} {w:World} {H:Hp} {h:Heap} {a:Addr} {u:HO} (r:Rd H a u) (x:kC P w H h):bV P w H h a u:=by
 rcases r with r | ⟨o,r⟩
 ·exact x a u r
 ·obtain ⟨_,q⟩:=x a _ r
  exact q
noncomputable def Oz:Option HO -> Prop
 | some (.lst _)=>True
 | some (.dK _)=>True
 | some (.dT _)=>True
 | some (.set _ _)=>True
 | some (.ins _ _ _)=>True
 | some (.ext _)=>True
 | _=>False
section
variable {P:Program} {w:World} {H:Hp} {h h':Heap} {x e:Addr} {o':HO}
theorem kC.write (ok:kC P w H h) (mu:Oz (H x)) (he:e = x \/ H e = some (.own x)) (k:∀ b u,b ≠ e -> h.get? b = some u -> h'.get? b = some u) (Jp:∃ u,h'.get? e = some u)
  (new:bV P w (upd H x o') h' x o'):kC P w (upd H x o') h':=fun b u q=>by
 have K9:∀ c y,H c = some (.own y) -> c ≠ x:=fun c y r z=>by subst z;rw [r] at mu;exact mu
 have QV:∀ c xs,H c = some (.tup xs) -> c ≠ x:=fun c xs r z=>by subst z;rw [r] at mu;exact mu
 by_cases hb:b = x
 ·subst hb;rw [aB] at q;cases q;exact new
 ·rw [av hb] at q
  by_cases Hs:b = e
  ·have q':H b = some (.own x):=by
    rcases he with z | z
    ·exact absurd (Hs.trans z) hb
    ·rw [Hs];exact z
   rw [q] at q';cases q'
   obtain ⟨v,hv⟩:=Jp
   exact ⟨v,by rw [Hs];exact hv⟩
  ·refine (ok b u q).ju (fun c v hc r=>k c v ?_ r) (fun c r=>by rw [av (K9 c b r)];exact r) fun c xs r=>by rw [av (QV c xs r)];exact r
   rcases hc with rfl | hc
   ·exact Hs
   ·rintro rfl
    rcases he with z | z
    ·exact K9 c b hc z
    ·rw [hc] at z;cases z;exact hb rfl
end
structure Un (fs ex:List Addr) (H H':Hp) (h h':Heap):Prop where
 keep:∀ b o,h.get? b = some o -> H b = none -> b ∉ fs -> b ∉ ex -> h'.get? b = some o
 slot:∀ b o,h.get? b = some o -> H b = none -> b ∈ fs -> b ∉ ex -> ∃ sl,h'.get? b = some { o with slots:=sl }
 free:∀ b o,h.get? b = some o -> H b = none -> b ∉ ex -> H' b = none
 there:∀ b o,h.get? b = some o -> b ∉ ex -> ∃ o',h'.get? b = some o'
 pF:∀ b xs,H b = some (.tup xs) -> H' b = some (.tup xs)
 oj:∀ b o u,H b = some (.gZ o u) -> H' b = some (.gZ o u)
 pG:∀ b ps,H b = some (.DY ps) -> ∃ more,H' b = some (.DY (ps ++ more))
section
variable {fs Zx ex MB:List Addr} {H H1 H2:Hp} {h h1 h2 h':Heap} {a x e:Addr} {o:HO}
theorem Un.any (u:Un fs ex H H1 h h1) {b:Addr} {ob:Obj} (q:h.get? b = some ob) (n:H b = none) (hx:b ∉ ex):∃ sl,h1.get? b = some { ob with slots:=sl }:=by
 by_cases hb:b ∈ fs
 ·exact u.slot b ob q n hb hx
 ·exact ⟨ob.slots,u.keep b ob q n hb hx⟩
theorem Un.kept (k:∀ b u,h.get? b = some u -> h'.get? b = some u):Un fs ex H H h h' :=
 ⟨fun b ob q _ _ _=>k b ob q,fun b ob q _ _ _=>⟨ob.slots,k b ob q⟩,fun _ _ _ n _=>n,fun b ob q _=>⟨ob,k b ob q⟩,fun _ _ q=>q,fun _ _ _ q=>q,fun _ ps q=>⟨#[],by rw [q];simp⟩⟩
theorem Un.refl:Un fs ex H H h h:=Un.kept fun _ _ q=>q
theorem Un.laid (k:∀ b u,h.get? b = some u -> h'.get? b = some u) (hp:h.objs.size <= a) (hn:H a = none):Un fs ex H (upd H a o) h h' where
 keep:=fun b u q _ _ _=>k b u q
 slot:=fun b u q _ _ _=>⟨u.slots,k b u q⟩
 free:=fun b u q n _=>by rw [av (Nat.ne_of_lt (Nat.lt_of_lt_of_le (Heap.lt_size q) hp))];exact n
 there:=fun b u q _=>⟨u,k b u q⟩
 pF:=fun b xs q=>by rw [av (bT q hn)];exact q
 oj:=fun b u xs q=>by rw [av (bT q hn)];exact q
 pG:=fun b ps q=>⟨#[],by rw [av (bT q hn),q];simp⟩
theorem Un.write (mu:Oz (H x)) (he:e = x \/ H e = some (.own x)) (k:∀ b u,b ≠ e -> h.get? b = some u -> h'.get? b = some u) (Jp:∃ u,h'.get? e = some u):Un fs ex H (upd H x o) h h':=by
 have hx:∀ b,H b = none -> b ≠ x:=fun b n z=>by subst z;rw [n] at mu;exact mu
 have hb:∀ b,H b = none -> b ≠ e:=fun b n z=>by
  subst z
  rcases he with r | r
  ·exact hx b n r
  ·rw [n] at r;cases r
 have hm:∀ b u,H b = some u -> ¬ Oz (some u) -> b ≠ x:=fun b u q nm z=>by subst z;rw [q] at mu;exact nm mu
 refine ⟨fun b u q n _ _=>k b u (hb b n) q,fun b u q n _ _=>⟨u.slots,k b u (hb b n) q⟩,fun b u q n _=>by rw [av (hx b n)];exact n,fun b u q _=>?_,
  fun b xs q=>by rw [av (hm b _ q fun z=>z)];exact q,fun b u xs q=>by rw [av (hm b _ q fun z=>z)];exact q,fun b ps q=>⟨#[],by rw [av (hm b _ q fun z=>z),q];simp⟩⟩
 by_cases Hs:b = e
 ·subst Hs;exact Jp
 ·exact ⟨u,k b u Hs q⟩
end
noncomputable def Nt (h:Heap) (H:Hp):List Addr:=(List.range h.objs.size).filter fun a=>(H a).isSome
noncomputable def qa (h:Heap) (H:Hp):Heap:=PySem.W.hideAll h (Nt h H)
theorem xp (h:Heap) (H:Hp):(qa h H).objs.size = h.objs.size:=PySem.W.hideAll_size _ _
theorem zZ {h:Heap} {H:Hp} {b:Addr} {o:Obj} (e:h.get? b = some o) (n:H b = none):(qa h H).get? b = some o :=
 PySem.W.hideAll_get _ e fun hm=>by
  have q:(H b).isSome = true:=(List.mem_filter.mp hm).2
  rw [n] at q;simp at q
theorem Ck {h:Heap} {H:Hp} {b:Addr} {o:Obj} (e:(qa h H).get? b = some o):h.get? b = some o /\ H b = none:=by
 have e':h.get? b = some o:=PySem.W.of_hideAll (Nt h H) e
 refine ⟨e',?_⟩
 cases q:H b with
 | none=>rfl
 | some x =>
  have hm:b ∈ Nt h H:=List.mem_filter.mpr ⟨List.mem_range.mpr (Heap.lt_size e'),by simp [q]⟩
  have z:(qa h H).get? b = none:=PySem.W.hideAll_none (Nt h H) hm
  rw [z] at e;cases e
noncomputable def DJ (g h:Heap) (L:Addr):List (Addr × Obj):=(List.range h.objs.size).filterMap fun a=>if a = L \/ (g.get? a).isSome = true then none else (h.get? a).map fun o=>(a,o)
noncomputable def rest (g h:Heap) (L d:Addr):List (Addr × Obj):=(DJ g h L).filter fun p=>decide (p.1 ≠ d)
end L2
namespace L2
open PySem PySem.Spec PyProof.Rows
structure Mod (K:PySem.W.Frag) (mg:Str -> Option Value) (base:Heap):Prop where
 Q5:K.In base
 glob:base.Ns mainGlobals mg
 blt:∃ mb,base.Ns builtinsNs mb /\ ∀ x:Str,x ≠ "__name__" -> mb x = bootBuiltins x
 nolimit:base.NoLimit
structure Cx where
 prog:Program
 w:World
 K:PySem.W.Frag
 mg:Str -> Option Value
 base:Heap
 A:Around
 N:List Str
 s₀:Shared
 H₀:Hp
 env:Env
 outer:List Env
 stack:List Env
 ex:List Addr
 fn:Str -> Bool
 calm:Bool
 pn:List (Addr × Obj)
 xe:Value -> Shared -> Prop
noncomputable def x6 (l:List Env):List Addr:=l.filterMap (·.frame)
noncomputable abbrev Cx.fs (X:Cx):List Addr:=x6 X.outer
noncomputable def IJ (sc:Scope) (x:Str):Prop:=sc.names.lookup x = some .local \/ sc.names.lookup x = some .cell \/ sc.names.lookup x = some .free
noncomputable def Loc (sc:Scope) (x:Str):Prop:=sc.names.lookup x = some .local \/ sc.names.lookup x = some .cell
noncomputable def Look (env:Env) (h:Heap) (m:Str -> Option Value) (x:Str) (u:Value):Prop :=
 (env.kindOf x = some .local /\ m x = some u) \/ ((env.kindOf x = some .cell \/ env.kindOf x = some .free) /\ ∃ c,env.cells.lookup x = some c /\ h.IsCell c (some u))
structure Cx.Ok (X:Cx):Prop where
 mod:Mod X.K X.mg X.base
 kind:X.env.scope.kind = .function
 glob:X.env.globals = mainGlobals
 blt:X.env.builtins = builtinsNs
 above:X.s₀.heap.objs.size <= X.env.locals
 inj:∀ x y c,X.env.cells.lookup x = some c -> X.env.cells.lookup y = some c -> x = y
 has:∀ x,(X.env.kindOf x = some .cell \/ X.env.kindOf x = some .free) -> ∃ c,X.env.cells.lookup x = some c
 M8:∀ x c,X.fn x = true -> X.env.cells.lookup x = some c -> X.s₀.heap.objs.size <= c
 hd:X.calm = true -> X.A.handled = none
 frames:X.A.frames = some X.stack
 Nz:X.stack = X.outer \/ (X.stack = X.env :: X.outer /\ X.env.frame = some X.env.locals)
 Wb:∀ b ∈ X.ex,b ≠ X.env.locals /\ ∀ x c,X.env.cells.lookup x = some c -> c ≠ b
 bs:∀ b o,X.base.get? b = some o -> X.s₀.heap.get? b = some o /\ X.H₀ b = none
 EN:X.base.objs.size <= X.s₀.heap.objs.size
 zo:∀ b o,X.base.get? b = some o -> b ∉ X.ex
 C9:∀ b ∈ X.ex,b ∉ X.fs
 kY:X.s₀.heap.FunFrames X.base X.outer
 Jz:∀ b ∈ X.fs,X.H₀ b = none
structure Inv (X:Cx) (pins:List (Addr × Obj)) (σ:List (Option V)) (H:Hp) (s:Shared):Prop where
 ok:X.Ok
 os:s.os = X.s₀.os
 bare:AllBare s.gens
 base:Un X.fs X.ex X.H₀ H X.s₀.heap s.heap
 loc:∃ m,s.heap.Ns X.env.locals m /\ ∀ (i:Nat) (x:Str) (v:V),X.N[i]? = some x -> σ[i]? = some (some v) -> IJ X.env.scope x -> ∃ u,RelV v u /\ Look X.env s.heap m x u
 cell:∀ x c,X.env.cells.lookup x = some c -> ∃ v,s.heap.IsCell c v
 free:H X.env.locals = none
 iR:∀ x c,X.env.cells.lookup x = some c -> H c = none
 pin:∀ p ∈ X.pn ++ pins,s.heap.get? p.1 = some p.2 /\ H p.1 = none /\ p.1 ≠ X.env.locals /\ p.1 ∉ X.fs /\ ∀ v,p.2.data ≠ .cell v
 cQ:kC X.prog X.w H s.heap
 len:σ.length = X.N.length
section
variable {X:Cx} {pins:List (Addr × Obj)} {σ:List (Option V)} {H H':Hp} {s:Shared} {h':Heap}
theorem Cx.Ok.QW (ok:X.Ok) {b:Addr} {o:Obj} (e:X.base.get? b = some o):b ∉ X.fs:=fun hb=>by
 have:=(ok.kY.mem hb).1
 rw [e] at this;cases this
theorem Inv.bs (I:Inv X pins σ H s):∀ b o,X.base.get? b = some o -> s.heap.get? b = some o /\ H b = none:=fun b o e =>
 ⟨I.base.keep b o (I.ok.bs b o e).1 (I.ok.bs b o e).2 (I.ok.QW e) (I.ok.zo b o e),I.base.free b o (I.ok.bs b o e).1 (I.ok.bs b o e).2 (I.ok.zo b o e)⟩
theorem Inv.bk (I:Inv X pins σ H s):∀ b o,X.base.get? b = some o -> s.heap.get? b = some o:=fun b o e=>(I.bs b o e).1
theorem Inv.mod (I:Inv X pins σ H s):Mod X.K X.mg X.base:=I.ok.mod
theorem Inv.xb (I:Inv X pins σ H s):X.K.In s.heap:=I.ok.mod.Q5.keeps I.bk
theorem Inv.lt (I:Inv X pins σ H s):X.env.locals < s.heap.objs.size:=let ⟨_,hn,_⟩:=I.loc;hn.lt
theorem Inv.sz (I:Inv X pins σ H s):X.s₀.heap.objs.size <= s.heap.objs.size:=Nat.le_trans I.ok.above (Nat.le_of_lt I.lt)
theorem Inv.GG (I:Inv X pins σ H s) {a:Addr} (h:s.heap.objs.size <= a):a ∉ X.fs:=fun hb=>by
 obtain ⟨_,o,ho,_⟩:=I.ok.kY.mem hb
 exact absurd (Nat.lt_of_lt_of_le (Heap.lt_size ho) (Nat.le_trans I.sz h)) (Nat.lt_irrefl _)
theorem Inv.IA (I:Inv X pins σ H s):∀ x c,X.env.cells.lookup x = some c -> c ≠ X.env.locals:=fun x c e z=>by
 obtain ⟨v,o,ho,hd⟩:=I.cell x c e
 obtain ⟨m,⟨o',es,ep,d_,Hn,_⟩,_⟩:=I.loc
 rw [z,d_] at ho;cases ho;rw [Hn] at hd;cases hd
theorem Inv.kY (I:Inv X pins σ H s):s.heap.FunFrames X.base X.outer:=by
 have all:∀ (l:List Env),(∀ b ∈ x6 l,b ∈ X.fs) -> X.s₀.heap.FunFrames X.base l -> s.heap.FunFrames X.base l:=by
  intro l
  induction l with
  | nil=>intro _ _;trivial
  | cons env r ih =>
   intro hs hl
   obtain ⟨hk,⟨L,o,hf,hn,ho,hd⟩,hr⟩:=hl
   have hL:L ∈ X.fs:=hs L (by unfold x6;rw [List.filterMap_cons,hf];exact List.mem_cons_self)
   obtain ⟨sl,e⟩:=I.base.slot L o ho (I.ok.Jz L hL) hL fun z=>I.ok.C9 L z hL
   exact ⟨hk,⟨L,_,hf,hn,e,hd⟩,ih (fun b hb=>hs b (by unfold x6;rw [List.filterMap_cons,hf];exact List.mem_cons_of_mem _ hb)) hr⟩
 exact all X.outer (fun _ hb=>hb) I.ok.kY
theorem Inv.stack (I:Inv X pins σ H s):s.heap.FunFrames X.base X.stack:=by
 rcases I.ok.Nz with e | ⟨e,hf⟩
 ·rw [e];exact I.kY
 ·rw [e]
  obtain ⟨m,hn,_⟩:=I.loc
  refine .cons (by rw [I.ok.kind];decide) hf hn ?_ I.kY
  exact Heap.get?_none_of_le (Nat.le_trans I.ok.EN I.ok.above)
theorem Inv.j5 (I:Inv X pins σ H s):∀ b ∈ x6 X.stack,b ∈ X.env.locals :: X.fs:=fun b hb=>by
 rcases I.ok.Nz with e | ⟨e,hf⟩
 ·rw [e] at hb;exact List.mem_cons_of_mem _ hb
 ·rw [e] at hb
  unfold x6 at hb
  rw [List.filterMap_cons,hf] at hb
  exact hb
theorem Inv.uP (I:Inv X pins σ H s):∀ b ∈ x6 X.stack,H b = none:=fun b hb=>by
 rcases List.mem_cons.mp (I.j5 b hb) with e | hb
 ·rw [e];exact I.free
 ·obtain ⟨_,o,ho,_⟩:=I.ok.kY.mem hb
  exact I.base.free b o ho (I.ok.Jz b hb) fun z=>I.ok.C9 b z hb
theorem Inv.step {g':Array GenState} {t':Nat} {d':Drawn} {ch:List Addr} (I:Inv X pins σ H s)
  (A8:∀ b ∈ ch,(b ∈ X.ex \/ X.s₀.heap.objs.size <= b) /\ b ≠ X.env.locals /\ (∀ x c,X.env.cells.lookup x = some c -> c ≠ b) /\ ∀ p ∈ X.pn ++ pins,p.1 ≠ b)
  (keep:∀ b o,b ≠ X.env.locals -> b ∉ X.fs -> b ∉ ch -> s.heap.get? b = some o -> H b = none -> h'.get? b = some o)
  (slot:∀ b o,b ≠ X.env.locals -> b ∈ X.fs -> b ∉ ch -> s.heap.get? b = some o -> H b = none -> ∃ sl,h'.get? b = some { o with slots:=sl }) (free:∀ b o,b ∉ ch -> s.heap.get? b = some o -> H b = none -> H' b = none)
  (there:∀ b o,b ∉ ch -> s.heap.get? b = some o -> ∃ o',h'.get? b = some o')
  (pF:∀ b xs,H b = some (.tup xs) -> H' b = some (.tup xs)) (oj:∀ b o u,H b = some (.gZ o u) -> H' b = some (.gZ o u)) (pG:∀ b ps,H b = some (.DY ps) -> ∃ more,H' b = some (.DY (ps ++ more)))
  (ns:∀ m,s.heap.Ns X.env.locals m -> h'.Ns X.env.locals m) (cQ:kC X.prog X.w H' h') (hg:AllBare g') :
  Inv X pins σ H' { s with heap:=h',gens:=g',drawn:=d',toks:=t' }:=by
 have Vr:∀ b o,X.s₀.heap.get? b = some o -> b ≠ X.env.locals:=fun b o e=>Nat.ne_of_lt (Nat.lt_of_lt_of_le (Heap.lt_size e) I.ok.above)
 have Ek:∀ b o,X.s₀.heap.get? b = some o -> b ∉ X.ex -> b ∉ ch:=fun b o e hx hb=>by
  rcases (A8 b hb).1 with z | z
  ·exact hx z
  ·exact absurd (Nat.lt_of_lt_of_le (Heap.lt_size e) z) (Nat.lt_irrefl _)
 have cellK:∀ x c,X.env.cells.lookup x = some c -> ∀ v,s.heap.IsCell c v -> h'.IsCell c v:=fun x c e v ⟨o,ho,hd⟩=>by
  have Le:c ∉ ch:=fun z=>(A8 c z).2.2.1 x c e rfl
  by_cases hc:c ∈ X.fs
  ·obtain ⟨sl,q⟩:=slot c o (I.IA x c e) hc Le ho (I.iR x c e)
   exact ⟨_,q,hd⟩
  ·exact ⟨o,keep c o (I.IA x c e) hc Le ho (I.iR x c e),hd⟩
 refine ⟨I.ok,I.os,hg,⟨fun b o e n hb hx=>?_,fun b o e n hb hx=>?_,fun b o e n hx=>?_,fun b o e hx=>?_,fun b xs e=>pF b xs (I.base.pF b xs e),fun b o xs e=>oj b o xs (I.base.oj b o xs e),fun b ps e=>?_⟩,?_,fun x c e=>?_,?_,fun x c e=>?_,fun p hp=>?_,cQ,I.len⟩
 ·exact keep b o (Vr b o e) hb (Ek b o e hx) (I.base.keep b o e n hb hx) (I.base.free b o e n hx)
 ·obtain ⟨sl,e1⟩:=I.base.slot b o e n hb hx
  obtain ⟨XG,e2⟩:=slot b _ (Vr b o e) hb (Ek b o e hx) e1 (I.base.free b o e n hx)
  exact ⟨XG,e2⟩
 ·obtain ⟨o',e1⟩:=I.base.there b o e hx
  exact free b o' (Ek b o e hx) e1 (I.base.free b o e n hx)
 ·obtain ⟨o',e1⟩:=I.base.there b o e hx
  exact there b o' (Ek b o e hx) e1
 ·obtain ⟨m1,e1⟩:=I.base.pG b ps e
  obtain ⟨m2,e2⟩:=pG b _ e1
  exact ⟨m1 ++ m2,by rw [e2,Array.append_assoc]⟩
 ·obtain ⟨m,hn,hl⟩:=I.loc
  refine ⟨m,ns m hn,fun i x v e1 e2 e3=>?_⟩
  obtain ⟨u,r,l⟩:=hl i x v e1 e2 e3
  refine ⟨u,r,?_⟩
  rcases l with l | ⟨k,c,e,z⟩
  ·exact .inl l
  ·exact .inr ⟨k,c,e,cellK x c e _ z⟩
 ·obtain ⟨v,z⟩:=I.cell x c e
  exact ⟨v,cellK x c e v z⟩
 ·obtain ⟨m,⟨o,_,_,ho,_⟩,_⟩:=I.loc
  exact free _ o (fun z=>(A8 _ z).2.1 rfl) ho I.free
 ·obtain ⟨v,o,ho,hd⟩:=I.cell x c e
  exact free c o (fun z=>(A8 c z).2.2.1 x c e rfl) ho (I.iR x c e)
 ·obtain ⟨e,n,ne,nf,d⟩:=I.pin p hp
  have Le:p.1 ∉ ch:=fun z=>(A8 p.1 z).2.2.2 p hp rfl
  exact ⟨keep p.1 p.2 ne nf Le e n,free p.1 p.2 Le e n,ne,nf,d⟩
theorem Inv.un {t':Nat} (I:Inv X pins σ H s) (u:Un X.fs [] H H' s.heap h') (cQ:kC X.prog X.w H' h'):Inv X pins σ H' { s with heap:=h',toks:=t' }:=by
 obtain ⟨m,⟨o,es,ep,ho,r⟩,_⟩:=id I.loc
 obtain ⟨sl,hL⟩:=u.any ho I.free (by simp)
 exact I.step (g':=s.gens) (d':=s.drawn) (ch:=[]) (fun _ z=>nomatch z) (fun b o _ hb _ e n=>u.keep b o e n hb (by simp)) (fun b o _ hb _ e n=>u.slot b o e n hb (by simp)) (fun b o _ e n=>u.free b o e n (by simp)) (fun b o _ e=>u.there b o e (by simp)) u.pF u.oj u.pG (fun m' hm=>by
  obtain ⟨o',Ii,k_,d_,r'⟩:=hm
  rw [ho] at d_;cases d_
  exact ⟨_,Ii,k_,hL,r'⟩) cQ I.bare
theorem Inv.call {g':Array GenState} {t':Nat} {d':Drawn} {ch:List Addr} (I:Inv X pins σ H s) (u:Un (x6 X.stack) ch H H' s.heap h') (cQ:kC X.prog X.w H' h') (hg:AllBare g')
  (A8:∀ b ∈ ch,(b ∈ X.ex \/ X.s₀.heap.objs.size <= b) /\ b ≠ X.env.locals /\ (∀ x c,X.env.cells.lookup x = some c -> c ≠ b) /\ ∀ p ∈ X.pn ++ pins,p.1 ≠ b) :
  Inv X pins σ H' { s with heap:=h',gens:=g',drawn:=d',toks:=t' }:=by
 obtain ⟨m,⟨o,es,ep,ho,r⟩,_⟩:=id I.loc
 obtain ⟨sl,hL⟩:=u.any ho I.free fun z=>(A8 _ z).2.1 rfl
 exact I.step (ch:=ch) A8 (fun b o hL hb hc e n=>u.keep b o e n (fun z=>(List.mem_cons.mp (I.j5 b z)).elim hL hb) hc) (fun b o _ _ hc e n=>u.any e n hc) (fun b o hc e n=>u.free b o e n hc) (fun b o hc e=>u.there b o e hc) u.pF u.oj u.pG (fun m' hm=>by
  obtain ⟨o',Ii,k_,d_,r'⟩:=hm
  rw [ho] at d_;cases d_
  exact ⟨_,Ii,k_,hL,r'⟩) cQ hg
theorem Inv.turned {t':Nat} {it:Addr} (I:Inv X pins σ H s) (k:∀ b o,b ≠ it -> s.heap.get? b = some o -> h'.get? b = some o) (hn:H it = none) (hL:it ≠ X.env.locals)
  (h1:it ∈ X.ex \/ X.s₀.heap.objs.size <= it) (h2:∀ x c,X.env.cells.lookup x = some c -> c ≠ it) (h3:∀ p ∈ X.pn ++ pins,p.1 ≠ it):Inv X pins σ H { s with heap:=h',toks:=t' }:=by
 have Ej:∀ b u,H b = some u -> b ≠ it:=fun b u e z=>by rw [z,hn] at e;cases e
 refine I.step (g':=s.gens) (d':=s.drawn) (ch:=[it]) (fun b hb=>?_) (fun b o _ _ hc e _=>k b o (fun z=>hc (by simp [z])) e) (fun b o _ _ hc e _=>⟨o.slots,k b o (fun z=>hc (by simp [z])) e⟩) (fun _ _ _ _ n=>n)
  (fun b o hc e=>⟨o,k b o (fun z=>hc (by simp [z])) e⟩) (fun _ _ e=>e) (fun _ _ _ e=>e) (fun b ps e=>⟨#[],by rw [e];simp⟩) (fun m hm=>?_) (fun b u e=>?_) I.bare
 ·have e:b = it:=by simpa using hb
  subst e
  exact ⟨h1,hL,h2,h3⟩
 ·obtain ⟨o,es,ep,ho,r⟩:=hm
  exact ⟨o,es,ep,k _ o (Ne.symm hL) ho,r⟩
 ·refine (I.cQ b u e).ju (fun c v hc q=>k c v ?_ q) (fun _ q=>q) fun _ _ q=>q
  rcases hc with z | z
  ·rw [z];exact Ej b u e
  ·exact Ej c _ z
theorem Inv.tok (I:Inv X pins σ H s) (t:Nat):Inv X pins σ H { s with toks:=t }:=I.un (h':=s.heap) (t':=t) Un.refl I.cQ
theorem Inv.kept {t':Nat} (I:Inv X pins σ H s) (k:∀ b u,s.heap.get? b = some u -> h'.get? b = some u):Inv X pins σ H { s with heap:=h',toks:=t' }:=I.un (Un.kept k) (I.cQ.kept k)
theorem Inv.laid {a:Addr} {o:HO} {t':Nat} (I:Inv X pins σ H s) (k:∀ b u,s.heap.get? b = some u -> h'.get? b = some u) (hp:s.heap.objs.size <= a) (new:bV X.prog X.w (upd H a o) h' a o) :
  Inv X pins σ (upd H a o) { s with heap:=h',toks:=t' }:=I.un (Un.laid k hp (I.cQ.fresh hp)) (I.cQ.laid k hp new)
theorem Inv.write {x e:Addr} {o:HO} {t':Nat} (I:Inv X pins σ H s) (mu:Oz (H x)) (he:e = x \/ H e = some (.own x)) (k:∀ b u,b ≠ e -> s.heap.get? b = some u -> h'.get? b = some u) (Jp:∃ u,h'.get? e = some u)
  (new:bV X.prog X.w (upd H x o) h' x o):Inv X pins σ (upd H x o) { s with heap:=h',toks:=t' }:=I.un (Un.write mu he k Jp) (I.cQ.write mu he k Jp new)
theorem Inv.iu {Eg:List (Addr × Obj)} (I:Inv X pins σ H s) (h:∀ p ∈ Eg,s.heap.get? p.1 = some p.2 /\ H p.1 = none /\ p.1 ≠ X.env.locals /\ p.1 ∉ X.fs /\ ∀ v,p.2.data ≠ .cell v):Inv X Eg σ H s :=
 ⟨I.ok,I.os,I.bare,I.base,I.loc,I.cell,I.free,I.iR,fun p hp=>(List.mem_append.mp hp).elim (fun z=>I.pin p (List.mem_append_left _ z)) (h p),I.cQ,I.len⟩
theorem rM {N:List Str} (hN:N.Nodup) {i j:Nat} {x:Str} (a:N[i]? = some x) (b:N[j]? = some x):i = j:=by
 obtain ⟨h1,e1⟩:=List.getElem?_eq_some_iff.mp a
 obtain ⟨h2,e2⟩:=List.getElem?_eq_some_iff.mp b
 exact (List.getElem_inj hN).mp (e1.trans e2.symm)
theorem wK {M:Model} {A:Around} {E:Value -> Shared -> Prop} {i:Nat} {x:Str} {v:V} {u:Value} {Q:Unit -> Shared -> Prop} (I:Inv X pins σ H s) (hN:X.N.Nodup) (hi:X.N[i]? = some x) (hx:Loc X.env.scope x) (r:RelV v u)
  (h:∀ s',Inv X pins (σ.set i (some v)) H s' -> (∃ a,Heap.SameBut a s.heap s'.heap /\ (a = X.env.locals \/ X.env.cells.lookup x = some a)) -> Q () s') (hf:X.fn x = true \/ X.env.scope.names.lookup x = some .local:=by first | exact .inl rfl | exact .inr rfl | assumption):wpAny M A (storeName X.env x u) Q E s:=by
 obtain ⟨m,hn,hl⟩:=id I.loc
 have Sl:(X.env.scope.kind == .class || (X.env.scope.kind == .module && X.env.locals != X.env.globals)) = false:=by rw [I.ok.kind];rfl
 have L4:i < σ.length:=by rw [I.len];exact (List.getElem?_eq_some_iff.mp hi).1
 have IA:=I.IA
 have tracked:∀ {a:Addr} {h':Heap},(∃ o,s.heap.get? a = some o /\ H a = none) -> Heap.SameBut a s.heap h' -> kC X.prog X.w H h':=fun {a h'} ha hs b ob e=>by
  obtain ⟨_,_,Ex⟩:=ha
  refine (I.cQ b ob e).ju (fun c w' hc q=>(hs.2 c ?_).trans q) (fun _ q=>q) fun _ _ q=>q
  rintro rfl
  rcases hc with rfl | hc
  ·rw [Ex] at e;cases e
  ·rw [Ex] at hc;cases hc
 rcases hx with hk | hk
 ·refine wpAny_storeName_local hk hn (fun h' x4 hs=>?_) Sl
  obtain ⟨oL,_,_,CP,_⟩:=id hn
  refine h _ ⟨I.ok,I.os,I.bare,⟨fun b o e n hb hx=>?_,fun b o e n hb hx=>?_,I.base.free,fun b o e hx=>?_,I.base.pF,I.base.oj,I.base.pG⟩,⟨_,x4,fun j y v' e1 e2 e3=>?_⟩,fun y c e=>?_,I.free,I.iR,fun p hp=>?_,tracked ⟨oL,CP,I.free⟩ hs,by simpa using I.len⟩ ⟨_,hs,.inl rfl⟩
  ·exact (hs.2 b (Nat.ne_of_lt (Nat.lt_of_lt_of_le (Heap.lt_size e) I.ok.above))).trans (I.base.keep b o e n hb hx)
  ·obtain ⟨sl,e1⟩:=I.base.slot b o e n hb hx
   exact ⟨sl,(hs.2 b (Nat.ne_of_lt (Nat.lt_of_lt_of_le (Heap.lt_size e) I.ok.above))).trans e1⟩
  ·obtain ⟨o',e1⟩:=I.base.there b o e hx
   exact ⟨o',(hs.2 b (Nat.ne_of_lt (Nat.lt_of_lt_of_le (Heap.lt_size e) I.ok.above))).trans e1⟩
  ·by_cases hj:j = i
   ·subst hj
    rw [hi] at e1;cases e1
    rw [List.getElem?_set_self L4] at e2
    cases e2
    exact ⟨u,r,.inl ⟨hk,by simp⟩⟩
   ·rw [List.getElem?_set_ne (Ne.symm hj)] at e2
    obtain ⟨u',r',q⟩:=hl j y v' e1 e2 e3
    refine ⟨u',r',?_⟩
    rcases q with ⟨k,e⟩ | ⟨k,c,e,z⟩
    ·refine .inl ⟨k,?_⟩
     have:y ≠ x:=fun e=>hj (rM hN e1 (e ▸ hi))
     simp [this,e]
    ·exact .inr ⟨k,c,e,z.sameBut hs (IA y c e)⟩
  ·obtain ⟨w',z⟩:=I.cell y c e
   exact ⟨w',z.sameBut hs (IA y c e)⟩
  ·obtain ⟨e,n,ne,nf,d⟩:=I.pin p hp
   exact ⟨(hs.2 p.1 ne).trans e,n,ne,nf,d⟩
 ·have sY:X.fn x = true:=by
   rcases hf with z | z
   ·exact z
   ·rw [z] at hk;cases hk
  obtain ⟨c,hc⟩:=I.ok.has x (.inl hk)
  obtain ⟨w',z⟩:=I.cell x c hc
  refine wpAny_storeName_cell I.ok.kind hk hc z (fun h' A9 hs=>?_)
  obtain ⟨oc,VS,R6⟩:=id z
  refine h { s with heap:=h' } ⟨I.ok,I.os,I.bare,⟨fun b o e n hb hx=>?_,fun b o e n hb hx=>?_,I.base.free,fun b o e hx=>?_,I.base.pF,I.base.oj,I.base.pG⟩,⟨m,hn.sameBut hs (Ne.symm (IA x c hc)),fun j y v' e1 e2 e3=>?_⟩,fun y c' e=>?_,I.free,I.iR,fun p hp=>?_,tracked ⟨oc,VS,I.iR x c hc⟩ hs,by simpa using I.len⟩ ⟨c,hs,.inr hc⟩
  ·exact (hs.2 b (Nat.ne_of_lt (Nat.lt_of_lt_of_le (Heap.lt_size e) (I.ok.M8 x c sY hc)))).trans (I.base.keep b o e n hb hx)
  ·obtain ⟨sl,e1⟩:=I.base.slot b o e n hb hx
   exact ⟨sl,(hs.2 b (Nat.ne_of_lt (Nat.lt_of_lt_of_le (Heap.lt_size e) (I.ok.M8 x c sY hc)))).trans e1⟩
  ·obtain ⟨o',e1⟩:=I.base.there b o e hx
   exact ⟨o',(hs.2 b (Nat.ne_of_lt (Nat.lt_of_lt_of_le (Heap.lt_size e) (I.ok.M8 x c sY hc)))).trans e1⟩
  ·by_cases hj:j = i
   ·subst hj
    rw [hi] at e1;cases e1
    rw [List.getElem?_set_self L4] at e2
    cases e2
    exact ⟨u,r,.inr ⟨.inl hk,c,hc,A9⟩⟩
   ·rw [List.getElem?_set_ne (Ne.symm hj)] at e2
    obtain ⟨u',r',q⟩:=hl j y v' e1 e2 e3
    refine ⟨u',r',?_⟩
    rcases q with q | ⟨k,c',e,z'⟩
    ·exact .inl q
    ·refine .inr ⟨k,c',e,z'.sameBut hs ?_⟩
     rintro rfl
     exact hj (rM hN e1 (I.ok.inj _ _ _ e hc ▸ hi))
  ·by_cases V1:c' = c
   ·subst V1;exact ⟨_,A9⟩
   ·obtain ⟨w2,z2⟩:=I.cell y c' e
    exact ⟨w2,z2.sameBut hs V1⟩
  ·obtain ⟨e,n,ne,nf,d⟩:=I.pin p hp
   refine ⟨(hs.2 p.1 ?_).trans e,n,ne,nf,d⟩
   intro q
   rw [q,VS] at e
   have q':oc = p.2:=Option.some.inj e
   exact d w' (by rw [<- q'];exact R6)
theorem jt {M:Model} {A:Around} {E:Value -> Shared -> Prop} {i:Nat} {x:Str} {v:V} {u:Value} {Q:Unit -> Shared -> Prop} (I:Inv X pins σ H s) (hN:X.N.Nodup) (hi:X.N[i]? = some x) (hx:Loc X.env.scope x) (r:RelV v u)
  (h:∀ s',Inv X pins (σ.set i (some v)) H s' -> Q () s') (hf:X.fn x = true \/ X.env.scope.names.lookup x = some .local:=by first | exact .inl rfl | exact .inr rfl | assumption):wpAny M A (storeName X.env x u) Q E s :=
 wK I hN hi hx r (fun s' I' _=>h s' I') hf
theorem Inv.M7 {s':Shared} {ch:List Addr} (I:Inv X pins σ H s) (ho:s'.os = s.os) (u:Un (x6 X.stack) ch H H' s.heap s'.heap) (cQ:kC X.prog X.w H' s'.heap) (hg:AllBare s'.gens)
  (A8:∀ b ∈ ch,(b ∈ X.ex \/ X.s₀.heap.objs.size <= b) /\ b ≠ X.env.locals /\ (∀ x c,X.env.cells.lookup x = some c -> c ≠ b) /\ ∀ p ∈ X.pn ++ pins,p.1 ≠ b):Inv X pins σ H' s':=by
 obtain ⟨h',g',d',t',o'⟩:=s'
 have e:o' = s.os:=ho
 subst e
 exact I.call (g':=g') (t':=t') (d':=d') u cQ hg A8
end
noncomputable abbrev XK:=Value -> Option Addr -> Hp -> Prop
noncomputable abbrev St:=List (Option V)
noncomputable abbrev VK:=V -> Hp -> Prop
noncomputable abbrev TE:=St -> Hp -> VK -> Prop
noncomputable abbrev TT:=St -> Hp -> (Bool -> Hp -> Prop) -> Prop
noncomputable abbrev TA:=St -> Hp -> (List V -> Hp -> Prop) -> Prop
structure Ends where
 nx:St -> Hp -> Prop
 rt:VK
 bk:St -> Hp -> Prop:=fun _ _=>False
 ct:St -> Hp -> Prop:=fun _ _=>False
noncomputable abbrev TS:=Ends -> St -> Hp -> Prop
noncomputable def EP (X:Cx) (pins:List (Addr × Obj)) (σ:St) (Q:VK) (u:Value) (s':Shared):Prop:=∃ v H',Inv X pins σ H' s' /\ RelV v u /\ Q v H'
noncomputable def TP (X:Cx) (pins:List (Addr × Obj)) (σ:St) (Q:Bool -> Hp -> Prop) (b:Bool) (s':Shared):Prop:=∃ H',Inv X pins σ H' s' /\ Q b H'
noncomputable def AP (X:Cx) (pins:List (Addr × Obj)) (σ:St) (Q:List V -> Hp -> Prop) (us:List Value) (s':Shared):Prop:=∃ vs H',Inv X pins σ H' s' /\ Vals vs us /\ Q vs H'
noncomputable def SP (X:Cx) (pins:List (Addr × Obj)) (D:Ends) (f:Flow) (s':Shared):Prop :=
 match f with
 | .next=>∃ σ' H',Inv X pins σ' H' s' /\ D.nx σ' H'
 | .brk=>∃ σ' H',Inv X pins σ' H' s' /\ D.bk σ' H'
 | .cont=>∃ σ' H',Inv X pins σ' H' s' /\ D.ct σ' H'
 | .ret u=>∃ v σ' H',Inv X pins σ' H' s' /\ RelV v u /\ D.rt v H'
noncomputable def PE (X:Cx) (e:Expr) (t:TE):Prop :=
 ∀ (pins:List (Addr × Obj)) (s:Shared) (σ:St) (H:Hp) (Q:VK),Inv X pins σ H s -> t σ H Q -> wpAny (model X.prog X.w) X.A (eval e X.env) (EP X pins σ Q) X.xe s
noncomputable def PT (X:Cx) (e:Expr) (t:TT):Prop :=
 ∀ (pins:List (Addr × Obj)) (s:Shared) (σ:St) (H:Hp) (Q:Bool -> Hp -> Prop),Inv X pins σ H s -> t σ H Q -> wpAny (model X.prog X.w) X.A (isTrue e X.env (eval e X.env)) (TP X pins σ Q) X.xe s
noncomputable def PW (X:Cx) (e:Expr) (t:TT):Prop :=
 ∀ (whole:Sem Value) (pins:List (Addr × Obj)) (s:Shared) (σ:St) (H:Hp) (Q:Bool -> Hp -> Prop),Inv X pins σ H s -> t σ H Q -> wpAny (model X.prog X.w) X.A (isTrue e X.env whole) (TP X pins σ Q) X.xe s
theorem PW.pt {X:Cx} {e:Expr} {t:TT} (h:PW X e t):PT X e t:=h _
noncomputable def PA (X:Cx) (es:List Expr) (t:TA):Prop :=
 ∀ (pos:Pos) (pins:List (Addr × Obj)) (s:Shared) (σ:St) (H:Hp) (Q:List V -> Hp -> Prop),Inv X pins σ H s -> t σ H Q -> wpAny (model X.prog X.w) X.A (spliced (backTo pos (starEach es X.env))) (AP X pins σ Q) X.xe s
noncomputable def PS (X:Cx) (st:Stmt) (t:TS):Prop :=
 ∀ (pins:List (Addr × Obj)) (s:Shared) (σ:St) (H:Hp) (D:Ends),Inv X pins σ H s -> t D σ H -> wpAny (model X.prog X.w) X.A (exec st X.env) (SP X pins D) X.xe s
noncomputable def lO (X:Cx) (st:List Stmt) (t:TS):Prop :=
 ∀ (pins:List (Addr × Obj)) (s:Shared) (σ:St) (H:Hp) (D:Ends),Inv X pins σ H s -> t D σ H -> wpAny (model X.prog X.w) X.A (execs st X.env) (SP X pins D) X.xe s
theorem cI {α:Type} {t:Sem α} {Q Q':α -> Shared -> Prop} {M:Model} {A:Around} {E:Value -> Shared -> Prop} {s:Shared} (h:wpAny M A t Q E s) (hQ:∀ a s,Q a s -> Q' a s):wpAny M A t Q' E s:=wpAny_mono h hQ fun _ _ x=>x
end L2
namespace L2
open PySem PySem.Spec PyProof.Rows
section
variable {X:Cx}
theorem bin {a b:Expr} {ta tb:TE} (ha:PE X a ta) (hb:PE X b tb) {pins:List (Addr × Obj)} {s:Shared} {σ:St} {H:Hp} {R:V -> V -> Hp -> Prop} (I:Inv X pins σ H s) (h:ta σ H fun x H1=>tb σ H1 fun y H2=>R x y H2)
  {α:Type} {Q:α -> Shared -> Prop} {f:Value -> Value -> Sem α}
  (hf:∀ v u s2 x y H2,Inv X pins σ H2 s2 -> RelV x v -> RelV y u -> R x y H2 -> wpAny (model X.prog X.w) X.A (f v u) Q X.xe s2) :
  wpAny (model X.prog X.w) X.A (eval a X.env) (fun v s₁=>wpAny (model X.prog X.w) X.A (eval b X.env) (fun u s₂=>wpAny (model X.prog X.w) X.A (f v u) Q X.xe s₂) X.xe s₁) X.xe s:=by
 refine cI (ha pins s σ H _ I h) fun v s1 ⟨x,H1,I1,r1,q1⟩=>?_
 refine cI (hb pins s1 σ H1 _ I1 q1) fun u s2 ⟨y,H2,I2,r2,q2⟩=>?_
 exact hf v u s2 x y H2 I2 r1 r2 q2
noncomputable def tE (i:Nat):TE:=fun σ H Q=>∃ v,σ[i]? = some (some v) /\ Q v H
noncomputable def tC (v:V):TE:=fun _ H Q=>Q v H
theorem tO {i:Nat} {x:Str} {pos:Pos} (hN:X.N[i]? = some x) (hv:IJ X.env.scope x) (hd:(x == ("__debug__" : Str)) = false:=by decide) (Aa:(x == ("__classdict__" : Str)) = false:=by decide):PE X (.Name x pos) (tE i):=by
 intro pins s σ H Q I h
 obtain ⟨v,e,h⟩:=h
 obtain ⟨m,hn,hl⟩:=I.loc
 obtain ⟨u,r,l⟩:=hl i x v hN e hv
 have fin:EP X pins σ Q u s:=⟨v,H,I,r,h⟩
 rcases l with ⟨hk,hm⟩ | ⟨hk,c,hc,hcell⟩
 ·exact wpAny_Name (wpAny_loadName_local I.ok.kind hk hn hm fin) hd
 ·rcases hk with hk | hk
  ·exact wpAny_Name (wpAny_loadName_cell I.ok.kind hk hc hcell fin) hd
  ·exact wpAny_Name (wpAny_loadName_free I.ok.kind hk hc hcell fin Aa) hd
theorem Gh {i j pos}:PE X (.Constant (.int i) j pos) (tC (.int i)):=fun _ _ _ H _ I h=>wpAny_Constant_int ⟨.int i,H,I.tok _,⟨_,rfl⟩,h⟩
theorem KY {b j pos}:PE X (.Constant (.bool b) j pos) (tC (.bl b)):=fun _ _ _ H _ I h=>Constant_bool ⟨.bl b,H,I,rfl,h⟩
theorem Gf {j pos}:PE X (.Constant .none j pos) (tC .bC):=fun _ _ _ H _ I h=>Constant_none ⟨.bC,H,I,rfl,h⟩
theorem Qc {x j pos}:PE X (.Constant (.str x) j pos) (tC (.str x)):=fun _ _ _ H _ I h=>Calls.Constant_str ⟨.str x,H,I.tok _,⟨_,rfl⟩,h⟩
noncomputable def Gl (X:Cx) (x:Str):Prop:=X.env.kindOf x = some .globalImplicit
theorem vq {E:Value -> Shared -> Prop} {pins:List (Addr × Obj)} {s:Shared} {σ:St} {H:Hp} {x:Str} {u:Value} {pos:Pos} {Q:Value -> Shared -> Prop} (I:Inv X pins σ H s) (hg:Gl X x) (hm:X.mg x = some u) (h:Q u s)
  (hd:(x == ("__debug__" : Str)) = false:=by decide):wpAny (model X.prog X.w) X.A (eval (.Name x pos) X.env) Q E s :=
 Calls.Name_function_global I.ok.kind hg (Calls.loadGlobal_global (by rw [I.ok.glob];exact I.mod.glob.keeps I.bk) hm h) hd
theorem ft {E:Value -> Shared -> Prop} {pins:List (Addr × Obj)} {s:Shared} {σ:St} {H:Hp} {x:Str} {u:Value} {pos:Pos} {Q:Value -> Shared -> Prop} (I:Inv X pins σ H s) (hg:Gl X x) (hm:X.mg x = none) (hv:bootBuiltins x = some u) (h:Q u s)
  (hn:x ≠ "__name__":=by decide) (hd:(x == ("__debug__" : Str)) = false:=by decide):wpAny (model X.prog X.w) X.A (eval (.Name x pos) X.env) Q E s:=by
 obtain ⟨mb,h1,h2⟩:=I.mod.blt
 exact Calls.Name_function_global I.ok.kind hg (Calls.loadGlobal_builtin (by rw [I.ok.glob];exact I.mod.glob.keeps I.bk) hm (by rw [I.ok.blt];exact h1.keeps I.bk) ((h2 x hn).trans hv) h) hd
theorem vf {x:Str} {v:V} {u:Value} {pos:Pos} (hg:Gl X x) (hm:X.mg x = some u) (r:RelV v u) (hd:(x == ("__debug__" : Str)) = false:=by decide):PE X (.Name x pos) (tC v) :=
 fun _ _ _ H _ I h=>vq I hg hm ⟨v,H,I,r,h⟩ hd
theorem Ca {x:Str} {v:V} {u:Value} {pos:Pos} (hg:Gl X x) (hm:X.mg x = none) (hv:bootBuiltins x = some u) (r:RelV v u) (hn:x ≠ "__name__":=by decide) (hd:(x == ("__debug__" : Str)) = false:=by decide):PE X (.Name x pos) (tC v) :=
 fun _ _ _ H _ I h=>ft I hg hm hv ⟨v,H,I,r,h⟩ hn hd
variable {a b:Expr} {ta tb:TE} {pos:Pos}
noncomputable def tB (t:TE):TT:=fun σ H Q=>t σ H fun x H1=>∃ c,x = .bl c /\ Q c H1
theorem FU {e:Expr} {t:TE} (h:PE X e t) (he:∀ whole,isTrue e X.env whole = (do let v <- whole;standAt e.pos;holding [v] (truthy v)):=by intro _;rfl):PT X e (tB t):=by
 intro pins s σ H Q I hw
 refine isTrue_plain (cI (h pins s σ H _ I hw) fun v s1 ⟨x,H1,I1,r1,q1⟩=>?_) (he _)
 obtain ⟨d,rfl,q⟩:=q1
 cases r1
 exact wpAny_truthy_bool ⟨H1,I1,q⟩
variable {tA Nv:TT} {rest:List Expr}
noncomputable def Kb (t u:TT):TT:=fun σ H Q=>t σ H fun c H1=>if c = true then u σ H1 Q else Q false H1
noncomputable def Vi (t u:TT):TT:=fun σ H Q=>t σ H fun c H1=>if c = true then Q true H1 else u σ H1 Q
noncomputable def OP (t:TT):TT:=fun σ H Q=>t σ H fun c H1=>Q (!c) H1
theorem B4 (ha:PT X a tA):PW X (.BoolOp .And [a] pos) tA:=by
 intro wh pins s σ H Q I h
 refine isTrue_and (cI (ha pins s σ H Q I h) fun c s1 e=>?_)
 cases c with
 | true=>exact isTrue_and_nil e
 | false=>exact e
theorem FQ (ha:PT X a tA):PW X (.BoolOp .Or [a] pos) tA:=by
 intro wh pins s σ H Q I h
 refine isTrue_or (cI (ha pins s σ H Q I h) fun c s1 e=>?_)
 cases c with
 | false=>exact isTrue_or_nil e
 | true=>exact e
theorem FR (ha:PT X a tA) (hb:PW X (.BoolOp .And (b :: rest) pos) Nv):PW X (.BoolOp .And (a :: b :: rest) pos) (Kb tA Nv):=by
 intro wh pins s σ H Q I h
 refine isTrue_and (cI (ha pins s σ H _ I h) fun c s1 ⟨H1,I1,q1⟩=>?_)
 cases c with
 | true=>exact hb wh pins s1 σ H1 Q I1 q1
 | false=>exact ⟨H1,I1,q1⟩
theorem KN (ha:PT X a tA) (hb:PW X (.BoolOp .Or (b :: rest) pos) Nv):PW X (.BoolOp .Or (a :: b :: rest) pos) (Vi tA Nv):=by
 intro wh pins s σ H Q I h
 refine isTrue_or (cI (ha pins s σ H _ I h) fun c s1 ⟨H1,I1,q1⟩=>?_)
 cases c with
 | true=>exact ⟨H1,I1,q1⟩
 | false=>exact hb wh pins s1 σ H1 Q I1 q1
theorem FV (ha:PT X a tA):PT X (.UnaryOp .Not a pos) (OP tA):=by
 intro pins s σ H Q I h
 exact isTrue_not (ha pins s σ H (fun c H1=>Q (!c) H1) I h)
noncomputable def D5 (ta tb:TE):TE:=fun σ H Q=>ta σ H fun x H1=>∃ c,x = .bl c /\ if c = true then tb σ H1 Q else Q (.bl false) H1
noncomputable def J5 (ta tb:TE):TE:=fun σ H Q=>ta σ H fun x H1=>∃ c,x = .bl c /\ if c = true then Q (.bl true) H1 else tb σ H1 Q
noncomputable def J6 (ta:TE):TE:=fun σ H Q=>ta σ H fun x H1=>∃ c,x = .bl c /\ Q (.bl (!c)) H1
theorem yZ {op} {t:TE} (h:PE X a t):PE X (.BoolOp op [a] pos) t:=fun pins s σ H Q I hw=>BoolOp_one (h pins s σ H Q I hw)
theorem Gi (ha:PE X a ta) (hb:PE X (.BoolOp .And (b :: rest) pos) tb):PE X (.BoolOp .And (a :: b :: rest) pos) (D5 ta tb):=by
 intro pins s σ H Q I h
 refine BoolOp_and (cI (ha pins s σ H _ I h) fun v s1 ⟨x,H1,I1,r1,q1⟩=>?_)
 obtain ⟨c,rfl,q1⟩:=q1
 cases r1
 refine wpAny_truthy_bool ?_
 cases c with
 | true=>exact hb pins s1 σ H1 Q I1 q1
 | false=>exact ⟨.bl false,H1,I1,rfl,q1⟩
theorem KU (ha:PE X a ta) (hb:PE X (.BoolOp .Or (b :: rest) pos) tb):PE X (.BoolOp .Or (a :: b :: rest) pos) (J5 ta tb):=by
 intro pins s σ H Q I h
 refine BoolOp_or (cI (ha pins s σ H _ I h) fun v s1 ⟨x,H1,I1,r1,q1⟩=>?_)
 obtain ⟨c,rfl,q1⟩:=q1
 cases r1
 refine wpAny_truthy_bool ?_
 cases c with
 | false=>exact hb pins s1 σ H1 Q I1 q1
 | true=>exact ⟨.bl true,H1,I1,rfl,q1⟩
theorem Ge (ha:PE X a ta):PE X (.UnaryOp .Not a pos) (J6 ta):=by
 intro pins s σ H Q I h
 refine UnaryOp_ (cI (ha pins s σ H _ I h) fun v s1 ⟨x,H1,I1,r1,q1⟩=>?_)
 obtain ⟨c,rfl,q1⟩:=q1
 cases r1
 exact not_of (wpAny_truthy_bool ⟨.bl (!c),H1,I1,rfl,q1⟩)
noncomputable def Xm (t:TT) (ta tb:TE):TE:=fun σ H Q=>t σ H fun c H1=>if c = true then ta σ H1 Q else tb σ H1 Q
theorem y_ {c:Expr} (hc:PT X c tA) (ha:PE X a ta) (hb:PE X b tb):PE X (.IfExp c a b pos) (Xm tA ta tb):=by
 intro pins s σ H Q I h
 refine wpAny_IfExp (cI (hc pins s σ H _ I h) fun d s1 ⟨H1,I1,q1⟩=>?_)
 cases d with
 | true=>exact ha pins s1 σ H1 Q I1 q1
 | false=>exact hb pins s1 σ H1 Q I1 q1
end
end L2
namespace L2
open PySem PySem.Spec PyProof.Rows
noncomputable def dm (K:PySem.W.Frag) (H:Hp) (a:Addr) (xs:List V):Prop :=
 Rd H a (.lst xs) \/
  ∃ (o:Obj) (ai:Array Value) (n:Nat),K.lookup a = some o /\ o.cls = .type "list" /\ o.dict = none /\ o.data = .seq ai n /\ ai.size <= sizeLine /\ Vals xs ai.toList
noncomputable def aA (K:PySem.W.Frag) (H:Hp) (a:Addr) (xs:List V):Prop :=
 Rd H a (.tup xs) \/
  ∃ (o:Obj) (ai:Array Value) (n:Nat),K.lookup a = some o /\ o.cls = .type "tuple" /\ o.data = .seq ai n /\ ai.size <= sizeLine /\ Vals xs ai.toList
noncomputable def U0:Value -> Option V
 | .none=>some .bC
 | .bool b=>some (.bl b)
 | .int i _=>some (.int i)
 | .str x _=>some (.str x)
 | .bytes b _=>some (.Uy b)
 | .float b _=>some (.My b)
 | .ref a=>some (.ref a)
 | .type n=>some (.ty n)
 | _=>none
theorem RelV.abs {x:V} {u:Value} (r:RelV x u):U0 u = some x:=by
 cases x with
 | bC=>cases r;rfl
 | bl _=>cases r;rfl
 | int _=>obtain ⟨t,rfl⟩:=r;rfl
 | str _=>obtain ⟨t,rfl⟩:=r;rfl
 | Uy _=>obtain ⟨t,rfl⟩:=r;rfl
 | My _=>obtain ⟨t,rfl⟩:=r;rfl
 | ref _=>cases r;rfl
 | ty _=>cases r;rfl
theorem RelV.inj {x y:V} {u:Value} (r:RelV x u) (q:RelV y u):x = y:=Option.some.inj (r.abs.symm.trans q.abs)
theorem Vals.inj:∀ {xs ys:List V} {us:List Value},Vals xs us -> Vals ys us -> xs = ys
 | _,_,_,.nil,.nil=>rfl
 | _,_,_,.cons r t,.cons r' t'=>by rw [r.inj r',Vals.inj t t']
section
variable {X:Cx} {pins:List (Addr × Obj)} {σ:St} {H:Hp} {s:Shared} {a:Addr} {xs ys:List V}
theorem dm.of {K:PySem.W.Frag} (h:H a = some (.lst xs)):dm K H a xs:=.inl (.inl h)
theorem aA.of {K:PySem.W.Frag} (h:H a = some (.tup xs)):aA K H a xs:=.inl (.inl h)
theorem Inv.list (I:Inv X pins σ H s) (h:dm X.K H a xs):∃ ai:List Value,Vals xs ai /\ PlainL s.heap a ai.toArray /\ xs.length <= sizeLine:=by
 rcases h with h | ⟨o,ai,n,hk,hc,hd,hs,hz,r⟩
 ·obtain ⟨z,ai,n,r,e⟩:=h.ok I.cQ
  exact ⟨ai,r,⟨_,n,e,rfl,rfl,rfl⟩,z⟩
 ·refine ⟨ai.toList,r,⟨o,n,I.xb a o hk,hc,hd,by simpa using hs⟩,?_⟩
  have e:=r.length
  simp only [Array.length_toList] at e
  omega
theorem Inv.tuple (I:Inv X pins σ H s) (h:aA X.K H a xs):∃ ai:List Value,Vals xs ai /\ IsTup s.heap a ai.toArray /\ xs.length <= sizeLine:=by
 rcases h with h | ⟨o,ai,n,hk,hc,hs,hz,r⟩
 ·obtain ⟨z,ai,r,p⟩:=h.ok I.cQ
  exact ⟨ai,r,p,z⟩
 ·refine ⟨ai.toList,r,⟨o,I.xb a o hk,hc,n,by simpa using hs⟩,?_⟩
  have e:=r.length
  simp only [Array.length_toList] at e
  omega
theorem Inv.jB (I:Inv X pins σ H s) (h:dm X.K H a xs) (h':dm X.K H a ys):xs = ys:=by
 obtain ⟨ai,r,⟨o,n,e,_,_,d⟩,_⟩:=I.list h
 obtain ⟨its',r',⟨o',n',e',_,_,d'⟩,_⟩:=I.list h'
 rw [e] at e';cases e'
 rw [d] at d'
 injection d' with d1 _
 have:ai = its':=by simpa using congrArg Array.toList d1
 subst this
 exact r.inj r'
theorem Inv.oK (I:Inv X pins σ H s) (h:aA X.K H a xs) (h':aA X.K H a ys):xs = ys:=by
 obtain ⟨ai,r,⟨o,e,_,n,d⟩,_⟩:=I.tuple h
 obtain ⟨its',r',⟨o',e',_,n',d'⟩,_⟩:=I.tuple h'
 rw [e] at e';cases e'
 rw [d] at d'
 injection d' with d1 _
 have:ai = its':=by simpa using congrArg Array.toList d1
 subst this
 exact r.inj r'
end
noncomputable abbrev Cx.nP (X:Cx) (E:Value -> Shared -> Prop):Cx:={ X with xe:=E }
noncomputable abbrev Cx.K8 (X:Cx):Cx:=X.nP fun _ _=>False
theorem Cx.Ok.nP {X:Cx} (ok:X.Ok) (E:Value -> Shared -> Prop):(X.nP E).Ok :=
 ⟨ok.mod,ok.kind,ok.glob,ok.blt,ok.above,ok.inj,ok.has,ok.M8,ok.hd,ok.frames,ok.Nz,ok.Wb,ok.bs,ok.EN,ok.zo,ok.C9,ok.kY,ok.Jz⟩
theorem Cx.Ok.gG {X:Cx} {E:Value -> Shared -> Prop} (ok:(X.nP E).Ok):X.Ok :=
 ⟨ok.mod,ok.kind,ok.glob,ok.blt,ok.above,ok.inj,ok.has,ok.M8,ok.hd,ok.frames,ok.Nz,ok.Wb,ok.bs,ok.EN,ok.zo,ok.C9,ok.kY,ok.Jz⟩
section
variable {X:Cx} {pins:List (Addr × Obj)} {σ:St} {H:Hp} {s:Shared} {E:Value -> Shared -> Prop}
theorem Inv.nP (I:Inv X pins σ H s) (E:Value -> Shared -> Prop):Inv (X.nP E) pins σ H s:=⟨I.ok.nP E,I.os,I.bare,I.base,I.loc,I.cell,I.free,I.iR,I.pin,I.cQ,I.len⟩
theorem Inv.gG (I:Inv (X.nP E) pins σ H s):Inv X pins σ H s:=⟨I.ok.gG,I.os,I.bare,I.base,I.loc,I.cell,I.free,I.iR,I.pin,I.cQ,I.len⟩
theorem SP.gG {D:Ends} {f:Flow} {s':Shared} (h:SP (X.nP E) pins D f s'):SP X pins D f s':=by
 cases f with
 | next=>obtain ⟨σ',H',I,q⟩:=h;exact ⟨σ',H',I.gG,q⟩
 | brk=>obtain ⟨σ',H',I,q⟩:=h;exact ⟨σ',H',I.gG,q⟩
 | cont=>obtain ⟨σ',H',I,q⟩:=h;exact ⟨σ',H',I.gG,q⟩
 | ret u=>obtain ⟨v,σ',H',I,r,q⟩:=h;exact ⟨v,σ',H',I.gG,r,q⟩
theorem lO.K8 {st:List Stmt} {t:TS} (h:lO X.K8 st t):lO X st t:=fun pins s σ H D I hw =>
 wpAny_mono (h pins s σ H D (I.nP _) hw) (fun _ _ q=>q.gG) fun _ _ z=>False.elim z
end
section
variable {X:Cx} {st:Stmt} {rest:List Stmt} {t u:TS} {e:Expr} {te:TE} {pos:Pos}
noncomputable def D3:TS:=fun D σ H=>D.nx σ H
noncomputable def OM (t u:TS):TS:=fun D σ H=>t { D with nx:=u D } σ H
theorem B5:lO X [] D3:=fun _ _ σ H _ I h=>wpAny_execs_nil ⟨σ,H,I,h⟩
theorem yM (h1:PS X st t) (h2:lO X rest u):lO X (st :: rest) (OM t u):=by
 intro pins s σ H D I h
 refine wpAny_execs_cons (cI (h1 pins s σ H { D with nx:=u D } I h) fun f s1 q=>?_)
 cases f with
 | next =>
  obtain ⟨σ',H',I',q⟩:=q
  exact h2 pins s1 σ' H' D I' q
 | ret v=>exact q
 | brk=>exact q
 | cont=>exact q
noncomputable def Fm:TS:=fun D σ H=>D.bk σ H
noncomputable def J9:TS:=fun D σ H=>D.ct σ H
theorem NM:PS X (.Pass pos) D3:=fun _ _ σ H _ I h=>wpAny_Pass ⟨σ,H,I,h⟩
theorem KP:PS X (.Break pos) Fm:=fun _ _ σ H _ I h=>wpAny_Break ⟨σ,H,I,h⟩
theorem Ed:PS X (.Continue pos) J9:=fun _ _ σ H _ I h=>wpAny_Continue ⟨σ,H,I,h⟩
theorem Inv.quiet {pins:List (Addr × Obj)} {σ:St} {H:Hp} {s:Shared} (I:Inv X pins σ H s):interactive X.env = false:=by simp [interactive,I.ok.kind]
noncomputable def J8 (te:TE):TS:=fun D σ H=>te σ H fun _ H1=>D.nx σ H1
theorem lA (he:PE X e te) (hs:swapsWith e none pos.line X.env = pure false:=by rfl):PS X (.Expr e pos) (J8 te):=by
 intro pins s σ H D I h
 exact wpAny_Expr_any (cI (he pins s σ H _ I h) fun v s1 ⟨x,H1,I1,r1,q1⟩=>⟨σ,H1,I1,q1⟩) I.quiet hs
noncomputable def ON (te:TE):TS:=fun D σ H=>te σ H D.rt
theorem FW (he:PE X e te):PS X (.Return (some e) pos) (ON te):=by
 intro pins s σ H D I h
 exact wpAny_Return_some (cI (he pins s σ H _ I h) fun v s1 ⟨x,H1,I1,r1,q1⟩=>⟨x,σ,H1,I1,r1,q1⟩)
noncomputable def J3:TS:=fun D _ H=>D.rt .bC H
theorem NL:PS X (.Return none pos) J3:=fun _ _ σ H _ I h=>wpAny_Return_none ⟨.bC,σ,H,I,rfl,h⟩
noncomputable def OR (c:TT) (t u:TS):TS:=fun D σ H=>c σ H fun b H1=>if b = true then t D σ H1 else u D σ H1
theorem KO {c:Expr} {a b:List Stmt} {tc:TT} (hc:PT X c tc) (ha:lO X a t) (hb:lO X b u):PS X (.If c a b pos) (OR tc t u):=by
 intro pins s σ H D I h
 refine wpAny_If (cI (hc pins s σ H _ I h) fun d s1 ⟨H1,I1,q1⟩=>?_)
 cases d with
 | true=>exact ha pins s1 σ H1 D I1 q1
 | false=>exact hb pins s1 σ H1 D I1 q1
end
noncomputable abbrev TG:=V -> St -> Hp -> (St -> Hp -> Prop) -> Prop
noncomputable abbrev DM:=List V -> St -> Hp -> (St -> Hp -> Prop) -> Prop
noncomputable def PG (X:Cx) (target:Expr) (t:TG):Prop :=
 ∀ (pins:List (Addr × Obj)) (s:Shared) (σ:St) (H:Hp) (v:V) (u:Value) (Q:St -> Hp -> Prop),Inv X pins σ H s -> RelV v u -> t v σ H Q ->
  wpAny (model X.prog X.w) X.A (assign target X.env u) (fun _ s'=>∃ σ' H',Inv X pins σ' H' s' /\ Q σ' H') X.xe s
noncomputable def JH (X:Cx) (ts:List Expr) (t:DM):Prop :=
 ∀ (pins:List (Addr × Obj)) (s:Shared) (σ:St) (H:Hp) (vs:List V) (us:List Value) (Q:St -> Hp -> Prop),Inv X pins σ H s -> Vals vs us -> t vs σ H Q ->
  wpAny (model X.prog X.w) X.A (assignInOrder ((assignEach ts X.env).map (·.2)) us) (fun _ s'=>∃ σ' H',Inv X pins σ' H' s' /\ Q σ' H') X.xe s
noncomputable abbrev IL:=V -> V -> V -> Hp -> (Hp -> Prop) -> Prop
noncomputable def Nl (X:Cx) (t:IL):Prop :=
 ∀ (pins:List (Addr × Obj)) (s:Shared) (σ:St) (H:Hp) (o i v:V) (ov iv u:Value) (Q:Hp -> Prop),Inv X pins σ H s -> RelV o ov -> RelV i iv -> RelV v u -> t o i v H Q ->
  wpAny (model X.prog X.w) X.A (setItem ov iv u) (fun _ s'=>∃ H',Inv X pins σ H' s' /\ Q H') X.xe s
noncomputable abbrev Ox:=V -> V -> Hp -> VK -> Prop
noncomputable def U3 (X:Cx) (op:Operator) (t:Ox):Prop :=
 ∀ (pins:List (Addr × Obj)) (s:Shared) (σ:St) (H:Hp) (x y:V) (v u:Value) (Q:VK),Inv X pins σ H s -> RelV x v -> RelV y u -> t x y H Q ->
  wpAny (model X.prog X.w) X.A (inplaceOp op v u) (EP X pins σ Q) X.xe s
section
variable {X:Cx} {pos:Pos}
noncomputable def o6 (i:Nat):TG:=fun v σ H Q=>Q (σ.set i (some v)) H
theorem pW {i:Nat} {x:Str} (hN:X.N.Nodup) (hi:X.N[i]? = some x) (hx:Loc X.env.scope x) (hf:X.fn x = true \/ X.env.scope.names.lookup x = some .local:=by first | exact .inl rfl | exact .inr rfl | assumption):PG X (.Name x pos) (o6 i):=by
 intro pins s σ H v u Q I r h
 exact wpAny_assign_Name (jt I hN hi hx r (fun s' I'=>⟨_,H,I',h⟩) hf)
noncomputable def HE:DM:=fun vs σ H Q=>vs = [] /\ Q σ H
noncomputable def Ak (t:TG) (u:DM):DM:=fun vs σ H Q=>∃ v r,vs = v :: r /\ t v σ H fun σ' H'=>u r σ' H' Q
theorem vc:JH X [] HE:=by
 intro pins s σ H vs us Q I r h
 obtain ⟨e,h⟩:=h
 subst e
 cases r
 exact assignInOrder_nil ⟨σ,H,I,h⟩
theorem rJ {e:Expr} {es:List Expr} {t:TG} {u:DM} (h1:PG X e t) (h2:JH X es u)
  (hs:(assignEach (e :: es) X.env).map (·.2) = assign e X.env :: (assignEach es X.env).map (·.2):=by rfl):JH X (e :: es) (Ak t u):=by
 intro pins s σ H vs us Q I r h
 obtain ⟨v,vr,e1,h⟩:=h
 subst e1
 cases r with
 | cons r rr =>
  rw [hs]
  refine assignInOrder_cons (cI (h1 pins s σ H _ _ _ I r h) fun _ s1 ⟨σ1,H1,I1,q1⟩=>?_)
  exact h2 pins s1 σ1 H1 _ _ Q I1 rr q1
noncomputable def SU (K:PySem.W.Frag) (n:Nat) (t:DM):TG:=fun v σ H Q=>∃ a xs,v = .ref a /\ aA K H a xs /\ xs.length = n /\ t xs σ H Q
theorem yT {es:List Expr} {k:Nat} {t:DM} {n:Nat} (hc:X.calm = true) (h:JH X es t)
  (hn:(assignEach es X.env).length = n:=by rfl) (o3:(assignEach es X.env).findIdx? (·.1) = none:=by rfl):PG X (.Tuple es k pos) (SU X.K n t):=by
 intro pins s σ H v u Q I r hw
 obtain ⟨a,xs,e1,hq,hl,hw⟩:=hw
 subst e1
 cases r
 obtain ⟨ai,rv,ht,hz⟩:=I.tuple hq
 refine assign_Tuple_tuple (I.ok.hd hc) ht (by simp [hn,<- hl,rv.length]) o3 fun h' hx=>?_
 have I1:Inv X pins σ H { s with heap:=h' }:=I.kept (t':=s.toks) fun b o e=>hx b o (Nat.ne_of_lt (Heap.lt_size e)) e
 exact h pins _ σ H xs _ Q I1 (by simpa using rv) hw
noncomputable def SV (to ti:TE) (t:IL):TG:=fun v σ H Q=>to σ H fun o H1=>ti σ H1 fun i H2=>t o i v H2 fun H3=>Q σ H3
theorem Ga {o i:Expr} {to ti:TE} {t:IL} (ho:PE X o to) (hi:PE X i ti) (hs:Nl X t)
  (ha:∀ v,assign (.Subscript o i pos) X.env v = (do
   let ov <- holding [v] (eval o X.env)
   let iv <- holding [v,ov] (eval i X.env)
   standAt pos
   holding [v,ov,iv] (setItem ov iv v)
   release [v,ov,iv] []):=by intro _;rfl):PG X (.Subscript o i pos) (SV to ti t):=by
 intro pins s σ H v u Q I r h
 rw [ha]
 refine wpAny_bind (wpAny_holding (cI (ho pins s σ H _ I h) fun ov s1 ⟨x,H1,I1,r1,q1⟩=>?_))
 refine wpAny_bind (wpAny_holding (cI (hi pins s1 σ H1 _ I1 q1) fun iv s2 ⟨y,H2,I2,r2,q2⟩=>?_))
 refine wpAny_bind (wpAny_standAt (wpAny_bind (wpAny_holding (cI (hs pins s2 σ H2 x y v ov iv u _ I2 r1 r2 r q2) fun _ s3 ⟨H3,I3,q3⟩=>?_))))
 exact wpAny_release ⟨σ,H3,I3,q3⟩
noncomputable def OV (te:TE) (g:TG):TS:=fun D σ H=>te σ H fun x H1=>g x σ H1 D.nx
theorem yQ {tg e:Expr} {te:TE} {g:TG} (he:PE X e te) (hg:PG X tg g) (hs:swapsWithSole [tg] e pos.line X.env = pure false:=by rfl) (hw:swappedStores [tg] e X.env = pure none:=by rfl)
  (h1:(assignEach [tg] X.env).map (·.2) = [assign tg X.env]:=by rfl):PS X (.Assign [tg] e pos) (OV te g):=by
 intro pins s σ H D I h
 refine wpAny_Assign_stores (cI (he pins s σ H _ I h) fun v s1 ⟨x,H1,I1,r1,q1⟩=>?_) hs hw
 rw [h1]
 exact cI (hg pins s1 σ H1 x v _ I1 r1 q1) fun _ s2 q=>q
noncomputable def OO (i j:Nat) (ta:TA):TS:=fun D σ H=>ta σ H fun vs H1=>∃ v w,vs = [v,w] /\ D.nx ((σ.set i (some v)).set j (some w)) H1
theorem FX {i j:Nat} {x y:Str} {a b:Expr} {ta:TA} {px py pt:Pos} {kt k2 IW} (hc:X.calm = true) (hN:X.N.Nodup) (hi:X.N[i]? = some x) (hj:X.N[j]? = some y) (iQ:i ≠ j)
  (hx:X.env.scope.names.lookup x = some .local) (hy:X.env.scope.names.lookup y = some .local) (ha:PA X [a,b] ta)
  (hw:swappedStores [.Tuple [.Name x px,.Name y py] kt pt] (.Tuple [a,b] k2 IW) X.env = pure (some [x,y]))
  (hs:swapsWithSole [.Tuple [.Name x px,.Name y py] kt pt] (.Tuple [a,b] k2 IW) pos.line X.env = pure false:=by rfl) :
  PS X (.Assign [.Tuple [.Name x px,.Name y py] kt pt] (.Tuple [a,b] k2 IW) pos) (OO i j ta):=by
 intro pins s σ H D I h
 rw [exec_Assign_arm]
 refine wpAny_bind (wpAny_standAt ?_)
 rw [hs]
 refine wpAny_bind (wpAny_pure ?_)
 rw [if_neg (by decide)]
 refine wpAny_bind (Tuple_ (cI (ha _ pins s σ H _ I h) fun us s1 ⟨vs,H1,I1,r1,q1⟩=>?_))
 obtain ⟨v,w,e1,q1⟩:=q1
 subst e1
 obtain ⟨u1,u2,rfl,rv,jw⟩:∃ u1 u2,us = [u1,u2] /\ RelV v u1 /\ RelV w u2:=by
  cases r1 with
  | cons p q =>
   cases q with
   | cons p' q' =>
    cases q'
    exact ⟨_,_,rfl,p,p'⟩
 refine wpAny_newObj_type ?_ (by show 2 <= sizeLine;decide)
 have I2:Inv X pins σ H1 { s1 with heap:=s1.heap.push { cls:=.type "tuple",data:=.seq [u1,u2].toArray } }:=I1.kept (t':=s1.toks) fun b o e=>Heap.get?_push_of_some _ e
 rw [hw]
 refine wpAny_bind (wpAny_pure ?_)
 show wpAny (model X.prog X.w) X.A (do rule "assign.swapped-stores";let items <- unpackItems (.ref s1.heap.objs.size) 2 none;assignInOrder [fun v=>bindName X.env y v,fun v=>bindName X.env x v] items.reverse;pure Flow.next) _ _ _
 refine wpAny_bind (wpAny_rule (wpAny_bind (unpackItems_tuple (items:=#[u1,u2]) (I.ok.hd hc) (IsTup.new s1.heap _) fun h' CL=>?_)))
 have I3:=I2.kept (h':=h') (t':=s1.toks) fun b o e=>CL b o (Nat.ne_of_lt (Heap.lt_size e)) e
 show wpAny _ _ (assignInOrder [fun v=>bindName X.env y v,fun v=>bindName X.env x v] [u2,u1] >>= fun _=>pure Flow.next) _ _ _
 refine wpAny_bind (assignInOrder_cons (wpAny_bindName (jt I3 hN hj (.inl hy) jw (fun s2 I4=>?_) (.inr hy))))
 refine assignInOrder_cons (wpAny_bindName (jt I4 hN hi (.inl hx) rv (fun s3 I5=>assignInOrder_nil (wpAny_pure ?_)) (.inr hx)))
 rw [List.set_comm _ _ (Ne.symm iQ)] at I5
 exact ⟨_,H1,I5,q1⟩
noncomputable def OU (i:Nat) (te:TE) (ti:Ox):TS:=fun D σ H=>∃ x,σ[i]? = some (some x) /\ te σ H fun y H1=>ti x y H1 fun z H2=>D.nx (σ.set i (some z)) H2
theorem PQ {i:Nat} {x:Str} {e:Expr} {te:TE} {op:Operator} {ti:Ox} {pos':Pos} (hN:X.N.Nodup) (hi:X.N[i]? = some x) (hx:Loc X.env.scope x) (he:PE X e te) (ho:U3 X op ti) (hf:X.fn x = true \/ X.env.scope.names.lookup x = some .local:=by first | exact .inl rfl | exact .inr rfl | assumption) :
  PS X (.AugAssign (.Name x pos') op e pos) (OU i te ti):=by
 intro pins s σ H D I h
 obtain ⟨v,e1,h⟩:=h
 obtain ⟨m,hn,hl⟩:=I.loc
 have Np:IJ X.env.scope x:=by rcases hx with k | k;exact .inl k;exact .inr (.inl k)
 obtain ⟨u,r,l⟩:=hl i x v hi e1 Np
 refine wpAny_AugAssign_Name ?_
 have go:wpAny (model X.prog X.w) X.A (eval e X.env) (fun w s₂=>wpAny (model X.prog X.w) X.A (inplaceOp op u w) (fun r s₃=>wpAny (model X.prog X.w) X.A (storeName X.env x r) (fun _=>SP X pins D .next) X.xe s₃) X.xe s₂) X.xe s:=by
  refine cI (he pins s σ H _ I h) fun w s1 ⟨y,H1,I1,r1,q1⟩=>?_
  refine cI (ho pins s1 σ H1 v y u w _ I1 r r1 q1) fun z s2 ⟨zv,H2,I2,r2,q2⟩=>?_
  exact jt I2 hN hi hx r2 (fun s3 I3=>⟨_,H2,I3,q2⟩) hf
 rcases l with ⟨hk,hm⟩ | ⟨hk,c,hc,hcell⟩
 ·exact wpAny_loadName_local I.ok.kind hk hn hm go
 ·rcases hk with hk | hk
  ·exact wpAny_loadName_cell I.ok.kind hk hc hcell go
  ·rcases hx with k | k
   ·have:X.env.scope.names.lookup x = some .free:=hk
    rw [k] at this;cases this
   ·have:X.env.scope.names.lookup x = some .free:=hk
    rw [k] at this;cases this
noncomputable def VL (f:Int -> Int -> Int):Ox:=fun x y H Q=>∃ i j,x = .int i /\ y = .int j /\ Q (.int (f i j)) H
theorem RI:U3 X .Add (VL fun i j=>i + j):=by
 intro pins s σ H x y v u Q I r1 r2 h
 obtain ⟨i,j,e1,e2,q⟩:=h
 subst e1;subst e2
 obtain ⟨t,rfl⟩:=r1
 obtain ⟨t',rfl⟩:=r2
 exact iadd_int ⟨.int _,H,I.tok _,⟨_,rfl⟩,q⟩
theorem RH:U3 X .Sub (VL fun i j=>i - j):=by
 intro pins s σ H x y v u Q I r1 r2 h
 obtain ⟨i,j,e1,e2,q⟩:=h
 subst e1;subst e2
 obtain ⟨t,rfl⟩:=r1
 obtain ⟨t',rfl⟩:=r2
 exact isub_int ⟨.int _,H,I.tok _,⟨_,rfl⟩,q⟩
end
section
variable {X:Cx} {pos:Pos}
noncomputable def Fj (c:TT) (tb:TS):TS:=fun D σ H=>∃ W:Nat -> St -> Hp -> Prop,(∃ m,W m σ H) /\ ∀ m σ H,W m σ H ->
 c σ H fun b H1=>if b = true then ∃ N:St -> Hp -> Prop,(∀ σ' H',N σ' H' -> ∃ m',m' < m /\ W m' σ' H') /\ tb { D with nx:=N,ct:=N,bk:=D.nx } σ H1 else D.nx σ H1
theorem yN {c:Expr} {body:List Stmt} {tc:TT} {tb:TS} (hp:PassesOwn (model X.prog X.w) X.A X.env X.xe) (hc:PT X c tc) (hb:lO X body tb):PS X (.While c body [] pos) (Fj tc tb):=by
 intro pins s σ H D I h
 obtain ⟨W,⟨m0,w0⟩,turn⟩:=h
 refine wpAny_While (codeAny_whileLoop (fun n s'=>∃ σ' H',Inv X pins σ' H' s' /\ W n σ' H') ?_ m0 ⟨σ,H,I,w0⟩)
 rintro n s1 ⟨σ1,H1,I1,w1⟩
 refine wpAny_passesOwn hp (cI (hc pins s1 σ1 H1 _ I1 (turn n σ1 H1 w1)) fun b s2 ⟨H2,I2,q2⟩=>?_)
 cases b with
 | true =>
  obtain ⟨N,hN,q2⟩:=q2
  rw [if_pos rfl]
  refine wpAny_passesOwn hp (cI (hb pins s2 σ1 H2 _ I2 q2) fun f s3 q3=>?_)
  cases f with
  | next =>
   obtain ⟨σ3,H3,I3,n3⟩:=q3
   obtain ⟨m',hm,w3⟩:=hN σ3 H3 n3
   exact ⟨m',hm,σ3,H3,I3,w3⟩
  | cont =>
   obtain ⟨σ3,H3,I3,n3⟩:=q3
   obtain ⟨m',hm,w3⟩:=hN σ3 H3 n3
   exact ⟨m',hm,σ3,H3,I3,w3⟩
  | brk=>exact q3
  | ret v=>exact q3
 | false =>
  rw [if_neg Bool.false_ne_true]
  exact wpAny_execs_nil ⟨σ1,H2,I2,q2⟩
end
structure It where
 go:Nat -> Hp -> Prop
 sW:Nat -> Hp -> V -> Hp -> Prop
 stop:Nat -> Hp -> Prop
noncomputable def nI (X:Cx) (pins:List (Addr × Obj)) (H:Hp) (b:Addr):Prop :=
 H b = none /\ b ≠ X.env.locals /\ b ∉ X.fs /\ (b ∈ X.ex \/ X.s₀.heap.objs.size <= b) /\ (∀ x c,X.env.cells.lookup x = some c -> c ≠ b) /\ ∀ p ∈ X.pn ++ pins,p.1 ≠ b
theorem Inv.An {X:Cx} {pins:List (Addr × Obj)} {σ:St} {H H':Hp} {s:Shared} {b:Addr} (I:Inv X pins σ H s) (hb:s.heap.objs.size <= b) (hn:H' b = none):nI X pins H' b:=by
 refine ⟨hn,Nat.ne_of_gt (Nat.lt_of_lt_of_le I.lt hb),I.GG hb,.inr (Nat.le_trans I.sz hb),fun x c e z=>?_,fun p hp z=>?_⟩
 ·obtain ⟨v,q⟩:=I.cell x c e
  exact absurd (Nat.lt_of_lt_of_le q.lt (by rw [z];exact hb)) (Nat.lt_irrefl _)
 ·exact absurd (Nat.lt_of_lt_of_le (Heap.lt_size (I.pin p hp).1) (by rw [z];exact hb)) (Nat.lt_irrefl _)
structure Turn (P:Program) (w:World) (K:PySem.W.Frag) (tg:Expr) (J:It) (fp:List Addr) (it:Addr) (tn:Nat -> Heap -> Prop):Prop where
 mem:it ∈ fp
 obj:∀ i h,tn i h -> ∀ b ∈ fp,∃ o,h.get? b = some o /\ ∀ v,o.data ≠ .cell v
 keep:∀ i h h',tn i h -> (∀ b ∈ fp,∀ o,h.get? b = some o -> h'.get? b = some o) -> tn i h'
 item:∀ (X:Cx),X.prog = P -> X.w = w -> X.K = K -> X.calm = true -> ∀ (i:Nat) (pins:List (Addr × Obj)) (s:Shared) (σ:St) (H:Hp) (E:Value -> Shared -> Prop),Inv X pins σ H s -> (∀ b ∈ fp,nI X pins H b) -> tn i s.heap -> J.go i H ->
  wpAny (model P w) X.A (pyNext (.ref it)) (fun r s1=>∃ u,r = some u /\
   wpAny (model P w) X.A (letOwnedTupleGo tg (.ref it) u) (fun _ s2=>∃ x H',Inv X pins σ H' s2 /\ RelV x u /\ J.sW i H x H' /\ tn (i + 1) s2.heap /\ ∀ b ∈ fp,H' b = none) E s1) E s
 done:∀ (X:Cx),X.prog = P -> X.w = w -> X.K = K -> X.calm = true -> ∀ (i:Nat) (pins:List (Addr × Obj)) (s:Shared) (σ:St) (H:Hp) (E:Value -> Shared -> Prop),Inv X pins σ H s -> (∀ b ∈ fp,nI X pins H b) -> tn i s.heap -> J.stop i H ->
  wpAny (model P w) X.A (pyNext (.ref it)) (fun r s1=>r = none /\ Inv X pins σ H s1) E s
 self:∀ (A:Around) (i:Nat) (s:Shared) (Q:Value -> Shared -> Prop) (E:Value -> Shared -> Prop),tn i s.heap -> Q (.ref it) s -> wpAny (model P w) A (pyIter (.ref it)) Q E s
noncomputable abbrev TI:=St -> Hp -> (It -> Hp -> Prop) -> Prop
noncomputable def AY (X:Cx) (pins:List (Addr × Obj)) (σ:St) (tg:Expr) (R:It -> Hp -> Prop) (Ry:Value) (s2:Shared):Prop :=
 ∃ (it:Addr) (fp:List Addr) (tn:Nat -> Heap -> Prop) (J:It) (H':Hp),Ry = .ref it /\ Inv X pins σ H' s2 /\ Turn X.prog X.w X.K tg J fp it tn /\ tn 0 s2.heap /\ (∀ b ∈ fp,nI X pins H' b) /\ R J H'
noncomputable def PI (X:Cx) (tg iter:Expr) (wi:TI):Prop :=
 ∀ (pins:List (Addr × Obj)) (s:Shared) (σ:St) (H:Hp) (R:It -> Hp -> Prop),Inv X pins σ H s -> wi σ H R ->
  wpAny (model X.prog X.w) X.A (eval iter X.env) (fun v s1=>wpAny (model X.prog X.w) X.A (pyIter v) (AY X pins σ tg R) X.xe s1) X.xe s
theorem vQ {M:Model} {A:Around} {E:Value -> Shared -> Prop} {s:Shared} {tg:Expr} {it:Addr} {u:Value} {o:Obj} {n:String} {vs:Array Value} {Q:Unit -> Shared -> Prop} (ho:s.heap.get? it = some o) (hc:o.cls = .type n) (hd:o.data = .fields vs)
    (hn:["enumerate","zip","dict_itemiterator","dict_reverseitemiterator","odict_iterator","itertools.zip_longest","itertools.pairwise"].contains n = false) (hQ:Q () s):wpAny M A (letOwnedTupleGo tg (.ref it) u) Q E s:=by
  unfold letOwnedTupleGo
  cases tg <;> first
    | exact wpAny_pure hQ
    | (cases u <;> first
        | exact wpAny_pure hQ
        | (refine wpAny_bind (wpAny_load ho ?_)
           rw [hc,hd]
           show wpAny M A (if (["enumerate","zip","dict_itemiterator","dict_reverseitemiterator","odict_iterator","itertools.zip_longest","itertools.pairwise"].contains n && vs[0]? == some (rawInt _)) = true then _ else _) Q E s
           rw [if_neg (by intro h;rw [hn,Bool.false_and] at h;cases h)]
           exact wpAny_pure hQ))
noncomputable def JJ (K:PySem.W.Frag) (a:Addr):It :=
 ⟨fun i H=>∃ xs x,dm K H a xs /\ xs[i]? = some x,fun i H x H'=>H' = H /\ ∀ xs,dm K H a xs -> xs[i]? = some x,fun i H=>∃ xs,dm K H a xs /\ xs.length <= i⟩
noncomputable def JI (K:PySem.W.Frag) (a:Addr):It :=
 ⟨fun i H=>∃ xs x,aA K H a xs /\ xs[i]? = some x,fun i H x H'=>H' = H /\ ∀ xs,aA K H a xs -> xs[i]? = some x,fun i H=>∃ xs,aA K H a xs /\ xs.length <= i⟩
noncomputable def xW (lo:Int) (n:Nat):It:=⟨fun i _=>i < n,fun i H x H'=>H' = H /\ x = .int (lo + i),fun i _=>n <= i⟩
theorem wG {P:Program} {w:World} {K:PySem.W.Frag} {tg:Expr} (a it:Addr):Turn P w K tg (JJ K a) [it] it (fun i h=>h.IsListIter it a i) where
 mem:=by simp
 obj:=fun i h st b hb=>by
  have e:b = it:=by simpa using hb
  subst e
  obtain ⟨o,e,c,d⟩:=st
  exact ⟨o,e,fun v z=>by rw [d] at z;cases z⟩
 keep:=fun i h h' st k=>st.at fun o e=>k it (by simp) o e
 item:=by
  intro X hP hw hK hc i pins s σ H E I hf st hg
  subst hP hw hK
  obtain ⟨xs,x,hq,hx⟩:=hg
  obtain ⟨ai,rv,p,hz⟩:=I.list hq
  obtain ⟨u,hu,ru⟩:=rv.get hx
  obtain ⟨f0,f1,f2,f3,f4,f5⟩:=hf it (by simp)
  refine wpAny_pyNext_list_item st p.isList (x:=u) (by simpa using hu) fun h' kS sb=>?_
  have I1:Inv X pins σ H { s with heap:=h' }:=I.turned (t':=s.toks) (fun b o hb e=>(sb.2 b hb).trans e) f0 f1 f3 f4 f5
  obtain ⟨o,e,c,d⟩:=id kS
  exact ⟨u,rfl,vQ (s:={ s with heap:=h' }) e c d (by decide) ⟨x,H,I1,ru,⟨rfl,fun ys hy=>by rw [I.jB hy hq];exact hx⟩,kS,fun b hb=>(hf b hb).1⟩⟩
 done:=by
  intro X hP hw hK hc i pins s σ H E I hf st hg
  subst hP hw hK
  obtain ⟨xs,hq,hx⟩:=hg
  obtain ⟨ai,rv,p,hz⟩:=I.list hq
  obtain ⟨f0,f1,f2,f3,f4,f5⟩:=hf it (by simp)
  have hl:=rv.length
  exact wpAny_pyNext_list_end (I.ok.hd hc) st p.isList (by simp;omega) fun h' eb=>⟨rfl,I.turned (t':=s.toks) (fun b o hb e=>eb b o hb e) f0 f1 f3 f4 f5⟩
 self:=fun _ _ _ _ _ st h=>wpAny_pyIter_listiter st h
theorem tw {P:Program} {w:World} {K:PySem.W.Frag} {tg:Expr} (a it:Addr):Turn P w K tg (JI K a) [it] it (fun i h=>h.IsTupleIter it a i) where
 mem:=by simp
 obj:=fun i h st b hb=>by
  have e:b = it:=by simpa using hb
  subst e
  obtain ⟨o,e,c,d⟩:=st
  exact ⟨o,e,fun v z=>by rw [d] at z;cases z⟩
 keep:=fun i h h' st k=>st.at fun o e=>k it (by simp) o e
 item:=by
  intro X hP hw hK hc i pins s σ H E I hf st hg
  subst hP hw hK
  obtain ⟨xs,x,hq,hx⟩:=hg
  obtain ⟨ai,rv,p,hz⟩:=I.tuple hq
  obtain ⟨u,hu,ru⟩:=rv.get hx
  obtain ⟨f0,f1,f2,f3,f4,f5⟩:=hf it (by simp)
  refine wpAny_pyNext_tuple_item st (show s.heap.IsTuple a ai.toArray from p) (x:=u) (by simpa using hu) fun h' kS sb=>?_
  have I1:Inv X pins σ H { s with heap:=h' }:=I.turned (t':=s.toks) (fun b o hb e=>(sb.2 b hb).trans e) f0 f1 f3 f4 f5
  obtain ⟨o,e,c,d⟩:=id kS
  exact ⟨u,rfl,vQ (s:={ s with heap:=h' }) e c d (by decide) ⟨x,H,I1,ru,⟨rfl,fun ys hy=>by rw [I.oK hy hq];exact hx⟩,kS,fun b hb=>(hf b hb).1⟩⟩
 done:=by
  intro X hP hw hK hc i pins s σ H E I hf st hg
  subst hP hw hK
  obtain ⟨xs,hq,hx⟩:=hg
  obtain ⟨ai,rv,p,hz⟩:=I.tuple hq
  obtain ⟨f0,f1,f2,f3,f4,f5⟩:=hf it (by simp)
  have hl:=rv.length
  exact wpAny_pyNext_tuple_end (I.ok.hd hc) st (show s.heap.IsTuple a ai.toArray from p) (by simp;omega) fun h' eb=>⟨rfl,I.turned (t':=s.toks) (fun b o hb e=>eb b o hb e) f0 f1 f3 f4 f5⟩
 self:=fun _ _ _ _ _ st h=>wpAny_pyIter_tupleiter st h
theorem tx {P:Program} {w:World} {K:PySem.W.Frag} {tg:Expr} (it:Addr) (lo:Int) (n:Nat):Turn P w K tg (xW lo n) [it] it (fun i h=>IsRangeIter h it (lo + (i:Nat) * 1) ((n:Int) - (i:Nat)) 1) where
 mem:=by simp
 obj:=fun i h st b hb=>by
  have e:b = it:=by simpa using hb
  subst e
  exact ⟨_,st,fun v z=>by
   have z':Data.fields _ = Data.cell v:=z
   cases z'⟩
 keep:=fun i h h' st k=>k it (by simp) _ st
 item:=by
  intro X hP hw hK hc i pins s σ H E I hf st hg
  subst hP hw hK
  obtain ⟨f0,f1,f2,f3,f4,f5⟩:=hf it (by simp)
  have W:=Walks.range (prog:=X.prog) (w:=X.w) (I.ok.hd hc) it lo 1 n
  refine W.item i s _ _ hg st fun v h' tk hv kS kk=>?_
  obtain ⟨t,rfl⟩:=hv
  have I1:Inv X pins σ H { s with heap:=h',toks:=tk }:=I.turned (fun b o hb e=>kk b o (by simpa using hb) e) f0 f1 f3 f4 f5
  refine ⟨_,rfl,vQ (s:={ s with heap:=h',toks:=tk }) (n:="range_iterator") kS rfl rfl (by decide) ⟨.int (lo + i),H,I1,⟨t,?_⟩,⟨rfl,rfl⟩,kS,fun b hb=>(hf b hb).1⟩⟩
  rw [Int.mul_one]
 done:=by
  intro X hP hw hK hc i pins s σ H E I hf st hg
  subst hP hw hK
  obtain ⟨f0,f1,f2,f3,f4,f5⟩:=hf it (by simp)
  exact wpAny_pyNext_range_end (I.ok.hd hc) st (by have:n <= i:=hg;omega) fun h' eb=>⟨rfl,I.turned (t':=s.toks) (fun b o hb e=>eb b o hb e) f0 f1 f3 f4 f5⟩
 self:=fun _ _ _ _ _ st h=>wpAny_pyIter_rangeiter st h
end L2
namespace L2
open PySem PySem.Spec PyProof.Rows
section
variable {X:Cx} {tg:Expr}
noncomputable def LG (K:PySem.W.Frag) (tl:TE):TI:=fun σ H R=>tl σ H fun x H1=>∃ a,x = .ref a /\ (∃ xs,dm K H1 a xs) /\ R (JJ K a) H1
noncomputable def RK (K:PySem.W.Frag) (tl:TE):TI:=fun σ H R=>tl σ H fun x H1=>∃ a,x = .ref a /\ (∃ xs,aA K H1 a xs) /\ R (JI K a) H1
theorem vb {l:Expr} {tl:TE} (hl:PE X l tl):PI X tg l (LG X.K tl):=by
 intro pins s σ H R I h
 refine cI (hl pins s σ H _ I h) fun v s1 ⟨x,H1,I1,r1,q1⟩=>?_
 obtain ⟨a,e,⟨xs,hq⟩,q⟩:=q1
 subst e
 cases r1
 obtain ⟨ai,rv,p,hz⟩:=I1.list hq
 refine wpAny_pyIter_list p.isList ?_
 refine ⟨s1.heap.objs.size,[s1.heap.objs.size],_,_,H1,rfl,I1.kept (t':=s1.toks) fun b o e=>Heap.get?_push_of_some _ e,wG a _,⟨_,Heap.get?_push_size _ rfl,rfl,rfl⟩,fun b hb=>?_,q⟩
 have e:b = s1.heap.objs.size:=by simpa using hb
 subst e
 exact I1.An (Nat.le_refl _) (I1.cQ.fresh (Nat.le_refl _))
theorem yS {l:Expr} {tl:TE} (hl:PE X l tl):PI X tg l (RK X.K tl):=by
 intro pins s σ H R I h
 refine cI (hl pins s σ H _ I h) fun v s1 ⟨x,H1,I1,r1,q1⟩=>?_
 obtain ⟨a,e,⟨xs,hq⟩,q⟩:=q1
 subst e
 cases r1
 obtain ⟨ai,rv,p,hz⟩:=I1.tuple hq
 refine wpAny_pyIter_tuple (show s1.heap.IsTuple a ai.toArray from p) ?_
 refine ⟨s1.heap.objs.size,[s1.heap.objs.size],_,_,H1,rfl,I1.kept (t':=s1.toks) fun b o e=>Heap.get?_push_of_some _ e,tw a _,⟨_,Heap.get?_push_size _ rfl,rfl,rfl⟩,fun b hb=>?_,q⟩
 have e:b = s1.heap.objs.size:=by simpa using hb
 subst e
 exact I1.An (Nat.le_refl _) (I1.cQ.fresh (Nat.le_refl _))
theorem rG {pins:List (Addr × Obj)} {σ:St} {H:Hp} {s:Shared} {R:It -> Hp -> Prop} {E:Value -> Shared -> Prop} {lo hi:Int} {t u v:Tok} {tk:Nat} (I:Inv X pins σ H s) (h1:-(2 ^ 62) <= lo) (h2:lo < 2 ^ 62) (h3:-(2 ^ 62) <= hi) (h4:hi < 2 ^ 62)
  (q:R (xW lo (hi - lo).toNat) H):wpAny (model X.prog X.w) X.A (pyIter (.ref s.heap.objs.size)) (AY X pins σ tg R) E { s with heap:=s.heap.push { cls:=.type "range",data:=.fields #[.int lo t,.int hi u,.int 1 v] },toks:=tk }:=by
 refine wpAny_pyIter_range (IsRange.new ..) (small_one h1 h2 h3 h4) ?_
 have I1:Inv X pins σ H { s with heap:=s.heap.push { cls:=.type "range",data:=.fields #[.int lo t,.int hi u,.int 1 v] },toks:=tk }:=I.kept fun b o e=>Heap.get?_push_of_some _ e
 refine ⟨(s.heap.push { cls:=.type "range",data:=.fields #[.int lo t,.int hi u,.int 1 v] }).objs.size,[(s.heap.push { cls:=.type "range",data:=.fields #[.int lo t,.int hi u,.int 1 v] }).objs.size],_,_,H,rfl,
  I1.kept (t':=tk) fun b o e=>Heap.get?_push_of_some _ e,tx _ lo (hi - lo).toNat,?_,fun b hb=>?_,q⟩
 ·have e1:lo + ((0:Nat):Int) * 1 = lo:=by simp
  have e2:(((hi - lo).toNat:Nat):Int) - ((0:Nat):Int) = Builtin.Range.rangeSize lo hi 1:=by rw [rangeSize_one];split <;> omega
  show IsRangeIter _ _ (lo + ((0:Nat):Int) * 1) ((((hi - lo).toNat:Nat):Int) - ((0:Nat):Int)) 1
  rw [e1,e2]
  exact Heap.get?_push_size _ rfl
 ·have e:b = (s.heap.push { cls:=.type "range",data:=.fields #[.int lo t,.int hi u,.int 1 v] }).objs.size:=by simpa using hb
  subst e
  exact I1.An (Nat.le_refl _) (I1.cQ.fresh (Nat.le_refl _))
noncomputable def LF (ta:TA):TI:=fun σ H R=>ta σ H fun vs H1=>∃ j:Int,vs = [.int j] /\ -(2 ^ 62) <= j /\ j < 2 ^ 62 /\ R (xW 0 j.toNat) H1
noncomputable def LD (ta:TA):TI:=fun σ H R=>ta σ H fun vs H1=>∃ i j:Int,vs = [.int i,.int j] /\ (-(2 ^ 62) <= i /\ i < 2 ^ 62 /\ -(2 ^ 62) <= j /\ j < 2 ^ 62) /\ R (xW i (j - i).toNat) H1
theorem oV {a:Expr} {ta:TA} {p pos:Pos} (hg:Gl X "range") (hm:X.mg "range" = none) (ha:PA X [a] ta) (hs:starEach [a] X.env = [(false,eval a X.env)]:=by rfl):PI X tg (.Call (.Name "range" p) [a] [] pos) (LF ta):=by
 intro pins s σ H R I h
 refine Call_ (ft I hg hm boot_range (PyProof.Rows.callWith_type1 (cI (ha pos pins s σ H _ I h) fun us s1 ⟨vs,H1,I1,r1,q1⟩=>?_) hs rfl))
 obtain ⟨j,e,q1,q2,q⟩:=q1
 subst e
 cases r1 with
 | cons r rr =>
  cases rr
  obtain ⟨t,rfl⟩:=r
  exact call_range_1 (rG I1 (by omega) (by omega) q1 q2 (by simpa using q))
theorem IY {a b:Expr} {ta:TA} {p pos:Pos} (hg:Gl X "range") (hm:X.mg "range" = none) (ha:PA X [a,b] ta) (hs:starEach [a,b] X.env = [(false,eval a X.env),(false,eval b X.env)]:=by rfl) (Jj:starEach [b] X.env = [(false,eval b X.env)]:=by rfl) :
  PI X tg (.Call (.Name "range" p) [a,b] [] pos) (LD ta):=by
 intro pins s σ H R I h
 refine Call_ (ft I hg hm boot_range (PyProof.Rows.callWith_type1 (cI (ha pos pins s σ H _ I h) fun us s1 ⟨vs,H1,I1,r1,q1⟩=>?_) (by rw [hs,Jj]) (by rw [Jj];rfl)))
 obtain ⟨i,j,e,⟨q1,q2,q3,q4⟩,q⟩:=q1
 subst e
 cases r1 with
 | cons r rr =>
  cases rr with
  | cons r' rr =>
   cases rr
   obtain ⟨t,rfl⟩:=r
   obtain ⟨t',rfl⟩:=r'
   exact call_range_2 (rG I1 q1 q2 q3 q4 q)
noncomputable def OS (wi:TI) (g:TG) (tb:TS):TS:=fun D σ H=>wi σ H fun J H1=>∃ W:Nat -> Nat -> St -> Hp -> Prop,(∃ m,W 0 m σ H1) /\ ∀ i m σ H,W i m σ H ->
 (J.stop i H /\ D.nx σ H) \/ (J.go i H /\ ∃ N:St -> Hp -> Prop,(∀ σ' H',N σ' H' -> ∃ m',m' < m /\ W (i + 1) m' σ' H') /\ ∀ x H',J.sW i H x H' -> g x σ H' fun σ2 H2=>tb { D with nx:=N,ct:=N,bk:=D.nx } σ2 H2)
noncomputable def gL (fp:List Addr) (h:Heap):List (Addr × Obj):=fp.filterMap fun b=>(h.get? b).map fun o=>(b,o)
theorem gf {fp:List Addr} {h:Heap} {b:Addr} {o:Obj} (hb:b ∈ fp) (e:h.get? b = some o):(b,o) ∈ gL fp h:=List.mem_filterMap.mpr ⟨b,hb,by rw [e];rfl⟩
theorem oW {fp:List Addr} {h:Heap} {p:Addr × Obj} (hp:p ∈ gL fp h):p.1 ∈ fp /\ h.get? p.1 = some p.2:=by
 obtain ⟨b,hb,e⟩:=List.mem_filterMap.mp hp
 cases q:h.get? b with
 | none=>rw [q] at e;cases e
 | some o =>
  rw [q] at e
  have e':(b,o) = p:=Option.some.inj e
  subst e'
  exact ⟨hb,q⟩
theorem Inv.pinned {pins:List (Addr × Obj)} {σ:St} {H:Hp} {s:Shared} {fp:List Addr} (I:Inv X pins σ H s) (hf:∀ b ∈ fp,nI X pins H b) (ho:∀ b ∈ fp,∃ o,s.heap.get? b = some o /\ ∀ v,o.data ≠ .cell v):Inv X (pins ++ gL fp s.heap) σ H s :=
 I.iu fun p hp=>(List.mem_append.mp hp).elim (fun z=>I.pin p (List.mem_append_right _ z)) fun z=>by
  obtain ⟨hb,e⟩:=oW z
  obtain ⟨f0,f1,f2,_⟩:=hf p.1 hb
  obtain ⟨o,e',d⟩:=ho p.1 hb
  rw [e] at e';cases e'
  exact ⟨e,f0,f1,f2,d⟩
theorem Inv.jo {pins pl:List (Addr × Obj)} {σ:St} {H:Hp} {s:Shared} (I:Inv X (pins ++ pl) σ H s):Inv X pins σ H s:=I.iu fun p hp=>I.pin p (List.mem_append_right _ (List.mem_append_left _ hp))
theorem pV {iter:Expr} {body:List Stmt} {wi:TI} {g:TG} {tb:TS} {pos:Pos} (hp:PassesOwn (model X.prog X.w) X.A X.env X.xe) (hc:X.calm = true) (hi:PI X tg iter wi) (hg:PG X tg g) (hb:lO X body tb)
  (hs:∀ x,foldedSetIterable iter X.env x = pure x:=by intro _;rfl):PS X (.For tg iter body [] pos) (OS wi g tb):=by
 intro pins s σ H D I h
 refine wpAny_For (cI (hi pins s σ H _ I h) fun v s1 h1=>cI h1 fun Ry s2 h2=>?_) hs
 obtain ⟨it,fp,tn,J,H2,e,I2,T,Kg,f2,W,⟨m0,w0⟩,turn⟩:=h2
 subst e
 have Fn:∀ {H':Hp},(∀ b ∈ fp,H' b = none) -> ∀ b ∈ fp,nI X pins H' b:=fun hn b hb=>⟨hn b hb,(f2 b hb).2⟩
 refine codeAny_forLoop_any (fun n s'=>∃ i σ' H',Inv X pins σ' H' s' /\ tn i s'.heap /\ (∀ b ∈ fp,H' b = none) /\ W i n σ' H') ?_ m0 ⟨0,σ,H2,I2,Kg,fun b hb=>(f2 b hb).1,w0⟩
 rintro n s3 ⟨i,σ3,H3,I3,st3,fr3,w3⟩
 rcases turn i n σ3 H3 w3 with ⟨stop,qn⟩ | ⟨go,N,hN,step⟩
 ·refine wpAny_passesOwn hp (cI (T.done X rfl rfl rfl hc i pins s3 σ3 H3 X.xe I3 (Fn fr3) st3 stop) fun r s4 ⟨hr,I4⟩=>?_)
  subst hr
  exact wpAny_execs_nil ⟨σ3,H3,I4,qn⟩
 ·refine wpAny_passesOwn hp (cI (T.item X rfl rfl rfl hc i pins s3 σ3 H3 X.xe I3 (Fn fr3) st3 go) fun r s4 ⟨u,hr,h4⟩=>?_)
  subst hr
  refine wpAny_passesOwn hp (cI h4 fun _ s5 ⟨x,H5,I5,r5,y5,Fs,S0⟩=>?_)
  have U7:=I5.pinned (Fn S0) (T.obj _ _ Fs)
  refine wpAny_passesOwn hp (cI (hg _ s5 σ3 H5 x u _ U7 r5 (step x H5 y5)) fun _ s6 ⟨σ6,H6,I6,q6⟩=>?_)
  refine wpAny_passesOwn hp (cI (hb _ s6 σ6 H6 _ I6 q6) fun f s7 q7=>?_)
  have again:∀ {σ7:St} {H7:Hp},Inv X (pins ++ gL fp s5.heap) σ7 H7 s7 -> N σ7 H7 -> ∃ m,m < n /\ ∃ i σ' H',Inv X pins σ' H' s7 /\ tn i s7.heap /\ (∀ b ∈ fp,H' b = none) /\ W i m σ' H':=fun {σ7 H7} I7 n7=>by
   obtain ⟨m',hm,w7⟩:=hN σ7 H7 n7
   refine ⟨m',hm,i + 1,σ7,H7,I7.jo,T.keep _ _ _ Fs fun b hb o e=>(I7.pin (b,o) (List.mem_append_right _ (List.mem_append_right _ (gf hb e)))).1,fun b hb=>?_,w7⟩
   obtain ⟨o,e,d⟩:=T.obj _ _ Fs b hb
   exact (I7.pin (b,o) (List.mem_append_right _ (List.mem_append_right _ (gf hb e)))).2.1
  cases f with
  | next=>obtain ⟨σ7,H7,I7,n7⟩:=q7;exact again I7 n7
  | cont=>obtain ⟨σ7,H7,I7,n7⟩:=q7;exact again I7 n7
  | brk=>obtain ⟨σ7,H7,I7,q7⟩:=q7;exact ⟨σ7,H7,I7.jo,q7⟩
  | ret v=>obtain ⟨x7,σ7,H7,I7,r7,q7⟩:=q7;exact ⟨x7,σ7,H7,I7.jo,r7,q7⟩
end
theorem Ao {K:PySem.W.Frag} {a:Addr} {xs:List V} {g:TG} {tb:TS} {D:Ends} {σ:St} {H:Hp} (Pv:Nat -> St -> Hp -> Prop) (h0:Pv 0 σ H) (hl:∀ i σ H,i <= xs.length -> Pv i σ H -> dm K H a xs)
  (hs:∀ i x σ H,xs[i]? = some x -> Pv i σ H -> g x σ H fun σ2 H2=>tb { D with nx:=Pv (i + 1),ct:=Pv (i + 1),bk:=D.nx } σ2 H2) (hd:∀ σ H,Pv xs.length σ H -> D.nx σ H) :
  ∃ W:Nat -> Nat -> St -> Hp -> Prop,(∃ m,W 0 m σ H) /\ ∀ i m σ H,W i m σ H ->
   ((JJ K a).stop i H /\ D.nx σ H) \/ ((JJ K a).go i H /\ ∃ N:St -> Hp -> Prop,(∀ σ' H',N σ' H' -> ∃ m',m' < m /\ W (i + 1) m' σ' H') /\ ∀ x H',(JJ K a).sW i H x H' -> g x σ H' fun σ2 H2=>tb { D with nx:=N,ct:=N,bk:=D.nx } σ2 H2):=by
 refine ⟨fun i m σ H=>m = xs.length - i /\ i <= xs.length /\ Pv i σ H,⟨xs.length,by simp,Nat.zero_le _,h0⟩,?_⟩
 rintro i m σ H ⟨rfl,hi,p⟩
 have q:=hl i σ H hi p
 by_cases fQ:i < xs.length
 ·refine .inr ⟨⟨xs,xs[i],q,by simp [fQ]⟩,Pv (i + 1),fun σ' H' p'=>⟨xs.length - (i + 1),by omega,rfl,fQ,p'⟩,fun x H' y=>?_⟩
  obtain ⟨e,y⟩:=y
  subst e
  exact hs i x σ _ (y xs q) p
 ·have e:i = xs.length:=by omega
  subst e
  exact .inl ⟨⟨xs,q,Nat.le_refl _⟩,hd σ H p⟩
theorem C6 {K:PySem.W.Frag} {a:Addr} {xs:List V} {g:TG} {tb:TS} {D:Ends} {σ:St} {H:Hp} (Pv:Nat -> St -> Hp -> Prop) (h0:Pv 0 σ H) (hl:∀ i σ H,i <= xs.length -> Pv i σ H -> aA K H a xs)
  (hs:∀ i x σ H,xs[i]? = some x -> Pv i σ H -> g x σ H fun σ2 H2=>tb { D with nx:=Pv (i + 1),ct:=Pv (i + 1),bk:=D.nx } σ2 H2) (hd:∀ σ H,Pv xs.length σ H -> D.nx σ H) :
  ∃ W:Nat -> Nat -> St -> Hp -> Prop,(∃ m,W 0 m σ H) /\ ∀ i m σ H,W i m σ H ->
   ((JI K a).stop i H /\ D.nx σ H) \/ ((JI K a).go i H /\ ∃ N:St -> Hp -> Prop,(∀ σ' H',N σ' H' -> ∃ m',m' < m /\ W (i + 1) m' σ' H') /\ ∀ x H',(JI K a).sW i H x H' -> g x σ H' fun σ2 H2=>tb { D with nx:=N,ct:=N,bk:=D.nx } σ2 H2):=by
 refine ⟨fun i m σ H=>m = xs.length - i /\ i <= xs.length /\ Pv i σ H,⟨xs.length,by simp,Nat.zero_le _,h0⟩,?_⟩
 rintro i m σ H ⟨rfl,hi,p⟩
 have q:=hl i σ H hi p
 by_cases fQ:i < xs.length
 ·refine .inr ⟨⟨xs,xs[i],q,by simp [fQ]⟩,Pv (i + 1),fun σ' H' p'=>⟨xs.length - (i + 1),by omega,rfl,fQ,p'⟩,fun x H' y=>?_⟩
  obtain ⟨e,y⟩:=y
  subst e
  exact hs i x σ _ (y xs q) p
 ·have e:i = xs.length:=by omega
  subst e
  exact .inl ⟨⟨xs,q,Nat.le_refl _⟩,hd σ H p⟩
theorem xD {lo:Int} {n:Nat} {g:TG} {tb:TS} {D:Ends} {σ:St} {H:Hp} (Pv:Nat -> St -> Hp -> Prop) (h0:Pv 0 σ H)
  (hs:∀ i σ H,i < n -> Pv i σ H -> g (.int (lo + i)) σ H fun σ2 H2=>tb { D with nx:=Pv (i + 1),ct:=Pv (i + 1),bk:=D.nx } σ2 H2) (hd:∀ σ H,Pv n σ H -> D.nx σ H) :
  ∃ W:Nat -> Nat -> St -> Hp -> Prop,(∃ m,W 0 m σ H) /\ ∀ i m σ H,W i m σ H ->
   ((xW lo n).stop i H /\ D.nx σ H) \/ ((xW lo n).go i H /\ ∃ N:St -> Hp -> Prop,(∀ σ' H',N σ' H' -> ∃ m',m' < m /\ W (i + 1) m' σ' H') /\ ∀ x H',(xW lo n).sW i H x H' -> g x σ H' fun σ2 H2=>tb { D with nx:=N,ct:=N,bk:=D.nx } σ2 H2):=by
 refine ⟨fun i m σ H=>m = n - i /\ i <= n /\ Pv i σ H,⟨n,by simp,Nat.zero_le _,h0⟩,?_⟩
 rintro i m σ H ⟨rfl,hi,p⟩
 by_cases fQ:i < n
 ·refine .inr ⟨fQ,Pv (i + 1),fun σ' H' p'=>⟨n - (i + 1),by omega,rfl,fQ,p'⟩,fun x H' y=>?_⟩
  obtain ⟨e,y⟩:=y
  subst e y
  exact hs i σ _ fQ p
 ·have e:i = n:=by omega
  subst e
  exact .inl ⟨Nat.le_refl _,hd σ H p⟩
end L2
namespace L2
open PySem PySem.Spec PyProof.Rows
noncomputable abbrev R2:=V -> V -> Hp -> VK -> Prop
noncomputable def i8 (X:Cx) (f:Value -> Value -> Sem Value) (r:R2):Prop :=
 ∀ (pins:List (Addr × Obj)) (s:Shared) (σ:St) (H:Hp) (x y:V) (v u:Value) (Q:VK),Inv X pins σ H s -> RelV x v -> RelV y u -> r x y H Q ->
  wpAny (model X.prog X.w) X.A (f v u) (EP X pins σ Q) X.xe s
noncomputable def U1 (X:Cx) (f:Value -> Sem Value) (r:V -> Hp -> VK -> Prop):Prop :=
 ∀ (pins:List (Addr × Obj)) (s:Shared) (σ:St) (H:Hp) (x:V) (v:Value) (Q:VK),Inv X pins σ H s -> RelV x v -> r x H Q ->
  wpAny (model X.prog X.w) X.A (f v) (EP X pins σ Q) X.xe s
noncomputable def e_ (X:Cx) (f:Value) (r:List V -> Hp -> VK -> Prop):Prop :=
 ∀ (pins:List (Addr × Obj)) (s:Shared) (σ:St) (H:Hp) (xs:List V) (us:List Value) (Q:VK),Inv X pins σ H s -> Vals xs us -> r xs H Q ->
  wpAny (model X.prog X.w) X.A (call f us) (EP X pins σ Q) X.xe s
noncomputable def D2 (r:R2) (ta tb:TE):TE:=fun σ H Q=>ta σ H fun x H1=>tb σ H1 fun y H2=>r x y H2 Q
noncomputable def Xj (r:V -> Hp -> VK -> Prop) (ta:TE):TE:=fun σ H Q=>ta σ H fun x H1=>r x H1 Q
noncomputable def rI (C:Int -> Int -> Prop) (g:Int -> Int -> V):R2:=fun x y H Q=>∃ i j,x = .int i /\ y = .int j /\ C i j /\ Q (g i j) H
noncomputable def yL (g:Int -> Int -> V):R2:=fun x y H Q=>∃ i j,x = .int i /\ y = .int j /\ Q (g i j) H
noncomputable def rU (g:Int -> V):V -> Hp -> VK -> Prop:=fun x H Q=>∃ i,x = .int i /\ Q (g i) H
section
variable {X:Cx} {a b c:Expr} {ta tb tc:TE} {pos:Pos}
theorem IG (ha:PE X a ta) (hb:PE X b tb) {pins:List (Addr × Obj)} {s:Shared} {σ:St} {H:Hp} {R:V -> V -> Hp -> Prop} (I:Inv X pins σ H s)
  (h:ta σ H fun x H1=>tb σ H1 fun y H2=>R x y H2) {Q:Value -> Shared -> Prop} {f:Value -> Value -> Sem Value}
  (hf:∀ v u s2 x y H2,Inv X pins σ H2 s2 -> RelV x v -> RelV y u -> R x y H2 -> wpAny (model X.prog X.w) X.A (f v u) Q X.xe s2) :
  wpAny (model X.prog X.w) X.A (eval a X.env) (fun v s₁=>wpAny (model X.prog X.w) X.A (eval b X.env) (fun u s₂=>wpAny (model X.prog X.w) X.A (f v u) Q X.xe s₂) X.xe s₁) X.xe s:=by
 refine cI (ha pins s σ H _ I h) fun v s1 ⟨x,H1,I1,r1,q1⟩=>?_
 refine cI (hb pins s1 σ H1 _ I1 q1) fun u s2 ⟨y,H2,I2,r2,q2⟩=>?_
 exact hf v u s2 x y H2 I2 r1 r2 q2
theorem yY {op:Operator} {r:R2} (ho:i8 X (binaryOp op) r) (ha:PE X a ta) (hb:PE X b tb):PE X (.BinOp a op b pos) (D2 r ta tb):=by
 intro pins s σ H Q I h
 exact wpAny_BinOp (IG ha hb I h fun v u s2 x y H2 I2 rx ry q=>ho pins s2 σ H2 x y v u Q I2 rx ry q)
theorem KS {op:UnaryOp} {r:V -> Hp -> VK -> Prop} (ho:U1 X (unaryOp op) r) (ha:PE X a ta):PE X (.UnaryOp op a pos) (Xj r ta):=by
 intro pins s σ H Q I h
 exact UnaryOp_ (cI (ha pins s σ H _ I h) fun v s1 ⟨x,H1,I1,r1,q1⟩=>ho pins s1 σ H1 x v Q I1 r1 q1)
theorem GB {f:Value -> Value -> Sem Value} {C:Int -> Int -> Prop} {g:Int -> Int -> Int}
  (rule:∀ (i j:Int) (t u:Tok) (s:Shared) (Q:Value -> Shared -> Prop) (E:Value -> Shared -> Prop),C i j -> Q (.int (g i j) s.toks) { s with toks:=s.toks + 1 } -> wpAny (model X.prog X.w) X.A (f (.int i t) (.int j u)) Q E s) :
  i8 X f (rI C fun i j=>.int (g i j)):=by
 intro pins s σ H x y v u Q I rx ry h
 obtain ⟨i,j,rfl,rfl,hc,q⟩:=h
 obtain ⟨t,rfl⟩:=rx
 obtain ⟨t',rfl⟩:=ry
 exact rule i j t t' s _ _ hc ⟨.int (g i j),H,I.tok _,⟨_,rfl⟩,q⟩
theorem Qg {f:Value -> Value -> Sem Value} {g:Int -> Int -> Int}
  (rule:∀ (i j:Int) (t u:Tok) (s:Shared) (Q:Value -> Shared -> Prop) (E:Value -> Shared -> Prop),Q (.int (g i j) s.toks) { s with toks:=s.toks + 1 } -> wpAny (model X.prog X.w) X.A (f (.int i t) (.int j u)) Q E s) :
  i8 X f (yL fun i j=>.int (g i j)):=by
 intro pins s σ H x y v u Q I rx ry h
 obtain ⟨i,j,rfl,rfl,q⟩:=h
 obtain ⟨t,rfl⟩:=rx
 obtain ⟨t',rfl⟩:=ry
 exact rule i j t t' s _ _ ⟨.int (g i j),H,I.tok _,⟨_,rfl⟩,q⟩
theorem Cj {f:Value -> Value -> Sem Value} {g:Int -> Int -> Bool}
  (rule:∀ (i j:Int) (t u:Tok) (s:Shared) (Q:Value -> Shared -> Prop) (E:Value -> Shared -> Prop),Q (.bool (g i j)) s -> wpAny (model X.prog X.w) X.A (f (.int i t) (.int j u)) Q E s) :
  i8 X f (yL fun i j=>.bl (g i j)):=by
 intro pins s σ H x y v u Q I rx ry h
 obtain ⟨i,j,rfl,rfl,q⟩:=h
 obtain ⟨t,rfl⟩:=rx
 obtain ⟨t',rfl⟩:=ry
 exact rule i j t t' s _ _ ⟨.bl (g i j),H,I,rfl,q⟩
theorem tu (k:Nat):(0:Int) <= 2 ^ k:=by
 rw [two_pow_cast]
 exact Int.natCast_nonneg _
theorem GA:i8 X (binaryOp .Add) (yL fun i j=>.int (i + j)):=Qg fun _ _ _ _ _ _ _ q=>add_int q
theorem Cf:i8 X (binaryOp .Mod) (rI (fun _ j=>j ≠ 0) fun i j=>.int (i.fmod j)):=GB fun _ _ _ _ _ _ _ hc q=>mod_int' hc q
theorem Gu:i8 X (binaryOp .RShift) (rI (fun _ j=>0 <= j) fun i j=>.int (i / 2 ^ j.toNat)):=GB fun i j _ _ _ _ _ hc q =>
 rshift_int hc (by rw [Int.fdiv_eq_ediv_of_nonneg i (tu _)];exact q)
theorem Xd {f:Value -> Sem Value} {g:Int -> Int}
  (rule:∀ (i:Int) (t:Tok) (s:Shared) (Q:Value -> Shared -> Prop) (E:Value -> Shared -> Prop),Q (.int (g i) s.toks) { s with toks:=s.toks + 1 } -> wpAny (model X.prog X.w) X.A (f (.int i t)) Q E s) :
  U1 X f (rU fun i=>.int (g i)):=by
 intro pins s σ H x v Q I rx h
 obtain ⟨i,rfl,q⟩:=h
 obtain ⟨t,rfl⟩:=rx
 exact rule i t s _ _ ⟨.int (g i),H,I.tok _,⟨_,rfl⟩,q⟩
theorem Ff:U1 X (unaryOp .USub) (rU fun i=>.int (-i)):=Xd fun _ _ _ _ _ q=>neg_int q
end
section
variable {X:Cx} {a b c:Expr} {ta tb tc:TE} {pos:Pos}
theorem uh {pins:List (Addr × Obj)} {σ:St} {H:Hp} {s:Shared} {Q:VK} {k k':Bool} (I:Inv X pins σ H s) (q:Q (.bl k) H) (e:k = k'):EP X pins σ Q (.bool k') s:=by
 subst e
 exact ⟨.bl k,H,I,rfl,q⟩
theorem K2:i8 X (compareOp .Lt) (yL fun i j=>.bl (decide (i < j))):=Cj fun _ _ _ _ _ _ _ q=>lt_int q
theorem K3:i8 X (compareOp .LtE) (yL fun i j=>.bl (decide (i <= j))):=Cj fun _ _ _ _ _ _ _ q=>le_int q
theorem K4:i8 X (compareOp .Gt) (yL fun i j=>.bl (decide (j < i))):=Cj fun _ _ _ _ _ _ _ q=>gt_int q
theorem K5:i8 X (compareOp .GtE) (yL fun i j=>.bl (decide (j <= i))):=Cj fun _ _ _ _ _ _ _ q=>ge_int q
theorem Gx:i8 X (compareOp .Is) (fun x y H Q=>y = .bC /\ Q (.bl (decide (x = .bC))) H):=by
 intro pins s σ H x y v u Q I rx ry h
 obtain ⟨rfl,q⟩:=h
 cases ry
 refine is_none_gen (uh I q ?_)
 cases x <;> first
  | (cases rx;rfl)
  | (obtain ⟨t,rfl⟩:=rx;rfl)
theorem Cd:i8 X (compareOp .IsNot) (fun x y H Q=>y = .bC /\ Q (.bl (!decide (x = .bC))) H):=by
 intro pins s σ H x y v u Q I rx ry h
 obtain ⟨rfl,q⟩:=h
 cases ry
 refine isnot_none_gen (uh I q ?_)
 cases x <;> first
  | (cases rx;rfl)
  | (obtain ⟨t,rfl⟩:=rx;rfl)
theorem i8.or {f:Value -> Value -> Sem Value} {r r':R2} (h:i8 X f r) (h':i8 X f r'):i8 X f (fun x y H Q=>r x y H Q \/ r' x y H Q):=by
 intro pins s σ H x y v u Q I rx ry q
 rcases q with q | q
 ·exact h pins s σ H x y v u Q I rx ry q
 ·exact h' pins s σ H x y v u Q I rx ry q
theorem zm (b:Expr) {op:CmpOp} (h:op ≠ .In:=by decide) (h2:op ≠ .NotIn:=by decide):behindInMarks op b = false:=by
 have e1:(op == CmpOp.In) = false:=by cases op <;> first | rfl | exact absurd rfl h
 have e2:(op == CmpOp.NotIn) = false:=by cases op <;> first | rfl | exact absurd rfl h2
 cases b <;> simp [behindInMarks,e1,e2]
theorem vg {op:CmpOp} {r:R2} (ho:i8 X (compareOp op) r) (ha:PE X a ta) (hb:PE X b tb) (hm:behindInMarks op b = false):PE X (.Compare a [op] [b] pos) (D2 r ta tb):=by
 intro pins s σ H Q I h
 exact wpAny_Compare1 (IG ha hb I h fun v u s2 x y H2 I2 rx ry q=>ho pins s2 σ H2 x y v u Q I2 rx ry q) hm
noncomputable def D1 (t:TE):TT:=fun σ H Q=>t σ H fun x H'=>∃ k,x = .bl k /\ Q k H'
theorem uX {op:CmpOp} {r:R2} (ho:i8 X (compareOp op) r) (ha:PE X a ta) (hb:PE X b tb) (hm:behindInMarks op b = false):PT X (.Compare a [op] [b] pos) (D1 (D2 r ta tb)):=by
 intro pins s σ H Q I h
 refine wpAny_isTrue_Compare1 (cI (ha pins s σ H _ I h) fun v s1 ⟨x,H1,I1,r1,q1⟩=>cI (hb pins s1 σ H1 _ I1 q1) fun u s2 ⟨y,H2,I2,r2,q2⟩ =>
  cI (ho pins s2 σ H2 x y v u _ I2 r1 r2 q2) fun c s3 ⟨z,H3,I3,r3,k,e,q3⟩=>?_) hm
 subst e
 cases r3
 exact wpAny_truthy_bool ⟨H3,I3,q3⟩
theorem p6:(sizeLine:Nat) < 2 ^ 63:=by rw [sizeLine_eq];decide
theorem vals1 {x:V} {us:List Value} (r:Vals [x] us):∃ u,us = [u] /\ RelV x u:=by
 cases r with
 | cons r1 r2=>cases r2;exact ⟨_,rfl,r1⟩
theorem vals2 {x y:V} {us:List Value} (r:Vals [x,y] us):∃ u w',us = [u,w'] /\ RelV x u /\ RelV y w':=by
 cases r with
 | cons r1 r2 =>
  cases r2 with
  | cons r3 r4=>cases r4;exact ⟨_,_,rfl,r1,r3⟩
theorem AK:e_ X (.builtin "abs") (fun xs H Q=>∃ i,xs = [.int i] /\ Q (.int (if i < 0 then -i else i)) H):=by
 intro pins s σ H xs us Q I r h
 obtain ⟨i,rfl,q⟩:=h
 obtain ⟨u,rfl,t,rfl⟩:=vals1 r
 exact call_abs_int fun u tk=>⟨.int (if i < 0 then -i else i),H,I.tok _,⟨_,rfl⟩,q⟩
theorem JE (hc:X.calm = true):e_ X (.builtin "max") (fun xs H Q=>∃ i j,xs = [.int i,.int j] /\ Q (.int (if j > i then j else i)) H):=by
 intro pins s σ H xs us Q I r h
 obtain ⟨i,j,rfl,q⟩:=h
 obtain ⟨u,w',rfl,⟨t,rfl⟩,⟨t',rfl⟩⟩:=vals2 r
 refine max_two_ints (I.ok.hd hc) fun h' tk k=>⟨_,H,I.kept k,?_,q⟩
 by_cases hj:j > i
 ·rw [if_pos hj,if_pos hj];exact ⟨_,rfl⟩
 ·rw [if_neg hj,if_neg hj];exact ⟨_,rfl⟩
theorem JD (hc:X.calm = true):e_ X (.builtin "min") (fun xs H Q=>∃ i j,xs = [.int i,.int j] /\ Q (.int (if j < i then j else i)) H):=by
 intro pins s σ H xs us Q I r h
 obtain ⟨i,j,rfl,q⟩:=h
 obtain ⟨u,w',rfl,⟨t,rfl⟩,⟨t',rfl⟩⟩:=vals2 r
 refine min_two_ints (I.ok.hd hc) fun h' tk k=>⟨_,H,I.kept k,?_,q⟩
 by_cases hj:j < i
 ·rw [if_pos hj,if_pos hj];exact ⟨_,rfl⟩
 ·rw [if_neg hj,if_neg hj];exact ⟨_,rfl⟩
theorem xS:e_ X (.type "int") (fun xs H Q=>(∃ i,xs = [.int i] /\ Q (.int i) H) \/ ∃ k,xs = [.bl k] /\ Q (.int (if k then 1 else 0)) H):=by
 intro pins s σ H xs us Q I r h
 rcases h with ⟨i,rfl,q⟩ | ⟨k,rfl,q⟩
 ·obtain ⟨u,rfl,t,rfl⟩:=vals1 r
  exact call_int_int ⟨.int i,H,I,⟨_,rfl⟩,q⟩
 ·obtain ⟨u,rfl,r1⟩:=vals1 r
  cases r1
  exact call_int_bool ⟨.int (if k then 1 else 0),H,I.tok _,⟨_,rfl⟩,q⟩
end
end L2
namespace L2
open PySem PySem.Spec PyProof.Rows
structure aaG (h:Heap) (x dx C:Addr) (mA:Str -> Option Value):Prop where
 obj:h.get? x = some (PySem.W.instObj C dx)
 ns:h.Ns1 dx mA
 ne:dx ≠ x
section
variable {prog:Program} {w:World} {A:Around} {E:Value -> Shared -> Prop} {s:Shared} {K:PySem.W.Frag} {x dx C f:Addr} {mA:Str -> Option Value} {name:Str} {v:Value}
end
theorem jX.some_of {v:V} {o:Option Value} (r:jX (some v) o):∃ u,o = some u /\ RelV v u:=by
 cases o with
 | none=>exact (show False from r).elim
 | some u=>exact ⟨u,rfl,r⟩
theorem jX.none_of {o:Option Value} (r:jX none o):o = none:=by
 cases o with
 | none=>rfl
 | some u=>exact (show False from r).elim
section
variable {P:Program} {w:World} {H H':Hp} {h h':Heap} {a C dx:Addr} {fs Zx:List (Str × V)}
end
structure Cls (K:PySem.W.Frag) (C:Addr):Prop where
 pg:PySem.W.plainGet K C Str.empty = true
 hd:PySem.W.hasDictIn K C = true
 po:PySem.W.plainOver K C = true
 sa:PySem.W.findIn K (.ref C) "__setattr__" = some (some (.builtin "object.__setattr__"))
structure Con (K:PySem.W.Frag) (C:Addr) (f:Str) (v:V) (u:Value):Prop where
 at_:PySem.W.findIn K (.ref C) f = some (some u)
 rel:RelV v u
 get:PySem.W.specialIn K u "__get__" = some none
 cp:PySem.W.copiedNames.contains f = false
structure Meth (K:PySem.W.Frag) (C:Addr) (m:Str) (f:Addr):Prop where
 at_:PySem.W.findIn K (.ref C) m = some (some (.ref f))
 fn:PySem.W.isFn K (.ref f) = true
 kp:PySem.W.keepIn K (.ref f) = true
section
variable {X:Cx} {pins:List (Addr × Obj)} {σ:St} {H:Hp} {s:Shared} {a C dx:Addr} {fs:List (Str × V)} {f:Str} {v:V} {A:Around} {E:Value -> Shared -> Prop}
end
section
variable {X:Cx} {o e value:Expr} {f:Str} {pos pos' Xh:Pos} {ta tv:TE}
end
section
variable {X:Cx} {pins:List (Addr × Obj)} {σ:St} {H:Hp} {s:Shared} {A:Around} {E:Value -> Shared -> Prop} {Q:Value -> Shared -> Prop} {c:Value} {b:Bool}
inductive ny (K:PySem.W.Frag) (H:Hp):V -> Value -> Prop where
 | bC:ny K H .bC (.type "NoneType")
 | bl (x:Bool):ny K H (.bl x) (.type "bool")
 | int (i:Int):ny K H (.int i) (.type "int")
 | str (x:Str):ny K H (.str x) (.type "str")
 | My (x:UInt64):ny K H (.My x) (.type "float")
 | lst {a:Addr} {xs:List V} (e:H a = some (.lst xs)):ny K H (.ref a) (.type "list")
 | gZ {a:Addr} {o:Obj} {xs:List V} (e:H a = some (.gZ o (.lst xs))):ny K H (.ref a) (.type "list")
 | tup {a:Addr} {xs:List V} (e:H a = some (.tup xs)):ny K H (.ref a) (.type "tuple")
 | dK {a:Addr} {dc:List (Key × V)} (e:H a = some (.dK dc)):ny K H (.ref a) (.type "dict")
 | dT {a:Addr} {dc:List (List Key × V)} (e:H a = some (.dT dc)):ny K H (.ref a) (.type "dict")
 | ins {a C dx:Addr} {fs:List (Str × V)} (e:H a = some (.ins C dx fs)) (cl:Cls K C) (ha:PySem.W.findIn K (.ref C) "__class__" = some (some (.builtin "object.__class__")))
   (hn:PySem.W.specialIn K (.builtin "object.__class__") "__get__" = some (some (.builtin "getset_descriptor.__get__"))) (htk:PySem.W.takesIn K (.builtin "object.__class__") = some true)
   (hm:PySem.W.mroIn K C (.type "object") = some true):ny K H (.ref a) (.ref C)
end
end L2
namespace L2
open PySem PySem.Spec PyProof.Rows
structure fV (k:Nat) (A:Around):Prop where
 hd:A.handled = none
 dp:A.depth + 3 * k + 5 < recursionLimit
 un:A.units + 16 * k + 200 < cLine
theorem fV.mono {j k:Nat} {A:Around} (r:fV k A) (h:j <= k):fV j A:=⟨r.hd,by have:=r.dp;omega,by have:=r.un;omega⟩
theorem fV.deeper {k:Nat} {A:Around} (r:fV (k + 1) A) (env:Env):fV k (A.deeper env) :=
 ⟨r.hd,by have:=r.dp;show A.depth + 1 + 3 * k + 5 < _;omega,by have:=r.un;show A.units + 3 + 16 * k + 200 < _;omega⟩
theorem fV.depth {k:Nat} {A:Around} (r:fV k A):A.depth < recursionLimit:=by have:=r.dp;omega
theorem fV.units {k:Nat} {A:Around} (r:fV k A):A.units + 64 < cLine:=by have:=r.un;omega
noncomputable def J7:TA:=fun _ H Q=>Q [] H
noncomputable def D4 (ta:TE) (tr:TA):TA:=fun σ H Q=>ta σ H fun x H1=>tr σ H1 fun xs H2=>Q (x :: xs) H2
section
variable {X:Cx} {e:Expr} {es:List Expr} {te:TE} {t:TA} {pos:Pos}
theorem gN:PA X [] J7:=fun _ _ _ _ H Q I h=>Calls.spliced_nil ⟨[],H,I,.nil,h⟩
theorem dQ (ha:PE X e te) (hr:PA X es t) (hs:starEach (e :: es) X.env = (false,eval e X.env) :: starEach es X.env:=by rfl):PA X (e :: es) (D4 te t):=by
 intro pos pins s σ H Q I h
 rw [hs]
 show wpAny _ _ (spliced ((false,eval e X.env) :: backTo pos (starEach es X.env))) _ _ s
 refine Calls.spliced_cons (cI (ha pins s σ H _ I h) fun u s1 ⟨x,H1,I1,r1,q1⟩=>?_)
 exact cI (hr pos pins s1 σ H1 _ I1 q1) fun us s2 ⟨xs,H2,I2,r2,q2⟩=>⟨x :: xs,H2,I2,.cons r1 r2,q2⟩
noncomputable def OL (t:TA):TE:=fun σ H Q=>t σ H fun xs H1=>xs.length <= sizeLine /\ ∀ p,H1 p = none -> Q (.ref p) (upd H1 p (.tup xs))
noncomputable def OQ (t:TA):TE:=fun σ H Q=>t σ H fun xs H1=>xs.length <= sizeLine /\ ∀ p,H1 p = none -> Q (.ref p) (upd H1 p (.lst xs))
theorem Gd {x1} (h:PA X es t):PE X (.Tuple es x1 pos) (OL t):=by
 intro pins s σ H Q I hq
 refine wpAny_Tuple_spliced (cI (h pos pins s σ H _ I hq) fun us s1 ⟨xs,H1,I1,r,z,q⟩=>⟨by rw [<- r.length];exact z,?_⟩)
 have hf:H1 s1.heap.objs.size = none:=I1.cQ.fresh (Nat.le_refl _)
 refine ⟨.ref s1.heap.objs.size,upd H1 s1.heap.objs.size (.tup xs),I1.laid (t':=s1.toks) (fun b u e=>Heap.get?_push_of_some _ e) (Nat.le_refl _) ?_,rfl,q _ hf⟩
 exact ⟨z,us,r,⟨_,Heap.get?_push_size _ rfl,rfl,_,rfl⟩⟩
theorem Gg (h:PA X es t):PE X (.List es pos) (OQ t):=by
 intro pins s σ H Q I hq
 refine wpAny_List_spliced (cI (h pos pins s σ H _ I hq) fun us s1 ⟨xs,H1,I1,r,z,q⟩=>⟨by rw [<- r.length];exact z,?_⟩)
 have hf:H1 s1.heap.objs.size = none:=I1.cQ.fresh (Nat.le_refl _)
 refine ⟨.ref s1.heap.objs.size,upd H1 s1.heap.objs.size (.lst xs),I1.laid (t':=s1.toks) (fun b u e=>Heap.get?_push_of_some _ e) (Nat.le_refl _) ?_,rfl,q _ hf⟩
 exact ⟨z,us,0,r,Heap.get?_push_size _ rfl⟩
end
noncomputable abbrev Sp:=List V -> Hp -> VK -> XK -> Prop
noncomputable abbrev x9:=List Env -> Hp -> Shared -> XK -> Value -> Shared -> Prop
structure DR (P:Program) (w:World) (K:PySem.W.Frag) (mg:Str -> Option Value) (base:Heap) (A:Around) (outer:List Env) (s:Shared) (H:Hp):Prop where
 frames:A.frames = some outer
 mod:Mod K mg base
 bs:∀ b o,base.get? b = some o -> s.heap.get? b = some o /\ H b = none
 EN:base.objs.size <= s.heap.objs.size
 kY:s.heap.FunFrames base outer
 Jz:∀ b ∈ x6 outer,H b = none
 cQ:kC P w H s.heap
 bare:AllBare s.gens
noncomputable def CE (outer:List Env) (P:Program) (w:World) (H:Hp) (s:Shared) (Q:VK) (u:Value) (s':Shared):Prop :=
 ∃ v H',s'.os = s.os /\ AllBare s'.gens /\ Un (x6 outer) [] H H' s.heap s'.heap /\ kC P w H' s'.heap /\ RelV v u /\ Q v H'
noncomputable def CR (CX:x9) (outer:List Env) (P:Program) (w:World) (H:Hp) (s:Shared) (Q:VK) (E:XK) (r:Result) (s':Shared):Prop :=
 match r with
 | .ok (.ret u)=>CE outer P w H s Q u s'
 | .ok _=>False
 | .error e=>CX outer H s E e s'
structure jb (P:Program) (w:World) (K:PySem.W.Frag) (mg:Str -> Option Value) (base:Heap) (CX:x9) (k:Nat) (f:Addr) (fd:FuncData) (ps:List Str) (sp:Sp):Prop where
 len:∀ vs H Q E,sp vs H Q E -> vs.length = ps.length
 run:∀ (A:Around) (outer:List Env) (s:Shared) (H:Hp) (args:Args) (us:List Value) (vs:List V) (Q:VK) (E:XK),fV k A -> DR P w K mg base A outer s H -> BindsTo s fd args (ps.zip us) -> Vals vs us -> sp vs H Q E ->
  codeAny (model P w) A (.call (.ref f) args) (CR CX outer P w H s Q E) s
theorem jb.mono {P:Program} {w:World} {K:PySem.W.Frag} {mg:Str -> Option Value} {base:Heap} {CX:x9} {j k:Nat} {f:Addr} {fd:FuncData} {ps:List Str} {sp:Sp} (F:jb P w K mg base CX j f fd ps sp) (h:j <= k) :
  jb P w K mg base CX k f fd ps sp:=⟨F.len,fun A outer s H args us vs Q E hr=>F.run A outer s H args us vs Q E (hr.mono h)⟩
section
variable {X:Cx} {pins:List (Addr × Obj)} {σ:St} {H:Hp} {s s':Shared}
theorem Inv.Tx (I:Inv X pins σ H s):DR X.prog X.w X.K X.mg X.base X.A X.stack s H :=
 ⟨I.ok.frames,I.ok.mod,I.bs,Nat.le_trans I.ok.EN I.sz,I.stack,I.uP,I.cQ,I.bare⟩
theorem Inv.after {Q:VK} {u:Value} (I:Inv X pins σ H s) (h:CE X.stack X.prog X.w H s Q u s'):EP X pins σ Q u s':=by
 obtain ⟨v,H',os,bare,un,cQ,r,q⟩:=h
 obtain ⟨hh,g,d,t,Qf⟩:=s'
 obtain rfl:Qf = s.os:=os
 exact ⟨v,H',I.call (h':=hh) (g':=g) (d':=d) (t':=t) (ch:=[]) un cQ bare (fun b z=>absurd z (by simp)),r,q⟩
end
noncomputable def J_ (sp:Sp) (eX:List V) (E:XK) (t:TA):TE:=fun σ H Q=>t σ H fun vs H1=>sp (vs ++ eX) H1 Q E
noncomputable def Binds (K:PySem.W.Frag) (fd:FuncData) (ps:List Str) (ds:List Value):Prop :=
 ∀ (s:Shared) (us:List Value),K.In s.heap -> (us ++ ds).length = ps.length -> BindsTo s fd ⟨us,[]⟩ (ps.zip (us ++ ds))
theorem Binds.all {K:PySem.W.Frag} {fd:FuncData} {ps:List Str} (h:∀ us:List Value,us.length = ps.length -> bindArgs fd ⟨us,[]⟩ = pure (ps.zip us)):Binds K fd ps []:=fun s us _ hl=>by
 rw [List.append_nil] at hl ⊢
 exact .of_eq (h us hl)
noncomputable def Passes (CX:x9) (X:Cx) (E:XK):Prop:=∀ (pins:List (Addr × Obj)) (σ:St) (H:Hp) (s:Shared) (e:Value) (s':Shared),Inv X pins σ H s -> CX X.stack H s E e s' -> X.xe e s'
section
variable {X:Cx} {CX:x9} {k:Nat} {f C:Addr} {fd:FuncData} {ps:List Str} {sp:Sp} {eX:List V} {ds:List Value} {E:XK} {x m:Str} {p pos apos:Pos} {e o:Expr} {es:List Expr} {ta:TE} {t:TA}
theorem FL {pins:List (Addr × Obj)} {σ:St} {H:Hp} {s:Shared} {Q:VK} {us:List Value} {vs:List V} (F:jb X.prog X.w X.K X.mg X.base CX k f fd ps sp) (hr:fV k X.A) (hb:Binds X.K fd ps ds) (hd:Vals eX ds) (hx:Passes CX X E)
  (I:Inv X pins σ H s) (r:Vals vs us) (h:sp (vs ++ eX) H Q E):wpAny (model X.prog X.w) X.A (call (.ref f) us) (EP X pins σ Q) X.xe s:=by
 have r2:Vals (vs ++ eX) (us ++ ds):=r.append hd
 have hl:(us ++ ds).length = ps.length:=by rw [<- r2.length];exact F.len _ _ _ _ h
 refine wpAny_call (codeAny_mono (F.run X.A X.stack s H ⟨us,[]⟩ (us ++ ds) (vs ++ eX) Q E hr I.Tx (hb s us I.xb hl) r2 h) fun r s' hq=>?_)
 cases r with
 | error e=>exact hx pins σ H s e s' I hq
 | ok fl =>
  cases fl with
  | ret u=>exact I.after hq
  | next=>exact False.elim hq
  | brk=>exact False.elim hq
  | cont=>exact False.elim hq
theorem B_ (F:jb X.prog X.w X.K X.mg X.base CX k f fd ps sp) (hr:fV k X.A) (hg:Gl X x) (hm:X.mg x = some (.ref f)) (hk:PySem.W.keepIn X.K (.ref f) = true) (hb:Binds X.K fd ps ds) (hd:Vals eX ds) (hx:Passes CX X E)
  (ha:PA X (e :: es) t) (Ma:(x == ("__debug__" : Str)) = false:=by decide) (he:starEach (e :: es) X.env = (false,eval e X.env) :: starEach es X.env:=by rfl) (hpl:(backTo pos (starEach es X.env)).any (·.1) = false:=by rfl) :
  PE X (.Call (.Name x p) (e :: es) [] pos) (J_ sp eX E t):=by
 intro pins s σ H Q I h
 refine wpAny_Call_Name_kw (vq I hg hm ?_ Ma)
 refine PySem.W.callWith_K (h₀:=X.base) I.ok.mod.Q5 hk (cI (ha pos pins s σ H _ I h) fun us s1 ⟨vs,H1,I1,r,q⟩=>⟨I1.xb,?_⟩) he hpl
 exact FL F hr hb hd hx I1 r q
structure Mk (K:PySem.W.Frag) (C f:Addr):Prop where
 makes:PySem.W.makesIn K C = true
 init:PySem.W.findIn K (.ref C) "__init__" = some (some (.ref f))
 fn:PySem.W.isFn K (.ref f) = true
 kp:PySem.W.keepIn K (.ref C) = true
end
section
variable {X:Cx} {CX:x9} {k:Nat} {f C:Addr} {fd:FuncData} {ps ks:List Str} {sp:Sp} {E:XK} {x m:Str} {p pos apos Yt:Pos} {e o:Expr} {es:List Expr} {kws:List Keyword} {te ta:TE} {t tk:TA} {nm:Option Str}
structure U5 (K:PySem.W.Frag) (fd:FuncData) (ps ks:List Str) (g:List Value -> List Value -> List Value) (gV:List V -> List V -> List V):Prop where
 to:∀ (s:Shared) (us ws:List Value),K.In s.heap -> (g us ws).length = ps.length -> BindsTo s fd ⟨us,ks.zip ws⟩ (ps.zip (g us ws))
 rel:∀ {vs:List V} {us:List Value} {zs:List V} {ws:List Value},Vals vs us -> Vals zs ws -> Vals (gV vs zs) (g us ws)
variable {g:List Value -> List Value -> List Value} {gV:List V -> List V -> List V}
end
structure aG (N P:List Str) (sc:Scope):Prop where
 kind:sc.kind = .function
 co:sc.isCoroutine = false
 gen:sc.isGenerator = false
 nd:N.Nodup
 pre:N.take P.length = P
 par:∀ x ∈ P,sc.names.lookup x = some .local \/ sc.names.lookup x = some .cell
 GH:∀ y ∈ sc.names,y.2 ≠ .free
theorem pq {kindOf:Str -> Option NameKind} {x:Str}:∀ {binds:List (Str × Value)} {m:Str -> Option Value},(∀ v,(x,v) ∉ binds) -> bindL kindOf binds m x = m x
 | [],_,_=>rfl
 | (n,v) :: r,m,h=>by
  unfold bindL
  rw [pq fun w hw=>h w (List.mem_cons_of_mem _ hw)]
  split
  ·have:x ≠ n:=by rintro rfl;exact h v List.mem_cons_self
   simp [this]
  ·rfl
theorem pw {kindOf:Str -> Option NameKind} {x:Str}:∀ {binds:List (Str × Value)} {m:Str -> Option Value},(∀ v,(x,v) ∉ binds) -> bindC kindOf binds m x = m x
 | [],_,_=>rfl
 | (n,v) :: r,m,h=>by
  unfold bindC
  rw [pw fun w hw=>h w (List.mem_cons_of_mem _ hw)]
  split
  ·rfl
  ·have:x ≠ n:=by rintro rfl;exact h v List.mem_cons_self
   simp [this]
theorem pv {kindOf:Str -> Option NameKind} {x:Str} {v:Value}:∀ {P:List Str} {vs:List Value} {i:Nat} {m:Str -> Option Value},P.Nodup -> P[i]? = some x -> vs[i]? = some v -> kindOf x = some .local ->
  bindL kindOf (P.zip vs) m x = some v
 | [],_,_,_,_,h,_,_=>by simp at h
 | _ :: _,[],_,_,_,_,h,_=>by simp at h
 | p :: P,w :: vs,0,m,nd,h1,h2,hk=>by
  simp at h1 h2;subst h1;subst h2
  show bindL kindOf ((p,w) :: P.zip vs) m p = _
  unfold bindL
  rw [pq fun v hv=>(List.nodup_cons.mp nd).1 (List.of_mem_zip hv).1,if_pos hk]
  simp
 | p :: P,w :: vs,i + 1,m,nd,h1,h2,hk=>by
  show bindL kindOf ((p,w) :: P.zip vs) m x = _
  unfold bindL
  exact pv (i:=i) (List.nodup_cons.mp nd).2 (by simpa using h1) (by simpa using h2) hk
theorem pz {kindOf:Str -> Option NameKind} {x:Str} {v:Value}:∀ {P:List Str} {vs:List Value} {i:Nat} {m:Str -> Option Value},P.Nodup -> P[i]? = some x -> vs[i]? = some v -> kindOf x ≠ some .local ->
  bindC kindOf (P.zip vs) m x = some v
 | [],_,_,_,_,h,_,_=>by simp at h
 | _ :: _,[],_,_,_,_,h,_=>by simp at h
 | p :: P,w :: vs,0,m,nd,h1,h2,hk=>by
  simp at h1 h2;subst h1;subst h2
  show bindC kindOf ((p,w) :: P.zip vs) m p = _
  unfold bindC
  rw [pw fun v hv=>(List.nodup_cons.mp nd).1 (List.of_mem_zip hv).1,if_neg hk]
  simp
 | p :: P,w :: vs,i + 1,m,nd,h1,h2,hk=>by
  show bindC kindOf ((p,w) :: P.zip vs) m x = _
  unfold bindC
  exact pz (i:=i) (List.nodup_cons.mp nd).2 (by simpa using h1) (by simpa using h2) hk
noncomputable def start (N:List Str) (vs:List V):St:=vs.map some ++ List.replicate (N.length - vs.length) none
noncomputable def uw (CX:x9) (P:Program) (w:World) (K:PySem.W.Frag) (mg:Str -> Option Value) (base:Heap) (N:List Str) (qual:Str) (scope:Scope) (f:Addr) (cd:Value) (A:Around) (outer:List Env) (s:Shared) (H:Hp) (E:XK):Cx where
 prog:=P
 w:=w
 K:=K
 mg:=mg
 base:=base
 A:=A.deeper (envOfC qual scope s.heap.objs.size f cd)
 N:=N
 s₀:=s
 H₀:=H
 env:=envOfC qual scope s.heap.objs.size f cd
 outer:=outer
 stack:=envOfC qual scope s.heap.objs.size f cd :: outer
 ex:=[]
 calm:=true
 fn:=fun _=>true
 pn:=[]
 xe:=fun e s'=>wpAny (model P w) (A.deeper (envOfC qual scope s.heap.objs.size f cd)) (leaving (envOfC qual scope s.heap.objs.size f cd) e) (fun _ Pr=>CX outer H s E e Pr) (fun e' Pr=>CX outer H s E e' Pr) s'
theorem sM {sc:Scope} {n:Nat} {x:Str} (h:sc.names.lookup x = some .cell):∃ c,(cellsFrom n sc.names []).lookup x = some c:=by
 have q:=PySem.W.cellsFrom_some sc.names n [] (.inl h)
 exact Option.isSome_iff_exists.mp q
theorem xk {CX:x9} {P:Program} {w:World} {K:PySem.W.Frag} {mg:Str -> Option Value} {base:Heap} {N ps:List Str} {qual:Str} {scope:Scope} {f:Addr} {cd:Value} {A:Around} {outer:List Env} {s s1:Shared} {H:Hp} {E:XK} {us:List Value} {vs:List V}
  (S:aG N ps scope) (hd:A.handled = none) (e0:DR P w K mg base A outer s H) (hl:vs.length = ps.length) (r:Vals vs us)
  (x:InCallC s s.heap.objs.size (bindL (envOfC qual scope s.heap.objs.size f cd).kindOf (ps.zip us) fun _=>none) (cellsFrom (s.heap.objs.size + 1) scope.names []) (bindC (envOfC qual scope s.heap.objs.size f cd).kindOf (ps.zip us) fun _=>none) s1) :
  Inv (uw CX P w K mg base N qual scope f cd A outer s H E) [] (start N vs) H s1:=by
 have hpl:ps.length <= N.length:=by have:=congrArg List.length S.pre;rw [List.length_take] at this;omega
 obtain ⟨h1,tk,rfl,hk⟩:=x.done
 have La:∀ b:Addr,b ∉ (uw CX P w K mg base N qual scope f cd A outer s H E).ex:=fun b z=>absurd (show b ∈ ([]:List Addr) from z) (by simp)
 refine ⟨⟨e0.mod,S.kind,rfl,rfl,Nat.le_refl _,fun y z c h1 h2=>?_,fun y hy=>?_,fun y c _ h=>?_,fun _=>hd,Around.frames_deeper e0.frames,.inr ⟨rfl,rfl⟩,fun b z=>absurd z (La b),e0.bs,e0.EN,fun b _ _=>La b,fun b z=>absurd z (La b),e0.kY,e0.Jz⟩,
  rfl,e0.bare,Un.kept hk,⟨_,x.toInCall.ns,fun i y v h1 h2 h3=>?_⟩,fun y c h=>⟨_,x.cell y c h⟩,e0.cQ.fresh (Nat.le_refl _),fun y c h=>?_,fun p hp=>absurd (show p ∈ ([]:List (Addr × Obj)) from hp) (by simp),e0.cQ.kept hk,?_⟩
 ·exact name_of_addr x.apart (PySem.mem_of_lookup h1) (PySem.mem_of_lookup h2)
 ·have hy:scope.names.lookup y = some .cell \/ scope.names.lookup y = some .free:=hy
  rcases hy with hy | hy
  ·exact sM hy
  ·exact absurd rfl (S.GH _ (PySem.mem_of_lookup hy))
 ·exact Nat.le_of_lt (x.above y c (PySem.mem_of_lookup h))
 ·have hi:i < vs.length:=by
   unfold start at h2
   by_cases hi:i < vs.length
   ·exact hi
   ·rw [List.getElem?_append_right (by simpa using hi)] at h2
    rw [List.getElem?_replicate] at h2
    split at h2 <;> cases h2
  have ha:vs[i]? = some v:=by
   unfold start at h2
   rw [List.getElem?_append_left (by simpa using hi),List.getElem?_map] at h2
   cases e:vs[i]? with
   | none=>rw [e] at h2;cases h2
   | some a=>rw [e] at h2;cases h2;rfl
  obtain ⟨u,hu,rv⟩:=r.get ha
  have hp:ps[i]? = some y:=by
   rw [<- S.pre,List.getElem?_take_of_lt (by omega)];exact h1
  have Vs:ps.Nodup:=by rw [<- S.pre];exact S.nd.sublist (List.take_sublist _ _)
  refine ⟨u,rv,?_⟩
  rcases S.par y (List.mem_of_getElem? hp) with k | k
  ·exact .inl ⟨k,pv Vs hp hu k⟩
  ·obtain ⟨c,e⟩:=sM (n:=s.heap.objs.size + 1) k
   refine .inr ⟨.inl k,c,e,?_⟩
   have q:=x.cell y c e
   rw [pz Vs hp hu (by show scope.names.lookup y ≠ _;rw [k];decide)] at q
   exact q
 ·exact e0.cQ.fresh (Nat.le_of_lt (x.above y c (PySem.mem_of_lookup h)))
 ·unfold start
  show _ = N.length
  rw [List.length_append,List.length_map,List.length_replicate]
  omega
theorem Mw {CX:x9} {P:Program} {w:World} {K:PySem.W.Frag} {mg:Str -> Option Value} {base:Heap} {k:Nat} {f:Addr} {name qual:Str} {params:Arguments} {body:List Stmt} {scope:Scope} {dV kV doc pm kN ct oc:Value} {an od:Option Addr}
  {A3:Array (Option Value)} {N ps:List Str} {sp:Sp} (lk:K.lookup f = some ⟨oc,od,.func (PySem.W.fnOf name qual params body scope dV kV doc pm an kN ct),A3⟩) (Aa:PySem.W.codeIn K kN qual = true) (S:aG N ps scope)
  (len:∀ vs H Q E,sp vs H Q E -> vs.length = ps.length)
  (Ab:∀ (A:Around) (outer:List Env) (s:Shared) (H:Hp) (vs:List V) (Q:VK) (E:XK),fV k (A.deeper (envOfC qual scope s.heap.objs.size f kN)) -> sp vs H Q E ->
   ∃ t,lO (uw CX P w K mg base N qual scope f kN A outer s H E) body t /\ t { nx:=fun _ H'=>Q .bC H',rt:=Q } (start N vs) H) :
  jb P w K mg base CX (k + 1) f (PySem.W.fnOf name qual params body scope dV kV doc pm an kN ct) ps sp:=by
 refine ⟨len,fun A outer s H args us vs Q E hr e0 hb r A5=>?_⟩
 have hl:=len _ _ _ _ A5
 have KX:K.In s.heap:=e0.mod.Q5.keeps fun b o e=>(e0.bs b o e).1
 have lim:s.heap.NoLimit:=e0.mod.nolimit.keeps fun b o e=>(e0.bs b o e).1
 have L3:∀ y ∈ ps.zip us,scope.names.lookup y.1 = some .local \/ (scope.names.lookup y.1 = some .cell /\ ((cellsFrom (s.heap.objs.size + 1) scope.names []).lookup y.1).isSome = true):=fun ⟨n,v⟩ hy=>by
  rcases S.par n (List.of_mem_zip hy).1 with q | q
  ·exact .inl q
  ·exact .inr ⟨q,PySem.W.cellsFrom_some _ _ _ (.inl q)⟩
 refine codeAny_call_function hr.depth (KX _ _ lk) rfl S.co S.gen rfl (PySem.W.codeRec_of KX Aa) (hb _ _ _ _ ?_)
 refine wpAny_newFunctionEnv_cells S.kind L3 fun env he s1 x=>?_
 subst he
 refine ⟨lim.keeps x.toInCall.keep,codeAny_func ?_⟩
 obtain ⟨t,ht,hq⟩:=Ab A outer s H vs Q E (hr.deeper _) A5
 have I:Inv (uw CX P w K mg base N qual scope f kN A outer s H E) [] (start N vs) H s1:=xk S hr.hd e0 hl r x
 refine wpAny_mono (ht [] s1 (start N vs) H _ I hq) (fun fl s' hs=>?_) fun e s' hs=>hs
 have fin:∀ {σ':St} {H':Hp} {v:V} {u:Value},Inv (uw CX P w K mg base N qual scope f kN A outer s H E) [] σ' H' s' -> RelV v u -> Q v H' -> CE outer P w H s Q u s' :=
  fun {σ' H' v u} J rv q=>⟨v,H',J.os,J.bare,J.base,J.cQ,rv,q⟩
 cases fl with
 | ret u =>
  obtain ⟨v,σ',H',J,rv,q⟩:=hs
  exact fin J rv q
 | next =>
  obtain ⟨σ',H',J,q⟩:=hs
  exact fin (v:=V.bC) (u:=Value.none) J rfl q
 | brk =>
  obtain ⟨_,_,_,q⟩:=hs
  exact False.elim q
 | cont =>
  obtain ⟨_,_,_,q⟩:=hs
  exact False.elim q
end L2
namespace L2
open PySem PySem.Spec PyProof.Rows
section
variable {X:Cx} {x:Str} {p pos:Pos} {e:Expr} {es:List Expr} {t:TA} {id T:String} {r:List V -> Hp -> VK -> Prop}
noncomputable def Ka (r:List V -> Hp -> VK -> Prop) (t:TA):TE:=fun σ H Q=>t σ H fun vs H1=>r vs H1 Q
theorem d3 (hc:e_ X (.builtin id) r) (hg:Gl X x) (hm:X.mg x = none) (hv:bootBuiltins x = some (.builtin id)) (ha:PA X (e :: es) t) (hn:x ≠ "__name__":=by decide) (Ma:(x == ("__debug__" : Str)) = false:=by decide)
  (he:starEach (e :: es) X.env = (false,eval e X.env) :: starEach es X.env:=by rfl) (hpl:(backTo pos (starEach es X.env)).any (·.1) = false:=by rfl):PE X (.Call (.Name x p) (e :: es) [] pos) (Ka r t):=by
 intro pins s σ H Q I h
 refine wpAny_Call_Name_kw (ft I hg hm hv ?_ hn Ma)
 exact PyProof.Rows.callWith_builtin1 (cI (ha pos pins s σ H _ I h) fun us s1 ⟨vs,H1,I1,r1,q1⟩=>hc pins s1 σ H1 vs us Q I1 r1 q1) he hpl
theorem ka (hc:e_ X (.type T) r) (hg:Gl X x) (hm:X.mg x = none) (hv:bootBuiltins x = some (.type T)) (ha:PA X (e :: es) t) (hn:x ≠ "__name__":=by decide) (Ma:(x == ("__debug__" : Str)) = false:=by decide)
  (he:starEach (e :: es) X.env = (false,eval e X.env) :: starEach es X.env:=by rfl) (hpl:(backTo pos (starEach es X.env)).any (·.1) = false:=by rfl):PE X (.Call (.Name x p) (e :: es) [] pos) (Ka r t):=by
 intro pins s σ H Q I h
 refine wpAny_Call_Name_kw (ft I hg hm hv ?_ hn Ma)
 exact PyProof.Rows.callWith_type1 (cI (ha pos pins s σ H _ I h) fun us s1 ⟨vs,H1,I1,r1,q1⟩=>hc pins s1 σ H1 vs us Q I1 r1 q1) he hpl
end
end L2
namespace HT
open PySem PyProof.Rows
noncomputable def lexLt:List Int -> List Int -> Bool
 | [],[]=>false
 | [],_ :: _=>true
 | _ :: _,[]=>false
 | x :: xs,y :: ys=>if x = y then lexLt xs ys else decide (x < y)
theorem dj (x y:Int) (xs ys:List Int):lexLt (x :: xs) (y :: ys) = if x = y then lexLt xs ys else decide (x < y):=rfl
theorem iP:lexLt [] [] = false:=rfl
theorem my (y:Int) (ys:List Int):lexLt [] (y :: ys) = true:=rfl
theorem cM (x:Int) (xs:List Int):lexLt (x :: xs) [] = false:=rfl
theorem sv (A:Around) (s:Shared) (a:Int) (t:Tok) (c:Int) (u:Tok):∃ e,SeqAt.EqAt A s (.int a t) (.int c u) e /\ (e = true ↔ a = c) :=
 ⟨(a == c),SeqAt.EqAt.int_int a t c u,by simp⟩
theorem yJ (A:Around) (s:Shared) (a:Int) (t:Tok) (c:Int) (u:Tok) (prog:Program) (w:World) (E:Value -> Shared -> Prop) (Q:Value -> Shared -> Prop) (h:Q (.bool (decide (a < c))) s) :
  wpAny (model prog w) A (richCompare .Lt (.int a t) (.int c u)) Q E s :=
 (PyProof.Rows.lt_int h:wpAny (model prog w) A (compareOp .Lt (.int a t) (.int c u)) Q E s)
section
open PySem.SeqAt
open PySem.AutoSeq1 (wpAny_loadPart')
open PySem.MeetsSeq PySem.MeetsSeq2 PySem.MeetsSeq3
theorem iN (l b:Addr) (items cW:Array Value) (n n2:Nat) (dd v_:Option Addr) (sl sX:Array (Option Value)) (ns ms:List Int) (hi:IntsAre items.toList ns) (hj:IntsAre cW.toList ms) :
  Meets (Builtin.«tuple.__lt__» ⟨[.ref l,.ref b],[]⟩)
   (fun _ R s=>s.heap.get? l = some { cls:=.type "tuple",dict:=dd,data:=.seq items n,slots:=sl } /\ s.heap.get? b = some { cls:=.type "tuple",dict:=v_,data:=.seq cW n2,slots:=sX } /\
    R (.ok (.ret (.bool (lexLt ns ms)))) s) :=
 .of_wp fun prog w A R s h=>by
  obtain ⟨hp,g,d,tk,os⟩:=s;obtain ⟨hl,hb,h⟩:=h
  have f2:=AutoSeq1.sub_tuple_tuple
  have z1:items.size = ns.length:=by rw [<- hi.length];simp
  have z2:cW.size = ms.length:=by rw [<- hj.length];simp
  wp_walk using wpAny_loadPart' hl,wpAny_loadPart' hb,wpAny_forIn_list _ (fun rest b s'=>b.1 = none /\ s' = ⟨hp,g,d,tk,os⟩ /\ ∃ (vs ws:List Value) (gD xY:List Int),rest = vs.zip ws /\
   IntsAre vs gD /\ IntsAre ws xY /\ gD.length + cW.size = xY.length + items.size /\ R (.ok (.ret (.bool (lexLt gD xY)))) ⟨hp,g,d,tk,os⟩) _
  case turn =>
   rintro ⟨y,x⟩ rest b s' ⟨vF,rfl,vs,ws,gD,xY,hz,Hd,Et,hlen,hR⟩
   cases Hd with
   | nil=>rw [List.zip_nil_left] at hz;cases hz
   | cons a t hvi' =>
    cases Et with
    | nil=>rw [List.zip_nil_right] at hz;cases hz
    | cons c u hwi' =>
     rw [List.zip_cons_cons] at hz
     injection hz with RL zU
     injection RL with hy hx
     subst hy hx
     rw [dj] at hR
     simp only [List.length_cons] at hlen
     obtain ⟨e,he,zY⟩:=sv A.in1 ⟨hp,g,d,tk,os⟩ a t c u
     refine wpAny_bind (he prog w _ _ ?_)
     cases e with
     | true =>
      rw [if_pos (zY.mp rfl)] at hR
      wp_walk
      exact ⟨rfl,rfl,_,_,_,_,zU,hvi',hwi',by omega,hR⟩
     | false =>
      rw [if_neg (fun q=>absurd (zY.mpr q) Bool.false_ne_true)] at hR
      have RU:=yJ A.in1 ⟨hp,g,d,tk,os⟩ a t c u prog w
      wp_walk using RU
      exact ⟨_,rfl,by simpa using hR⟩
  case fin =>
   rintro ⟨b1,b2⟩ s' ⟨vF,rfl,vs,ws,gD,xY,hz,Hd,Et,hlen,hR⟩
   simp only at vF
   subst vF
   have hv:lexLt gD xY = decide (items.size < cW.size):=by
    cases Hd with
    | nil =>
     cases Et with
     | nil =>
      simp only [List.length_nil] at hlen
      rw [iP]
      exact (decide_eq_false (by omega)).symm
     | cons c u hw =>
      simp only [List.length_nil,List.length_cons] at hlen
      rw [my]
      exact (decide_eq_true (by omega)).symm
    | cons a t hv =>
     cases Et with
     | nil =>
      simp only [List.length_nil,List.length_cons] at hlen
      rw [cM]
      exact (decide_eq_false (by omega)).symm
     | cons c u hw =>
      rw [List.zip_cons_cons] at hz
      cases hz
   rw [hv] at hR
   wp_walk
   exact ⟨_,rfl,by simpa [Builtin.Tuple.tupleCompareSizes] using hR⟩
  case h =>
   exact ⟨rfl,rfl,items.toList,cW.toList,ns,ms,rfl,hi,hj,by omega,h⟩
end
section
variable {prog:Program} {w:World} {A:Around} {E:Value -> Shared -> Prop} {s:Shared}
theorem tV {l b:Addr} {items cW:Array Value} {ns ms:List Int} {Q:Value -> Shared -> Prop} (hl:IsTup s.heap l items) (hb:IsTup s.heap b cW) (hi:IntsAre items.toList ns) (hj:IntsAre cW.toList ms)
  (hu:A.units < cLine) (h:Q (.bool (lexLt ns ms)) s):wpAny (model prog w) A (compareOp .Lt (.ref l) (.ref b)) Q E s:=by
 obtain ⟨⟨cls,dd,data,sl⟩,ho,hc,n,hd⟩:=id hl
 obtain ⟨⟨Dy,v_,data2,sX⟩,p9,hc2,n2,hd2⟩:=id hb
 simp only at hc hd hc2 hd2
 subst hc hd hc2 hd2
 exact richCompare_meets_room (op:=.Lt) ⟨_,ho,rfl⟩ ⟨_,p9,rfl⟩ PySem.F.slot_tuple_lt PySem.F.entry_tuple_lt (PySem.F.args_tuple_lt_2 _ _) (iN l b items cW n n2 dd v_ sl sX ns ms hi hj)
  ⟨ho,p9,show Value.bool (lexLt ns ms) ≠ Value.notImplemented /\ Q (.bool (lexLt ns ms)) s from ⟨(fun x=>nomatch x),h⟩⟩ hu
theorem DC {t b:Addr} {vs ws:List Value} {Q:Value -> Shared -> Prop} (ht:IsTup s.heap t vs.toArray) (hb:IsTup s.heap b ws.toArray) (hv:vs ≠ [])
  (h1:ws = [] -> Q (.ref t) s) (h2:ws ≠ [] -> Q (.ref s.heap.objs.size) { s with heap:=s.heap.push { cls:=.type "tuple",data:=.seq (vs ++ ws).toArray } })
  (hsz:vs.length + ws.length <= sizeLine):wpAny (model prog w) A (binaryOp .Add (.ref t) (.ref b)) Q E s:=by
 obtain ⟨⟨cls,dd,data,sl⟩,ho,hc,n,hd⟩:=id ht
 obtain ⟨⟨Dy,v_,data2,sX⟩,p9,hc2,n2,hd2⟩:=id hb
 simp only at hc hd hc2 hd2
 subst hc hd hc2 hd2
 have e:vs.toArray ++ ws.toArray = (vs ++ ws).toArray:=by simp
 by_cases hw:ws = []
 ·exact concat_meets ⟨_,ho,rfl⟩ ⟨_,p9,rfl⟩ noFill_tuple_add seq_tuple_add PySem.F.slot_tuple_add PySem.F.entry_tuple_add (PySem.F.args_tuple_add_2 _ _)
   (tuple_addW1 t b vs.toArray ws.toArray n n2 dd v_ sl sX (by simpa using hv) (by simp [hw])) ⟨ho,p9,h1 hw⟩
 ·refine concat_meets ⟨_,ho,rfl⟩ ⟨_,p9,rfl⟩ noFill_tuple_add seq_tuple_add PySem.F.slot_tuple_add PySem.F.entry_tuple_add (PySem.F.args_tuple_add_2 _ _)
   (tuple_addW2 t b vs.toArray ws.toArray n n2 dd v_ sl sX (by simpa using hv) (by simpa using hw) (by rw [List.size_toArray,List.size_toArray];exact hsz)) ⟨ho,p9,?_⟩
  rw [e]
  exact h2 hw
noncomputable def tL (n d:Nat):Option Int -> Nat
 | none=>d
 | some v=>if v < 0 then (v + (n:Int)).toNat else min v.toNat n
end
end HT
namespace L2
open PySem PySem.Spec PyProof.Rows
noncomputable abbrev TO:=St -> Hp -> (Option Int -> Hp -> Prop) -> Prop
noncomputable def PO (X:Cx) (e:Option Expr) (t:TO):Prop :=
 ∀ (pins:List (Addr × Obj)) (s:Shared) (σ:St) (H:Hp) (Q:Option Int -> Hp -> Prop),Inv X pins σ H s -> t σ H Q ->
  wpAny (model X.prog X.w) X.A (evalPart e X.env) (fun u s'=>∃ o H',Inv X pins σ H' s' /\ IsPart u o /\ Q o H') X.xe s
noncomputable def BK:TO:=fun _ H Q=>Q none H
noncomputable def J4 (t:TE):TO:=fun σ H Q=>t σ H fun x H1=>∃ i,x = .int i /\ Q (some i) H1
theorem intsAre_of {ns:List Int}:∀ {us:List Value},Vals (ns.map V.int) us -> IntsAre us ns:=by
 induction ns with
 | nil=>intro us r;rw [List.map_nil] at r;cases r;exact .nil
 | cons n ns ih =>
  intro us r
  rw [List.map_cons] at r
  cases r with
  | cons r1 r2 =>
   obtain ⟨t,e⟩:=r1
   subst e
   exact .cons n t (ih r2)
section
variable {X:Cx} {e:Expr} {te:TE} {lo hi:Option Expr} {tl th:TO} {pos p2:Pos}
theorem va:PO X none BK:=by
 intro pins s σ H Q I h
 rw [evalPart_none]
 exact wpAny_pure ⟨none,H,I,.none,h⟩
theorem u_ (h:PE X e te):PO X (some e) (J4 te):=by
 intro pins s σ H Q I hw
 rw [evalPart_some]
 refine cI (h pins s σ H _ I hw) fun u s1 ⟨x,H1,I1,r1,q1⟩=>?_
 obtain ⟨i,rfl,q⟩:=q1
 obtain ⟨t,rfl⟩:=r1
 exact ⟨some i,H1,I1,.int i t,q⟩
noncomputable def U2 (X:Cx) (r:V -> Option Int -> Option Int -> Hp -> VK -> Prop):Prop :=
 ∀ (pins:List (Addr × Obj)) (s:Shared) (σ:St) (H:Hp) (x:V) (v vl vu:Value) (lo hi:Option Int) (sl:Addr) (Q:VK),Inv X pins σ H s -> RelV x v -> s.heap.IsSliceOf sl vl vu .none -> IsPart vl lo -> IsPart vu hi -> r x lo hi H Q ->
  ∃ T id,typeLookup (.type T) "__getitem__" = pure (some (.builtin id)) /\ s.TypeIs v T /\ wpAny (model X.prog X.w) X.A (getItem v (.ref sl)) (EP X pins σ Q) X.xe s
noncomputable def Xk (r:V -> Option Int -> Option Int -> Hp -> VK -> Prop) (te:TE) (tl th:TO):TE:=fun σ H Q=>te σ H fun x H1=>tl σ H1 fun l H2=>th σ H2 fun u H3=>r x l u H3 Q
theorem yX {r:V -> Option Int -> Option Int -> Hp -> VK -> Prop} (hr:U2 X r) (he:PE X e te) (hl:PO X lo tl) (hu:PO X hi th):PE X (.Subscript e (.Slice lo hi none p2) pos) (Xk r te tl th):=by
 intro pins s σ H Q I h
 refine Subscript_ (cI (he pins s σ H _ I h) fun v s1 ⟨x,H1,I1,r1,q1⟩=>?_)
 refine wpAny_Slice (cI (hl pins s1 σ H1 _ I1 q1) fun vl s2 ⟨l,H2,I2,pl,q2⟩=>cI (hu pins s2 σ H2 _ I2 q2) fun vu s3 ⟨u,H3,I3,pu,q3⟩=>?_)
 rw [evalPart_none]
 refine wpAny_pure ?_
 have I4:Inv X pins σ H3 { s3 with heap:=s3.heap.push { cls:=.type "slice",data:=.fields #[vl,vu,.none] } }:=I3.kept (t':=s3.toks) fun b ob q=>Heap.get?_push_of_some _ q
 obtain ⟨T,id,hT,ht,hg⟩:=hr pins { s3 with heap:=s3.heap.push { cls:=.type "slice",data:=.fields #[vl,vu,.none] } } σ H3 x v vl vu l u s3.heap.objs.size Q I4 r1 (Heap.IsSliceOf.new ..) pl pu q3
 show wpAny (model X.prog X.w) X.A (subscriptTail e (.Slice lo hi none p2) v (.ref s3.heap.objs.size)) (EP X pins σ Q) X.xe { s3 with heap:=s3.heap.push { cls:=.type "slice",data:=.fields #[vl,vu,.none] } }
 exact tail_any (ops:=[.ref s3.heap.objs.size,v]) ht hT hg (by with_unfolding_all rfl)
noncomputable def Dv (xs:List V) (lo hi:Option Int):List V:=(xs.drop (HT.tL xs.length 0 lo)).take (HT.tL xs.length xs.length hi - HT.tL xs.length 0 lo)
theorem sC (xs:List V) (lo hi:Option Int):(Dv xs lo hi).length <= xs.length:=by
 unfold Dv
 rw [List.length_take,List.length_drop]
 omega
noncomputable def KA (K:PySem.W.Frag):R2:=fun x y H Q=>∃ a b xs ys,x = .ref a /\ y = .ref b /\ aA K H a xs /\ aA K H b ys /\ xs ≠ [] /\ xs.length + ys.length <= sizeLine /\
 (ys = [] -> Q (.ref a) H) /\ (ys ≠ [] -> ∀ p,H p = none -> Q (.ref p) (upd H p (.tup (xs ++ ys))))
theorem Vals.pZ {xs:List V} {us:List Value} (r:Vals xs us):us = [] ↔ xs = []:=by
 cases r with
 | nil=>simp
 | cons _ _=>simp
theorem Cg:i8 X (binaryOp .Add) (KA X.K):=by
 intro pins s σ H x y v u Q I rx ry h
 obtain ⟨a,b,xs,ys,rfl,rfl,ha,hb,hx,hz,q1,q2⟩:=h
 cases rx
 cases ry
 obtain ⟨ai,r1,p1,_⟩:=I.tuple ha
 obtain ⟨t4,r2,p2,_⟩:=I.tuple hb
 refine HT.DC p1 p2 (fun z=>hx (r1.pZ.mp z)) (fun z=>⟨.ref a,H,I,rfl,q1 (r2.pZ.mp z)⟩) (fun z=>?_) (by rw [<- r1.length,<- r2.length];exact hz)
 refine ⟨.ref s.heap.objs.size,_,I.laid (t':=s.toks) (o:=.tup (xs ++ ys)) (fun b ob q=>Heap.get?_push_of_some _ q) (Nat.le_refl _) ?_,rfl,q2 (fun w=>z (r2.pZ.mpr w)) _ (I.cQ.fresh (Nat.le_refl _))⟩
 exact ⟨by rw [List.length_append];exact hz,_,r1.append r2,IsTup.new _ _⟩
end
end L2
namespace L2
open PySem PySem.Spec PyProof.Rows
noncomputable def vy (n:Nat) (i:Int):Option Nat:=if 0 <= i then (if i < n then some i.toNat else none) else if -(n:Int) <= i then some (i + n).toNat else none
noncomputable def ET {α:Type} (xs:List α) (i:Int):Option α:=(vy xs.length i).bind fun j=>xs[j]?
theorem vx {n:Nat} {i:Int} {j:Nat} (h:vy n i = some j):seqIndex? i n = some j /\ j < n /\ -(n:Int) <= i /\ i < n:=by
 unfold vy at h
 by_cases h0:0 <= i
 ·rw [if_pos h0] at h
  by_cases h1:i < n
  ·rw [if_pos h1] at h
   have e:i.toNat = j:=Option.some.inj h
   exact ⟨by rw [seqIndex_of h0 h1,e],by omega,by omega,h1⟩
  ·rw [if_neg h1] at h;cases h
 ·rw [if_neg h0] at h
  by_cases h1:-(n:Int) <= i
  ·rw [if_pos h1] at h
   have e:(i + n).toNat = j:=Option.some.inj h
   exact ⟨by rw [seqIndex_neg (by omega) h1,e],by omega,h1,by omega⟩
  ·rw [if_neg h1] at h;cases h
theorem wt {α:Type} {xs:List α} {i:Int} {v:α} (h:ET xs i = some v):∃ j,seqIndex? i xs.length = some j /\ xs[j]? = some v /\ j < xs.length /\ -(xs.length:Int) <= i /\ i < xs.length:=by
 unfold ET at h
 cases e:vy xs.length i with
 | none=>rw [e] at h;cases h
 | some j =>
  rw [e] at h
  obtain ⟨h1,h2,h3,h4⟩:=vx e
  exact ⟨j,h1,h,h2,h3,h4⟩
noncomputable def lN (b:Expr):Prop:=∀ o i,subscripted b false o i = operate [o,i] (getItem o i)
noncomputable def DQ (X:Cx) (r:R2):Prop :=
 ∀ (value slice:Expr) (pins:List (Addr × Obj)) (s:Shared) (σ:St) (H:Hp) (x y:V) (v u:Value) (Q:VK),Inv X pins σ H s -> RelV x v -> RelV y u -> r x y H Q ->
  subscripted slice false v u = operate [v,u] (getItem v u) -> wpAny (model X.prog X.w) X.A (subscriptTail value slice v u) (EP X pins σ Q) X.xe s
noncomputable def U4 (X:Cx) (id:String) (r:V -> List V -> Hp -> VK -> Prop):Prop :=
 ∀ (pins:List (Addr × Obj)) (s:Shared) (σ:St) (H:Hp) (x:V) (xs:List V) (v:Value) (us:List Value) (Q:VK),Inv X pins σ H s -> RelV x v -> Vals xs us -> r x xs H Q ->
  wpAny (model X.prog X.w) X.A (call (.builtin id) (v :: us)) (EP X pins σ Q) X.xe s
section
variable {X:Cx} {a b:Expr} {ta tb:TE} {pos:Pos}
theorem DQ.or {r r':R2} (h:DQ X r) (h':DQ X r'):DQ X (fun x y H Q=>r x y H Q \/ r' x y H Q):=by
 intro value slice pins s σ H x y v u Q I rx ry q hs
 rcases q with q | q
 ·exact h value slice pins s σ H x y v u Q I rx ry q hs
 ·exact h' value slice pins s σ H x y v u Q I rx ry q hs
theorem ve {r:R2} (hr:DQ X r) (ha:PE X a ta) (hb:PE X b tb) (hs:lN b):PE X (.Subscript a b pos) (D2 r ta tb):=by
 intro pins s σ H Q I h
 exact Subscript_ (IG ha hb I h fun v u s2 x y H2 I2 rx ry q=>hr a b pins s2 σ H2 x y v u Q I2 rx ry q (hs _ _))
noncomputable def PD (K:PySem.W.Frag):R2:=fun x y H Q=>∃ p xs i v,x = .ref p /\ y = .int i /\ dm K H p xs /\ ET xs i = some v /\ Q v H
noncomputable def PC (K:PySem.W.Frag):R2:=fun x y H Q=>∃ p xs i v,x = .ref p /\ y = .int i /\ aA K H p xs /\ ET xs i = some v /\ Q v H
theorem vw:DQ X (PD X.K):=by
 intro value slice pins s σ H x y v u Q I rx ry h hs
 obtain ⟨p,xs,i,z,rfl,rfl,hq,he,q⟩:=h
 cases rx
 obtain ⟨t,rfl⟩:=ry
 obtain ⟨ai,r,pl,hz⟩:=I.list hq
 obtain ⟨j,h1,h2,h3,h4,h5⟩:=wt he
 obtain ⟨w,ew,jw⟩:=r.get h2
 have hl:=r.length
 have hn:=p6
 have fin:EP X pins σ Q w s:=⟨z,H,I,jw,q⟩
 by_cases h0:0 <= i
 ·have hj:i.toNat = j:=by
   rw [seqIndex_of h0 h5] at h1
   exact Option.some.inj h1
  exact item_listR pl.isList h0 (by omega) (by rw [hj];simpa using ew) fin hs
 ·have hj:(i + (ai.toArray.size:Int)).toNat = j:=by
   rw [seqIndex_neg (by omega) h4] at h1
   rw [List.size_toArray,<- hl]
   exact Option.some.inj h1
  exact subscriptTail_builtinR (x:=w) pl.isList.typeIs slot_list_getitem.lookup
   (wpAny_getItem_list_neg (Q:=fun r s'=>r = w /\ EP X pins σ Q r s') pl.isList (by omega) (by rw [List.size_toArray] <;> omega) (by omega) (by rw [hj];simpa using ew) ⟨rfl,fin⟩) hs
theorem zI:DQ X (PC X.K):=by
 intro value slice pins s σ H x y v u Q I rx ry h hs
 obtain ⟨p,xs,i,z,rfl,rfl,hq,he,q⟩:=h
 cases rx
 obtain ⟨t,rfl⟩:=ry
 obtain ⟨ai,r,pl,hz⟩:=I.tuple hq
 obtain ⟨j,h1,h2,h3,h4,h5⟩:=wt he
 obtain ⟨w,ew,jw⟩:=r.get h2
 have hl:=r.length
 have hn:=p6
 have fin:EP X pins σ Q w s:=⟨z,H,I,jw,q⟩
 exact subscriptTail_builtinR (x:=w) pl.typeIs slot_tuple_getitem.lookup
  (getItem_tuple (j:=j) (Q:=fun r s'=>r = w /\ EP X pins σ Q r s') pl (by omega) (by omega) (by rw [List.size_toArray,<- hl];exact h1) (by simpa using ew) ⟨rfl,fin⟩) hs
theorem tS (ai:List Value) (n j:Nat) (u:Value):Obj.mapSeq (·.setIfInBounds j u) { cls:=.type "list",data:=.seq ai.toArray n } = { cls:=.type "list",data:=.seq (ai.set j u).toArray n }:=by
 simp [Obj.mapSeq]
theorem Inv.lst {pins:List (Addr × Obj)} {σ:St} {H:Hp} {s:Shared} {p:Addr} {xs:List V} (I:Inv X pins σ H s) (h:H p = some (.lst xs)) :
  ∃ (ai:List Value) (n:Nat),Vals xs ai /\ s.heap.get? p = some { cls:=.type "list",data:=.seq ai.toArray n } /\ xs.length <= sizeLine:=by
 obtain ⟨z,ai,n,r,e⟩:=I.cQ p _ h
 exact ⟨ai,n,r,e,z⟩
theorem Inv.GQ {pins:List (Addr × Obj)} {σ:St} {H:Hp} {s:Shared} {p:Addr} {xs ys:List V} {ai its':List Value} {n n':Nat} {f:Obj -> Obj} (I:Inv X pins σ H s) (h:H p = some (.lst xs))
  (ho:s.heap.get? p = some { cls:=.type "list",data:=.seq ai.toArray n }) (hf:f { cls:=.type "list",data:=.seq ai.toArray n } = { cls:=.type "list",data:=.seq its'.toArray n' }) (r:Vals ys its') (hz:ys.length <= sizeLine) (t:Nat) :
  Inv X pins σ (upd H p (.lst ys)) { s with heap:=s.heap.update p f,toks:=t }:=by
 have e:(s.heap.update p f).get? p = some { cls:=.type "list",data:=.seq its'.toArray n' }:=by
  rw [Heap.get?_update_self f ho (by rw [hf] <;> rfl),hf]
 refine I.write (x:=p) (e:=p) (by rw [h];trivial) (.inl rfl) (fun b u hb q=>(Heap.get?_update_other _ _ (Ne.symm hb)).trans q) ⟨_,e⟩ ?_
 exact ⟨hz,its',n',r,e⟩
noncomputable def Kx:V -> V -> V -> Hp -> (Hp -> Prop) -> Prop:=fun o i v H Q=>∃ p xs k j,o = .ref p /\ i = .int k /\ H p = some (.lst xs) /\ vy xs.length k = some j /\ Q (upd H p (.lst (xs.set j v)))
theorem set_list:Nl X Kx:=by
 intro pins s σ H o i v ov iv u Q I ro ri rv h
 obtain ⟨p,xs,k,j,rfl,rfl,hp,hj,q⟩:=h
 cases ro
 obtain ⟨t,rfl⟩:=ri
 obtain ⟨ai,n,r,ho,hz⟩:=I.lst hp
 obtain ⟨h1,h2,h3,h4⟩:=vx hj
 have hl:=r.length
 have hn:=p6
 have I':Inv X pins σ (upd H p (.lst (xs.set j v))) { s with heap:=s.heap.update p (Obj.mapSeq (·.setIfInBounds j u)) } :=
  I.GQ hp ho (tS ai n j u) (r.set rv j) (by rw [List.length_set];exact hz) s.toks
 by_cases h0:0 <= k
 ·have hk:k.toNat = j:=by
   rw [seqIndex_of h0 h4] at h1
   exact Option.some.inj h1
  exact PySem.W.ki_setAt ho h0 (by omega) (by rw [List.size_toArray,<- hl];exact h4) (by rw [hk];exact ⟨_,I',q⟩)
 ·have hk:(k + (ai.toArray.size:Int)).toNat = j:=by
   rw [seqIndex_neg (by omega) h3] at h1
   rw [List.size_toArray,<- hl]
   exact Option.some.inj h1
  exact PySem.W.ki_setBack ho (by omega) (by rw [List.size_toArray,<- hl];exact h3) (by omega) (by rw [hk];exact ⟨_,I',q⟩)
theorem pM (lo hi:Option Int) (n:Nat):(sliceBounds lo hi none n).1 = ((HT.tL n 0 lo:Nat):Int) /\ (sliceBounds lo hi none n).2.1 = ((HT.tL n n hi:Nat):Int) /\ (sliceBounds lo hi none n).2.2 = 1:=by
 refine ⟨?_,?_,rfl⟩
 ·cases lo with
  | none=>simp [sliceBounds,HT.tL]
  | some i =>
   simp only [sliceBounds,HT.tL,Option.getD_none,show (1:Int) > 0 by decide,if_true]
   by_cases h:i < 0
   ·simp only [h,if_true] <;> omega
   ·simp only [h,if_false] <;> omega
 ·cases hi with
  | none=>simp [sliceBounds,HT.tL]
  | some i =>
   simp only [sliceBounds,HT.tL,Option.getD_none,show (1:Int) > 0 by decide,if_true]
   by_cases h:i < 0
   ·simp only [h,if_true] <;> omega
   ·simp only [h,if_false] <;> omega
theorem nV (ai:List Value) (lo hi:Option Int):slicePick ai.toArray lo hi none = ((ai.drop (HT.tL ai.length 0 lo)).take (HT.tL ai.length ai.length hi - HT.tL ai.length 0 lo)).toArray:=by
 obtain ⟨h1,h2,h3⟩:=pM lo hi ai.toArray.size
 unfold slicePick
 rw [h1,h2,h3]
 simp only [sliceRange_one,pick_run,List.size_toArray] <;> rfl
noncomputable def Pz (K:PySem.W.Frag):V -> Option Int -> Option Int -> Hp -> VK -> Prop:=fun x lo hi H Q=>∃ a xs,x = .ref a /\ dm K H a xs /\ ∀ p,H p = none -> Q (.ref p) (upd H p (.lst (Dv xs lo hi)))
theorem uS:U2 X (Pz X.K):=by
 intro pins s σ H x v vl vu lo hi sl Q I rx hs pl pu h
 obtain ⟨a,xs,rfl,hx,q⟩:=h
 cases rx
 obtain ⟨ai,r,ht,hz⟩:=I.list hx
 have hlen:=r.length
 refine ⟨"list",_,slot_list_getitem.lookup,ht.isList.typeIs,?_⟩
 refine wpAny_getItem_list_slice ht.isList hs pl pu .none (by simp) ?_ (by rw [List.size_toArray] <;> omega)
 rw [nV,<- hlen]
 refine ⟨.ref s.heap.objs.size,_,I.laid (t':=s.toks) (o:=.lst (Dv xs lo hi)) (fun b ob q=>Heap.get?_push_of_some _ q) (Nat.le_refl _) ?_,rfl,q _ (I.cQ.fresh (Nat.le_refl _))⟩
 exact ⟨Nat.le_trans (sC xs lo hi) hz,_,0,(r.drop (HT.tL xs.length 0 lo)).take (HT.tL xs.length xs.length hi - HT.tL xs.length 0 lo),Heap.get?_push_size _ rfl⟩
noncomputable def g5:V -> Bool
 | .bC=>true
 | .bl _=>true
 | .int _=>true
 | .str _=>true
 | _=>false
noncomputable def Bb:V -> V -> Bool
 | .bC,.bC=>true
 | .bl a,.bl b=>a == b
 | .bl a,.int b=>(if a then 1 else 0) == b
 | .int a,.bl b=>a == (if b then 1 else 0)
 | .int a,.int b=>a == b
 | .str a,.str b=>a == b
 | _,_=>false
theorem Ij {A:Around} {s:Shared} {y x:V} {u v:Value} (ry:RelV y u) (rx:RelV x v) (fy:g5 y = true) (fx:g5 x = true):SeqAt.EqAt A s u v (Bb y x):=by
 cases y with
 | bC =>
  cases ry
  cases x with
  | bC=>cases rx;exact SeqAt.EqAt.same _
  | bl b=>cases rx;exact SeqAt.EqAt.none_bool b
  | int b=>obtain ⟨t,rfl⟩:=rx;exact SeqAt.EqAt.none_int b t
  | str b=>obtain ⟨t,rfl⟩:=rx;exact SeqAt.EqAt.none_str b t
  | _=>exact absurd (show false = true from fx) Bool.false_ne_true
 | bl a =>
  cases ry
  cases x with
  | bC=>cases rx;exact SeqAt.EqAt.bool_none a
  | bl b=>cases rx;exact SeqAt.EqAt.bool_bool a b
  | int b=>obtain ⟨t,rfl⟩:=rx;exact SeqAt.EqAt.bool_int a b t
  | str b=>obtain ⟨t,rfl⟩:=rx;exact SeqAt.EqAt.bool_str a b t
  | _=>exact absurd (show false = true from fx) Bool.false_ne_true
 | int a =>
  obtain ⟨t',rfl⟩:=ry
  cases x with
  | bC=>cases rx;exact SeqAt.EqAt.int_none a t'
  | bl b=>cases rx;exact SeqAt.EqAt.int_bool a t' b
  | int b=>obtain ⟨t,rfl⟩:=rx;exact SeqAt.EqAt.int_int a t' b t
  | str b=>obtain ⟨t,rfl⟩:=rx;exact SeqAt.EqAt.int_str a t' b t
  | _=>exact absurd (show false = true from fx) Bool.false_ne_true
 | str a =>
  obtain ⟨t',rfl⟩:=ry
  cases x with
  | bC=>cases rx;exact SeqAt.EqAt.str_none a t'
  | bl b=>cases rx;exact SeqAt.EqAt.str_bool a t' b
  | int b=>obtain ⟨t,rfl⟩:=rx;exact SeqAt.EqAt.str_int a t' b t
  | str b=>obtain ⟨t,rfl⟩:=rx;exact SeqAt.EqAt.str_str a t' b t
  | _=>exact absurd (show false = true from fx) Bool.false_ne_true
 | _=>exact absurd (show false = true from fy) Bool.false_ne_true
noncomputable def uk (x:V) (u:Value):Bool:=match u with
 | .none=>Bb .bC x
 | .bool b=>Bb (.bl b) x
 | .int i _=>Bb (.int i) x
 | .str z _=>Bb (.str z) x
 | _=>false
theorem Ap {x y:V} {u:Value} (r:RelV y u) (f:g5 y = true):uk x u = Bb y x:=by
 cases y with
 | bC=>cases r;rfl
 | bl b=>cases r;rfl
 | int i=>obtain ⟨t,rfl⟩:=r;rfl
 | str z=>obtain ⟨t,rfl⟩:=r;rfl
 | _=>exact absurd (show false = true from f) Bool.false_ne_true
theorem jS {x:V}:∀ {xs:List V} {us:List Value},Vals xs us -> xs.all g5 = true -> us.any (uk x) = xs.any fun y=>Bb y x
 | _,_,.nil,_=>rfl
 | y :: xs,u :: us,.cons r t,f=>by
  rw [List.all_cons,Bool.and_eq_true] at f
  rw [List.any_cons,List.any_cons,Ap r f.1,jS t f.2]
theorem gR {A:Around} {s:Shared} {x:V} {v:Value} (rx:RelV x v) (fx:g5 x = true):∀ {xs:List V} {us:List Value},Vals xs us -> xs.all g5 = true -> ∀ u ∈ us,SeqAt.EqAt A s u v (uk x u)
 | _,_,.nil,_=>fun u hu=>by cases hu
 | y :: xs,u :: us,.cons r t,f=>fun u' hu=>by
  rw [List.all_cons,Bool.and_eq_true] at f
  rcases List.mem_cons.mp hu with rfl | hu
  ·rw [Ap r f.1];exact Ij r rx f.1 fx
  ·exact gR rx fx t f.2 u' hu
noncomputable def NW (x:V) (xs:List V):Bool:=xs.any fun y=>Bb y x
noncomputable def PJ (K:PySem.W.Frag) (neg:Bool):R2:=fun x y H Q=>∃ p xs,y = .ref p /\ (dm K H p xs \/ aA K H p xs) /\ g5 x = true /\ xs.all g5 = true /\ Q (.bl (if neg then !NW x xs else NW x xs)) H
theorem w8:i8 X (compareOp .In) (PJ X.K false):=by
 intro pins s σ H x y v u Q I rx ry h
 obtain ⟨p,xs,rfl,hq,fx,fs,q⟩:=h
 cases ry
 rcases hq with hq | hq
 ·obtain ⟨ai,r,pl,hz⟩:=I.list hq
  refine SeqAt.in_listAt (uk x) pl.isList (fun w hw=>gR rx fx r fs w (by simpa using hw)) ⟨.bl _,H,I,rfl,?_⟩
  rw [show ai.toArray.any (uk x) = ai.any (uk x) by simp,jS r fs]
  exact q
 ·obtain ⟨ai,r,pl,hz⟩:=I.tuple hq
  refine SeqAt.in_tupleAt (uk x) pl (fun w hw=>gR rx fx r fs w (by simpa using hw)) ⟨.bl _,H,I,rfl,?_⟩
  rw [show ai.toArray.any (uk x) = ai.any (uk x) by simp,jS r fs]
  exact q
theorem Ce:i8 X (compareOp .NotIn) (PJ X.K true):=by
 intro pins s σ H x y v u Q I rx ry h
 obtain ⟨p,xs,rfl,hq,fx,fs,q⟩:=h
 cases ry
 rcases hq with hq | hq
 ·obtain ⟨ai,r,pl,hz⟩:=I.list hq
  refine SeqAt.notIn_listAt (uk x) pl.isList (fun w hw=>gR rx fx r fs w (by simpa using hw)) ⟨.bl _,H,I,rfl,?_⟩
  rw [show ai.toArray.any (uk x) = ai.any (uk x) by simp,jS r fs]
  exact q
 ·obtain ⟨ai,r,pl,hz⟩:=I.tuple hq
  refine SeqAt.notIn_tupleAt (uk x) pl (fun w hw=>gR rx fx r fs w (by simpa using hw)) ⟨.bl _,H,I,rfl,?_⟩
  rw [show ai.toArray.any (uk x) = ai.any (uk x) by simp,jS r fs]
  exact q
theorem qA:e_ X (.builtin "len") (fun xs H Q=>∃ p ys,xs = [.ref p] /\ (dm X.K H p ys \/ aA X.K H p ys) /\ Q (.int ys.length) H):=by
 intro pins s σ H xs us Q I r h
 obtain ⟨p,ys,rfl,hq,q⟩:=h
 obtain ⟨u,rfl,rx⟩:=vals1 r
 cases rx
 have hn:=p6
 rcases hq with hq | hq
 ·obtain ⟨ai,r',pl,hz⟩:=I.list hq
  have hlen:=r'.length
  exact Calls.call_len_list pl.isList (by simp only [List.size_toArray] <;> omega) ⟨.int ys.length,H,I.tok _,⟨s.toks + 1,by rw [List.size_toArray,hlen]⟩,q⟩
 ·obtain ⟨ai,r',pl,hz⟩:=I.tuple hq
  have hlen:=r'.length
  exact len_tuple pl (by simp only [List.size_toArray] <;> omega) ⟨.int ys.length,H,I.tok _,⟨s.toks + 1,by rw [List.size_toArray,hlen]⟩,q⟩
theorem qz:e_ X (.type "list") (fun xs H Q=>∃ p ys,xs = [.ref p] /\ (dm X.K H p ys \/ aA X.K H p ys) /\ ∀ l,H l = none -> Q (.ref l) (upd H l (.lst ys))):=by
 intro pins s σ H xs us Q I r h
 obtain ⟨p,ys,rfl,hq,q⟩:=h
 obtain ⟨u,rfl,rx⟩:=vals1 r
 cases rx
 have fin:∀ (ai:List Value),Vals ys ai -> ys.length <= sizeLine -> ∀ (h':Heap) (c':Nat),(∀ b o',s.heap.get? b = some o' -> h'.get? b = some o') ->
   h'.get? s.heap.objs.size = some { cls:=.type "list",dict:=none,data:=.seq ai.toArray c',slots:=#[] } -> EP X pins σ Q (.ref s.heap.objs.size) { s with heap:=h' }:=fun ai r' hz h' c' kp e =>
  ⟨.ref s.heap.objs.size,_,I.laid (t':=s.toks) kp (Nat.le_refl _) (show bV X.prog X.w _ h' _ (.lst ys) from ⟨hz,ai,c',r',e⟩),rfl,q _ (I.cQ.fresh (Nat.le_refl _))⟩
 rcases hq with hq | hq
 ·obtain ⟨ai,r',pl,hz⟩:=I.list hq
  have hlen:=r'.length
  obtain ⟨o,ho,hc,n,hd⟩:=pl.isList
  exact call_list_seq p (.inl rfl) ho hc hd (fun h' c' kp e=>fin ai r' hz h' c' kp e) (by simp only [List.size_toArray] <;> omega)
 ·obtain ⟨ai,r',pl,hz⟩:=I.tuple hq
  have hlen:=r'.length
  obtain ⟨o,ho,hc,n,hd⟩:=pl
  exact call_list_seq p (.inr rfl) ho hc hd (fun h' c' kp e=>fin ai r' hz h' c' kp e) (by simp only [List.size_toArray] <;> omega)
theorem oA:e_ X (.type "tuple") (fun xs H Q=>∃ p ys,xs = [.ref p] /\ ((dm X.K H p ys /\ ∀ l,H l = none -> Q (.ref l) (upd H l (.tup ys))) \/ (aA X.K H p ys /\ Q (.ref p) H))):=by
 intro pins s σ H xs us Q I r h
 obtain ⟨p,ys,rfl,h⟩:=h
 obtain ⟨u,rfl,rx⟩:=vals1 r
 cases rx
 rcases h with ⟨hq,q⟩ | ⟨hq,q⟩
 ·obtain ⟨ai,r',pl,hz⟩:=I.list hq
  have hlen:=r'.length
  refine call_tuple_list pl.isList (fun h' kp=>?_) (by simp only [List.size_toArray] <;> omega)
  have I1:Inv X pins σ H { s with heap:=h' }:=I.kept (t':=s.toks) kp
  have I2:Inv X pins σ (upd H h'.objs.size (.tup ys)) { s with heap:=h'.push { cls:=.type "tuple",data:=.seq ai.toArray } } :=
   I1.laid (t':=s.toks) (fun b o e=>Heap.get?_push_of_some _ e) (Nat.le_refl _) (show bV X.prog X.w _ _ _ (.tup ys) from ⟨hz,ai,r',IsTup.new _ _⟩)
  exact ⟨.ref h'.objs.size,_,I2,rfl,q _ (I1.cQ.fresh (Nat.le_refl _))⟩
 ·obtain ⟨ai,r',pl,hz⟩:=I.tuple hq
  exact call_tuple_same pl ⟨.ref p,H,I,rfl,q⟩
noncomputable def OJ (K:PySem.W.Frag) (T:String) (x:V) (H:Hp):Prop:=match x with
 | .str _=>T = "str"
 | .int _=>T = "int"
 | .ref p=>(T = "list" /\ ∃ xs,dm K H p xs) \/ (T = "tuple" /\ ∃ o,K.lookup p = some o /\ o.cls = .type "tuple" /\ o.dict = none) \/
   (T = "dict" /\ ((∃ dc,H p = some (.dK dc)) \/ ∃ dc,H p = some (.dT dc))) \/ (T = "set" /\ ∃ S n,H p = some (.set S n))
 | _=>False
theorem yh {pins:List (Addr × Obj)} {σ:St} {H:Hp} {s:Shared} {T:String} {x:V} {v:Value} (I:Inv X pins σ H s) (r:RelV x v) (ty:OJ X.K T x H) :
  s.TypeIs v T /\ ∀ a,v = .ref a -> ∃ ob,s.heap.get? a = some ob /\ ob.dict = none:=by
 cases x with
 | str z =>
  obtain ⟨t,rfl⟩:=r
  cases (show T = "str" from ty)
  exact ⟨typeIs_str s z t,fun _ e=>nomatch e⟩
 | int i =>
  obtain ⟨t,rfl⟩:=r
  cases (show T = "int" from ty)
  exact ⟨typeIs_int s i t,fun _ e=>nomatch e⟩
 | ref p =>
  cases r
  rcases ty with ⟨rfl,xs,hq⟩ | ⟨rfl,o,hk,hc,hd⟩ | ⟨rfl,hk⟩ | ⟨rfl,S,n,hk⟩
  ·obtain ⟨ai,_,pl,_⟩:=I.list hq
   refine ⟨pl.isList.typeIs,fun a e=>?_⟩
   cases e
   obtain ⟨o,n,e,c,hd,_⟩:=pl
   exact ⟨o,e,hd⟩
  ·refine ⟨⟨o,I.xb p o hk,hc⟩,fun a e=>?_⟩
   cases e
   exact ⟨o,I.xb _ o hk,hd⟩
  ·have z:∃ o,s.heap.get? p = some o /\ o.ExactDict:=by
    rcases hk with ⟨dc,hk⟩ | ⟨dc,hk⟩
    ·obtain ⟨_,_,_,_,o,_,_,e,ex,_⟩:=I.cQ p _ hk
     exact ⟨o,e,ex⟩
    ·obtain ⟨_,_,_,_,o,_,_,e,ex,_⟩:=I.cQ p _ hk
     exact ⟨o,e,ex⟩
   obtain ⟨o,e,ex⟩:=z
   refine ⟨⟨o,e,ex.1⟩,fun a e2=>?_⟩
   cases e2
   exact ⟨o,e,ex.2.1⟩
  ·obtain ⟨o,_,_,_,e,ex,_⟩:=I.cQ p _ hk
   refine ⟨⟨o,e,ex.1⟩,fun a e2=>?_⟩
   cases e2
   exact ⟨o,e,ex.2.1⟩
 | _=>exact False.elim ty
noncomputable def OT (K:PySem.W.Frag) (T:String) (r:V -> List V -> Hp -> VK -> Prop) (to:TE):TE:=fun σ H Q=>to σ H fun x H1=>OJ K T x H1 /\ r x [] H1 Q
noncomputable def Xn (K:PySem.W.Frag) (T:String) (r:V -> List V -> Hp -> VK -> Prop) (to:TE) (t:TA):TE:=fun σ H Q=>to σ H fun x H1=>OJ K T x H1 /\ t σ H1 fun xs H2=>r x xs H2 Q
variable {o e:Expr} {es:List Expr} {to:TE} {t:TA} {name:Str} {apos qm:Pos} {T id:String} {r:V -> List V -> Hp -> VK -> Prop}
theorem za (pa:PlainAttrs T) (slot:Slot T name id) (RQ:typeOf (.builtin id) = pure (.type "method_descriptor")) (hm:U4 X id r) (ho:PE X o to)
  (Ac:attributeBase o name X.env (eval o X.env) = eval o X.env:=by rfl) (hline:(apos.endLine == qm.line) = true:=by rfl):PE X (.Call (.Attribute o name apos) [] [] qm) (OT X.K T r to):=by
 intro pins s σ H Q I h
 refine wpAny_Call_method0_late Ac hline (cI (ho pins s σ H _ I h) fun v s1 ⟨x,H1,I1,r1,ty,q1⟩=>?_)
 obtain ⟨h1,h2⟩:=yh I1 r1 ty
 exact ⟨T,id,pa,slot,RQ,h1,h2,Calls.callWith_builtin rfl (PySem.evalArgs_none (hm pins s1 σ H1 x [] v [] Q I1 r1 .nil q1))⟩
theorem KW (pa:PlainAttrs T) (slot:Slot T name id) (RQ:typeOf (.builtin id) = pure (.type "method_descriptor")) (hm:U4 X id r) (ho:PE X o to) (ha:PA X (e :: es) t)
  (Ac:attributeBase o name X.env (eval o X.env) = eval o X.env:=by rfl)
  (hfew:((backTo qm (starEach (e :: es) X.env)).all (fun x=>!x.1) && (backToKw qm (keywordEach [] X.env)).all (fun x=>x.1.isSome)
   && decide ((e :: es).length + ([]:List Keyword).length + (if ([]:List Keyword).isEmpty then 0 else 1) < 30)) = true:=by rfl)
  (hline:(apos.endLine == qm.line) = true:=by rfl) (hs:starEach (e :: es) X.env = (false,eval e X.env) :: starEach es X.env:=by rfl) (Hg:(backTo qm (starEach es X.env)).any (·.1) = false:=by rfl) :
  PE X (.Call (.Attribute o name apos) (e :: es) [] qm) (Xn X.K T r to t):=by
 intro pins s σ H Q I h
 refine wpAny_Call_method_late Ac hfew hline rfl (cI (ho pins s σ H _ I h) fun v s1 ⟨x,H1,I1,r1,ty,q1⟩=>?_)
 obtain ⟨h1,h2⟩:=yh I1 r1 ty
 refine ⟨T,id,pa,slot,RQ,h1,h2,?_⟩
 have hA:=ha qm pins s1 σ H1 _ I1 q1
 rw [hs] at hA ⊢
 refine Calls.callWith_builtin (by show (false || (backTo qm (starEach es X.env)).any (·.1)) = false;rw [Hg] <;> rfl) (Calls.evalArgs_plain ?_)
 exact cI hA fun us s2 ⟨vs,H2,I2,r2,q2⟩=>hm pins s2 σ H2 x vs v us Q I2 r1 r2 q2
/- xs.append(e),list.index on a module's tuple .. are U4 facts of 06m -/
end
end L2
namespace L2
open PySem PySem.Spec PyProof.Rows
noncomputable def WJ (X:Cx) (id:String) (r:V -> List V -> Hp -> VK -> Prop):Prop :=
 ∀ (pins:List (Addr × Obj)) (s:Shared) (σ:St) (H:Hp) (x:V) (xs:List V) (v:Value) (us:List Value) (Q:VK),Inv X pins σ H s -> RelV x v -> Vals xs us -> r x xs H Q ->
  wpAny (model X.prog X.w) X.A (call (.builtin id) (v :: us)) (EP X pins σ Q) X.xe s
theorem Vals.one:∀ {x:V} {us:List Value},Vals [x] us -> ∃ u,us = [u] /\ RelV x u
 | _,_,.cons r .nil=>⟨_,rfl,r⟩
theorem Vals.zero:∀ {us:List Value},Vals [] us -> us = []
 | _,.nil=>rfl
theorem Vals.rep {xs:List V} {us:List Value} (h:Vals xs us):∀ k:Nat,Vals (List.replicate k xs).flatten (List.replicate k us).flatten
 | 0=>.nil
 | k + 1=>by
  rw [List.replicate_succ,List.replicate_succ,List.flatten_cons,List.flatten_cons]
  exact Vals.append h (Vals.rep h k)
theorem foldl_rep (ai:List Value):∀ (k:Nat) (acc:List Value),
  List.foldl (fun x1 x2=>x1 ++ x2) acc.toArray (List.replicate k ai.toArray) = (acc ++ (List.replicate k ai).flatten).toArray
 | 0,acc=>by simp
 | k + 1,acc=>by
  have e:acc.toArray ++ ai.toArray = (acc ++ ai).toArray:=by simp
  have e2:(acc ++ ai) ++ (List.replicate k ai).flatten = acc ++ (List.replicate (k + 1) ai).flatten:=by
   rw [List.replicate_succ,List.flatten_cons,List.append_assoc]
  rw [<- e2,<- foldl_rep ai k (acc ++ ai),<- e,List.replicate_succ,List.foldl_cons]
section
variable {X:Cx} {pins:List (Addr × Obj)} {σ:St} {H:Hp} {s:Shared} {l b:Addr} {xs ys zs:List V}
theorem Inv.kc {ai its':List Value} {n:Nat} {f:Array Value -> Array Value} {t':Nat} (I:Inv X pins σ H s) (hH:H l = some (.lst xs))
  (e:s.heap.get? l = some { cls:=.type "list",data:=.seq ai.toArray n }) (hf:f ai.toArray = its'.toArray) (hv:Vals ys its') (hz:ys.length <= sizeLine) :
  Inv X pins σ (upd H l (.lst ys)) { s with heap:=s.heap.update l (Obj.mapSeq f),toks:=t' }:=by
 have q:=PySem.IsL.update e f
 rw [hf] at q
 refine I.write (x:=l) (e:=l) (by rw [hH];exact trivial) (.inl rfl) (fun b' u hb hu=>(Heap.get?_update_other s.heap (Obj.mapSeq f) (Ne.symm hb)).trans hu) ⟨_,q⟩ ?_
 exact ⟨hz,its',_,hv,q⟩
theorem Inv.GS {ai:List Value} {t':Nat} (I:Inv X pins σ H s) (hv:Vals ys ai) (hz:ys.length <= sizeLine) :
  Inv X pins σ (upd H s.heap.objs.size (.lst ys)) { s with heap:=s.heap.push { cls:=.type "list",data:=.seq ai.toArray },toks:=t' } :=
 I.laid (fun _ _ q=>Heap.get?_push_of_some _ q) (Nat.le_refl _) ⟨hz,ai,0,hv,Heap.get?_push_size _ rfl⟩
theorem Inv.fresh (I:Inv X pins σ H s):H s.heap.objs.size = none:=I.cQ.fresh (Nat.le_refl _)
theorem Inv.zC (I:Inv X pins σ H s) (hH:H l = some (.lst xs)):xs.length <= sizeLine /\ ∃ (ai:List Value) (n:Nat),Vals xs ai /\ xs.length = ai.length /\ s.heap.get? l = some { cls:=.type "list",data:=.seq ai.toArray n }:=by
 obtain ⟨z,ai,n,r,e⟩:=I.cQ l _ hH
 exact ⟨z,ai,n,r,r.length,e⟩
theorem zl {n:Nat} (h:n <= sizeLine):Builtin.List.listTooLong n = false:=by
 unfold Builtin.List.listTooLong
 exact decide_eq_false (by omega)
end
section
variable {X:Cx}
noncomputable def B2:V -> List V -> Hp -> VK -> Prop:=fun x vs H Q=>∃ l xs y,x = .ref l /\ vs = [y] /\ H l = some (.lst xs) /\ xs.length < sizeLine /\ Q .bC (upd H l (.lst (xs ++ [y])))
theorem w9:WJ X "list.append" B2:=by
 intro pins s σ H x vs v us Q I rx rv h
 obtain ⟨l,xs,y,rfl,rfl,hH,hz,q⟩:=h
 cases rx
 obtain ⟨u,rfl,ru⟩:=rv.one
 obtain ⟨z,ai,n,r,hl,e⟩:=I.zC hH
 refine call_meets F.slot_list_append ⟨_,e,rfl⟩ F.entry_list_append (F.args_list_append_2 _ _) (PySem.list_append l ai.toArray n u (by rw [List.size_toArray];omega)) ⟨e,?_⟩
 refine ⟨.bC,_,I.kc (its':=ai ++ [u]) hH e (by simp) (r.append (.cons ru .nil)) ?_,rfl,q⟩
 rw [List.length_append,List.length_singleton]
 omega
noncomputable def FP:V -> List V -> Hp -> VK -> Prop:=fun x vs H Q=>∃ l xs,x = .ref l /\ vs = [] /\ H l = some (.lst xs) /\ Q .bC (upd H l (.lst []))
theorem rO:WJ X "list.clear" FP:=by
 intro pins s σ H x vs v us Q I rx rv h
 obtain ⟨l,xs,rfl,rfl,hH,q⟩:=h
 cases rx
 have YO:=rv.zero
 subst YO
 obtain ⟨z,ai,n,r,hl,e⟩:=I.zC hH
 refine call_meets F.slot_list_clear ⟨_,e,rfl⟩ F.entry_list_clear (F.args_list_clear_1 _) (AutoSeq1.list_clear_list_0 l ai.toArray n (by rw [List.size_toArray];omega)) ⟨e,?_⟩
 exact ⟨.bC,_,I.kc (its':=[]) (ys:=[]) hH e rfl .nil (Nat.zero_le _),rfl,q⟩
noncomputable def PK:R2:=fun x y H Q=>∃ l b xs zs,x = .ref l /\ y = .ref b /\ H l = some (.lst xs) /\ H b = some (.lst zs) /\ xs.length + zs.length <= sizeLine /\ ∀ p,H p = none -> Q (.ref p) (upd H p (.lst (xs ++ zs)))
theorem Gz:i8 X (binaryOp .Add) PK:=by
 intro pins s σ H x y v u Q I rx ry h
 obtain ⟨l,b,xs,zs,rfl,rfl,hH,hB,hz,q⟩:=h
 cases rx
 cases ry
 obtain ⟨z,ai,n,r,hl,e⟩:=I.zC hH
 obtain ⟨z2,t4,n2,r2,x5,e2⟩:=I.zC hB
 refine PySem.P.add_list e e2 ?_ (by rw [List.size_toArray,List.size_toArray];omega)
 have ea:ai.toArray ++ t4.toArray = (ai ++ t4).toArray:=by simp
 rw [ea]
 exact ⟨.ref _,_,I.GS (t':=s.toks) (r.append r2) (by rw [List.length_append];omega),rfl,q _ I.fresh⟩
noncomputable def PB:R2:=fun x y H Q=>∃ l k xs,x = .ref l /\ y = .int k /\ H l = some (.lst xs) /\ -(2 ^ 63) <= k /\ k < 2 ^ 63 /\ xs.length * k.toNat <= sizeLine /\
 ∀ p,H p = none -> Q (.ref p) (upd H p (.lst (List.replicate k.toNat xs).flatten))
theorem len_rep {α:Type} (xs:List α) (k:Nat):(List.replicate k xs).flatten.length = k * xs.length:=by
 induction k with
 | zero=>simp
 | succ k ih=>rw [List.replicate_succ,List.flatten_cons,List.length_append,ih,Nat.succ_mul,Nat.add_comm]
theorem Gv:i8 X (binaryOp .Mult) PB:=by
 intro pins s σ H x y v u Q I rx ry h
 obtain ⟨l,k,xs,rfl,rfl,hH,h1,h2,hz,q⟩:=h
 cases rx
 obtain ⟨t,rfl⟩:=ry
 obtain ⟨z,ai,n,r,hl,e⟩:=I.zC hH
 have hlen:ai.toArray.size * k.toNat <= sizeLine:=by rw [List.size_toArray,<- hl];exact hz
 have mL:¬ ai.toArray.size * k.toNat > (2 ^ 63 - 1) / 8:=by
  have:(sizeLine:Nat) <= (2 ^ 63 - 1) / 8:=by decide
  omega
 have Sh:¬ (!Builtin.List.listFitsIndex k) = true:=by
  rw [fitsIndex_both h1 h2]
  exact Bool.false_ne_true
 have L0:¬ Builtin.List.listTooLong (ai.toArray.size * k.toNat) = true:=by
  rw [zl hlen]
  exact Bool.false_ne_true
 have Hj:List.foldl (fun x1 x2=>x1 ++ x2) #[] (List.replicate (if ai.toArray.isEmpty = true then 0 else k.toNat) ai.toArray) = (List.replicate k.toNat ai).flatten.toArray:=by
  have f0:∀ m:Nat,List.foldl (fun x1 x2=>x1 ++ x2) #[] (List.replicate m ai.toArray) = (List.replicate m ai).flatten.toArray:=fun m=>by
   have:=foldl_rep ai m []
   rw [List.nil_append] at this
   exact this
  rw [f0]
  cases ai with
  | nil=>simp
  | cons a r'=>rw [if_neg (by simp)]
 refine wpAny_binaryOp_repeat_ref (T:="list") (U:="int") (by decide) ⟨_,e,rfl⟩ (fun s'=>typeIs_int s' k t) noFill_list_mul F.fills_int_mul F.slot_int_rmul repeat_list F.slot_int_index.lookup
  (call_meets F.slot_int_rmul (typeIs_int s k t) F.entry_int_rmul (F.args_int_rmul_2 _ _) (int___rmul___int_list k t l ai.toArray n)
   ⟨e,rfl,⟨_,e,rfl⟩,call_meets F.slot_list_mul ⟨_,e,rfl⟩ F.entry_list_mul (F.args_list_mul_2 _ _) (AutoListH.list___mul___list_int_3 l ai.toArray n k t Sh mL L0) ⟨e,?_⟩⟩)
 rw [Hj]
 exact ⟨.ref _,_,I.GS (t':=s.toks) (r.rep k.toNat) (by rw [len_rep,Nat.mul_comm];exact hz),rfl,q _ I.fresh⟩
end
section
variable {prog:Program} {w:World} {A:Around} {E:Value -> Shared -> Prop} {s:Shared}
set_option maxRecDepth 100000 in
end
section
variable {X:Cx}
end
end L2
namespace Att
open PySem PySem.W PySem.Calls PyProof.Rows
theorem kW {P:Params} {h:Heap}:∀ (ns:List Int) (vs:List Value),WellAll P h vs (ns.map WData.int) -> IntsAre vs ns:=by
 intro ns
 induction ns with
 | nil =>
  intro vs w
  rw [List.map_nil] at w
  cases w
  exact .nil
 | cons n ns ih =>
  intro vs w
  rw [List.map_cons] at w
  cases w with
  | cons a b =>
   cases a
   exact .cons _ _ (ih _ b)
theorem wN {l:OpenLaw} {n:Nat} (hn:l.most = some n) {P:Params} {h:Heap} {args:List WData} {vals:List Value}
  (CO:l.row.toRowW.claim.pre args = true) (RN:WellAll P h vals args) :
  ∃ a vs ns,vals = [Value.ref a] /\ args = [WData.list (ns.map WData.int)] /\ h.get? a = some { cls:=.type "list",data:=.seq vs.toArray } /\ IntsAre vs ns /\ ns.length <= n:=by
 have YS:WShape.hasAll [] args [.list .int] = true:=(pre_splitW CO).1
 have hc:l.pre.holds [] { args:=args } = true:=(pre_splitW CO).2
 obtain ⟨d,r,rfl,h1,h2⟩:=hasAllW_cons YS
 obtain rfl:=hasAllW_nil h2
 obtain ⟨xs,rfl,h3⟩:=hasW_list h1
 obtain ⟨ns,rfl⟩:=items_int h3
 have hlen:ns.length <= n:=by
  unfold OpenLaw.pre at hc
  have h4:(WTm.not (.lt (.lit (.int (n:Int))) (.len (.arg 0)))).holds [] { args:=[.list (ns.map .int)] } = true:=by
   have h4:=(holds_andW hc).1
   rw [hn] at h4
   exact h4
  have h5:=condW_of h4 (w_not (w_lt w_lit (w_len_list (w_arg rfl))))
  rw [List.length_map] at h5
  refine Nat.le_of_not_lt fun q=>?_
  have q':(n:Int) < ((ns.length:Nat):Int):=by omega
  first
   | (rw [decide_eq_true q'] at h5;exact absurd h5 (by decide))
   | (simp at h5;omega)
 cases RN with
 | cons w1 w2 =>
  cases w2
  cases w1 with
  | list ho hall=>exact ⟨_,_,ns,rfl,rfl,ho,kW ns _ hall,hlen⟩
theorem wZ (l:OpenLaw) (args:List WData):l.row.toRowW.claim.post args (.bool true) args = true :=
 postW_of (r:=l.row.toRowW) (X:=(true == true))
  (show WShape.has [] (.bool true) .bool = true by first | rfl | decide | simp [WShape.has,WShape.arms,WShape.armsAll])
  (show (WTm.eq .res (.lit (.bool true))).value [] { args:=args,res:=some (.bool true),after:=args } = some (.bool (true == true)) from w_eq_bool (w_res rfl) w_lit) rfl
theorem sQ {l:OpenLaw} {n:Nat} {q:Program} {loose:List Str} {XP:(Str -> Option Value) -> Heap -> Prop} {YP:World -> Heap -> Prop} {d:DefRec}
  (hn:l.most = some n) (L9:d.params.defaults = [])
  (call:∀ (w:World) (s₀ s₁:Shared) (mg mb:Str -> Option Value) (fa:Addr) (o:Obj) (pm cd doc:Value) (a:Addr) (vs:List Value) (ns:List Int),
   Ground q loose [] XP w s₀ mg mb s₁.heap -> YP w s₁.heap ->
   s₁.heap.get? fa = some o -> o.data = .func (docDef d.name d.params d.body d.scope pm cd doc) -> s₁.heap.CodeRec cd d.name -> mg d.name = some (.ref fa) ->
   s₁.heap.get? a = some { cls:=.type "list",data:=.seq vs.toArray } -> IntsAre vs ns -> ns.length <= n -> s₁.gens = #[] ->
   codeAny (model l.prog w) callerA (.call (.ref fa) ⟨[.ref a],[]⟩) (fun r s'=>r = .ok (.ret (.bool true)) /\ OldK s₁.heap s'.heap /\ s'.os = s₁.os /\ AllBare s'.gens) s₁) :
  WalkO q loose XP YP l.row.toRowW d [] (fun f vs=>PySem.call f vs):=by
 intro w s₀ s₁ mg mb G Y fa o pm cd doc dV kV ho hd Aa hD hmg hg args vals as CO Y2 hrd RN hlo
 obtain rfl:dV = .none:=Dflts.none hD L9
 obtain rfl:kV = .none:=Dflts.noKw hD
 obtain ⟨a,vs,ns,rfl,rfl,Hi,hints,hlen⟩:=wN hn CO RN
 refine enter_call (codeAny_mono (call w s₀ s₁ mg mb fa o pm cd doc a vs ns G Y ho (fd_plain hd) Aa hmg Hi hints hlen hg) fun r s' hq=>?_)
 obtain ⟨rfl,h2,h3,h4⟩:=hq
 exact ⟨.inl ⟨.bool true,.bool true,[],rfl,fun _=>rfl,.bool true,wZ l _,fun _=>⟨List.Pairwise.nil,fun _ hm=>(nomatch hm)⟩⟩,h2,h3,h4⟩
section
variable {prog:Program} {w:World} {A:Around} {E:Value -> Shared -> Prop} {s:Shared} {K:Frag}
noncomputable def ledger (h:Heap) (L d:Addr):List (Addr × Obj):=(List.range h.objs.size).filterMap fun a=>if a = L \/ a = d then none else (h.get? a).map fun o=>(a,o)
end
end Att
namespace L2
open PySem PySem.Spec PyProof.Rows
theorem ip:∀ {vs:List Value} {ns:List Int},IntsAre vs ns -> Vals (ns.map V.int) vs
 | _,_,.nil=>.nil
 | _,_,.cons n t h=>.cons ⟨t,rfl⟩ (ip h)
noncomputable def DP (H:Hp):Prop:=∀ b,H b = none \/ ∃ o xs,H b = some (.gZ o (.lst xs))
theorem zF {P:Program} {w:World} {K:PySem.W.Frag} {mg mb:Str -> Option Value} {CX:x9} {k:Nat} {fa a:Addr} {fd:FuncData} {x:Str} {sp:Sp} {s₁:Shared} {vs:List Value} {ns:List Int}
  (KX:K.In s₁.heap) (x3:s₁.heap.Ns mainGlobals mg) (hb:s₁.heap.Ns builtinsNs mb) (Ze:∀ x:Str,x ≠ "__name__" -> mb x = bootBuiltins x) (R_:s₁.heap.NoLimit) (hg:s₁.gens = #[])
  (ha:s₁.heap.get? a = some { cls:=.type "list",data:=.seq vs.toArray }) (hi:IntsAre vs ns) (hl:ns.length <= sizeLine) (hr:fV k callerA)
  (F:∀ base:Heap,K.In base -> base.Ns mainGlobals mg -> jb P w K mg base CX k fa fd [x] sp) (Me:∀ (s:Shared) (u:Value),BindsTo s fd ⟨[u],[]⟩ [(x,u)])
  (A5:∀ H:Hp,DP H -> dm K H a (ns.map V.int) -> sp [.ref a] H (fun v _=>v = .bl true) fun _ _ _=>False)
  (Sz:∀ H e s',CX [] H s₁ (fun _ _ _=>False) e s' -> False) :
  codeAny (model P w) callerA (.call (.ref fa) ⟨[.ref a],[]⟩) (fun r s'=>r = .ok (.ret (.bool true)) /\ OldK s₁.heap s'.heap /\ s'.os = s₁.os /\ AllBare s'.gens) s₁:=by
 have rv:=ip hi
 have Q3:=hi.length
 have core:∀ H:Hp,DP H -> dm K H a (ns.map V.int) -> kC P w H s₁.heap -> (∀ b,H b ≠ none -> b = a) -> (H a ≠ none -> K.lookup a = none) ->
   codeAny (model P w) callerA (.call (.ref fa) ⟨[.ref a],[]⟩) (fun r s'=>r = .ok (.ret (.bool true)) /\ OldK s₁.heap s'.heap /\ s'.os = s₁.os /\ AllBare s'.gens) s₁:=by
  intro H hO hS cQ hA hK
  have wk:∀ {b:Addr} {o:Obj},s₁.heap.get? b = some o -> H b = none -> (qa s₁.heap H).get? b = some o:=fun e n=>zZ e n
  have La:∀ {b:Addr} {o:Obj} {es:Array DictEntry} {ep:Nat},s₁.heap.get? b = some o -> o.data = .dict es ep -> H b = none:=fun {b o es ep} e d=>by
   cases q:H b with
   | none=>rfl
   | some u =>
    have e':b = a:=hA b (by rw [q];simp)
    subst e'
    rw [ha] at e;cases e
    have d':Data.seq vs.toArray _ = Data.dict es ep:=d
    cases d'
  have NQ:∀ {b:Addr} {m:Str -> Option Value},s₁.heap.Ns b m -> (qa s₁.heap H).Ns b m:=fun {b m} ⟨o,es,ep,e,d,r⟩=>⟨o,es,ep,wk e (La e d),d,r⟩
  have V6:K.In (qa s₁.heap H):=fun b o e=>wk (KX b o e) (by
   cases q:H b with
   | none=>rfl
   | some u =>
    have e':b = a:=hA b (by rw [q];simp)
    subst e'
    rw [hK (by rw [q];simp)] at e;cases e)
  have hM:Mod K mg (qa s₁.heap H):=⟨V6,NQ x3,⟨mb,NQ hb,Ze⟩,let ⟨mc,h1,h2⟩:=R_;⟨mc,NQ h1,h2⟩⟩
  have e0:DR P w K mg (qa s₁.heap H) callerA [] s₁ H:=⟨rfl,hM,fun b o e=>Ck e,Nat.le_of_eq (xp _ _),trivial,fun b hb=>absurd (show b ∈ ([]:List Addr) from hb) (by simp),cQ,.of_eq hg⟩
  refine codeAny_mono ((F _ V6 (NQ x3)).run callerA [] s₁ H ⟨[.ref a],[]⟩ [.ref a] [.ref a] _ _ hr e0 (Me s₁ (.ref a)) (.cons rfl .nil) (A5 H hO hS)) fun r s' h=>?_
  cases r with
  | error e=>exact (Sz H e s' h).elim
  | ok fl =>
   cases fl with
   | next=>exact False.elim h
   | brk=>exact False.elim h
   | cont=>exact False.elim h
   | ret u =>
    obtain ⟨v,H',os,bare,un,R5,r',q⟩:=h
    have q':v = .bl true:=q
    subst q'
    obtain rfl:u = Value.bool true:=r'
    refine ⟨rfl,OldK.of_keep fun b o e=>?_,os,bare⟩
    cases q:H b with
    | none=>exact un.keep b o e q (by intro z;exact absurd (show b ∈ ([]:List Addr) from z) (by simp)) (by simp)
    | some u =>
     rcases hO b with z | ⟨ob,xs,z⟩
     ·rw [q] at z;cases z
     ·have z2:=un.oj b ob _ z
      obtain ⟨e1,_⟩:=cQ b _ z
      obtain ⟨e2,_⟩:=R5 b _ z2
      rw [e] at e1;cases e1
      exact e2
 cases hk:K.lookup a with
 | some o =>
  have e:=KX a o hk
  rw [ha] at e
  cases e
  refine core (fun _=>none) (fun _=>.inl rfl) (.inr ⟨_,vs.toArray,_,hk,rfl,rfl,rfl,by rw [List.size_toArray,Q3];exact hl,by simpa using rv⟩) (fun b u z=>by have z':(none:Option HO) = some u:=z;cases z') (fun b z=>absurd rfl z) fun z=>absurd rfl z
 | none =>
  refine core (fun b=>if b = a then some (.gZ { cls:=.type "list",data:=.seq vs.toArray } (.lst (ns.map V.int))) else none) (fun b=>?_) (.inl (.inr ⟨{ cls:=.type "list",data:=.seq vs.toArray },if_pos rfl⟩)) (fun b u z=>?_) (fun b z=>?_) fun _=>hk
  ·by_cases hb:b = a
   ·exact .inr ⟨_,_,if_pos hb⟩
   ·exact .inl (if_neg hb)
  ·by_cases hb:b = a
   ·have z':=(if_pos hb).symm.trans z
    cases z'
    subst hb
    exact ⟨ha,by rw [List.length_map];exact hl,vs,_,rv,ha⟩
   ·have z':=(if_neg hb).symm.trans z
    cases z'
  ·by_cases hb:b = a
   ·exact hb
   ·exact absurd (if_neg hb) z
end L2
namespace L2
open PySem PySem.Spec PyProof.Rows
theorem Bm {l:PySem.W.OpenLaw} {n k:Nat} {q:Program} {loose:List Str} {XP:(Str -> Option Value) -> Heap -> Prop} {YP:World -> Heap -> Prop} {d:DefRec} {K:Params -> PySem.W.Frag} {CX:World -> x9} {sp:World -> Sp} {x:Str}
  (hn:l.most = some n) (Jo:n <= sizeLine) (L9:d.params.defaults = []) (hr:fV k callerA)
  (hY:∀ (w:World) (h:Heap),YP w h -> (K w.params).In h)
  (F:∀ (w:World) (mg:Str -> Option Value) (fa:Addr) (h:Heap),(K w.params).In h -> h.Ns mainGlobals mg -> mg d.name = some (.ref fa) ->
   ∃ fd:FuncData,(∀ (s:Shared) (u:Value),BindsTo s fd ⟨[u],[]⟩ [(x,u)]) /\
    ∀ base:Heap,(K w.params).In base -> base.Ns mainGlobals mg -> jb l.prog w (K w.params) mg base (CX w) k fa fd [x] (sp w))
  (A5:∀ (w:World) (H:Hp) (a:Addr) (ns:List Int),ns.length <= n -> DP H -> dm (K w.params) H a (ns.map V.int) -> sp w [.ref a] H (fun v _=>v = .bl true) fun _ _ _=>False)
  (Sz:∀ (w:World) (H:Hp) (s:Shared) (e:Value) (s':Shared),CX w [] H s (fun _ _ _=>False) e s' -> False) :
  PySem.W.WalkO q loose XP YP l.row.toRowW d [] (fun f vs=>PySem.call f vs):=by
 refine Att.sQ hn L9 fun w s₀ s₁ mg mb fa o pm cd doc a vs ns G Y ho hd Aa hmg Hi hints hlen hg=>?_
 have KX:=hY w _ Y
 obtain ⟨fd,hb,hF⟩:=F w mg fa _ KX G.T.g hmg
 exact zF KX G.T.g G.T.b G.T.builtins G.T.nolimit hg Hi hints (Nat.le_trans hlen Jo) hr hF hb (fun H hO hS=>A5 w H a ns hlen hO hS) fun H e s'=>Sz w H s₁ e s'
end L2
namespace L2
open PySem PySem.Spec PyProof.Rows
noncomputable def aF (s:Stmt):Arguments:=match s with
 | .FunctionDef _ a _ _ _ _ _ _ _ _=>a
 | _=>{ posonlyargs:=[],args:=[],vararg:=none,kwonlyargs:=[],kw_defaults:=[],kwarg:=none,defaults:=[] }
noncomputable def ah (s:Stmt):List Stmt:=match s with
 | .FunctionDef _ _ b _ _ _ _ _ _ _=>b
 | _=>[]
noncomputable def ab (s:Stmt):Scope:=match s with
 | .FunctionDef _ _ _ _ _ _ sc _ _ _=>sc
 | _=>{ kind:=.function,names:=[],isGenerator:=false,isCoroutine:=false }
noncomputable abbrev A1:x9:=fun _ _ _ _ _ _=>False
noncomputable abbrev E0:XK:=fun _ _ _=>False
theorem KZ {X:Cx}:Passes A1 X E0:=fun _ _ _ _ _ _ _ h=>h.elim
structure IP (K:PySem.W.Frag) (x qual:Str) (st:Stmt) (f:Addr) (fd:FuncData):Prop where
 ex:∃ (oc:Value) (od:Option Addr) (kV doc pm:Value) (an:Option Addr) (kN ct:Value) (A3:Array (Option Value)),
  fd = PySem.W.fnOf x qual (aF st) (ah st) (ab st) .none kV doc pm an kN ct /\ K.lookup f = some ⟨oc,od,.func fd,A3⟩ /\ PySem.W.codeIn K kN qual = true
 kp:PySem.W.keepIn K (.ref f) = true
section
variable {P:Program} {w:World} {K:PySem.W.Frag} {mg:Str -> Option Value} {base:Heap}
theorem IP.ok {x qual:Str} {st:Stmt} {f:Addr} {fd:FuncData} {N ps:List Str} {k:Nat} {sp:Sp} (F:IP K x qual st f fd) (S:aG N ps (ab st)) (len:∀ vs H Q E,sp vs H Q E -> vs.length = ps.length)
  (Ab:∀ (kN:Value) (A:Around) (outer:List Env) (s:Shared) (H:Hp) (vs:List V) (Q:VK) (E:XK),fV k (A.deeper (envOfC qual (ab st) s.heap.objs.size f kN)) -> sp vs H Q E ->
   ∃ t,lO (uw A1 P w K mg base N qual (ab st) f kN A outer s H E).K8 (ah st) t /\ t { nx:=fun _ H'=>Q .bC H',rt:=Q } (start N vs) H):jb P w K mg base A1 (k + 1) f fd ps sp:=by
 obtain ⟨oc,od,kV,doc,pm,an,kN,ct,A3,rfl,lk,Aa⟩:=F.ex
 refine Mw lk Aa S len fun A outer s H vs Q E hr A5=>?_
 obtain ⟨t,h,q⟩:=Ab kN A outer s H vs Q E hr A5
 exact ⟨t,h.K8,q⟩
theorem IP.binds {x qual:Str} {st:Stmt} {f:Addr} {fd:FuncData} {ps:List Str} (F:IP K x qual st f fd)
  (h:∀ (kV doc pm:Value) (an:Option Addr) (kN ct:Value) (us:List Value),us.length = ps.length -> bindArgs (PySem.W.fnOf x qual (aF st) (ah st) (ab st) .none kV doc pm an kN ct) ⟨us,[]⟩ = pure (ps.zip us)):Binds K fd ps []:=by
 obtain ⟨oc,od,kV,doc,pm,an,kN,ct,A3,rfl,lk,Aa⟩:=F.ex
 exact .all (h kV doc pm an kN ct)
theorem aW {x qual:Str} {st:Stmt} {f:Addr} {oc:Value} {od an:Option Addr} {A3:Array (Option Value)} {kV doc pm kN ct:Value} (l:K.lookup f = some ⟨oc,od,.func (PySem.W.fnOf x qual (aF st) (ah st) (ab st) .none kV doc pm an kN ct),A3⟩)
  (c:PySem.W.codeIn K kN qual = true) (k:PySem.W.keepIn K (.ref f) = true):IP K x qual st f (PySem.W.fnOf x qual (aF st) (ah st) (ab st) .none kV doc pm an kN ct):=⟨⟨oc,od,kV,doc,pm,an,kN,ct,A3,rfl,l,c⟩,k⟩
end
theorem zT {A:Around} {k:Nat} (hr:fV k A):A.units + 1 < cLine:=Nat.lt_of_le_of_lt (Nat.add_le_add_left (by decide:1 <= 64) _) hr.units
section
variable {X:Cx}
end
noncomputable def aj (H H':Hp):Prop:=∀ b o,H b = some o -> H' b = some o
theorem aj.refl (H:Hp):aj H H:=fun _ _ h=>h
theorem aj.trans {H H1 H2:Hp} (a:aj H H1) (b:aj H1 H2):aj H H2:=fun c o h=>b c o (a c o h)
theorem aj.free {H H':Hp} (e:aj H H') {l:Addr} (h:H' l = Option.none):H l = Option.none:=by
 cases q:H l with
 | none=>rfl
 | some o =>
  rw [e l o q] at h
  cases h
theorem aj.seq {K:PySem.W.Frag} {H H':Hp} {a:Addr} {xs:List V} (e:aj H H') (h:dm K H a xs):dm K H' a xs:=by
 rcases h with (h | ⟨o,h⟩) | h
 ·exact .inl (.inl (e _ _ h))
 ·exact .inl (.inr ⟨o,e _ _ h⟩)
 ·exact .inr h
end L2
set_option autoImplicit false
set_option linter.all false
set_option Elab.async false
set_option maxRecDepth 100000
set_option maxHeartbeats 4000000
section
namespace DI
open PySem (Str Expr Stmt Scope NameKind)
inductive Fl where | ow | fz | al | sc
 deriving DecidableEq
inductive D where
 | bC | bl (b:Bool) | int (i:Int)
 | tup (ds:List D)
 | lst (f:Fl) (ds:List D)
 | cc (f:Fl) (ks:List (List Int)) (vs:List D)
 | bx (f:Fl) (ks:List Int) (vs:List D)
mutual
noncomputable def aD (g:Fl -> Fl):D -> D
 | .tup ds=>.tup (ag g ds)
 | .lst f ds=>.lst (g f) (ag g ds)
 | .cc f ks vs=>.cc (g f) ks (ag g vs)
 | .bx f ks vs=>.bx (g f) ks (ag g vs)
 | .bC=>.bC
 | .bl b=>.bl b
 | .int i=>.int i
noncomputable def ag (g:Fl -> Fl):List D -> List D
 | []=>[]
 | d :: ds=>aD g d :: ag g ds
end
theorem aC (g:Fl -> Fl):∀ ds:List D,ag g ds = ds.map (aD g)
 | []=>rfl
 | d :: ds=>by rw [ag,aC g ds];rfl
noncomputable def bc:Fl -> Fl | .ow=>.al | f=>f
noncomputable def iZ:Fl -> Fl | .fz=>.al | f=>f
noncomputable def aK:Fl -> Fl | .sc=>.sc | _=>.fz
noncomputable def t6:Fl -> Bool | .sc=>true | _=>false
mutual
noncomputable def aq (p:Fl -> Bool):D -> Bool
 | .tup ds=>ao p ds
 | .lst f ds=>p f || ao p ds
 | .cc f ks vs=>p f || ao p vs
 | .bx f ks vs=>p f || ao p vs
 | _=>false
noncomputable def ao (p:Fl -> Bool):List D -> Bool
 | []=>false
 | d :: ds=>aq p d || ao p ds
end
noncomputable def bp:Fl -> Bool | .al=>true | _=>false
noncomputable def cG:Fl -> Bool | .ow=>true | _=>false
noncomputable def anyF:Fl -> Bool:=fun _=>true
mutual
noncomputable def i3:D -> D -> Bool
 | .bC,.bC=>true
 | .bl a,.bl b=>a == b
 | .bl a,.int b=>(if a then 1 else 0) == b
 | .int a,.bl b=>a == (if b then 1 else 0)
 | .int a,.int b=>a == b
 | .tup a,.tup b=>cZ a b
 | .lst _ a,.lst _ b=>cZ a b
 | _,_=>false
noncomputable def cZ:List D -> List D -> Bool
 | [],[]=>true
 | a :: as,b :: bs=>i3 a b && cZ as bs
 | _,_=>false
end
noncomputable def cC:Nat -> D -> Bool
 | _,.bC=>true
 | _,.bl _=>true
 | _,.int _=>true
 | n + 1,.tup ds=>ds.all (cC n)
 | n + 1,.lst _ ds=>ds.all (cC n)
 | _,_=>false
noncomputable abbrev O (α:Type):=Option (Except Nat α)
noncomputable def ok {α:Type} (a:α):O α:=some (.ok a)
noncomputable def bd {α β:Type} (x:O α) (f:α -> O β):O β:=match x with
 | some (.ok a)=>f a
 | some (.error c)=>some (.error c)
 | none=>none
@[simp] theorem NS {α:Type} {a:α}:((none:O α) = ok a) = False:=by simp [ok]
@[simp] theorem Qj {α:Type} {a b:α}:(ok a = ok b) = (a = b):=by simp [ok]
@[simp] theorem Tv {α:Type} {a:α} {c:Nat}:((some (.error c):O α) = ok a) = False:=by simp [ok]
@[simp] theorem Er {α:Type} {p:Prop} [Decidable p] {a b:α}:((if p then ok a else none) = ok b) = (p /\ a = b):=by
 by_cases h:p <;> simp [h]
@[simp] theorem RJ {α:Type} {p:Prop} [Decidable p] {a b:α}:((if p then none else ok a) = ok b) = (¬ p /\ a = b):=by
 by_cases h:p <;> simp [h]
theorem ae {α β:Type} {x:O α} {f:α -> O β} {b:β} (h:bd x f = ok b):∃ a,x = ok a /\ f a = ok b:=by
 unfold bd at h
 match x,h with
 | some (.ok a),h=>exact ⟨a,rfl,h⟩
 | some (.error c),h=>cases h
 | none,h=>cases h
inductive DS where | add | sub | mul | fdiv | mod | pow | shr | band
 deriving DecidableEq
inductive x_ where | eq | ne | lt | le | gt | ge | Lz | zk | tQ (b:Bool) | xZ
 deriving DecidableEq
inductive Ty where | int | bool | list | tuple
 deriving DecidableEq
inductive Bf where | len | abs | zR | list1 | tuple1 | j4 | all1 | f_
 deriving DecidableEq
inductive Tg where | nm (i:Nat) | tp (is:List Nat)
 deriving DecidableEq
inductive IK where | ji | seq | cj (p:Nat)
 deriving DecidableEq
inductive GK where | i (z:Int) | t (zs:List Int)
 deriving DecidableEq
inductive CE where
 | bC | bl (b:Bool) | int (i:Int) | glo (x:Str) (i:Int) | glt (x:Str) (zs:List Int)
 | v (i:Nat)
 | bin (op:DS) (a b:CE)
 | neg (a:CE) | not (a:CE) | and (es:List CE) | or (es:List CE) | ite (c a b:CE)
 | cmp (op:x_) (a b:CE)
 | lE (a:CE) (t:Ty)
 | call (f:Nat) (es:List CE)
 | bf (f:Bf) (es:List CE)
 | ix (a b:CE)
 | kc (a:CE)
 | tup (es:List CE) | lst (es:List CE)
 | cj (p:Nat) (es:List CE)
 | comp (n:Nat) (t:Tg) (caps:List Nat) (ik:IK) (es aS:List CE) (elt:CE)
inductive CI where | ji (a:CE) | seq (a:CE) | Gb (p:Nat) (es:List CE)
inductive CS where
 | asg (t:Tg) (e:CE) | par (i j:Nat) (a b:CE) | ret (e:CE) | rs (c:Nat) | ex (e:CE)
 | mut (p i:Nat) (es:List CE) | app (i:Nat) (e:CE) | setI (i:Nat) (k e:CE)
 | ifs (c:CE) (a b:List CS)
 | Fb (c:CE) (b:List CS)
 | fr (t:Tg) (it:CI) (b:List CS)
noncomputable abbrev au:=List (Option D)
noncomputable abbrev az:=Nat -> List D -> O D
noncomputable def big:Nat:=2 ^ 9000
noncomputable def gQ (i j:Int):Bool:=decide (i.natAbs < 2 ^ 64) || decide (j.natAbs < 2 ^ 64) || (decide (i.natAbs < big) && decide (j.natAbs < big))
noncomputable def pb (j:Int):Bool:=decide (j ≠ 0) && decide (j.natAbs < big)
noncomputable def uZ (i j:Int):Bool:=decide (0 <= j) && decide (j <= 1000000) && decide (i.natAbs < 2 ^ 64)
noncomputable def dU:Nat:=1000000
theorem nM {α:Type} {c:Prop} [inst:Decidable c] {v d:α} (h:(if c then ok v else none) = ok d):c /\ v = d:=by
 cases inst with
 | isTrue hc=>exact ⟨hc,Except.ok.inj (Option.some.inj h)⟩
 | isFalse hc=>cases h
noncomputable def cX:DS -> D -> D -> O D
 | .add,.int i,.int j=>ok (.int (i + j))
 | .add,.lst f a,.lst g b=>if t6 f = false /\ t6 g = false /\ a.length + b.length <= dU then ok (.lst .ow (ag bc (a ++ b))) else none
 | .add,.tup a,.tup b=>if a.length + b.length <= dU then ok (.tup (ag bc (a ++ b))) else none
 | .sub,.int i,.int j=>ok (.int (i - j))
 | .mul,.int i,.int j=>if gQ i j then ok (.int (i * j)) else none
 | .mul,.lst f a,.int k=>if t6 f = false /\ a.length * k.toNat <= dU /\ k <= dU /\ -dU <= k then ok (.lst .ow (ag bc (List.replicate k.toNat a).flatten)) else none
 | .fdiv,.int i,.int j=>if pb j then ok (.int (i.fdiv j)) else none
 | .mod,.int i,.int j=>if j ≠ 0 then ok (.int (i.fmod j)) else none
 | .pow,.int i,.int j=>if uZ i j then ok (.int (i ^ j.toNat)) else none
 | .shr,.int i,.int j=>if 0 <= j then ok (.int (i / 2 ^ j.toNat)) else none
 | .band,.int i,.int j=>if j = 1 then ok (.int (i % 2)) else none
 | _,_,_=>none
noncomputable def inD (x:D):List D -> Bool
 | []=>false
 | y :: ys=>i3 y x || inD x ys
noncomputable def gy:D -> Bool
 | .bC=>true | .bl _=>true | .int _=>true | _=>false
noncomputable def G3:D -> Option (List D)
 | .tup ds=>some ds
 | .lst _ ds=>some ds
 | _=>none
noncomputable def dI:x_ -> D -> D -> O D
 | .eq,a,b=>if cC 40 a && cC 40 b then ok (.bl (i3 a b)) else none
 | .ne,a,b=>if cC 40 a && cC 40 b then ok (.bl (!i3 a b)) else none
 | .lt,.int i,.int j=>ok (.bl (decide (i < j)))
 | .le,.int i,.int j=>ok (.bl (decide (i <= j)))
 | .gt,.int i,.int j=>ok (.bl (decide (j < i)))
 | .ge,.int i,.int j=>ok (.bl (decide (j <= i)))
 | .Lz,a,.bC=>ok (.bl (match a with | .bC=>true | _=>false))
 | .zk,a,.bC=>ok (.bl (match a with | .bC=>false | _=>true))
 | .tQ _,.bl a,.bl c=>ok (.bl (!(a == c)))
 | .xZ,a,b=>match G3 b with
  | some ds=>if gy a && ds.all gy then ok (.bl (inD a ds)) else none
  | none=>none
 | _,_,_=>none
noncomputable def dB:Ty -> D -> Bool
 | .int,.int _=>true | .int,.bl _=>true
 | .bool,.bl _=>true
 | .list,.lst _ _=>true
 | .tuple,.tup _=>true
 | _,_=>false
noncomputable def vy (n:Nat) (i:Int):Option Nat:=if 0 <= i then (if i < n then some i.toNat else none) else if -(n:Int) <= i then some (i + n).toNat else none
noncomputable def s9 (ds:List D) (i:Int):O D:=match (vy ds.length i).bind fun j=>ds[j]? with
 | some d=>ok (aD bc d)
 | none=>none
noncomputable def tZ:D -> D -> O D
 | .tup ds,.int i=>s9 ds i
 | .lst _ ds,.int i=>s9 ds i
 | _,_=>none
noncomputable def intsOf:List D -> Option (List Int)
 | []=>some []
 | .int i :: ds=>(intsOf ds).map (i :: ·)
 | _ :: _=>none
noncomputable def hU:List D -> Option (List Bool)
 | []=>some []
 | .bl i :: ds=>(hU ds).map (i :: ·)
 | _ :: _=>none
theorem dG:∀ {ds:List D} {ns:List Int},intsOf ds = some ns -> ds = ns.map D.int
 | [],ns,h=>by simp [intsOf] at h;subst h;rfl
 | d :: ds,ns,h=>by
  cases d <;> simp [intsOf] at h
  obtain ⟨ms,h1,rfl⟩:=h
  rw [dG h1];rfl
theorem sP:∀ {ds:List D} {bs:List Bool},hU ds = some bs -> ds = bs.map D.bl
 | [],bs,h=>by simp [hU] at h;subst h;rfl
 | d :: ds,bs,h=>by
  cases d <;> simp [hU] at h
  obtain ⟨ms,h1,rfl⟩:=h
  rw [sP h1];rfl
theorem a_:∀ ns:List Int,intsOf (ns.map D.int) = some ns
 | []=>rfl
 | n :: ns=>by simp [intsOf,a_ ns]
theorem ku:∀ bs:List Bool,hU (bs.map D.bl) = some bs
 | []=>rfl
 | b :: bs=>by simp [hU,ku bs]
noncomputable def sortI (ns:List Int):List Int:=ns.mergeSort (fun a b=>decide (a <= b))
noncomputable def oP (ds:List D):O D:=match intsOf ds with
 | some ns=>if ns.length < 64 then ok (.lst .ow ((sortI ns).map D.int)) else none
 | none=>none
noncomputable def qC:Bf -> List D -> O D
 | .len,xs=>match xs with
  | [.tup ds]=>ok (.int ds.length)
  | [.lst _ ds]=>ok (.int ds.length)
  | _=>none
 | .abs,xs=>match xs with
  | [.int i]=>ok (.int (if i < 0 then -i else i))
  | _=>none
 | .zR,xs=>match xs with
  | [.int i]=>ok (.int i)
  | [.bl b]=>ok (.int (if b then 1 else 0))
  | _=>none
 | .list1,xs=>match xs with
  | [.lst _ ds]=>ok (.lst .ow (ag bc ds))
  | [.tup ds]=>ok (.lst .ow (ag bc ds))
  | _=>none
 | .tuple1,xs=>match xs with
  | [.lst _ ds]=>ok (.tup (ag bc ds))
  | [.tup ds]=>ok (.tup (ag bc ds))
  | _=>none
 | .j4,xs=>match xs with
  | [.lst _ ds]=>(match intsOf ds with
   | some ns=>ok (.int ns.sum)
   | none=>none)
  | _=>none
 | .all1,xs=>match xs with
  | [.lst _ ds]=>(match hU ds with
   | some bs=>ok (.bl (bs.all id))
   | none=>none)
  | _=>none
 | .f_,xs=>match xs with
  | [.lst _ ds]=>oP ds
  | [.tup ds]=>oP ds
  | _=>none
noncomputable def sA (ns:List Int):List Int:=ns.foldl (fun (m:List Int) (k:Int)=>if m.any (· == k) then m else m ++ [k]) []
noncomputable def vo:D -> O D
 | .tup ds=>(match intsOf ds with
  | some ns=>if ns.length < 4000 then ok (.int (sA ns).length) else none
  | none=>none)
 | _=>none
noncomputable def fZ:D -> O Bool
 | .bl b=>ok b
 | _=>none
noncomputable def intD:D -> O Int
 | .int i=>ok i
 | _=>none
noncomputable def w6:Option (Option D) -> Option (List D)
 | some (some (.lst .ow ds))=>some ds
 | _=>none
theorem vj {o:Option (Option D)} {ds:List D} (h:w6 o = some ds):o = some (some (.lst .ow ds)):=by
 unfold w6 at h
 split at h <;> cases h
 rfl
theorem CD {d:D} {i:Int} (h:intD d = ok i):d = .int i:=by
 cases d <;> simp [intD] at h
 rw [h]
noncomputable def Co:D -> O D
 | .int i=>ok (.int (-i))
 | _=>none
noncomputable def gx:List Nat -> List D -> au -> O au
 | [],[],ρ=>ok ρ
 | i :: is,d :: ds,ρ=>if i < ρ.length then gx is ds (ρ.set i (some d)) else none
 | _,_,_=>none
noncomputable def ck:Tg -> D -> au -> O au
 | .nm i,d,ρ=>if i < ρ.length then ok (ρ.set i (some d)) else none
 | .tp is,.tup ds,ρ=>if ao cG ds then none else gx is ds ρ
 | _,_,_=>none
noncomputable def nY:D -> O (List D)
 | .lst _ ds=>ok (ag aK ds)
 | _=>none
noncomputable def dF (Φ:az):IK -> List D -> O (List D)
 | .cj p,xs=>bd (Φ p xs) nY
 | .ji,[.int n]=>if n <= dU /\ -dU <= n then ok ((List.range n.toNat).map fun (k:Nat)=>D.int (k:Int)) else none
 | .seq,[.tup ds]=>ok (ag aK ds)
 | .seq,[.lst _ ds]=>ok (ag aK ds)
 | _,_=>none
noncomputable def fT (bind:D -> O au) (test:au -> O Bool) (el:au -> O D):List D -> O (List D)
 | []=>ok []
 | x :: xs=>bd (bind x) fun ρ=>bd (test ρ) fun b=>if b then bd (el ρ) fun y=>bd (fT bind test el xs) fun ys=>ok (y :: ys) else fT bind test el xs
noncomputable def aT (n:Nat) (caps:List Nat) (ρ:au):au:=List.replicate n none ++ caps.map fun i=>(ρ[i]?.getD none).map (aD aK)
noncomputable def uR (o:Option (Option D)):O D:=match o with
 | some (some d)=>ok (aD bc d)
 | _=>none
theorem yA {o:Option (Option D)} {d:D} (h:uR o = ok d):∃ d',o = some (some d') /\ d = aD bc d':=by
 cases o with
 | none=>cases h
 | some z=>cases z with
  | none=>cases h
  | some z=>cases h;exact ⟨z,rfl,rfl⟩
mutual
noncomputable def aL (Φ:az):CE -> au -> O D
 | .bC,_=>ok .bC
 | .bl b,_=>ok (.bl b)
 | .int i,_=>ok (.int i)
 | .glo _ i,_=>ok (.int i)
 | .glt _ zs,_=>ok (.tup (zs.map D.int))
 | .v i,ρ=>uR ρ[i]?
 | .bin op a b,ρ=>bd (aL Φ a ρ) fun x=>bd (aL Φ b ρ) fun y=>cX op x y
 | .neg a,ρ=>bd (aL Φ a ρ) Co
 | .not a,ρ=>bd (bd (aL Φ a ρ) fZ) fun b=>ok (.bl (!b))
 | .and es,ρ=>o9 Φ es ρ
 | .or es,ρ=>xE Φ es ρ
 | .ite c a b,ρ=>bd (bd (aL Φ c ρ) fZ) fun k=>if k then aL Φ a ρ else aL Φ b ρ
 | .cmp op a b,ρ=>bd (aL Φ a ρ) fun x=>bd (aL Φ b ρ) fun y=>dI op x y
 | .lE a t,ρ=>bd (aL Φ a ρ) fun x=>ok (.bl (dB t x))
 | .call f es,ρ=>bd (cD Φ es ρ) fun xs=>bd (Φ f (ag aK xs)) fun r=>ok (aD iZ r)
 | .bf f es,ρ=>bd (cD Φ es ρ) fun xs=>qC f xs
 | .ix a b,ρ=>bd (aL Φ a ρ) fun x=>bd (aL Φ b ρ) fun y=>tZ x y
 | .kc a,ρ=>bd (aL Φ a ρ) fun x=>vo x
 | .cj p es,ρ=>bd (cD Φ es ρ) fun xs=>Φ p xs
 | .tup es,ρ=>bd (cD Φ es ρ) fun xs=>ok (.tup xs)
 | .lst es,ρ=>bd (cD Φ es ρ) fun xs=>ok (.lst .ow xs)
 | .comp n t caps ik es aS elt,ρ=>bd (cD Φ es ρ) fun xs=>bd (dF Φ ik xs) fun items =>
   bd (fT (fun d=>ck t d (aT n caps ρ)) (fun ρ'=>gz Φ aS ρ') (fun ρ'=>aL Φ elt ρ') items) fun ds=>if ds.length <= dU then ok (.lst .ow (ag iZ ds)) else none
noncomputable def cD (Φ:az):List CE -> au -> O (List D)
 | [],_=>ok []
 | e :: es,ρ=>bd (aL Φ e ρ) fun x=>bd (cD Φ es ρ) fun xs=>ok (x :: xs)
noncomputable def gz (Φ:az):List CE -> au -> O Bool
 | [],_=>ok true
 | e :: es,ρ=>bd (bd (aL Φ e ρ) fZ) fun b=>if b then gz Φ es ρ else ok false
noncomputable def o9 (Φ:az):List CE -> au -> O D
 | [],_=>none
 | e :: es,ρ=>bd (bd (aL Φ e ρ) fZ) fun c=>match es with
  | []=>ok (.bl c)
  | _ :: _=>if c then o9 Φ es ρ else ok (.bl false)
noncomputable def xE (Φ:az):List CE -> au -> O D
 | [],_=>none
 | e :: es,ρ=>bd (bd (aL Φ e ρ) fZ) fun c=>match es with
  | []=>ok (.bl c)
  | _ :: _=>if c then ok (.bl true) else xE Φ es ρ
end
noncomputable def sZ (Φ:az) (e:CE) (ρ:au):O Bool:=bd (aL Φ e ρ) fZ
inductive Fo where | nx | rt (d:D) | bk | ct
noncomputable def cP {α β:Type} (n:Nat) (step:α -> O (α ⊕ β)) (a:α):O β:=match n with
 | 0=>none
 | n + 1=>bd (step a) fun r=>match r with
  | .inl a'=>cP n step a'
  | .inr b=>ok b
open Classical in
noncomputable def eN {α β:Type} (step:α -> O (α ⊕ β)) (a:α):O β :=
 if h:∃ n,cP n step a ≠ none then cP (Classical.choose h) step a else none
theorem gU {α β:Type} (step:α -> O (α ⊕ β)):∀ (n m:Nat) (a:α),n <= m -> cP n step a ≠ none -> cP m step a = cP n step a
 | 0,_,_,_,h=>absurd rfl h
 | n + 1,0,_,hl,_=>by omega
 | n + 1,m + 1,a,hl,h=>by
  unfold cP at h ⊢
  match hs:step a with
  | none=>rw [hs] at h;exact absurd rfl h
  | some (.error c)=>rfl
  | some (.ok (.inr b))=>rfl
  | some (.ok (.inl a')) =>
   rw [hs] at h
   exact gU step n m a' (by omega) h
theorem j0 {α β:Type} {step:α -> O (α ⊕ β)} {a:α} {n:Nat} {r:Except Nat β} (h:cP n step a = some r):eN step a = some r:=by
 have hx:∃ n,cP n step a ≠ none:=⟨n,by rw [h];simp⟩
 unfold eN
 rw [dif_pos hx]
 have hc:=Classical.choose_spec hx
 rcases Nat.le_total n (Classical.choose hx) with hl | hl
 ·rw [gU step _ _ a hl (by rw [h];simp),h]
 ·rw [<- gU step _ _ a hl hc,h]
theorem kb {α β:Type} {step:α -> O (α ⊕ β)} {a:α} {r:Except Nat β} (h:eN step a = some r):∃ n,cP n step a = some r:=by
 unfold eN at h
 split at h
 ·exact ⟨_,h⟩
 ·cases h
theorem lS {α β:Type} {step:α -> O (α ⊕ β)} {a a':α} (h:step a = ok (.inl a')):eN step a = eN step a':=by
 match hr:eN step a' with
 | some r =>
  obtain ⟨n,hn⟩:=kb hr
  refine j0 (n:=n + 1) ?_
  unfold cP;rw [h];exact hn
 | none =>
  match hq:eN step a with
  | none=>rfl
  | some r =>
   obtain ⟨n,hn⟩:=kb hq
   match n,hn with
   | n + 1,hn =>
    unfold cP at hn;rw [h] at hn
    rw [j0 (n:=n) hn] at hr;cases hr
theorem fX {α β:Type} {step:α -> O (α ⊕ β)} {a:α} {b:β} (h:step a = ok (.inr b)):eN step a = ok b :=
 j0 (n:=1) (by unfold cP;rw [h];rfl)
mutual
noncomputable def fM:CE -> List Nat
 | .v i=>[i]
 | .bin _ a b=>fM a ++ fM b
 | .neg a=>fM a
 | .not a=>fM a
 | .and es=>dk es
 | .or es=>dk es
 | .ite c a b=>fM c ++ (fM a ++ fM b)
 | .cmp _ a b=>fM a ++ fM b
 | .lE a _=>fM a
 | .call _ es=>dk es
 | .bf _ es=>dk es
 | .ix a b=>fM a ++ fM b
 | .kc a=>fM a
 | .tup es=>dk es
 | .lst es=>dk es
 | .cj _ es=>dk es
 | .comp _ _ caps _ es _ _=>caps ++ dk es
 | _=>[]
noncomputable def dk:List CE -> List Nat
 | []=>[]
 | e :: es=>fM e ++ dk es
end
noncomputable def gZ (is:List Nat) (ρ:au):au:=ρ.mapIdx fun i d=>if i ∈ is then d.map (aD aK) else d
noncomputable def keep (e:CE) (d:D) (ρ:au):D × au:=if aq bp d then (aD aK d,gZ (fM e) ρ) else (d,ρ)
noncomputable def iJ (Φ:az) (e:CE) (ρ:au):O (D × au):=match e with
 | .v i=>match ρ[i]? with
  | some (some d)=>if aq cG d then ok (d,ρ.set i none) else ok (d,ρ)
  | _=>none
 | _=>bd (aL Φ e ρ) fun d=>ok (keep e d ρ)
noncomputable def d8 (Φ:az) (it:CI) (ρ:au):O (List D × au):=match it with
 | .Gb p es=>bd (cD Φ es ρ) fun xs=>bd (Φ p xs) fun d=>bd (nY d) fun items=>ok (items,if ao bp xs then gZ (dk es) ρ else ρ)
 | .ji a=>bd (aL Φ a ρ) fun x=>match x with
  | .int n=>if n <= dU /\ -dU <= n then ok ((List.range n.toNat).map fun (k:Nat)=>D.int (k:Int),ρ) else none
  | _=>none
 | .seq a=>bd (aL Φ a ρ) fun x=>match x with
  | .tup ds=>ok (ag aK ds,if aq bp x then gZ (fM a) ρ else ρ)
  | .lst f ds=>ok (ag aK ds,if aq bp x then gZ (fM a) ρ else ρ)
  | _=>none
noncomputable def kI (es:List CE) (xs:List D) (ρ:au):List D × au:=if ao bp xs then (ag aK xs,gZ (dk es) ρ) else (xs,ρ)
noncomputable def rN (Φ:az) (p i:Nat) (r:List D × au):O (Fo × au):=match r.2[i]? with
 | some (some d)=>bd (Φ p (d :: r.1)) fun d'=>ok (.nx,r.2.set i (some d'))
 | _=>none
noncomputable def eh (bind:D -> au -> O au) (body:au -> O (Fo × au)):List D -> au -> O (Fo × au)
 | [],ρ=>ok (.nx,ρ)
 | d :: ds,ρ=>bd (bind d ρ) fun ρ1=>bd (body ρ1) fun r=>match r with
  | (.nx,ρ2)=>eh bind body ds ρ2
  | (.ct,ρ2)=>eh bind body ds ρ2
  | (.bk,ρ2)=>ok (.nx,ρ2)
  | (.rt d,ρ2)=>ok (.rt d,ρ2)
mutual
noncomputable def qk (Φ:az):CS -> au -> O (Fo × au)
 | .asg t e,ρ=>bd (iJ Φ e ρ) fun r=>bd (ck t r.1 r.2) fun ρ'=>ok (.nx,ρ')
 | .par i j a b,ρ=>bd (aL Φ a ρ) fun x=>bd (aL Φ b ρ) fun y=>if aq anyF x = false /\ aq anyF y = false /\ i < ρ.length /\ j < ρ.length then ok (.nx,(ρ.set i (some x)).set j (some y)) else none
 | .ret e,ρ=>bd (iJ Φ e ρ) fun r=>ok (.rt r.1,r.2)
 | .rs c,_=>some (.error c)
 | .ex e,ρ=>bd (aL Φ e ρ) fun _=>ok (.nx,ρ)
 | .mut p i es,ρ=>bd (cD Φ es ρ) fun xs=>rN Φ p i (kI es xs ρ)
 | .app i e,ρ=>bd (iJ Φ e ρ) fun r=>match w6 r.2[i]? with
  | some ds=>if ds.length < dU then ok (.nx,r.2.set i (some (.lst .ow (ds ++ [r.1])))) else none
  | none=>none
 | .setI i k e,ρ=>bd (iJ Φ e ρ) fun r=>bd (bd (aL Φ k r.2) intD) fun z=>match w6 r.2[i]? with
  | some ds=>match vy ds.length z with
   | some j=>ok (.nx,r.2.set i (some (.lst .ow (ds.set j r.1))))
   | none=>none
  | none=>none
 | .ifs c a b,ρ=>bd (sZ Φ c ρ) fun k=>if k then bq Φ a ρ else bq Φ b ρ
 | .Fb c b,ρ=>eN (fun ρ=>bd (sZ Φ c ρ) fun k=>if k then bd (bq Φ b ρ) fun r=>match r with
   | (.nx,ρ')=>ok (.inl ρ')
   | (.ct,ρ')=>ok (.inl ρ')
   | (.bk,ρ')=>ok (.inr (.nx,ρ'))
   | (.rt d,ρ')=>ok (.inr (.rt d,ρ'))
  else ok (.inr (.nx,ρ))) ρ
 | .fr t it b,ρ=>bd (d8 Φ it ρ) fun r=>eh (fun d ρ=>ck t d ρ) (fun ρ=>bq Φ b ρ) r.1 r.2
noncomputable def bq (Φ:az):List CS -> au -> O (Fo × au)
 | [],ρ=>ok (.nx,ρ)
 | s :: ss,ρ=>bd (qk Φ s ρ) fun r=>match r with
  | (.nx,ρ')=>bq Φ ss ρ'
  | r=>ok r
end
noncomputable def tM (Φ:az) (n:Nat) (b:List CS) (ds:List D):O D:=bd (bq Φ b (ds.map some ++ List.replicate (n - ds.length) none)) fun r=>match r.1 with
 | .nx=>ok .bC
 | .rt d=>ok d
 | _=>none
noncomputable def wB:List D -> O D
 | [.lst _ a,.lst _ b]=>ok (.lst .ow (List.zipWith (fun x y=>.tup [x,y]) a b))
 | _=>none
end DI
end
section
namespace DI
open PySem PySem.Spec PyProof.Rows L2
noncomputable abbrev aE:=List Nat
noncomputable abbrev St:=L2.St
noncomputable abbrev iL:=Addr -> List V -> Prop
inductive Nd where | l (xs:List V) | d (cs:List (List Int)) (as:List Addr) (xs:List V) (ep:Nat)
 | ei (ks:List Int) (xs:List V) (ep:Nat)
noncomputable abbrev gC:=aE -> Addr -> Nd -> Fl -> Prop
structure d6 (T:iL) (as:List Addr) (cs:List (List Int)):Prop where
 len:as.length = cs.length
 tup:∀ (j:Nat) (a:Addr) (c:List Int),as[j]? = some a -> cs[j]? = some c -> T a (c.map V.int)
theorem d6.imp {T T':iL} {as:List Addr} {cs:List (List Int)} (h:d6 T as cs) (hT:∀ p xs,T p xs -> T' p xs):d6 T' as cs:=⟨h.len,fun j a c h1 h2=>hT _ _ (h.tup j a c h1 h2)⟩
mutual
inductive Rep (T:iL) (N:gC):aE -> V -> D -> Prop where
 | bC {q:aE}:Rep T N q .bC .bC
 | bl {q:aE} (b:Bool):Rep T N q (.bl b) (.bl b)
 | int {q:aE} (i:Int):Rep T N q (.int i) (.int i)
 | tup {q:aE} {p:Addr} {xs:List V} {ds:List D} (h:T p xs) (r:af T N q 0 xs ds):Rep T N q (.ref p) (.tup ds)
 | lst {q:aE} {p:Addr} {xs:List V} {f:Fl} {ds:List D} (h:N q p (.l xs) f) (r:af T N q 0 xs ds):Rep T N q (.ref p) (.lst f ds)
 | cc {q:aE} {p:Addr} {cs:List (List Int)} {as:List Addr} {xs:List V} {ep:Nat} {f:Fl} {ds:List D} (h:N q p (.d cs as xs ep) f) (k:d6 T as cs) (r:af T N q 0 xs ds):Rep T N q (.ref p) (.cc f cs ds)
 | bx {q:aE} {p:Addr} {ks:List Int} {xs:List V} {ep:Nat} {f:Fl} {ds:List D} (h:N q p (.ei ks xs ep) f) (r:af T N q 0 xs ds):Rep T N q (.ref p) (.bx f ks ds)
inductive af (T:iL) (N:gC):aE -> Nat -> List V -> List D -> Prop where
 | nil {q:aE} {n:Nat}:af T N q n [] []
 | cons {q:aE} {n:Nat} {v:V} {d:D} {vs:List V} {ds:List D} (h:Rep T N (n :: q) v d) (t:af T N q (n + 1) vs ds):af T N q n (v :: vs) (d :: ds)
end
mutual
theorem qb:∀ d:D,aq (fun _=>false) d = false
 | .bC=>rfl
 | .bl _=>rfl
 | .int _=>rfl
 | .tup ds=>eU ds
 | .lst _ ds=>eU ds
 | .cc _ _ ds=>eU ds
 | .bx _ _ ds=>eU ds
theorem eU:∀ ds:List D,ao (fun _=>false) ds = false
 | []=>rfl
 | d :: ds=>by show (aq _ d || ao _ ds) = false;rw [qb d,eU ds];rfl
end
theorem A4 {a b:Bool} (h:(a || b) = false):a = false /\ b = false:=by cases a <;> cases b <;> first | exact ⟨rfl,rfl⟩ | cases h
section
variable {T T':iL} {N N':gC} {g:Fl -> Fl} {P:Fl -> Bool} {C:aE -> aE -> Prop} {I:Nat -> Nat -> Prop}
mutual
theorem Rep.gen (hT:∀ p xs,T p xs -> T' p xs) (h0:I 0 0) (hI:∀ n n',I n n' -> I (n + 1) (n' + 1)) (hC:∀ k k' n n',C k k' -> I n n' -> C (n :: k) (n' :: k')) (hN:∀ k k' p xs f,C k k' -> P f = false -> N k p xs f -> N' k' p xs (g f)) :
  ∀ {k:aE} {v:V} {d:D},Rep T N k v d -> ∀ {k':aE},C k k' -> aq P d = false -> Rep T' N' k' v (aD g d)
 | _,_,_,.bC,_,_,_=>.bC
 | _,_,_,.bl b,_,_,_=>.bl b
 | _,_,_,.int i,_,_,_=>.int i
 | _,_,_,.tup h r,_,c,e=>.tup (hT _ _ h) (af.gen hT h0 hI hC hN r c h0 e)
 | _,_,_,.lst h r,_,c,e=>.lst (hN _ _ _ _ _ c (A4 e).1 h) (af.gen hT h0 hI hC hN r c h0 (A4 e).2)
 | _,_,_,.cc h k r,_,c,e=>.cc (hN _ _ _ _ _ c (A4 e).1 h) (k.imp hT) (af.gen hT h0 hI hC hN r c h0 (A4 e).2)
 | _,_,_,.bx h r,_,c,e=>.bx (hN _ _ _ _ _ c (A4 e).1 h) (af.gen hT h0 hI hC hN r c h0 (A4 e).2)
theorem af.gen (hT:∀ p xs,T p xs -> T' p xs) (h0:I 0 0) (hI:∀ n n',I n n' -> I (n + 1) (n' + 1)) (hC:∀ k k' n n',C k k' -> I n n' -> C (n :: k) (n' :: k')) (hN:∀ k k' p xs f,C k k' -> P f = false -> N k p xs f -> N' k' p xs (g f)) :
  ∀ {k:aE} {n:Nat} {vs:List V} {ds:List D},af T N k n vs ds -> ∀ {k':aE} {n':Nat},C k k' -> I n n' -> ao P ds = false -> af T' N' k' n' vs (ag g ds)
 | _,_,_,_,.nil,_,_,_,_,_=>.nil
 | _,_,_,_,.cons h t,_,_,c,i,e=>.cons (Rep.gen hT h0 hI hC hN h (hC _ _ _ _ c i) (A4 e).1) (af.gen hT h0 hI hC hN t c (hI _ _ i) (A4 e).2)
end
theorem Rep.map {q q':aE} (hT:∀ p xs,T p xs -> T' p xs) (hN:∀ c p xs f,N (c ++ q) p xs f -> N' (c ++ q') p xs (g f)) {k:aE} {v:V} {d:D} (h:Rep T N k v d) (c:aE) (e:k = c ++ q):Rep T' N' (c ++ q') v (aD g d) :=
 Rep.gen (P:=fun _=>false) (C:=fun k k'=>∃ c,k = c ++ q /\ k' = c ++ q') (I:=fun n n'=>n = n') hT rfl (fun _ _ e=>by rw [e]) (fun _ _ n _ ⟨c,e1,e2⟩ e=>⟨n :: c,by rw [e1];rfl,by rw [e2,<- e];rfl⟩) (fun _ _ p xs f ⟨c,e1,e2⟩ _ h=>by subst e1;subst e2;exact hN c p xs f h) h ⟨c,e,rfl⟩ (qb d)
theorem af.map {q q':aE} (hT:∀ p xs,T p xs -> T' p xs) (hN:∀ c p xs f,N (c ++ q) p xs f -> N' (c ++ q') p xs (g f)) {k:aE} {n:Nat} {vs:List V} {ds:List D} (h:af T N k n vs ds) (c:aE) (e:k = c ++ q):af T' N' (c ++ q') n vs (ag g ds) :=
 af.gen (P:=fun _=>false) (C:=fun k k'=>∃ c,k = c ++ q /\ k' = c ++ q') (I:=fun n n'=>n = n') hT rfl (fun _ _ e=>by rw [e]) (fun _ _ n _ ⟨c,e1,e2⟩ e=>⟨n :: c,by rw [e1];rfl,by rw [e2,<- e];rfl⟩) (fun _ _ p xs f ⟨c,e1,e2⟩ _ h=>by subst e1;subst e2;exact hN c p xs f h) h ⟨c,e,rfl⟩ rfl (eU ds)
theorem Rep.gS (hT:∀ p xs,T p xs -> T' p xs) (hN:∀ k k' p xs f,N k p xs f -> N' k' p xs (g f)) {k:aE} {v:V} {d:D} (h:Rep T N k v d) (k':aE):Rep T' N' k' v (aD g d) :=
 Rep.gen (P:=fun _=>false) (C:=fun _ _=>True) (I:=fun _ _=>True) hT trivial (fun _ _ e=>e) (fun _ _ _ _ e _=>e) (fun k k' p xs f _ _ h=>hN k k' p xs f h) h trivial (qb d)
theorem af.gS (hT:∀ p xs,T p xs -> T' p xs) (hN:∀ k k' p xs f,N k p xs f -> N' k' p xs (g f)) {k:aE} {n:Nat} {vs:List V} {ds:List D} (h:af T N k n vs ds) (k':aE) (n':Nat):af T' N' k' n' vs (ag g ds) :=
 af.gen (P:=fun _=>false) (C:=fun _ _=>True) (I:=fun _ _=>True) hT trivial (fun _ _ e=>e) (fun _ _ _ _ e _=>e) (fun k k' p xs f _ _ h=>hN k k' p xs f h) h trivial trivial (eU ds)
end
mutual
theorem dR:∀ d:D,aD id d = d
 | .bC=>rfl
 | .bl _=>rfl
 | .int _=>rfl
 | .tup ds=>by rw [aD,dA ds]
 | .lst f ds=>by rw [aD,dA ds];rfl
 | .cc f ks vs=>by rw [aD,dA vs];rfl
 | .bx f ks vs=>by rw [aD,dA vs];rfl
theorem dA:∀ ds:List D,ag id ds = ds
 | []=>rfl
 | d :: ds=>by rw [ag,dR d,dA ds]
end
section
variable {T T':iL} {N N':gC}
theorem Rep.imp {q q':aE} (hT:∀ p xs,T p xs -> T' p xs) (hN:∀ c p xs f,N (c ++ q) p xs f -> N' (c ++ q') p xs f) {v:V} {d:D} (h:Rep T N q v d):Rep T' N' q' v d:=by
 have:=Rep.map (g:=id) hT hN h [] rfl
 rw [dR] at this;exact this
theorem af.imp {q q':aE} {n:Nat} (hT:∀ p xs,T p xs -> T' p xs) (hN:∀ c p xs f,N (c ++ q) p xs f -> N' (c ++ q') p xs f) {vs:List V} {ds:List D} (h:af T N q n vs ds):af T' N' q' n vs ds:=by
 have:=af.map (g:=id) hT hN h [] rfl
 rw [dA] at this;exact this
theorem af.length:∀ {k:aE} {n:Nat} {vs:List V} {ds:List D},af T N k n vs ds -> vs.length = ds.length
 | _,_,_,_,.nil=>rfl
 | _,_,_,_,.cons _ t=>by simp [af.length t]
theorem af.get:∀ {k:aE} {n j:Nat} {vs:List V} {ds:List D} {d:D},af T N k n vs ds -> ds[j]? = some d -> ∃ v,vs[j]? = some v /\ Rep T N ((n + j) :: k) v d
 | _,_,_,_,_,_,.nil,e=>by simp at e
 | _,_,0,_,_,_,.cons h t,e=>by simp at e;subst e;exact ⟨_,rfl,h⟩
 | _,n,j + 1,_,_,_,.cons h t,e=>by
  obtain ⟨v,h1,h2⟩:=af.get (j:=j) t (by simpa using e)
  refine ⟨v,by simpa using h1,?_⟩
  have:n + 1 + j = n + (j + 1):=by omega
  rw [<- this];exact h2
theorem af.xx:∀ {k:aE} {n j:Nat} {vs:List V} {ds:List D} {v:V},af T N k n vs ds -> vs[j]? = some v -> ∃ d,ds[j]? = some d /\ Rep T N ((n + j) :: k) v d
 | _,_,_,_,_,_,.nil,e=>by simp at e
 | _,_,0,_,_,_,.cons h t,e=>by simp at e;subst e;exact ⟨_,rfl,h⟩
 | _,n,j + 1,_,_,_,.cons h t,e=>by
  obtain ⟨v,h1,h2⟩:=af.xx (j:=j) t (by simpa using e)
  refine ⟨v,by simpa using h1,?_⟩
  have:n + 1 + j = n + (j + 1):=by omega
  rw [<- this];exact h2
theorem af.lM {k:aE} (hN:∀ k k' p xs f,N k p xs f -> N k' p xs f):∀ {n m l:Nat} {vs ws:List V} {ds es:List D},af T N k n vs ds -> af T N k m ws es -> af T N k l (vs ++ ws) (ds ++ es)
 | _,_,_,_,_,_,_,.nil,t=>by
  have:=af.gS (T':=T) (N':=N) (g:=id) (fun _ _ h=>h) hN t
  rw [dA] at this;exact this _ _
 | _,_,_,_,_,_,_,.cons h t,u=>.cons (by
  have:=Rep.gS (T':=T) (N':=N) (g:=id) (fun _ _ h=>h) hN h
  rw [dR] at this;exact this _) (af.lM hN t u)
end
noncomputable def KL (K:PySem.W.Frag) (a:Addr) (xs:List V):Prop :=
 ∃ (o:Obj) (ai:Array Value) (n:Nat),K.lookup a = some o /\ o.cls = .type "list" /\ o.dict = none /\ o.data = .seq ai n /\ ai.size <= sizeLine /\ Vals xs ai.toList
noncomputable def DO (p:Addr) (cs:List (List Int)) (as:List Addr) (xs:List V) (ep:Nat) (h:Heap):Prop :=
 ∃ (zs:List (List Int × Addr × Value)) (o:Obj) (es:Array DictEntry),zs.map (·.1) = cs /\ zs.map (·.2.1) = as /\ Vals xs (zs.map (·.2.2)) /\ h.get? p = some o /\ o.ExactDict /\ o.data = .dict es ep /\
  es.toList = zs.map (fun z=>⟨reduceHash (Builtin.Tuple.tupleHashOf (z.1.map hashInt)),.ref z.2.1,z.2.2⟩) /\ cs.Nodup /\ cs.length <= sizeLine /\ (p == sysModules) = false
noncomputable def IO (p:Addr) (ks:List Int) (xs:List V) (ep:Nat) (h:Heap):Prop :=
 ∃ (zs:List (Int × Tok × Value)) (o:Obj) (es:Array DictEntry),zs.map (·.1) = ks /\ Vals xs (zs.map (·.2.2)) /\ h.get? p = some o /\ o.ExactDict /\ o.data = .dict es ep /\ es.toList = zs.map (fun z=>⟨hashInt z.1,.int z.1 z.2.1,z.2.2⟩) /\ ks.Nodup /\ ks.length <= sizeLine /\ (p == sysModules) = false
noncomputable abbrev d5 (H:Hp) (p:Addr) (n:Nd):Prop:=match n with
 | .l xs=>H p = some (.lst xs)
 | .d cs as xs ep=>H p = some (.ext (DO p cs as xs ep))
 | .ei ks xs ep=>H p = some (.ext (IO p ks xs ep))
theorem d5.ne {H:Hp} {p:Addr} {n:Nd} (h:d5 H p n):H p ≠ none:=by
 cases n with
 | l xs=>intro z;rw [show H p = some (.lst xs) from h] at z;cases z
 | d cs as xs ep=>intro z;rw [show H p = some (.ext (DO p cs as xs ep)) from h] at z;cases z
 | ei ks xs ep=>intro z;rw [show H p = some (.ext (IO p ks xs ep)) from h] at z;cases z
theorem d5.at {H H':Hp} {p:Addr} {n:Nd} (e:∀ o,H p = some o -> H' p = some o) (h:d5 H p n):d5 H' p n:=by
 cases n with
 | l xs=>exact e _ h
 | d cs as xs ep=>exact e _ h
 | ei ks xs ep=>exact e _ h
theorem d5.same {H H':Hp} {p:Addr} {n:Nd} (e:aj H H') (h:d5 H p n):d5 H' p n:=h.at (e p)
theorem d5.some {H:Hp} {p:Addr} {n:Nd} (h:d5 H p n):∃ o,H p = some o /\ (∀ xs,o ≠ .tup xs) /\ (∀ a u,o ≠ .gZ a u):=by
 cases n with
 | l xs=>exact ⟨_,h,fun _ z=>(nomatch z),fun _ _ z=>(nomatch z)⟩
 | d cs as xs ep=>exact ⟨_,h,fun _ z=>(nomatch z),fun _ _ z=>(nomatch z)⟩
 | ei ks xs ep=>exact ⟨_,h,fun _ z=>(nomatch z),fun _ _ z=>(nomatch z)⟩
noncomputable def nd (K:PySem.W.Frag) (R A:Addr -> Prop) (τ:Addr -> Option aE) (H:Hp):gC:=fun q p n f=>match f with
 | .ow=>d5 H p n /\ τ p = some q
 | .fz=>d5 H p n /\ R p
 | .al=>d5 H p n /\ A p
 | .sc=>match n with
  | .l xs=>(∃ o,H p = some (.gZ o (.lst xs))) \/ KL K p xs
  | .d _ _ _ _=>False
  | .ei _ _ _=>False
theorem nd.yF {K:PySem.W.Frag} {R A:Addr -> Prop} {τ:Addr -> Option aE} {H:Hp} {q:aE} {p:Addr} {n:Nd} (h:nd K R A τ H q p n .sc):∃ xs,n = .l xs /\ ((∃ o,H p = some (.gZ o (.lst xs))) \/ KL K p xs):=by
 cases n with
 | l xs=>exact ⟨xs,rfl,h⟩
 | d _ _ _ _=>exact h.elim
 | ei _ _ _=>exact h.elim
theorem nd.sq {K:PySem.W.Frag} {R A:Addr -> Prop} {τ:Addr -> Option aE} {H:Hp} {q:aE} {p:Addr} {xs:List V} {f:Fl} (h:nd K R A τ H q p (.l xs) f):dm K H p xs:=by
 cases f with
 | ow=>exact dm.of h.1
 | fz=>exact dm.of h.1
 | al=>exact dm.of h.1
 | sc=>exact h.elim (fun h=>.inl (.inr h)) .inr
theorem nd.lst {K:PySem.W.Frag} {R A:Addr -> Prop} {τ:Addr -> Option aE} {H:Hp} {q:aE} {p:Addr} {xs:List V} {f:Fl} (h:nd K R A τ H q p (.l xs) f) (hf:t6 f = false):H p = some (.lst xs):=by
 cases f with
 | ow=>exact h.1
 | fz=>exact h.1
 | al=>exact h.1
 | sc=>cases hf
theorem nd.dat {K:PySem.W.Frag} {R A:Addr -> Prop} {τ:Addr -> Option aE} {H:Hp} {q:aE} {p:Addr} {cs:List (List Int)} {as:List Addr} {xs:List V} {ep:Nat} {f:Fl} (h:nd K R A τ H q p (.d cs as xs ep) f):H p = some (.ext (DO p cs as xs ep)):=by
 cases f with
 | ow=>exact h.1
 | fz=>exact h.1
 | al=>exact h.1
 | sc=>exact h.elim
theorem nd.LC {K:PySem.W.Frag} {R A:Addr -> Prop} {τ:Addr -> Option aE} {H:Hp} {q:aE} {p:Addr} {ks:List Int} {xs:List V} {ep:Nat} {f:Fl} (h:nd K R A τ H q p (.ei ks xs ep) f):H p = some (.ext (IO p ks xs ep)):=by
 cases f with
 | ow=>exact h.1
 | fz=>exact h.1
 | al=>exact h.1
 | sc=>exact h.elim
theorem Rd.same {H H':Hp} {a:Addr} {u:HO} (e:aj H H') (h:Rd H a u):Rd H' a u:=h.elim (fun h=>.inl (e _ _ h)) fun ⟨o,h⟩=>.inr ⟨o,e _ _ h⟩
theorem aA.same {K:PySem.W.Frag} {H H':Hp} {a:Addr} {xs:List V} (e:aj H H') (h:aA K H a xs):aA K H' a xs:=h.elim (fun h=>.inl (Rd.same e h)) .inr
theorem nd.same {K:PySem.W.Frag} {R A:Addr -> Prop} {τ:Addr -> Option aE} {H H':Hp} {q:aE} {p:Addr} {n:Nd} {f:Fl} (e:aj H H') (h:nd K R A τ H q p n f):nd K R A τ H' q p n f:=by
 cases f with
 | ow=>exact ⟨h.1.same e,h.2⟩
 | fz=>exact ⟨h.1.same e,h.2⟩
 | al=>exact ⟨h.1.same e,h.2⟩
 | sc=>cases n with
  | l xs=>exact h.elim (fun ⟨o,h⟩=>.inl ⟨o,e _ _ h⟩) .inr
  | d _ _ _ _=>exact h.elim
  | ei _ _ _=>exact h.elim
theorem Rd.there {H:Hp} {a:Addr} {u:HO} (h:Rd H a u):H a ≠ none:=by
 rcases h with h | ⟨o,h⟩ <;> (rw [h];simp)
theorem aj.ne {H H':Hp} (e:aj H H') {a:Addr} (h:H a ≠ none):H' a ≠ none:=by
 cases q:H a with
 | none=>exact absurd q h
 | some o=>rw [e a o q];simp
structure SI (X:Cx) (F R:Addr -> Prop) (τ:Addr -> Option aE) (ρ:au) (σ:St) (H:Hp):Prop where
 len:ρ.length = σ.length
 rep:∀ (i:Nat) (d:D),ρ[i]? = some (some d) -> ∃ v,σ[i]? = some (some v) /\ Rep (aA X.K H) (nd X.K R (fun _=>False) τ H) [i] v d
 rt:∀ p,R p -> τ p = none
 rh:∀ p,R p -> H p ≠ none
 rf:∀ p,R p -> F p \/ X.H₀ p = none
 th:∀ p q,τ p = some q -> H p ≠ none
 t0:∀ p q,τ p = some q -> X.H₀ p = none
 same:aj X.H₀ H
theorem SI.go {X:Cx} {F R:Addr -> Prop} {τ:Addr -> Option aE} {ρ:au} {σ:St} {H H':Hp} (S:SI X F R τ ρ σ H) (e:aj H H'):SI X F R τ ρ σ H' :=
 ⟨S.len,fun i d h=>let ⟨v,h1,h2⟩:=S.rep i d h;⟨v,h1,h2.imp (fun _ _ h=>aA.same e h) fun _ _ _ _ h=>nd.same e h⟩,S.rt,fun p h=>aj.ne e (S.rh p h),S.rf,fun p q h=>aj.ne e (S.th p q h),S.t0,S.same.trans e⟩
noncomputable def iK (G:Addr -> Prop) (τ:Addr -> Option aE) (fv:List Nat) (p:Addr):Prop:=G p /\ ∀ c i,τ p = some (c ++ [i]) -> i ∈ fv
theorem iK.mono {G:Addr -> Prop} {τ:Addr -> Option aE} {fv fv':List Nat} {p:Addr} (h:iK G τ fv p) (hs:∀ i ∈ fv,i ∈ fv'):iK G τ fv' p:=⟨h.1,fun c i e=>hs i (h.2 c i e)⟩
noncomputable def gP (X:Cx) (F:Addr -> Prop) (p:Addr):Prop:=F p \/ X.H₀ p = none
noncomputable def bt (K:PySem.W.Frag) (G R:Addr -> Prop) (τ:Addr -> Option aE) (fv:List Nat) (H H':Hp) (v:V) (d:D):Prop :=
 ∃ τt:Addr -> Option aE,(∀ p q,τt p = some q -> H p = none) /\ Rep (aA K H') (nd K R (iK G τ fv) τt H') [] v d
noncomputable def bU (K:PySem.W.Frag) (G R:Addr -> Prop) (τ:Addr -> Option aE) (fv:List Nat) (H H':Hp) (vs:List V) (ds:List D):Prop :=
 ∃ τt:Addr -> Option aE,(∀ p q,τt p = some q -> H p = none) /\ af (aA K H') (nd K R (iK G τ fv) τt H') [] 0 vs ds
section
variable {K:PySem.W.Frag} {G R:Addr -> Prop} {τ:Addr -> Option aE} {fv fv':List Nat} {H H1 H2:Hp} {v:V} {d:D} {vs:List V} {ds:List D}
theorem bt.go (h:bt K G R τ fv H H1 v d) (e:aj H1 H2):bt K G R τ fv H H2 v d :=
 let ⟨τt,h1,h2⟩:=h;⟨τt,h1,h2.imp (fun _ _ h=>aA.same e h) fun _ _ _ _ h=>nd.same e h⟩
theorem nd.mono {A A' R':Addr -> Prop} {τ τ':Addr -> Option aE} {q q':aE} {p:Addr} {xs:Nd} {f:Fl} (h:nd K R A τ H q p xs f) (hR:R p -> R' p) (hA:A p -> A' p) (ht:τ p = some q -> τ' p = some q'):nd K R' A' τ' H q' p xs f:=by
 cases f with
 | ow=>exact ⟨h.1,ht h.2⟩
 | fz=>exact ⟨h.1,hR h.2⟩
 | al=>exact ⟨h.1,hA h.2⟩
 | sc=>exact h
theorem bt.mono (h:bt K G R τ fv H H1 v d) (hs:∀ i ∈ fv,i ∈ fv'):bt K G R τ fv' H H1 v d :=
 let ⟨τt,h1,h2⟩:=h;⟨τt,h1,h2.imp (fun _ _ h=>h) fun _ _ _ _ h=>h.mono id (fun h=>h.mono hs) id⟩
theorem bU.mono (h:bU K G R τ fv H H1 vs ds) (hs:∀ i ∈ fv,i ∈ fv'):bU K G R τ fv' H H1 vs ds :=
 let ⟨τt,h1,h2⟩:=h;⟨τt,h1,h2.imp (fun _ _ h=>h) fun _ _ _ _ h=>h.mono id (fun h=>h.mono hs) id⟩
theorem bt.old {H0:Hp} (h:bt K G R τ fv H H1 v d) (e:aj H0 H):bt K G R τ fv H0 H1 v d :=
 let ⟨τt,h1,h2⟩:=h;⟨τt,fun p q z=>e.free (h1 p q z),h2⟩
theorem bt.int {i:Int}:bt K G R τ fv H H1 (.int i) (.int i):=⟨fun _=>none,fun _ _ h=>by simp at h,.int i⟩
theorem bt.bl {b:Bool}:bt K G R τ fv H H1 (.bl b) (.bl b):=⟨fun _=>none,fun _ _ h=>by simp at h,.bl b⟩
theorem bt.bC:bt K G R τ fv H H1 .bC .bC:=⟨fun _=>none,fun _ _ h=>by simp at h,.bC⟩
theorem bt.isInt {i:Int} (h:bt K G R τ fv H H1 v (.int i)):v = .int i:=by obtain ⟨_,_,h⟩:=h;cases h;rfl
theorem bt.xj {i:Bool} (h:bt K G R τ fv H H1 v (.bl i)):v = .bl i:=by obtain ⟨_,_,h⟩:=h;cases h;rfl
noncomputable def pN:aE -> aE
 | []=>[]
 | [n]=>[n + 1]
 | a :: b :: r=>a :: pN (b :: r)
theorem q_ (c:aE) (n:Nat):pN (c ++ [n]) = c ++ [n + 1]:=by
 induction c with
 | nil=>rfl
 | cons a c ih =>
  cases c with
  | nil=>rfl
  | cons b c=>show a :: pN (b :: c ++ [n]) = _;rw [ih];rfl
theorem af.shift {T:iL} {N N':gC} (hN:∀ c n p xs f,N (c ++ [n]) p xs f -> N' (c ++ [n + 1]) p xs f):∀ {n:Nat} {vs:List V} {ds:List D},af T N [] n vs ds -> af T N' [] (n + 1) vs ds
 | _,_,_,.nil=>.nil
 | n,_,_,.cons h t=>.cons (h.imp (q:=[n]) (q':=[n + 1]) (fun _ _ h=>h) fun c p xs f h=>hN c n p xs f h) (af.shift hN t)
theorem bU.nil:bU K G R τ fv H H1 [] []:=⟨fun _=>none,fun _ _ h=>by simp at h,.nil⟩
open Classical in
theorem bU.cons (e1:aj H H1) (e2:aj H1 H2) (h:bt K G R τ fv H H1 v d) (t:bU K G R τ fv H1 H2 vs ds):bU K G R τ fv H H2 (v :: vs) (d :: ds):=by
 obtain ⟨τ1,f1,h1⟩:=h
 obtain ⟨τ2,f2,h2⟩:=t
 refine ⟨fun p=>if H1 p = none then (τ2 p).map pN else (τ1 p).map (· ++ [0]),fun p q hq=>?_,.cons (h1.imp (q':=[0]) (fun _ _ h=>aA.same e2 h) fun c p xs f h=>?_) (af.shift (fun c n p xs f h=>?_) h2)⟩
 ·by_cases hp:H1 p = none
  ·exact e1.free hp
  ·simp only [hp,if_false] at hq
   cases q1:τ1 p with
   | none=>rw [q1] at hq;simp at hq
   | some k=>exact f1 p k q1
 ·have h':nd K R (iK G τ fv) τ1 H2 (c ++ []) p xs f:=nd.same e2 h
  cases f with
  | ow =>
   have hp:H1 p ≠ none:=h.1.ne
   refine ⟨h'.1,?_⟩
   simp only [hp,if_false]
   rw [h.2];simp
  | fz=>exact h'
  | al=>exact h'
  | sc=>exact h'
 ·cases f with
  | ow =>
   have hp:H1 p = none:=f2 p _ h.2
   refine ⟨h.1,?_⟩
   simp only [hp,if_true]
   rw [h.2];simp [q_]
  | fz=>exact h
  | al=>exact h
  | sc=>exact h
end
noncomputable def tD (X:Cx) (F:Addr -> Prop) (Φ:az) (c:CE):TE:=fun σ H Q=>∃ R τ ρ d,SI X F R τ ρ σ H /\ aL Φ c ρ = ok d /\ ∀ v H',aj H H' -> bt X.K (gP X F) R τ (fM c) H H' v d -> Q v H'
noncomputable def qV (X:Cx) (F:Addr -> Prop) (Φ:az) (cs:List CE):TA:=fun σ H Q=>∃ R τ ρ ds,SI X F R τ ρ σ H /\ cD Φ cs ρ = ok ds /\ ∀ vs H',aj H H' -> bU X.K (gP X F) R τ (dk cs) H H' vs ds -> Q vs H'
noncomputable def fL (X:Cx) (F:Addr -> Prop) (Φ:az) (c:CE):TT:=fun σ H Q=>∃ R τ ρ b,SI X F R τ ρ σ H /\ sZ Φ c ρ = ok b /\ ∀ H',aj H H' -> Q b H'
theorem PE.imp {X:Cx} {e:Expr} {t t':TE} (h:PE X e t) (hi:∀ σ H Q,t' σ H Q -> t σ H Q):PE X e t':=fun pins s σ H Q I hw=>h pins s σ H Q I (hi σ H Q hw)
theorem PT.imp {X:Cx} {e:Expr} {t t':TT} (h:PT X e t) (hi:∀ σ H Q,t' σ H Q -> t σ H Q):PT X e t':=fun pins s σ H Q I hw=>h pins s σ H Q I (hi σ H Q hw)
theorem PW.imp {X:Cx} {e:Expr} {t t':TT} (h:PW X e t) (hi:∀ σ H Q,t' σ H Q -> t σ H Q):PW X e t':=fun wh pins s σ H Q I hw=>h wh pins s σ H Q I (hi σ H Q hw)
theorem PA.imp {X:Cx} {es:List Expr} {t t':TA} (h:PA X es t) (hi:∀ σ H Q,t' σ H Q -> t σ H Q):PA X es t':=fun pos pins s σ H Q I hw=>h pos pins s σ H Q I (hi σ H Q hw)
theorem PS.imp {X:Cx} {st:Stmt} {t t':TS} (h:PS X st t) (hi:∀ D σ H,t' D σ H -> t D σ H):PS X st t':=fun pins s σ H D I hw=>h pins s σ H D I (hi D σ H hw)
theorem lO.imp {X:Cx} {st:List Stmt} {t t':TS} (h:lO X st t) (hi:∀ D σ H,t' D σ H -> t D σ H):lO X st t':=fun pins s σ H D I hw=>h pins s σ H D I (hi D σ H hw)
end DI
end
section
namespace DI
open PySem PySem.Spec PyProof.Rows L2
theorem m4:∀ (as bs:List D),cZ as bs = true ↔ as.length = bs.length /\ ∀ (j:Nat) (a b:D),as[j]? = some a -> bs[j]? = some b -> i3 a b = true
 | [],[]=>by simp [cZ]
 | [],b :: bs=>by simp [cZ]
 | a :: as,[]=>by simp [cZ]
 | a :: as,b :: bs=>by
  rw [cZ,Bool.and_eq_true,m4 as bs]
  constructor
  ·rintro ⟨h1,h2,h3⟩
   refine ⟨by simp [h2],fun j x y hx hy=>?_⟩
   cases j with
   | zero=>simp at hx hy;subst hx hy;exact h1
   | succ j=>exact h3 j x y (by simpa using hx) (by simpa using hy)
  ·rintro ⟨h2,h3⟩
   exact ⟨h3 0 a b rfl rfl,by simpa using h2,fun j x y hx hy=>h3 (j + 1) x y (by simpa using hx) (by simpa using hy)⟩
noncomputable def ME (as bs:List D) (j:Nat):Bool:=match as[j]?,bs[j]? with
 | some a,some b=>i3 a b
 | _,_=>false
theorem i0 (as bs:List D):((List.range (min as.length bs.length)).all (ME as bs) && as.length == bs.length) = cZ as bs:=by
 rw [Bool.eq_iff_iff,m4,Bool.and_eq_true,List.all_eq_true,beq_iff_eq]
 constructor
 ·rintro ⟨h1,h2⟩
  refine ⟨h2,fun j a b ha hb=>?_⟩
  have hj:j < as.length:=by
   by_cases h:j < as.length
   ·exact h
   ·rw [List.getElem?_eq_none (by omega)] at ha;cases ha
  have:=h1 j (by rw [List.mem_range];omega)
  unfold ME at this
  rw [ha,hb] at this;exact this
 ·rintro ⟨h2,h1⟩
  refine ⟨fun j hj=>?_,h2⟩
  rw [List.mem_range] at hj
  unfold ME
  have ha:as[j]? = some as[j]:=List.getElem?_eq_getElem (by omega)
  have hb:bs[j]? = some bs[j]:=List.getElem?_eq_getElem (by omega)
  rw [ha,hb];exact h1 j _ _ ha hb
section
variable {X:Cx} {pins:List (Addr × Obj)} {σ:St} {H:Hp} {s:Shared} {N N':gC}
theorem eE {n:Nat} {ds:List D} (h:cC n (.tup ds) = true):∃ m,n = m + 1 /\ ∀ d ∈ ds,cC m d = true:=by
 cases n with
 | zero=>cases h
 | succ m=>exact ⟨m,rfl,List.all_eq_true.mp h⟩
theorem eF {n:Nat} {f:Fl} {ds:List D} (h:cC n (.lst f ds) = true):∃ m,n = m + 1 /\ ∀ d ∈ ds,cC m d = true:=by
 cases n with
 | zero=>cases h
 | succ m=>exact ⟨m,rfl,List.all_eq_true.mp h⟩
theorem vp (I:Inv X pins σ H s) {p:Addr} {xs ys:List V} (h:dm X.K H p xs) (h':aA X.K H p ys):False:=by
 obtain ⟨ai,_,pl,_⟩:=I.list h
 obtain ⟨its',_,pt,_⟩:=I.tuple h'
 exact SeqAt.ne_of_list_tuple pl.isList pt rfl
theorem yC (I:Inv X pins σ H s) (hN:∀ q p xs f,N q p (.l xs) f -> dm X.K H p xs) (Ba:∀ q p xs f,N' q p (.l xs) f -> dm X.K H p xs) :
  ∀ (n:Nat) {k k':aE} {v:V} {d d':D},Rep (aA X.K H) N k v d -> Rep (aA X.K H) N' k' v d' -> cC n d = true -> cC n d' = true -> i3 d d' = true:=by
 intro n
 induction n with
 | zero =>
  intro k k' v d d' h h' ho d_
  cases h with
  | bC=>cases h';rfl
  | bl b=>cases h';exact beq_self_eq_true b
  | int i=>cases h';exact beq_self_eq_true i
  | tup _ _=>obtain ⟨m,hm,_⟩:=eE ho;omega
  | lst _ _=>obtain ⟨m,hm,_⟩:=eF ho;omega
  | cc _ _=>simp [cC] at ho
  | bx _ _=>simp [cC] at ho
 | succ n ih =>
  have sub:∀ {q q':aE} {xs:List V} {ds ds':List D},af (aA X.K H) N q 0 xs ds -> af (aA X.K H) N' q' 0 xs ds' -> (∀ d ∈ ds,cC n d = true) -> (∀ d ∈ ds',cC n d = true) -> cZ ds ds' = true:=by
   intro q q' xs ds ds' r r' ho d_
   rw [m4]
   refine ⟨by rw [<- r.length,<- r'.length],fun j a b ha hb=>?_⟩
   obtain ⟨v1,h1,r1⟩:=r.get ha
   obtain ⟨v2,h2,r2⟩:=r'.get hb
   rw [h1] at h2;cases h2
   exact ih r1 r2 (ho a (List.mem_of_getElem? ha)) (d_ b (List.mem_of_getElem? hb))
  intro k k' v d d' h h' ho d_
  cases h with
  | bC=>cases h';rfl
  | bl b=>cases h';exact beq_self_eq_true b
  | int i=>cases h';exact beq_self_eq_true i
  | tup h r =>
   obtain ⟨m,hm,ho⟩:=eE ho
   obtain rfl:n = m:=by omega
   cases h' with
   | tup h' r' =>
    obtain ⟨m,hm,d_⟩:=eE d_
    obtain rfl:n = m:=by omega
    obtain rfl:=I.oK h h';exact sub r r' ho d_
   | lst h' r'=>exact (vp I (Ba _ _ _ _ h') h).elim
   | cc _ _=>simp [cC] at d_
   | bx _ _=>simp [cC] at d_
  | lst h r =>
   obtain ⟨m,hm,ho⟩:=eF ho
   obtain rfl:n = m:=by omega
   cases h' with
   | tup h' r'=>exact (vp I (hN _ _ _ _ h) h').elim
   | lst h' r' =>
    obtain ⟨m,hm,d_⟩:=eF d_
    obtain rfl:n = m:=by omega
    obtain rfl:=I.jB (hN _ _ _ _ h) (Ba _ _ _ _ h');exact sub r r' ho d_
   | cc _ _=>simp [cC] at d_
   | bx _ _=>simp [cC] at d_
  | cc _ _=>simp [cC] at ho
  | bx _ _=>simp [cC] at ho
structure Alike (A:Around) (s:Shared) (u u':Value) (b:Bool):Prop where
 eq:SeqAt.EqAt A s u u' b
 rc:SeqAt.RcAt A s u u' b
 ne:SeqAt.RcNeAt A s u u' (!b)
theorem alike (I:Inv X pins σ H s) (hN:∀ q p xs f,N q p (.l xs) f -> dm X.K H p xs) (Ba:∀ q p xs f,N' q p (.l xs) f -> dm X.K H p xs) :
  ∀ (n:Nat) (A:Around) {k k':aE} {v v':V} {u u':Value} {d d':D},Rep (aA X.K H) N k v d -> Rep (aA X.K H) N' k' v' d' -> cC n d = true -> cC n d' = true -> RelV v u -> RelV v' u' -> A.units + n < cLine ->
   Alike A s u u' (i3 d d'):=by
 intro n
 induction n with
 | zero =>
  intro A k k' v v' u u' d d' h h' ho d_ r r' hu
  cases h with
  | tup _ _=>obtain ⟨m,hm,_⟩:=eE ho;omega
  | lst _ _=>obtain ⟨m,hm,_⟩:=eF ho;omega
  | cc _ _=>simp [cC] at ho
  | bx _ _=>simp [cC] at ho
  | bC =>
   cases r
   cases h' with
   | tup _ _=>obtain ⟨m,hm,_⟩:=eE d_;omega
   | lst _ _=>obtain ⟨m,hm,_⟩:=eF d_;omega
   | cc _ _=>simp [cC] at d_
   | bx _ _=>simp [cC] at d_
   | bC=>cases r';exact ⟨SeqAt.EqAt.same _,SeqAt.RcAt.none_none,SeqAt.RcNeAt.none_none⟩
   | bl b=>cases r';exact ⟨SeqAt.EqAt.none_bool b,SeqAt.RcAt.none_bool b,SeqAt.RcNeAt.none_bool b⟩
   | int b=>obtain ⟨t,rfl⟩:=r';exact ⟨SeqAt.EqAt.none_int b t,SeqAt.RcAt.none_int b t,SeqAt.RcNeAt.none_int b t⟩
  | bl a =>
   cases r
   cases h' with
   | tup _ _=>obtain ⟨m,hm,_⟩:=eE d_;omega
   | lst _ _=>obtain ⟨m,hm,_⟩:=eF d_;omega
   | cc _ _=>simp [cC] at d_
   | bx _ _=>simp [cC] at d_
   | bC=>cases r';exact ⟨SeqAt.EqAt.bool_none a,SeqAt.RcAt.bool_none a,SeqAt.RcNeAt.bool_none a⟩
   | bl b=>cases r';exact ⟨SeqAt.EqAt.bool_bool a b,SeqAt.RcAt.bool_bool a b,SeqAt.RcNeAt.bool_bool a b⟩
   | int b=>obtain ⟨t,rfl⟩:=r';exact ⟨SeqAt.EqAt.bool_int a b t,SeqAt.RcAt.bool_int a b t,SeqAt.RcNeAt.bool_int a b t⟩
  | int a =>
   obtain ⟨t',rfl⟩:=r
   cases h' with
   | tup _ _=>obtain ⟨m,hm,_⟩:=eE d_;omega
   | lst _ _=>obtain ⟨m,hm,_⟩:=eF d_;omega
   | cc _ _=>simp [cC] at d_
   | bx _ _=>simp [cC] at d_
   | bC=>cases r';exact ⟨SeqAt.EqAt.int_none a t',SeqAt.RcAt.int_none a t',SeqAt.RcNeAt.int_none a t'⟩
   | bl b=>cases r';exact ⟨SeqAt.EqAt.int_bool a t' b,SeqAt.RcAt.int_bool a t' b,SeqAt.RcNeAt.int_bool a t' b⟩
   | int b=>obtain ⟨t,rfl⟩:=r';exact ⟨SeqAt.EqAt.int_int a t' b t,SeqAt.RcAt.int_int a t' b t,SeqAt.RcNeAt.int_int a t' b t⟩
 | succ n ih =>
  intro A k k' v v' u u' d d' h h' ho d_ r r' hu
  have eK:A.units < cLine:=by omega
  have RP:A.in1.units + n < cLine:=by show A.units + 1 + n < cLine;omega
  have sub:∀ {q q':aE} {xs xs':List V} {ds ds':List D} {ai its':List Value},af (aA X.K H) N q 0 xs ds -> af (aA X.K H) N' q' 0 xs' ds' -> (∀ d ∈ ds,cC n d = true) -> (∀ d ∈ ds',cC n d = true) -> Vals xs ai -> Vals xs' its' ->
    ∀ (j:Nat) (h1:j < ai.toArray.size) (h2:j < its'.toArray.size),SeqAt.EqAt A.in1 s ai.toArray[j] its'.toArray[j] (ME ds ds' j):=by
   intro q q' xs xs' ds ds' ai its' rs tN hd Hn rv xX j h1 h2
   have l1:ds.length = ai.length:=by rw [<- rs.length,rv.length]
   have l2:ds'.length = its'.length:=by rw [<- tN.length,xX.length]
   simp only [List.size_toArray] at h1 h2
   have ea:ds[j]? = some ds[j]:=List.getElem?_eq_getElem (by omega)
   have eb:ds'[j]? = some ds'[j]:=List.getElem?_eq_getElem (by omega)
   obtain ⟨w1,g1,p1⟩:=rs.get ea
   obtain ⟨w2,g2,p2⟩:=tN.get eb
   obtain ⟨u1,k1,z1⟩:=rv.get g1
   obtain ⟨u2,k2,z2⟩:=xX.get g2
   have:=(ih A.in1 p1 p2 (hd _ (List.getElem_mem _)) (Hn _ (List.getElem_mem _)) z1 z2 RP).eq
   unfold ME
   rw [ea,eb]
   rw [List.getElem?_eq_getElem h1] at k1
   rw [List.getElem?_eq_getElem h2] at k2
   cases k1;cases k2
   simpa using this
  cases h with
  | bC =>
   cases r
   cases h' with
   | cc _ _=>simp [cC] at d_
   | bx _ _=>simp [cC] at d_
   | bC=>cases r';exact ⟨SeqAt.EqAt.same _,SeqAt.RcAt.none_none,SeqAt.RcNeAt.none_none⟩
   | bl b=>cases r';exact ⟨SeqAt.EqAt.none_bool b,SeqAt.RcAt.none_bool b,SeqAt.RcNeAt.none_bool b⟩
   | int b=>obtain ⟨t,rfl⟩:=r';exact ⟨SeqAt.EqAt.none_int b t,SeqAt.RcAt.none_int b t,SeqAt.RcNeAt.none_int b t⟩
   | tup h' rr=>cases r';obtain ⟨ai,_,pt,_⟩:=I.tuple h';exact ⟨SeqAt.EqAt.none_tuple pt eK,SeqAt.RcAt.none_tuple pt eK,SeqAt.RcNeAt.none_tuple pt eK⟩
   | lst h' rr=>cases r';obtain ⟨ai,_,pt,_⟩:=I.list (Ba _ _ _ _ h');exact ⟨SeqAt.EqAt.none_list pt.isList eK,SeqAt.RcAt.none_list pt.isList eK,SeqAt.RcNeAt.none_list pt.isList eK⟩
  | bl a =>
   cases r
   cases h' with
   | cc _ _=>simp [cC] at d_
   | bx _ _=>simp [cC] at d_
   | bC=>cases r';exact ⟨SeqAt.EqAt.bool_none a,SeqAt.RcAt.bool_none a,SeqAt.RcNeAt.bool_none a⟩
   | bl b=>cases r';exact ⟨SeqAt.EqAt.bool_bool a b,SeqAt.RcAt.bool_bool a b,SeqAt.RcNeAt.bool_bool a b⟩
   | int b=>obtain ⟨t,rfl⟩:=r';exact ⟨SeqAt.EqAt.bool_int a b t,SeqAt.RcAt.bool_int a b t,SeqAt.RcNeAt.bool_int a b t⟩
   | tup h' rr=>cases r';obtain ⟨ai,_,pt,_⟩:=I.tuple h';exact ⟨SeqAt.EqAt.bool_tuple a pt eK,SeqAt.RcAt.bool_tuple a pt eK,SeqAt.RcNeAt.bool_tuple a pt eK⟩
   | lst h' rr=>cases r';obtain ⟨ai,_,pt,_⟩:=I.list (Ba _ _ _ _ h');exact ⟨SeqAt.EqAt.bool_list a pt.isList eK,SeqAt.RcAt.bool_list a pt.isList eK,SeqAt.RcNeAt.bool_list a pt.isList eK⟩
  | int a =>
   obtain ⟨t',rfl⟩:=r
   cases h' with
   | cc _ _=>simp [cC] at d_
   | bx _ _=>simp [cC] at d_
   | bC=>cases r';exact ⟨SeqAt.EqAt.int_none a t',SeqAt.RcAt.int_none a t',SeqAt.RcNeAt.int_none a t'⟩
   | bl b=>cases r';exact ⟨SeqAt.EqAt.int_bool a t' b,SeqAt.RcAt.int_bool a t' b,SeqAt.RcNeAt.int_bool a t' b⟩
   | int b=>obtain ⟨t,rfl⟩:=r';exact ⟨SeqAt.EqAt.int_int a t' b t,SeqAt.RcAt.int_int a t' b t,SeqAt.RcNeAt.int_int a t' b t⟩
   | tup h' rr=>cases r';obtain ⟨ai,_,pt,_⟩:=I.tuple h';exact ⟨SeqAt.EqAt.int_tuple a t' pt eK,SeqAt.RcAt.int_tuple a t' pt eK,SeqAt.RcNeAt.int_tuple a t' pt eK⟩
   | lst h' rr=>cases r';obtain ⟨ai,_,pt,_⟩:=I.list (Ba _ _ _ _ h');exact ⟨SeqAt.EqAt.int_list a t' pt.isList eK,SeqAt.RcAt.int_list a t' pt.isList eK,SeqAt.RcNeAt.int_list a t' pt.isList eK⟩
  | @tup _ p xs ds h rs =>
   cases r
   obtain ⟨ai,rv,pt,_⟩:=I.tuple h
   have pt:s.heap.IsTuple p ai.toArray:=pt
   cases h' with
   | cc _ _=>simp [cC] at d_
   | bx _ _=>simp [cC] at d_
   | bC=>cases r';exact ⟨SeqAt.EqAt.tuple_none pt eK,SeqAt.RcAt.tuple_none pt eK,SeqAt.RcNeAt.tuple_none pt eK⟩
   | bl b=>cases r';exact ⟨SeqAt.EqAt.tuple_bool b pt eK,SeqAt.RcAt.tuple_bool b pt eK,SeqAt.RcNeAt.tuple_bool b pt eK⟩
   | int b=>obtain ⟨t,rfl⟩:=r';exact ⟨SeqAt.EqAt.tuple_int b t pt eK,SeqAt.RcAt.tuple_int b t pt eK,SeqAt.RcNeAt.tuple_int b t pt eK⟩
   | lst h' rr=>cases r';obtain ⟨its',_,pl,_⟩:=I.list (Ba _ _ _ _ h');exact ⟨SeqAt.EqAt.tuple_list pt pl.isList eK,SeqAt.RcAt.tuple_list pt pl.isList eK,SeqAt.RcNeAt.tuple_list pt pl.isList eK⟩
   | @tup _ p' xs' ds' h' tN =>
    cases r'
    obtain ⟨m,hm,Jn⟩:=eE ho
    obtain rfl:n = m:=by omega
    obtain ⟨m,hm,p9⟩:=eE d_
    obtain rfl:n = m:=by omega
    obtain ⟨its',xX,NK,_⟩:=I.tuple h'
    have NK:s.heap.IsTuple p' its'.toArray:=NK
    have key:=sub rs tN Jn p9 rv xX
    have l1:ds.length = ai.toArray.size:=by rw [List.size_toArray,<- rs.length,rv.length]
    have l2:ds'.length = its'.toArray.size:=by rw [List.size_toArray,<- tN.length,xX.length]
    have rc:SeqAt.RcAt A s (.ref p) (.ref p') (i3 (.tup ds) (.tup ds')):=by
     have:=SeqAt.RcAt.tuples pt NK eK key
     rw [<- l1,<- l2,i0] at this;exact this
    refine ⟨?_,rc,?_⟩
    ·by_cases hp:p = p'
     ·subst hp
      rw [yC I hN Ba (n + 1) (Rep.tup h rs) (Rep.tup h' tN) ho d_]
      exact SeqAt.EqAt.same _
     ·exact SeqAt.EqAt.of_refs hp rc
    ·have:=SeqAt.RcNeAt.tuples pt NK eK key
     rw [<- l1,<- l2,i0] at this;exact this
  | @lst _ p xs f ds h rs =>
   cases r
   obtain ⟨ai,rv,pl,_⟩:=I.list (hN _ _ _ _ h)
   have pl:=pl.isList
   cases h' with
   | cc _ _=>simp [cC] at d_
   | bx _ _=>simp [cC] at d_
   | bC=>cases r';exact ⟨SeqAt.EqAt.list_none pl eK,SeqAt.RcAt.list_none pl eK,SeqAt.RcNeAt.list_none pl eK⟩
   | bl b=>cases r';exact ⟨SeqAt.EqAt.list_bool b pl eK,SeqAt.RcAt.list_bool b pl eK,SeqAt.RcNeAt.list_bool b pl eK⟩
   | int b=>obtain ⟨t,rfl⟩:=r';exact ⟨SeqAt.EqAt.list_int b t pl eK,SeqAt.RcAt.list_int b t pl eK,SeqAt.RcNeAt.list_int b t pl eK⟩
   | tup h' rr=>cases r';obtain ⟨its',_,pt,_⟩:=I.tuple h';exact ⟨SeqAt.EqAt.list_tuple pl pt eK,SeqAt.RcAt.list_tuple pl pt eK,SeqAt.RcNeAt.list_tuple pl pt eK⟩
   | @lst _ p' xs' f' ds' h' tN =>
    cases r'
    obtain ⟨m,hm,Jn⟩:=eF ho
    obtain rfl:n = m:=by omega
    obtain ⟨m,hm,p9⟩:=eF d_
    obtain rfl:n = m:=by omega
    obtain ⟨its',xX,Ef,_⟩:=I.list (Ba _ _ _ _ h')
    have Ef:=Ef.isList
    have key:=sub rs tN Jn p9 rv xX
    have l1:ds.length = ai.toArray.size:=by rw [List.size_toArray,<- rs.length,rv.length]
    have l2:ds'.length = its'.toArray.size:=by rw [List.size_toArray,<- tN.length,xX.length]
    have two:SeqAt.RcAt A s (.ref p) (.ref p') (i3 (.lst f ds) (.lst f' ds')) /\ SeqAt.RcNeAt A s (.ref p) (.ref p') (!i3 (.lst f ds) (.lst f' ds')):=by
     show SeqAt.RcAt A s (.ref p) (.ref p') (cZ ds ds') /\ SeqAt.RcNeAt A s (.ref p) (.ref p') (!cZ ds ds')
     rw [<- i0]
     by_cases hl:ds.length = ds'.length
     ·have e1:(ds.length == ds'.length) = true:=by simp [hl]
      rw [e1,Bool.and_true,<- hl,Nat.min_self]
      have hz:ai.toArray.size = its'.toArray.size:=by rw [<- l1,<- l2,hl]
      refine ⟨?_,?_⟩
      ·have:=SeqAt.RcAt.lists pl Ef hz eK key
       rw [<- l1] at this;exact this
      ·have:=SeqAt.RcNeAt.lists pl Ef hz eK key
       rw [<- l1] at this;exact this
     ·have e1:(ds.length == ds'.length) = false:=by simp [hl]
      rw [e1,Bool.and_false]
      have hz:(ai.toArray.size != its'.toArray.size) = true:=by rw [<- l1,<- l2];simp [hl]
      exact ⟨SeqAt.RcAt.lists_lengths pl Ef hz eK,SeqAt.RcNeAt.lists_lengths pl Ef hz eK⟩
    refine ⟨?_,two.1,two.2⟩
    by_cases hp:p = p'
    ·subst hp
     rw [yC I hN Ba (n + 1) (Rep.lst h rs) (Rep.lst h' tN) ho d_]
     exact SeqAt.EqAt.same _
    ·exact SeqAt.EqAt.of_refs hp two.1
  | cc _ _=>simp [cC] at ho
  | bx _ _=>simp [cC] at ho
end
end DI
end
section
namespace DI
open PySem PySem.Spec PyProof.Rows L2
structure Px where
 pe:Nat -> Scope -> List Str -> Expr -> Option (List Expr)
 pi:Nat -> Scope -> List Str -> Expr -> Option (List Expr)
 pm:Nat -> Scope -> List Str -> Stmt -> Option (Expr × List Expr)
structure Sx where
 sc:Scope
 N:List Str
 fn:Nat -> Option Str
 bl:List Str
 cs:List (Str × GK)
 px:Px
noncomputable def K6:DS -> Operator
 | .add=>.Add | .sub=>.Sub | .mul=>.Mult | .fdiv=>.FloorDiv | .mod=>.Mod | .pow=>.Pow | .shr=>.RShift | .band=>.BitAnd
noncomputable def Qh:x_ -> CmpOp
 | .eq=>.Eq | .ne=>.NotEq | .lt=>.Lt | .le=>.LtE | .gt=>.Gt | .ge=>.GtE | .Lz=>.Is | .zk=>.IsNot | .tQ _=>.IsNot | .xZ=>.In
noncomputable def tyName:Ty -> String
 | .int=>"int" | .bool=>"bool" | .list=>"list" | .tuple=>"tuple"
noncomputable def qB:Bf -> String
 | .len=>"len" | .abs=>"abs" | .zR=>"int" | .list1=>"list" | .tuple1=>"tuple" | .j4=>"sum" | .all1=>"all" | .f_=>"sorted"
noncomputable def Fc (sc:Scope) (x:Str):Bool:=decide (sc.names.lookup x = some .local) || decide (sc.names.lookup x = some .cell) || decide (sc.names.lookup x = some .free)
noncomputable def gX (sc:Scope) (x:Str):Bool:=decide (sc.names.lookup x = some .globalImplicit)
noncomputable def mq (x:Str):Bool:=!(x == ("__debug__" : Str)) && !(x == ("__classdict__" : Str)) && decide (x ≠ ("__name__" : Str))
noncomputable def oX:Expr -> Bool
 | .Set _ _ _=>false
 | _=>true
noncomputable def rF (sc outer:Scope):Scope :=
 { sc with names:=sc.names.map fun (n,k)=>if (k == .free && outer.kind == .function && outer.names.lookup n == some .cell) then (n,.cell) else (n,k) }
noncomputable def bH:Expr -> List Str
 | .Name x _=>[x]
 | .Tuple es _ _=>es.filterMap fun e=>match e with | .Name x _=>some x | _=>none
 | _=>[]
noncomputable def fu (S:Sx) (caps:List Nat):List Str:=caps.filterMap fun i=>S.N[i]?
noncomputable def Sx.inner (S:Sx) (target:Expr) (caps:List Nat) (sc:Scope):Sx:=⟨rF sc S.sc,bH target ++ fu S caps,S.fn,S.bl,S.cs,S.px⟩
noncomputable def gg:Expr -> Bool
 | .Tuple _ _ _=>true
 | _=>false
noncomputable def isNm:Expr -> Bool
 | .Name _ _=>true
 | _=>false
noncomputable def jk:Expr -> Bool
 | .Call ..=>true
 | .BinOp ..=>true
 | .Subscript ..=>true
 | .Compare ..=>true
 | .Dict ..=>true
 | _=>false
noncomputable def NN:Expr -> Bool
 | .Call ..=>true
 | .Name ..=>true
 | _=>false
theorem ak {a b:Bool} (h:(a && b) = true):a = true /\ b = true:=by
 cases a <;> cases b <;> first | exact ⟨rfl,rfl⟩ | cases h
noncomputable def aO {α:Type} (o:Option α) (f:α -> Bool):Bool:=match o with
 | some a=>f a
 | none=>false
theorem aP {α:Type} {o:Option α} {f:α -> Bool} (h:aO o f = true):∃ a,o = some a /\ f a = true:=by
 cases o with
 | some a=>exact ⟨a,rfl,h⟩
 | none=>cases h
noncomputable def vC:Expr -> Option Const
 | .Constant c _ _=>some c
 | _=>none
theorem yf {e:Expr} {c:Const} (h:vC e = some c):∃ j p,e = .Constant c j p:=by
 cases e <;> first | (cases h;done) | (cases h;exact ⟨_,_,rfl⟩)
noncomputable def zN:Const -> Bool
 | .none=>true
 | _=>false
theorem xg {c:Const} (h:zN c = true):c = .none:=by cases c <;> first | rfl | cases h
noncomputable def Ep (b:Bool):Const -> Bool
 | .bool c=>decide (b = c)
 | _=>false
theorem zP {b:Bool} {c:Const} (h:Ep b c = true):c = .bool b:=by cases c <;> first | (cases h;done) | rw [of_decide_eq_true h]
noncomputable def zO (b:Int):Const -> Bool
 | .int c=>decide (b = c)
 | _=>false
theorem xh {b:Int} {c:Const} (h:zO b c = true):c = .int b:=by cases c <;> first | (cases h;done) | rw [of_decide_eq_true h]
noncomputable def G8 (b:Str):Const -> Bool
 | _=>false
theorem Je {b:Str} {c:Const} (h:G8 b c = true):c = .str b:=by cases c <;> first | (cases h;done) | rw [of_decide_eq_true h]
noncomputable def Bp:Expr -> Option Str
 | .Name x _=>some x
 | _=>none
theorem j3 {e:Expr} {x:Str} (h:Bp e = some x):∃ p,e = .Name x p:=by
 cases e <;> first | (cases h;done) | (cases h;exact ⟨_,rfl⟩)
noncomputable def JV:Expr -> Option (Expr × Operator × Expr)
 | .BinOp l o r _=>some (l,o,r)
 | _=>none
theorem Bw {e l r:Expr} {o:Operator} (h:JV e = some (l,o,r)):∃ p,e = .BinOp l o r p:=by
 cases e <;> first | (cases h;done) | (cases h;exact ⟨_,rfl⟩)
noncomputable def OF:Expr -> Option (UnaryOp × Expr)
 | .UnaryOp o e _=>some (o,e)
 | _=>none
theorem yd {e x:Expr} {o:UnaryOp} (h:OF e = some (o,x)):∃ p,e = .UnaryOp o x p:=by
 cases e <;> first | (cases h;done) | (cases h;exact ⟨_,rfl⟩)
noncomputable def vBool:Expr -> Option (BoolOp × List Expr)
 | .BoolOp o vs _=>some (o,vs)
 | _=>none
theorem qQ {e:Expr} {o:BoolOp} {vs:List Expr} (h:vBool e = some (o,vs)):∃ p,e = .BoolOp o vs p:=by
 cases e <;> first | (cases h;done) | (cases h;exact ⟨_,rfl⟩)
noncomputable def Ve:Expr -> Option (Expr × Expr × Expr)
 | .IfExp t x y _=>some (t,x,y)
 | _=>none
theorem Fe {e t x y:Expr} (h:Ve e = some (t,x,y)):∃ p,e = .IfExp t x y p:=by
 cases e <;> first | (cases h;done) | (cases h;exact ⟨_,rfl⟩)
noncomputable def one {α:Type}:List α -> Option α
 | []=>none
 | x :: xs=>match xs with
  | []=>some x
  | _ :: _=>none
theorem cB {α:Type} {l:List α} {x:α} (h:one l = some x):l = [x]:=by
 cases l with
 | nil=>cases h
 | cons y ys=>cases ys with
  | nil=>cases h;rfl
  | cons _ _=>cases h
noncomputable def two {α:Type}:List α -> Option (α × α)
 | []=>none
 | x :: xs=>(one xs).map fun y=>(x,y)
theorem gH {α:Type} {l:List α} {x y:α} (h:two l = some (x,y)):l = [x,y]:=by
 cases l with
 | nil=>cases h
 | cons z zs=>cases zs with
  | nil=>cases h
  | cons w ws=>cases ws with
   | nil=>cases h;rfl
   | cons _ _=>cases h
noncomputable def OI {α:Type}:List α -> Option (α × List α)
 | []=>none
 | x :: xs=>some (x,xs)
theorem yg {α:Type} {l xs:List α} {x:α} (h:OI l = some (x,xs)):l = x :: xs:=by
 cases l with
 | nil=>cases h
 | cons y ys=>cases h;rfl
noncomputable def Bv:Expr -> Option (Expr × List CmpOp × List Expr)
 | .Compare l os rs _=>some (l,os,rs)
 | _=>none
theorem uJ {e l:Expr} {os:List CmpOp} {rs:List Expr} (h:Bv e = some (l,os,rs)):∃ p,e = .Compare l os rs p:=by
 cases e <;> first | (cases h;done) | (cases h;exact ⟨_,rfl⟩)
noncomputable def tm:Expr -> Option (Expr × List Expr × List Keyword)
 | .Call f as ks _=>some (f,as,ks)
 | _=>none
theorem wD {e f:Expr} {as:List Expr} {ks:List Keyword} (h:tm e = some (f,as,ks)):∃ p,e = .Call f as ks p:=by
 cases e <;> first | (cases h;done) | (cases h;exact ⟨_,rfl⟩)
noncomputable def eC (e:Expr):Option (Str × List Expr):=match tm e with
 | some (f,as,ks)=>match ks with
  | []=>match Bp f with
   | some x=>some (x,as)
   | none=>none
  | _ :: _=>none
 | none=>none
theorem cY {e:Expr} {x:Str} {as:List Expr} (h:eC e = some (x,as)):∃ p pos,e = .Call (.Name x p) as [] pos:=by
 unfold eC at h
 cases hv:tm e with
 | none=>rw [hv] at h;cases h
 | some z =>
  obtain ⟨f,Ou,ks⟩:=z
  rw [hv] at h
  obtain ⟨pos,rfl⟩:=wD hv
  cases ks with
  | cons _ _=>cases h
  | nil =>
   cases hn:Bp f with
   | none=>replace h:(match Bp f with | some x=>some (x,Ou) | none=>none) = some (x,as):=h;rw [hn] at h;cases h
   | some y =>
    replace h:(match Bp f with | some x=>some (x,Ou) | none=>none) = some (x,as):=h
    rw [hn] at h
    obtain ⟨p,rfl⟩:=j3 hn
    cases h
    exact ⟨p,pos,rfl⟩
noncomputable def iU:Expr -> Option (Expr × Expr)
 | .Subscript a b _=>some (a,b)
 | _=>none
theorem fY {e a b:Expr} (h:iU e = some (a,b)):∃ p,e = .Subscript a b p:=by
 cases e <;> first | (cases h;done) | (cases h;exact ⟨_,rfl⟩)
noncomputable def wC:Expr -> Option (List Expr)
 | .Tuple es _ _=>some es
 | _=>none
theorem jn {e:Expr} {es:List Expr} (h:wC e = some es):∃ n p,e = .Tuple es n p:=by
 cases e <;> first | (cases h;done) | (cases h;exact ⟨_,_,rfl⟩)
noncomputable def JR:Expr -> Option (List Expr)
 | .List es _=>some es
 | _=>none
theorem Bq {e:Expr} {es:List Expr} (h:JR e = some es):∃ p,e = .List es p:=by
 cases e <;> first | (cases h;done) | (cases h;exact ⟨_,rfl⟩)
noncomputable def DV:Expr -> Option (Expr × List Comprehension × Scope)
 | .ListComp e gs sc _=>some (e,gs,sc)
 | _=>none
theorem ye {e x:Expr} {gs:List Comprehension} {sc:Scope} (h:DV e = some (x,gs,sc)):∃ p,e = .ListComp x gs sc p:=by
 cases e <;> first | (cases h;done) | (cases h;exact ⟨_,rfl⟩)
theorem mm {a:Bool} (h:(!a) = true):a = false:=by cases a <;> first | rfl | cases h
noncomputable def qv (S:Sx) (n:Nat) (t:Tg) (caps:List Nat) (target:Expr) (sc:Scope):Bool :=
 decide (sc.kind = .function) && sc.names.all (fun (x,k)=>decide (k ≠ .cell) && (decide (k ≠ .local) || decide (sc.names.lookup x = some .local)) && (decide (k ≠ .free) || decide (S.sc.names.lookup x = some .cell) || decide (S.sc.names.lookup x = some .free))) &&
 decide (n = (bH target).length) && (bH target).all (fun x=>decide (sc.names.lookup x = some .local)) && decide (bH target ++ fu S caps).Nodup &&
 caps.all (fun i=>match S.N[i]? with | some x=>decide (sc.names.lookup x = some .free) | none=>false) &&
 (match t with
  | .nm i=>decide (i = 0) && isNm target
  | .tp is=>aO (wC target) fun es=>decide (is = List.range es.length) && es.all isNm)
mutual
noncomputable def bO (S:Sx):CE -> Expr -> Bool
 | .cj p es,e0=>jk e0 && aO (S.px.pe p S.sc S.bl e0) fun xs=>bE S es xs
 | .bC,e0=>aO (vC e0) fun c=>zN c
 | .bl b,e0=>aO (vC e0) fun c=>Ep b c
 | .int i,e0=>aO (vC e0) fun c=>zO i c
 | .v i,e0=>aO (Bp e0) fun x=>decide (S.N[i]? = some x) && Fc S.sc x && mq x
 | .glo x i,e0=>aO (Bp e0) fun y=>decide (y = x) && gX S.sc x && decide ((x,GK.i i) ∈ S.cs) && !(x == ("__debug__" : Str))
 | .glt x zs,e0=>aO (Bp e0) fun y=>decide (y = x) && gX S.sc x && decide ((x,GK.t zs) ∈ S.cs) && !(x == ("__debug__" : Str))
 | .bin op a b,e0=>aO (JV e0) fun z=>decide (z.2.1 = K6 op) && bO S a z.1 && bO S b z.2.2
 | .neg a,e0=>aO (OF e0) fun z=>decide (z.1 = .USub) && bO S a z.2
 | .not a,e0=>aO (OF e0) fun z=>decide (z.1 = .Not) && bO S a z.2
 | .and es,e0=>aO (vBool e0) fun z=>decide (z.1 = .And) && bE S es z.2
 | .or es,e0=>aO (vBool e0) fun z=>decide (z.1 = .Or) && bE S es z.2
 | .ite c a b,e0=>aO (Ve e0) fun z=>bO S c z.1 && bO S a z.2.1 && bO S b z.2.2
 | .cmp op a b,e0=>aO (Bv e0) fun z=>decide (z.2.1 = [Qh op]) && bO S a z.1 && aO (one z.2.2) fun r=>bO S b r && oX r
 | .lE a t,e0=>aO (eC e0) fun z=>decide (z.1 = ("isinstance" : Str)) && gX S.sc z.1 && decide (z.1 ∈ S.bl) && aO (two z.2) fun y=>bO S a y.1 && aO (Bp y.2) fun x=>decide (x = (tyName t:Str)) && gX S.sc x && decide (x ∈ S.bl)
 | .call f es,e0=>aO (eC e0) fun z=>decide (S.fn f = some z.1) && gX S.sc z.1 && mq z.1 && aO (OI z.2) fun y=>bE S es (y.1 :: y.2)
 | .bf f es,e0=>aO (eC e0) fun z=>decide (z.1 = (qB f:Str)) && gX S.sc z.1 && decide (z.1 ∈ S.bl) && aO (OI z.2) fun y=>bE S es (y.1 :: y.2)
 | .kc a,e0=>aO (eC e0) fun z=>decide (z.1 = ("len" : Str)) && gX S.sc z.1 && decide (z.1 ∈ S.bl) && aO (one z.2) fun y=>aO (eC y) fun w=>decide (w.1 = ("set" : Str)) && gX S.sc w.1 && decide (w.1 ∈ S.bl) && aO (one w.2) fun u=>bO S a u
 | .ix a b,e0=>aO (iU e0) fun z=>bO S a z.1 && bO S b z.2
 | .tup es,e0=>aO (wC e0) fun xs=>bE S es xs && decide (es.length <= 1000)
 | .lst es,e0=>aO (JR e0) fun xs=>bE S es xs && decide (es.length <= 1000)
 | .comp n t caps ik es aS elt,e0=>aO (DV e0) fun z=>aO (one z.2.1) fun g=>decide (g.is_async = 0) && qv S n t caps g.target z.2.2 && oX g.iter && decide (aS.length <= 1) && bE (S.inner g.target caps z.2.2) aS g.ifs && bO (S.inner g.target caps z.2.2) elt z.1 &&
     (match ik with
      | .ji=>aO (eC g.iter) fun w=>decide (w.1 = ("range" : Str)) && gX S.sc w.1 && decide (w.1 ∈ S.bl) && aO (one w.2) fun y=>bE S es [y]
      | .seq=>bE S es [g.iter]
      | .cj p=>NN g.iter && (decide (1100 <= p) || gg g.target) && aO (S.px.pi p S.sc S.bl g.iter) fun xs=>bE S es xs)
noncomputable def bE (S:Sx):List CE -> List Expr -> Bool
 | [],es=>match es with
  | []=>true
  | _ :: _=>false
 | c :: cs,es=>match es with
  | []=>false
  | e :: es=>bO S c e && bE S cs es
end
noncomputable def D9 (K:PySem.W.Frag) (n:Nat) (m:List D -> O D):Sp:=fun vs H Q _=>∃ (F:Addr -> Prop) (ds:List D) (r:D),vs.length = n /\ af (aA K H) (nd K F (fun _=>False) (fun _=>none) H) [] 0 vs ds /\ m ds = ok r /\
 ∀ v H',aj H H' -> (∃ τt:Addr -> Option aE,(∀ p q,τt p = some q -> H p = none) /\ Rep (aA K H') (nd K (fun p=>F p \/ H p = none) (fun _=>False) τt H') [] v r) -> Q v H'
structure IQ (X:Cx) (k:Nat) (x:Str) (m:List D -> O D):Prop where
 ex:∃ (f:Addr) (fd:FuncData) (ps:List Str),jb X.prog X.w X.K X.mg X.base A1 k f fd ps (D9 X.K ps.length m) /\ X.mg x = some (.ref f) /\ PySem.W.keepIn X.K (.ref f) = true /\ Binds X.K fd ps [] /\ ∀ ds r,m ds = ok r -> ds.length = ps.length
noncomputable def kinds:List String:=["NoneType","bool","int","str","list","tuple","dict"]
noncomputable def Ly:Ty -> String -> Bool
 | .int,s=>s == "int" || s == "bool"
 | t,s=>s == tyName t
theorem aj.upd {H:Hp} {p:Addr} {o:HO} (h:H p = none):aj H (upd H p o):=fun b u e=>by
 rw [av (by rintro rfl;rw [h] at e;cases e)];exact e
theorem zt {i j:Int} (h:gQ i j = true):IntMulOk i j:=by
 unfold gQ at h
 simp only [Bool.or_eq_true,Bool.and_eq_true,decide_eq_true_eq] at h
 rcases h with (h | h) | ⟨h1,h2⟩
 ·exact .of_left (intBits_le h)
 ·exact .of_right (intBits_le h)
 ·have b1:Builtin.Int.intBits i <= 9000:=intBits_le h1
  have b2:Builtin.Int.intBits j <= 9000:=intBits_le h2
  unfold IntMulOk
  have hb:Builtin.Int.intTooBig ((Builtin.Int.intBits i:Int) + (Builtin.Int.intBits j:Int)) = false:=by
   unfold Builtin.Int.intTooBig
   have:(bitsLine:Int) = 134217728:=by decide
   exact decide_eq_false (by omega)
  rw [hb];simp
section
variable {K:PySem.W.Frag} {R:Addr -> Prop} {τ τt:Addr -> Option aE} {fv:List Nat} {H H':Hp}
theorem Ci {X:Cx}:i8 X (binaryOp .Add) (fun x y H Q=>∃ a b xs ys,x = .ref a /\ y = .ref b /\ aA X.K H a xs /\ aA X.K H b ys /\ xs.length + ys.length <= sizeLine /\ (xs = [] -> Q (.ref b) H) /\ (ys = [] -> Q (.ref a) H) /\ ∀ p,H p = none -> Q (.ref p) (upd H p (.tup (xs ++ ys)))):=by
 intro pins s σ H x y v u Q I rx ry h
 obtain ⟨a,b,xs,ys,rfl,rfl,ha,hb,hz,q0,q1,q2⟩:=h
 cases rx
 cases ry
 by_cases hx:xs = []
 ·subst hx
  obtain ⟨ai,r1,p1,_⟩:=I.tuple ha
  obtain ⟨t4,r2,p2,_⟩:=I.tuple hb
  cases r1
  obtain ⟨⟨cls,dd,data,sl⟩,ho,hc,n,hd⟩:=id p1
  obtain ⟨⟨Dy,v_,data2,sX⟩,p9,hc2,n2,hd2⟩:=id p2
  simp only at hc hd hc2 hd2
  subst hc hd hc2 hd2
  exact concat_meets ⟨_,ho,rfl⟩ ⟨_,p9,rfl⟩ noFill_tuple_add seq_tuple_add PySem.F.slot_tuple_add PySem.F.entry_tuple_add (PySem.F.args_tuple_add_2 _ _)
   (tuple_addW0 a b [].toArray t4.toArray n n2 dd v_ sl sX rfl) ⟨ho,p9,⟨.ref b,H,I,rfl,q0 rfl⟩⟩
 ·exact Cg pins s σ H (.ref a) (.ref b) _ _ Q I rfl rfl ⟨a,b,xs,ys,rfl,rfl,ha,hb,hx,hz,q1,fun _=>q2⟩
theorem nd.mV {A:Addr -> Prop} (k k':aE) (p:Addr) (xs:Nd) (f:Fl) (h:nd K R A (fun _=>none) H k p xs f):nd K R A (fun _=>none) H k' p xs f:=by
 cases f with
 | ow=>exact nomatch h.2
 | fz=>exact h
 | al=>exact h
 | sc=>exact h
theorem Ld {X:Cx} {F:Addr -> Prop} {ρ:au} {σ:St} (Si:SI X F R τ ρ σ H) (fr:∀ p q,τt p = some q -> H p = none) (k k':aE) (p:Addr) (xs:Nd) (f:Fl) (h:nd K R (iK (gP X F) τ fv) τt H' k p xs f) :
  nd K R (iK (gP X F) τ fv) (fun _=>none) H' k' p xs (bc f):=by
 cases f with
 | ow=>exact ⟨h.1,.inr (Si.same.free (fr p _ h.2)),fun c i e=>absurd (fr p _ h.2) (Si.th p _ e)⟩
 | fz=>exact h
 | al=>exact h
 | sc=>exact h
theorem af.eD {X:Cx} {F:Addr -> Prop} {ρ:au} {σ:St} {k:aE} {n:Nat} {xs:List V} {ds:List D} (h:af (aA K H') (nd K R (iK (gP X F) τ fv) τt H') k n xs ds) (Si:SI X F R τ ρ σ H) (fr:∀ p q,τt p = some q -> H p = none) {k':aE} {n':Nat} :
  af (aA K H') (nd K R (iK (gP X F) τ fv) (fun _=>none) H') k' n' xs (ag bc ds):=af.gS (fun _ _ h=>h) (Ld Si fr) h _ _
theorem Rep.eD {X:Cx} {F:Addr -> Prop} {ρ:au} {σ:St} {k:aE} {v:V} {d:D} (h:Rep (aA K H') (nd K R (iK (gP X F) τ fv) τt H') k v d) (Si:SI X F R τ ρ σ H) (fr:∀ p q,τt p = some q -> H p = none) {k':aE} :
  Rep (aA K H') (nd K R (iK (gP X F) τ fv) (fun _=>none) H') k' v (aD bc d):=Rep.gS (fun _ _ h=>h) (Ld Si fr) h _
theorem af.rep {A:Addr -> Prop} {xs:List V} {ds:List D} (h:af (aA K H) (nd K R A (fun _=>none) H) [] 0 xs (ag bc ds)):∀ n:Nat,af (aA K H) (nd K R A (fun _=>none) H) [] 0 (List.replicate n xs).flatten (ag bc (List.replicate n ds).flatten)
 | 0=>.nil
 | n + 1=>by
  rw [List.replicate_succ,List.replicate_succ,List.flatten_cons,List.flatten_cons,aC,List.map_append,<- aC,<- aC]
  exact af.lM nd.mV h (af.rep h n)
theorem bt.p3 {G:Addr -> Prop} {p:Addr} {xs:List V} {ds:List D} (hp:H p = none) (e:aj H H') (hl:H' p = some (.lst xs)) (r:af (aA K H') (nd K R (iK G τ fv) (fun _=>none) H') [] 0 xs ds):bt K G R τ fv H H' (.ref p) (.lst .ow ds):=by
 refine ⟨fun q=>if q = p then some [] else none,fun q k hq=>?_,.lst ⟨hl,by simp⟩ (r.imp (fun _ _ h=>h) fun c q xs f h=>?_)⟩
 ·by_cases qM:q = p
  ·subst qM;exact hp
  ·simp [qM] at hq
 ·cases f with
  | ow=>exact nomatch h.2
  | fz=>exact h
  | al=>exact h
  | sc=>exact h
end
theorem Cv (K:PySem.W.Frag):∀ t:Ty,∀ s ∈ kinds,PySem.W.kitOne K (.type s) (.type (tyName t)) = some (Ly t s):=by
 intro t s hs
 simp only [kinds,List.mem_cons,List.not_mem_nil,or_false] at hs
 cases t <;> rcases hs with rfl | rfl | rfl | rfl | rfl | rfl | rfl <;> rfl
structure PX (X:Cx) (sc:Scope) (bl:List Str) (k:Nat):Prop where
 sc:X.env.scope = sc
 calm:X.calm = true
 room:fV k X.A
 bl:∀ x ∈ bl,X.mg x = none
theorem PX.gl {X:Cx} {sc:Scope} {bl:List Str} {k:Nat} (L:PX X sc bl k) {x:Str} (h:gX sc x = true):Gl X x:=by
 unfold Gl
 show X.env.scope.names.lookup x = some .globalImplicit
 rw [L.sc];exact of_decide_eq_true h
noncomputable def kP (X:Cx) (F:Addr -> Prop) (Φ:az):List CE -> List Expr -> Prop
 | [],[]=>True
 | c :: cs,a :: as=>PE X a (tD X F Φ c) /\ (∀ es,starEach (a :: es) X.env = (false,eval a X.env) :: starEach es X.env) /\ lN a /\ kP X F Φ cs as
 | _,_=>False
structure pA (K:PySem.W.Frag) (H2:Hp) (vs:List V) (xs:List D) (H':Hp):Prop where
 n0:∃ R0:Addr -> Prop,af (aA K H2) (nd K R0 (fun _=>False) (fun _=>none) H2) [] 0 vs (ag aK xs) /\ ∀ p o,R0 p -> H2 p = some o -> H' p = some o
 tp:∀ a ys,aA K H2 a ys -> aA K H' a ys
structure JG (K:PySem.W.Frag) (J:It) (H2:Hp) (vs:List V) (xs items:List D):Prop where
 go:∀ i H' R',pA K H2 vs xs H' -> af (aA K H') (nd K R' (fun _=>False) (fun _=>none) H') [] 0 vs (ag aK xs) -> i < items.length -> J.go i H'
 sW:∀ i H' R' x lj,pA K H2 vs xs H' -> af (aA K H') (nd K R' (fun _=>False) (fun _=>none) H') [] 0 vs (ag aK xs) -> i < items.length -> J.sW i H' x lj -> aj H' lj /\ ∃ d,items[i]? = some d /\ Rep (aA K lj) (nd K R' (fun _=>False) (fun _=>none) lj) [] x d
 stop:∀ i H' R',pA K H2 vs xs H' -> af (aA K H') (nd K R' (fun _=>False) (fun _=>none) H') [] 0 vs (ag aK xs) -> items.length <= i -> J.stop i H'
structure DN (px:Px) (Φ:az):Prop where
 e:∀ (X:Cx) (sc:Scope) (bl:List Str) (k:Nat),PX X sc bl k -> ∀ (p:Nat) (e:Expr) (args:List Expr),px.pe p sc bl e = some args -> ∀ (F:Addr -> Prop) (cs:List CE),kP X F Φ cs args -> PE X e (tD X F Φ (.cj p cs)) /\ PT X e (fL X F Φ (.cj p cs))
 i:∀ (X:Cx) (sc:Scope) (bl:List Str) (k:Nat),PX X sc bl k -> ∀ (p:Nat) (e:Expr) (args:List Expr),px.pi p sc bl e = some args -> ∀ (F:Addr -> Prop) (cs:List CE) (tg:Expr),(decide (1100 <= p) || gg tg) = true -> kP X F Φ cs args ->
  ∀ (pins:List (Addr × Obj)) (s:Shared) (σ:St) (H:Hp) (R:Addr -> Prop) (τ:Addr -> Option aE) (ρ:au) (xs:List D) (d:D) (items:List D),Inv X pins σ H s -> SI X F R τ ρ σ H -> cD Φ cs ρ = ok xs -> Φ p xs = ok d -> nY d = ok items -> ∀ Rr:It -> Hp -> Prop,
   (∀ J H2 vs,aj H H2 -> bU X.K (gP X F) R τ (dk cs) H H2 vs xs -> JG X.K J H2 vs xs items -> Rr J H2) ->
   wpAny (model X.prog X.w) X.A (eval e X.env) (fun v s1=>wpAny (model X.prog X.w) X.A (pyIter v) (AY X pins σ tg Rr) X.xe s1) X.xe s
noncomputable def OA (K:PySem.W.Frag):GK -> Value -> Prop
 | .i i,u=>RelV (.int i) u
 | .t zs,u=>∃ (a:Addr) (o:Obj) (ai:Array Value) (n:Nat),u = .ref a /\ K.lookup a = some o /\ o.cls = .type "tuple" /\ o.data = .seq ai n /\ ai.size <= sizeLine /\ Vals (zs.map V.int) ai.toList
structure Lk (X:Cx) (S:Sx) (k:Nat) (Φ:az):Prop where
 sc:X.env.scope = S.sc
 N:X.N = S.N
 nd:X.N.Nodup
 calm:X.calm = true
 room:fV k X.A
 bl:∀ x ∈ S.bl,X.mg x = none
 fn:∀ f x,S.fn f = some x -> IQ X k x (Φ f)
 cs:∀ x i,(x,i) ∈ S.cs -> ∃ u,X.mg x = some u /\ OA X.K i u
 pr:DN S.px Φ
theorem Lk.pX {X:Cx} {S:Sx} {k:Nat} {Φ:az} (L:Lk X S k Φ):PX X S.sc S.bl k:=⟨L.sc,L.calm,L.room,L.bl⟩
section
variable {X:Cx} {S:Sx} {k:Nat} {F:Addr -> Prop} {Φ:az}
theorem Lk.gl (L:Lk X S k Φ) {x:Str} (h:gX S.sc x = true):Gl X x:=by
 unfold Gl
 show X.env.scope.names.lookup x = some .globalImplicit
 rw [L.sc];exact of_decide_eq_true h
theorem Lk.Np (L:Lk X S k Φ) {x:Str} (h:Fc S.sc x = true):IJ X.env.scope x:=by
 unfold IJ;rw [L.sc]
 unfold Fc at h
 rw [Bool.or_eq_true,Bool.or_eq_true] at h
 rcases h with (h | h) | h
 ·exact .inl (of_decide_eq_true h)
 ·exact .inr (.inl (of_decide_eq_true h))
 ·exact .inr (.inr (of_decide_eq_true h))
theorem tD.intro {c:CE} {σ:St} {H:Hp} {Q:VK} {R:Addr -> Prop} {τ:Addr -> Option aE} {ρ:au} {d:D} (Si:SI X F R τ ρ σ H) (e:aL Φ c ρ = ok d) (h:∀ v H',aj H H' -> bt X.K (gP X F) R τ (fM c) H H' v d -> Q v H'):tD X F Φ c σ H Q:=⟨R,τ,ρ,d,Si,e,h⟩
theorem Pp (L:Lk X S k Φ) {i:Nat} {x:Str} {pos:Pos} (h:bO S (.v i) (.Name x pos) = true):PE X (.Name x pos) (tD X F Φ (.v i)):=by
 replace h:=ak h
 replace h:=And.intro (ak h.1) h.2
 obtain ⟨⟨h1,h2⟩,h3⟩:=h
 unfold mq at h3
 simp only [Bool.and_eq_true,Bool.not_eq_true'] at h3
 refine PE.imp (tO (i:=i) (by rw [L.N];exact of_decide_eq_true h1) (L.Np h2) h3.1.1 h3.1.2) fun σ H Q hq=>?_
 obtain ⟨R,τ,ρ,d,Si,ev,hq⟩:=hq
 obtain ⟨d',hd,rfl⟩:=yA ev
 ·obtain ⟨v,hv,hr⟩:=Si.rep i d' hd
  refine ⟨v,hv,hq v H (aj.refl H) ⟨fun _=>none,fun _ _ h=>by simp at h,?_⟩⟩
  refine Rep.map (q:=[i]) (q':=[]) (fun _ _ h=>h) (fun c p xs f h=>?_) hr [] rfl
  cases f with
  | ow =>
   refine ⟨h.1,.inr (Si.t0 p _ h.2),fun c' j e=>?_⟩
   rw [h.2] at e
   have e':=Option.some.inj e
   have:=congrArg List.getLast? e'
   simp at this
   show _ ∈ [i]
   simp [this]
  | fz=>exact h
  | al=>exact h.2.elim
  | sc=>exact h
theorem iB {op:DS} {x y d:D} (LU:op ≠ .add /\ op ≠ .mul) (h:cX op x y = ok d):∃ i j,x = .int i /\ y = .int j:=by
 cases x with
 | int i=>cases y with
  | int j=>exact ⟨i,j,rfl,rfl⟩
  | _=>cases op <;> first | (cases h;done) | (simp at LU;done)
 | _=>cases op <;> first | (cases h;done) | (simp at LU;done)
theorem FI (L:Lk X S k Φ) {op:DS} {a b:CE} {l r:Expr} {pos:Pos} (ha:PE X l (tD X F Φ a)) (hb:PE X r (tD X F Φ b)):PE X (.BinOp l (K6 op) r pos) (tD X F Φ (.bin op a b)):=by
 have two:∀ {σ:St} {H:Hp} {Q:VK} {r2:R2},(∃ R τ ρ d,SI X F R τ ρ σ H /\ aL Φ (.bin op a b) ρ = ok d /\ (∀ v H',aj H H' -> bt X.K (gP X F) R τ (fM (.bin op a b)) H H' v d -> Q v H') /\
   ∀ x y v u H',cX op x y = ok d -> aj H H' -> bt X.K (gP X F) R τ (fM (.bin op a b)) H H' v x -> bt X.K (gP X F) R τ (fM (.bin op a b)) H H' u y -> r2 v u H' Q) -> D2 r2 (tD X F Φ a) (tD X F Φ b) σ H Q:=by
  rintro σ H Q r2 ⟨R,τ,ρ,d,Si,ev,hq,hr⟩
  obtain ⟨x,ex,ev⟩:=ae ev
  obtain ⟨y,ey,ev⟩:=ae ev
  refine tD.intro Si ex fun v H1 e1 r1=>tD.intro (Si.go e1) ey fun u H2 e2 r2=>?_
  exact hr x y v u H2 ev (e1.trans e2) ((r1.go e2).mono fun i hi=>List.mem_append_left _ hi) ((r2.old e1).mono fun i hi=>List.mem_append_right _ hi)
 have xm:∀ {C:Int -> Int -> Prop} {g:Int -> Int -> Int},i8 X (binaryOp (K6 op)) (rI C fun i j=>.int (g i j)) -> (∀ x y d,cX op x y = ok d -> ∃ i j,x = .int i /\ y = .int j /\ C i j /\ d = .int (g i j)) ->
   PE X (.BinOp l (K6 op) r pos) (tD X F Φ (.bin op a b)):=by
  intro C g ho hd
  refine PE.imp (yY ho ha hb) fun σ H Q hq=>?_
  obtain ⟨R,τ,ρ,d,Si,ev,hq⟩:=hq
  refine two ⟨R,τ,ρ,d,Si,ev,hq,fun x y v u H' eb e rv ru=>?_⟩
  obtain ⟨i,j,rfl,rfl,c,rfl⟩:=hd x y d eb
  exact ⟨i,j,rv.isInt,ru.isInt,c,hq _ H' e .int⟩
 cases op with
 | sub =>
  refine xm (C:=fun _ _=>True) (g:=fun i j=>i - j) (GB fun _ _ _ _ _ _ _ _ q=>sub_int q) fun x y d h=>?_
  obtain ⟨i,j,rfl,rfl⟩:=iB (by simp) h
  cases h;exact ⟨_,_,rfl,rfl,trivial,rfl⟩
 | mod =>
  refine xm (C:=fun _ j=>j ≠ 0) (g:=fun i j=>i.fmod j) Cf fun x y d h=>?_
  obtain ⟨i,j,rfl,rfl⟩:=iB (by simp) h
  obtain ⟨h1,h⟩:=nM h
  subst h;exact ⟨_,_,rfl,rfl,h1,rfl⟩
 | fdiv =>
  refine xm (C:=fun _ j=>pb j = true) (g:=fun i j=>i.fdiv j) (GB fun i j _ _ _ _ _ hc q=>?_) fun x y d h=>?_
  ·unfold pb at hc
   rw [Bool.and_eq_true] at hc
   have h1:j ≠ 0:=of_decide_eq_true hc.1
   have h2:j.natAbs < big:=of_decide_eq_true hc.2
   exact floordiv_int h1 q (.inl (PyProof.noPylong_of_log2 ((Nat.log2_lt (by omega)).mpr h2)))
  ·obtain ⟨i,j,rfl,rfl⟩:=iB (by simp) h
   obtain ⟨h1,h⟩:=nM h
   subst h;exact ⟨_,_,rfl,rfl,h1,rfl⟩
 | pow =>
  refine xm (C:=fun i j=>uZ i j = true) (g:=fun i j=>i ^ j.toNat) (GB fun i j _ _ _ _ _ hc q=>?_) fun x y d h=>?_
  ·unfold uZ at hc
   simp only [Bool.and_eq_true,decide_eq_true_eq] at hc
   exact pow_int_small hc.1.1 hc.1.2 hc.2 q
  ·obtain ⟨i,j,rfl,rfl⟩:=iB (by simp) h
   obtain ⟨h1,h⟩:=nM h
   subst h;exact ⟨_,_,rfl,rfl,h1,rfl⟩
 | shr =>
  refine xm (C:=fun _ j=>0 <= j) (g:=fun i j=>i / 2 ^ j.toNat) Gu fun x y d h=>?_
  obtain ⟨i,j,rfl,rfl⟩:=iB (by simp) h
  obtain ⟨h1,h⟩:=nM h
  subst h;exact ⟨_,_,rfl,rfl,h1,rfl⟩
 | band =>
  refine xm (C:=fun _ j=>j = 1) (g:=fun i _=>i % 2) (GB fun i j _ _ _ _ _ hc q=>by subst hc;exact and_int (by rw [bitAnd_m1];exact q)) fun x y d h=>?_
  obtain ⟨i,j,rfl,rfl⟩:=iB (by simp) h
  obtain ⟨h1,h⟩:=nM h
  subst h;exact ⟨_,_,rfl,rfl,h1,rfl⟩
 | mul =>
  have hi:i8 X (binaryOp .Mult) (rI (fun i j=>gQ i j = true) fun i j=>.int (i * j)):=GB fun i j _ _ _ _ _ hc q=>mul_int q (zt hc)
  refine PE.imp (yY (hi.or Gv) ha hb) fun σ H Q hq=>?_
  obtain ⟨R,τ,ρ,d,Si,ev,hq⟩:=hq
  refine two ⟨R,τ,ρ,d,Si,ev,hq,fun x y v u H' eb e rv ru=>?_⟩
  cases y with
  | int j =>
   cases x with
   | int i =>
    obtain ⟨h1,eb⟩:=nM eb
    subst eb
    exact .inl ⟨i,j,rv.isInt,ru.isInt,h1,hq _ H' e .int⟩
   | lst f a =>
    obtain ⟨hc,eb⟩:=nM eb
    ·subst eb
     obtain ⟨τt,fr,rp⟩:=rv
     cases rp with
     | @lst _ p xs _ _ hn rs =>
      have hz:sizeLine = 16777216:=sizeLine_eq
      have mL:dU = 1000000:=rfl
      refine .inr ⟨p,j,xs,rfl,ru.isInt,hn.lst hc.1,by omega,by omega,by rw [rs.length];omega,fun p' uc=>?_⟩
      have es:aj H' (upd H' p' (.lst (List.replicate j.toNat xs).flatten)):=aj.upd uc
      refine hq _ _ (e.trans es) (bt.p3 (e.free uc) (e.trans es) (aB) ?_)
      exact (af.rep (rs.eD Si fr) j.toNat).imp (fun _ _ h=>aA.same es h) fun _ _ _ _ h=>nd.same es h
   | _=>cases eb
  | _=>cases x <;> cases eb
 | add =>
  refine PE.imp (yY ((GA.or Gz).or Ci) ha hb) fun σ H Q hq=>?_
  obtain ⟨R,τ,ρ,d,Si,ev,hq⟩:=hq
  refine two ⟨R,τ,ρ,d,Si,ev,hq,fun x y v u H' eb e rv ru=>?_⟩
  have hz:sizeLine = 16777216:=sizeLine_eq
  have mL:dU = 1000000:=rfl
  cases x with
  | int i =>
   cases y with
   | int j =>
    cases eb
    exact .inl (.inl ⟨i,j,rv.isInt,ru.isInt,hq _ H' e .int⟩)
   | _=>cases eb
  | lst f a =>
   cases y with
   | lst g b =>
    obtain ⟨hc,eb⟩:=nM eb
    ·subst eb
     obtain ⟨τt,fr,rp⟩:=rv
     obtain ⟨OC,JA,Pw⟩:=ru
     cases rp with
     | @lst _ p xs _ _ hn rs =>
      cases Pw with
      | @lst _ p2 E_ _ _ Jo BZ =>
       refine .inl (.inr ⟨p,p2,xs,E_,rfl,rfl,hn.lst hc.1,Jo.lst hc.2.1,by rw [rs.length,BZ.length];omega,fun p' uc=>?_⟩)
       have es:aj H' (upd H' p' (.lst (xs ++ E_))):=aj.upd uc
       refine hq _ _ (e.trans es) (bt.p3 (e.free uc) (e.trans es) (aB) ?_)
       rw [aC,List.map_append,<- aC,<- aC]
       exact (af.lM nd.mV (n:=0) (m:=0) (rs.eD Si fr) (BZ.eD Si JA)).imp (fun _ _ h=>aA.same es h) fun _ _ _ _ h=>nd.same es h
   | _=>cases eb
  | tup a =>
   cases y with
   | tup b =>
    obtain ⟨hc,eb⟩:=nM eb
    subst eb
    obtain ⟨τt,fr,rp⟩:=rv
    obtain ⟨OC,JA,Pw⟩:=ru
    cases rp with
    | @tup _ p xs _ hn rs =>
     cases Pw with
     | @tup _ p2 E_ _ Jo BZ =>
      have hl:=rs.length
      have x5:=BZ.length
      refine .inr ⟨p,p2,xs,E_,rfl,rfl,hn,Jo,by rw [hl,x5];omega,fun z=>?_,fun z=>?_,fun p' uc=>?_⟩
      ·subst z
       cases rs
       exact hq _ H' e ⟨fun _=>none,fun _ _ h=>by simp at h,.tup Jo (BZ.eD Si JA)⟩
      ·subst z
       cases BZ
       refine hq _ H' e ⟨fun _=>none,fun _ _ h=>by simp at h,.tup hn ?_⟩
       rw [List.append_nil]
       exact rs.eD Si fr
      ·have es:aj H' (upd H' p' (.tup (xs ++ E_))):=aj.upd uc
       refine hq _ _ (e.trans es) ⟨fun _=>none,fun _ _ h=>by simp at h,.tup (aA.of aB) ?_⟩
       rw [aC,List.map_append,<- aC,<- aC]
       exact (af.lM nd.mV (n:=0) (m:=0) (rs.eD Si fr) (BZ.eD Si JA)).imp (fun _ _ h=>aA.same es h) fun _ _ _ _ h=>nd.same es h
   | _=>cases eb
  | _=>cases y <;> cases eb
end
end DI
end
section
namespace DI
open PySem PySem.Spec PyProof.Rows L2
section
variable {T T':iL} {N N':gC} {P:Fl -> Bool}
theorem Rep.without (hT:∀ p xs,T p xs -> T' p xs) (hN:∀ k k' p xs f,P f = false -> N k p xs f -> N' k' p xs f) {k:aE} {v:V} {d:D} (h:Rep T N k v d) (e:aq P d = false) (k':aE):Rep T' N' k' v d:=by
 have:=Rep.gen (g:=id) (P:=P) (N':=N') (C:=fun _ _=>True) (I:=fun _ _=>True) hT trivial (fun _ _ e=>e) (fun _ _ _ _ e _=>e) (fun k k' p xs f _ e h=>hN k k' p xs f e h) h (k':=k') trivial e
 rw [dR] at this;exact this
theorem af.without (hT:∀ p xs,T p xs -> T' p xs) (hN:∀ k k' p xs f,P f = false -> N k p xs f -> N' k' p xs f) {k:aE} {n:Nat} {vs:List V} {ds:List D} (h:af T N k n vs ds) (e:ao P ds = false) (k':aE) (n':Nat):af T' N' k' n' vs ds:=by
 have:=af.gen (g:=id) (P:=P) (N':=N') (C:=fun _ _=>True) (I:=fun _ _=>True) hT trivial (fun _ _ e=>e) (fun _ _ _ _ e _=>e) (fun k k' p xs f _ e h=>hN k k' p xs f e h) h (k':=k') (n':=n') trivial trivial e
 rw [dA] at this;exact this
theorem Rep.jl (hT:∀ p xs,T p xs -> T' p xs) (hN:∀ k p xs f,P f = false -> N k p xs f -> N' k p xs f) {k:aE} {v:V} {d:D} (h:Rep T N k v d) (e:aq P d = false):Rep T' N' k v d:=by
 have:=Rep.gen (g:=id) (P:=P) (N':=N') (C:=fun a b=>a = b) (I:=fun a b=>a = b) hT rfl (fun _ _ e=>by rw [e]) (fun _ _ _ _ a b=>by rw [a,b]) (fun k k' p xs f c e h=>by subst c;exact hN k p xs f e h) h rfl e
 rw [dR] at this;exact this
theorem af.jl (hT:∀ p xs,T p xs -> T' p xs) (hN:∀ k p xs f,P f = false -> N k p xs f -> N' k p xs f) {k:aE} {n:Nat} {vs:List V} {ds:List D} (h:af T N k n vs ds) (e:ao P ds = false):af T' N' k n vs ds:=by
 have:=af.gen (g:=id) (P:=P) (N':=N') (C:=fun a b=>a = b) (I:=fun a b=>a = b) hT rfl (fun _ _ e=>by rw [e]) (fun _ _ _ _ a b=>by rw [a,b]) (fun k k' p xs f c e h=>by subst c;exact hN k p xs f e h) h rfl rfl e
 rw [dA] at this;exact this
end
theorem Rep.p5 {K:PySem.W.Frag} {R:Addr -> Prop} {H:Hp} {k:aE} {v:V} {d:D} (h:Rep (aA K H) (nd K R (fun _=>False) (fun _=>none) H) k v d) {k':aE}:Rep (aA K H) (nd K R (fun _=>False) (fun _=>none) H) k' v d:=by
 have:=Rep.gS (g:=id) (fun _ _ h=>h) nd.mV h k'
 rw [dR] at this;exact this
noncomputable def gB (X:Cx) (R:Addr -> Prop) (τ:Addr -> Option aE) (H:Hp) (v:V) (d:D):Prop :=
 ∃ τt:Addr -> Option aE,(∀ p q,τt p = some q -> τ p = none /\ ¬ R p /\ X.H₀ p = none /\ H p ≠ none) /\ Rep (aA X.K H) (nd X.K R (fun _=>False) τt H) [] v d
section
variable {X:Cx} {F R:Addr -> Prop} {τ:Addr -> Option aE} {ρ:au} {σ:St} {H H':Hp}
theorem SI.set {i:Nat} {v:V} {d:D} (Si:SI X F R τ ρ σ H) (r:gB X R τ H v d) (hi:i < ρ.length):∃ τ',SI X F R τ' (ρ.set i (some d)) (σ.set i (some v)) H:=by
 obtain ⟨τt,ht,rp⟩:=r
 refine ⟨fun p=>match τt p with | some q=>some (q ++ [i]) | none=>τ p,⟨by simp [Si.len],fun j d' hj=>?_,fun p hp=>?_,Si.rh,Si.rf,fun p q hq=>?_,fun p q hq=>?_,Si.same⟩⟩
 ·by_cases iQ:j = i
  ·subst iQ
   rw [List.getElem?_set_self hi] at hj
   cases hj
   refine ⟨v,List.getElem?_set_self (by rw [<- Si.len];exact hi),rp.imp (q':=[j]) (fun _ _ h=>h) fun c p xs f h=>?_⟩
   cases f with
   | ow=>rw [List.append_nil] at h;exact ⟨h.1,by simp only [h.2]⟩
   | fz=>exact h
   | al=>exact h
   | sc=>exact h
  ·rw [List.getElem?_set_ne (Ne.symm iQ)] at hj
   obtain ⟨w,hw,jw⟩:=Si.rep j d' hj
   refine ⟨w,by rw [List.getElem?_set_ne (Ne.symm iQ)];exact hw,jw.imp (fun _ _ h=>h) fun c p xs f h=>?_⟩
   cases f with
   | ow =>
    refine ⟨h.1,?_⟩
    cases q:τt p with
    | none=>simp only [q];exact h.2
    | some k=>have:=(ht p k q).1;rw [h.2] at this;cases this
   | fz=>exact h
   | al=>exact h
   | sc=>exact h
 ·cases q:τt p with
  | none=>simp only [q];exact Si.rt p hp
  | some k=>exact absurd hp (ht p k q).2.1
 ·cases z:τt p with
  | none=>simp only [z] at hq;exact Si.th p q hq
  | some k=>exact (ht p k z).2.2.2
 ·cases z:τt p with
  | none=>simp only [z] at hq;exact Si.t0 p q hq
  | some k=>exact (ht p k z).2.2.1
theorem xr {k:aE} {v:V} {d:D} (h:Rep (aA X.K H) (nd X.K R (fun _=>False) τ H) k v d) (ho:aq cG d = false):gB X R τ H v d :=
 ⟨fun _=>none,fun _ _ h=>by simp at h,Rep.without (P:=cG) (fun _ _ h=>h) (fun k k' p xs f hf h=>by
  cases f with
  | ow=>cases hf
  | fz=>exact h
  | al=>exact h.2.elim
  | sc=>exact h) h ho _⟩
open Classical in
theorem SI.move {i:Nat} {d:D} (Si:SI X F R τ ρ σ H) (hd:ρ[i]? = some (some d)):∃ v τ',σ[i]? = some (some v) /\ SI X F R τ' (ρ.set i none) σ H /\ gB X R τ' H v d:=by
 obtain ⟨v,hv,rp⟩:=Si.rep i d hd
 refine ⟨v,fun p=>match τ p with | some q=>if q.getLast? = some i then none else some q | none=>none,hv,⟨by simp [Si.len],fun j d' hj=>?_,fun p hp=>?_,Si.rh,Si.rf,fun p q hq=>?_,fun p q hq=>?_,Si.same⟩,
  fun p=>match τ p with | some q=>if q.getLast? = some i then (if H p = none then none else some q.dropLast) else none | none=>none,fun p q hq=>?_,rp.imp (q:=[i]) (q':=[]) (fun _ _ h=>h) fun c p xs f h=>?_⟩
 ·by_cases iQ:j = i
  ·subst iQ
   rw [List.getElem?_set] at hj
   simp at hj
  ·rw [List.getElem?_set_ne (Ne.symm iQ)] at hj
   obtain ⟨w,hw,jw⟩:=Si.rep j d' hj
   refine ⟨w,hw,jw.imp (q:=[j]) (q':=[j]) (fun _ _ h=>h) fun c p xs f h=>?_⟩
   cases f with
   | ow =>
    refine ⟨h.1,?_⟩
    simp only [h.2]
    rw [if_neg (by simp;exact iQ)]
   | fz=>exact h
   | al=>exact h
   | sc=>exact h
 ·simp only [Si.rt p hp]
 ·cases z:τ p with
  | none=>simp only [z] at hq;cases hq
  | some k=>exact Si.th p k z
 ·cases z:τ p with
  | none=>simp only [z] at hq;cases hq
  | some k=>exact Si.t0 p k z
 ·cases z:τ p with
  | none=>simp only [z] at hq;cases hq
  | some k =>
   simp only [z] at hq ⊢
   by_cases hl:k.getLast? = some i
   ·rw [if_pos hl]
    exact ⟨rfl,(fun hR=>by have:=Si.rt p hR;rw [z] at this;cases this),Si.t0 p k z,Si.th p k z⟩
   ·rw [if_neg hl] at hq;cases hq
 ·cases f with
  | ow =>
   refine ⟨h.1,?_⟩
   have hn:H p ≠ none:=h.1.ne
   simp only [h.2]
   rw [if_pos (by simp),if_neg hn]
   simp
  | fz=>exact h
  | al=>exact h.2.elim
  | sc=>exact h
theorem vT (is:List Nat) (ρ:au) (j:Nat) (d:D) (h:(gZ is ρ)[j]? = some (some d)):∃ d',ρ[j]? = some (some d') /\ d = (if j ∈ is then aD aK d' else d'):=by
 unfold gZ at h
 rw [List.getElem?_mapIdx] at h
 cases q:ρ[j]? with
 | none=>rw [q] at h;cases h
 | some o =>
  rw [q] at h
  cases o with
  | none=>simp at h
  | some d' =>
   refine ⟨d',rfl,?_⟩
   by_cases hj:j ∈ is
   ·simp [hj] at h ⊢;exact h.symm
   ·simp [hj] at h ⊢;exact h.symm
open Classical in
theorem vU {fv:List Nat} (Si:SI X F R τ ρ σ H) (es:aj H H') :
  ∃ R' τ',(∀ p,R p -> R' p) /\ SI X F R' τ' (gZ fv ρ) σ H' /\ ∀ τt:Addr -> Option aE,(∀ p q,τt p = some q -> H p = none) -> ∀ (k k':aE) (p:Addr) (xs:Nd) (f:Fl),nd X.K R (iK (gP X F) τ fv) τt H' k p xs f -> nd X.K R' (fun _=>False) (fun _=>none) H' k' p xs (aK f):=by
 have fW:=Si.go es
 have fresh:∀ p,H p = none -> iK (gP X F) τ fv p:=fun p hp=>⟨.inr (Si.same.free hp),fun c i e=>absurd hp (Si.th p _ e)⟩
 refine ⟨fun p=>R p \/ (H' p ≠ none /\ iK (gP X F) τ fv p),fun p=>if iK (gP X F) τ fv p then none else τ p,fun p h=>.inl h,⟨by simp [gZ,Si.len],fun j d' hj=>?_,fun p hp=>?_,fun p hp=>?_,fun p hp=>?_,fun p q hq=>?_,fun p q hq=>?_,fW.same⟩,fun τt fr k k' p xs f h=>?_⟩
 ·obtain ⟨d0,h0,e0⟩:=vT _ _ _ _ hj
  obtain ⟨w,hw,jw⟩:=fW.rep j d0 h0
  refine ⟨w,hw,?_⟩
  by_cases N1:j ∈ fv
  ·rw [if_pos N1] at e0
   subst e0
   refine Rep.map (q:=[j]) (q':=[j]) (fun _ _ h=>h) (fun c p xs f h=>?_) jw [] rfl
   cases f with
   | ow =>
    refine ⟨h.1,.inr ⟨h.1.ne,.inr (Si.t0 p _ h.2),fun c' i' e'=>?_⟩⟩
    rw [h.2] at e'
    have:=congrArg List.getLast? (Option.some.inj e')
    simp at this;subst this;exact N1
   | fz=>exact ⟨h.1,.inl h.2⟩
   | al=>exact h.2.elim
   | sc=>exact h
  ·rw [if_neg N1] at e0
   subst e0
   refine jw.imp (q:=[j]) (q':=[j]) (fun _ _ h=>h) fun c p xs f h=>?_
   cases f with
   | ow =>
    refine ⟨h.1,?_⟩
    show (if iK (gP X F) τ fv p then none else τ p) = some (c ++ [j])
    rw [if_neg (fun z=>N1 (z.2 c j h.2))];exact h.2
   | fz=>exact ⟨h.1,.inl h.2⟩
   | al=>exact h.2.elim
   | sc=>exact h
 ·rcases hp with hp | hp
  ·simp only [Si.rt p hp];split <;> rfl
  ·rw [if_pos hp.2]
 ·rcases hp with hp | hp
  ·exact fW.rh p hp
  ·exact hp.1
 ·rcases hp with hp | hp
  ·exact Si.rf p hp
  ·exact hp.2.1
 ·split at hq
  ·cases hq
  ·exact fW.th p q hq
 ·split at hq
  ·cases hq
  ·exact Si.t0 p q hq
 ·cases f with
  | ow=>exact ⟨h.1,.inr ⟨h.1.ne,fresh p (fr p _ h.2)⟩⟩
  | fz=>exact ⟨h.1,.inl h.2⟩
  | al=>exact ⟨h.1,.inr ⟨h.1.ne,h.2⟩⟩
  | sc=>exact h
theorem qi {fv:List Nat} {v:V} {d:D} (Si:SI X F R τ ρ σ H) (es:aj H H') (r:bt X.K (gP X F) R τ fv H H' v d) :
  ∃ R' τ',(∀ p,R p -> R' p) /\ SI X F R' τ' (gZ fv ρ) σ H' /\ Rep (aA X.K H') (nd X.K R' (fun _=>False) (fun _=>none) H') [] v (aD aK d):=by
 obtain ⟨τt,fr,rp⟩:=r
 obtain ⟨R',τ',h1,h2,h3⟩:=vU (fv:=fv) Si es
 exact ⟨R',τ',h1,h2,Rep.gS (fun _ _ h=>h) (h3 τt fr) rp _⟩
theorem sr {fv:List Nat} {vs:List V} {ds:List D} (Si:SI X F R τ ρ σ H) (es:aj H H') (r:bU X.K (gP X F) R τ fv H H' vs ds) :
  ∃ R' τ',(∀ p,R p -> R' p) /\ SI X F R' τ' (gZ fv ρ) σ H' /\ af (aA X.K H') (nd X.K R' (fun _=>False) (fun _=>none) H') [] 0 vs (ag aK ds):=by
 obtain ⟨τt,fr,rp⟩:=r
 obtain ⟨R',τ',h1,h2,h3⟩:=vU (fv:=fv) Si es
 exact ⟨R',τ',h1,h2,af.gS (fun _ _ h=>h) (h3 τt fr) rp _ _⟩
theorem lu {v:V} {d:D} {τ':Addr -> Option aE} (h:Rep (aA X.K H) (nd X.K R (fun _=>False) (fun _=>none) H) [] v d):gB X R τ' H v d:=⟨fun _=>none,fun _ _ h=>by simp at h,h⟩
open Classical in
theorem En {e:CE} {v:V} {d:D} (Si:SI X F R τ ρ σ H) (es:aj H H') (r:bt X.K (gP X F) R τ (fM e) H H' v d) :
  ∃ R' τ',(∀ p,R p -> R' p) /\ SI X F R' τ' (keep e d ρ).2 σ H' /\ gB X R' τ' H' v (keep e d ρ).1:=by
 unfold keep
 by_cases ha:aq bp d = true
 ·rw [if_pos ha]
  obtain ⟨R',τ',h1,h2,h3⟩:=qi Si es r
  exact ⟨R',τ',h1,h2,lu h3⟩
 ·obtain ⟨τt,fr,rp⟩:=r
  rw [if_neg ha]
  refine ⟨R,τ,fun _ h=>h,Si.go es,fun p=>if H' p = none then none else τt p,fun p q hq=>?_,?_⟩
  ·dsimp only at hq
   split at hq
   ·cases hq
   ·rename_i hn
    have hf:=fr p q hq
    refine ⟨?_,fun hR=>Si.rh p hR hf,Si.same.free hf,hn⟩
    cases z:τ p with
    | none=>rfl
    | some k=>exact absurd hf (Si.th p k z)
  ·have N6:aq bp d = false:=by simpa using ha
   have st:∀ {k:aE} {v:V} {d:D},Rep (aA X.K H') (nd X.K R (iK (gP X F) τ (fM e)) τt H') k v d -> aq bp d = false -> Rep (aA X.K H') (nd X.K R (fun _=>False) (fun p=>if H' p = none then none else τt p) H') k v d:=by
    intro k v d h ha
    exact Rep.jl (P:=bp) (fun _ _ h=>h) (fun k p xs f hf h=>by
     cases f with
     | ow=>exact ⟨h.1,by show (if H' p = none then none else τt p) = _;rw [if_neg (h.1.ne)];exact h.2⟩
     | fz=>exact h
     | al=>cases hf
     | sc=>exact h) h ha
   exact st rp N6
open Classical in
noncomputable def tK (X:Cx) (F:Addr -> Prop) (Φ:az) (c:CE):TE:=fun σ H Q=>∃ R τ ρ r,SI X F R τ ρ σ H /\ iJ Φ c ρ = ok r /\ ∀ v H' R' τ',aj H H' -> (∀ p,R p -> R' p) -> SI X F R' τ' r.2 σ H' -> gB X R' τ' H' v r.1 -> Q v H'
end
end DI
end
section
namespace DI
open PySem PySem.Spec PyProof.Rows L2
section
variable {T T':iL} {N N':gC}
theorem af.child {q:aE} (hT:∀ p xs,T p xs -> T' p xs) (hN:∀ c m p xs f,N (c ++ (m :: q)) p xs f -> N' (c ++ (m :: q)) p xs f):∀ {n:Nat} {vs:List V} {ds:List D},af T N q n vs ds -> af T' N' q n vs ds
 | _,_,_,.nil=>.nil
 | n,_,_,.cons h t=>.cons (Rep.imp (q:=n :: q) (q':=n :: q) hT (fun c p xs f h=>hN c n p xs f h) h) (af.child hT hN t)
theorem af.D_ {q:aE} {v:V} {d:D}:∀ {n:Nat} {vs:List V} {ds:List D},af T N q n vs ds -> Rep T N ((n + ds.length) :: q) v d -> af T N q n (vs ++ [v]) (ds ++ [d])
 | n,_,_,.nil,h=>.cons (by simpa using h) .nil
 | n,_,_,.cons (ds:=ds) h t,h'=>.cons h (af.D_ t (by
   have e:n + (ds.length + 1) = n + 1 + ds.length:=by omega
   rw [List.length_cons,e] at h';exact h'))
theorem af.setAt {q:aE} {v:V} {d:D}:∀ {n j:Nat} {vs:List V} {ds:List D},af T N q n vs ds -> Rep T N ((n + j) :: q) v d -> af T N q n (vs.set j v) (ds.set j d)
 | _,_,_,_,.nil,_=>by simp;exact .nil
 | _,0,_,_,.cons _ t,h'=>.cons (by simpa using h') t
 | n,j + 1,_,_,.cons h t,h'=>.cons h (af.setAt (j:=j) t (by
   have e:n + (j + 1) = n + 1 + j:=by omega
   rw [e] at h';exact h'))
end
section
variable {X:Cx} {F R:Addr -> Prop} {τ:Addr -> Option aE} {ρ:au} {σ:St} {H:Hp}
theorem SI.own {i:Nat} {ds:List D} (Si:SI X F R τ ρ σ H) (hi:ρ[i]? = some (some (.lst .ow ds))):∃ p xs,σ[i]? = some (some (.ref p)) /\ H p = some (.lst xs) /\ xs.length = ds.length /\ τ p = some [i] /\ af (aA X.K H) (nd X.K R (fun _=>False) τ H) [i] 0 xs ds:=by
 obtain ⟨v,hv,rp⟩:=Si.rep i _ hi
 cases rp with
 | lst h r=>exact ⟨_,_,hv,h.1,r.length,h.2,r⟩
theorem yv {K:PySem.W.Frag} {H:Hp} {p:Addr} {n:Nd} {o:HO} (hp:d5 H p n) {a:Addr} {ys:List V} (h:aA K H a ys):aA K (upd H p o) a ys:=by
 obtain ⟨o0,Jm,LR,Jl⟩:=d5.some hp
 have nO:∀ a u,H a = some u -> u ≠ o0 -> a ≠ p:=fun a u e h z=>by subst z;rw [Jm] at e;cases e;exact h rfl
 rcases h with (h | ⟨o',h⟩) | h
 ·exact .inl (.inl (by rw [av (nO a _ h fun z=>LR _ z.symm)];exact h))
 ·exact .inl (.inr ⟨o',by rw [av (nO a _ h fun z=>Jl _ _ z.symm)];exact h⟩)
 ·exact .inr h
theorem SI.FT {i m:Nat} {v:V} {d d0 d1:D} {ds ds':List D} {p:Addr} {xs xs':List V} {n n':Nd} {o:HO} (Si:SI X F R τ ρ σ H) (hi:ρ[i]? = some (some d0)) (hv:σ[i]? = some (some (.ref p))) (hp:d5 H p n) (ht:τ p = some [i])
  (rs:af (aA X.K H) (nd X.K R (fun _=>False) τ H) [i] 0 xs ds) (rk:gB X R τ H v d) (x4:d5 (upd H p o) p n')
  (mk:∀ {N:gC},N [i] p n' .ow -> af (aA X.K (upd H p o)) N [i] 0 xs' ds' -> Rep (aA X.K (upd H p o)) N [i] (.ref p) d1)
  (hb:∀ {N:gC},af (aA X.K (upd H p o)) N [i] 0 xs ds -> Rep (aA X.K (upd H p o)) N (m :: [i]) v d -> af (aA X.K (upd H p o)) N [i] 0 xs' ds') :
  ∃ τ',SI X F R τ' (ρ.set i (some d1)) σ (upd H p o):=by
 obtain ⟨τt,hτ,rp⟩:=rk
 have N2:i < ρ.length:=by
  by_cases z:i < ρ.length
  ·exact z
  ·rw [List.getElem?_eq_none (by omega)] at hi;cases hi
 obtain ⟨o0,Jm,LR,Jl⟩:=d5.some hp
 have nR:∀ a,R a -> a ≠ p:=fun a ha e=>by subst e;rw [Si.rt _ ha] at ht;cases ht
 have nT:∀ a q,τt a = some q -> a ≠ p:=fun a q e z=>by subst z;rw [(hτ _ q e).1] at ht;cases ht
 have nO:∀ a u,H a = some u -> u ≠ o0 -> a ≠ p:=fun a u e h z=>by subst z;rw [Jm] at e;cases e;exact h rfl
 have keep:∀ a,a ≠ p -> (upd H p o) a = H a:=fun a h=>av h
 have Hx:∀ a ys,aA X.K H a ys -> aA X.K (upd H p o) a ys:=fun a ys h=>by
  rcases h with (h | ⟨o',h⟩) | h
  ·exact .inl (.inl (by rw [keep a (nO a _ h fun z=>LR _ z.symm)];exact h))
  ·exact .inl (.inr ⟨o',by rw [keep a (nO a _ h fun z=>Jl _ _ z.symm)];exact h⟩)
  ·exact .inr h
 have N8:∀ a (z:Nd),a ≠ p -> d5 H a z -> d5 (upd H p o) a z:=fun a z ne h=>h.at fun u e=>by rw [keep a ne];exact e
 have V4:∀ {τ1:Addr -> Option aE} q q' a (z:Nd),nd X.K R (fun _=>False) τ1 H q a z .sc -> ∀ τ2,nd X.K R (fun _=>False) τ2 (upd H p o) q' a z .sc:=fun q q' a z h τ2=>by
  obtain ⟨ys,rfl,h⟩:=h.yF
  exact h.elim (fun ⟨o',w⟩=>.inl ⟨o',by rw [keep a (nO a _ w fun z=>Jl _ _ z.symm)];exact w⟩) .inr
 have V5:∀ q a ys f,q ≠ [i] -> nd X.K R (fun _=>False) τ H q a ys f -> nd X.K R (fun _=>False) (fun a=>match τt a with | some q=>some (q ++ [m,i]) | none=>τ a) (upd H p o) q a ys f:=fun q a ys f hq h=>by
  cases f with
  | ow =>
   have ne:a ≠ p:=fun z=>by
    subst z
    have:=h.2.symm.trans ht
    exact hq (Option.some.inj this)
   refine ⟨N8 a ys ne h.1,?_⟩
   cases z:τt a with
   | none=>simp only [z];exact h.2
   | some k=>have:=(hτ a k z).1;rw [h.2] at this;cases this
  | fz=>exact ⟨N8 a ys (nR a h.2) h.1,h.2⟩
  | al=>exact h.2.elim
  | sc=>exact V4 q q a ys h _
 refine ⟨fun a=>match τt a with | some q=>some (q ++ [m,i]) | none=>τ a,⟨by simp [Si.len],fun j d' hj=>?_,fun a ha=>?_,fun a ha=>?_,Si.rf,fun a q hq=>?_,fun a q hq=>?_,?_⟩⟩
 ·by_cases iQ:j = i
  ·subst iQ
   rw [List.getElem?_set_self N2] at hj
   cases hj
   refine ⟨.ref p,hv,mk ⟨x4,?_⟩ (hb (af.child Hx (fun c n a ys f h=>V5 _ a ys f (fun z=>by
    have:=congrArg List.length z
    simp at this) h) rs) (rp.imp (q:=[]) (q':=[m,j]) Hx fun c a ys f h=>?_))⟩
   ·cases z:τt p with
    | none=>simp only [z];exact ht
    | some k=>exact absurd rfl (nT p k z)
   ·cases f with
    | ow =>
     rw [List.append_nil] at h
     exact ⟨N8 a ys (nT a _ h.2) h.1,by simp only [h.2]⟩
    | fz=>exact ⟨N8 a ys (nR a h.2) h.1,h.2⟩
    | al=>exact h.2.elim
    | sc=>exact V4 _ _ a ys h _
  ·rw [List.getElem?_set_ne (Ne.symm iQ)] at hj
   obtain ⟨u,hu,ru⟩:=Si.rep j d' hj
   refine ⟨u,hu,ru.imp (q:=[j]) (q':=[j]) Hx fun c a ys f h=>V5 _ a ys f (fun z=>?_) h⟩
   have:=congrArg List.getLast? z
   simp at this
   exact iQ this
 ·cases z:τt a with
  | none=>simp only [z];exact Si.rt a ha
  | some k=>exact absurd ha (hτ a k z).2.1
 ·rw [keep a (nR a ha)];exact Si.rh a ha
 ·by_cases V3:a = p
  ·subst V3;rw [aB];simp
  ·rw [keep a V3]
   cases z:τt a with
   | none=>simp only [z] at hq;exact Si.th a q hq
   | some k=>exact (hτ a k z).2.2.2
 ·cases z:τt a with
  | none=>simp only [z] at hq;exact Si.t0 a q hq
  | some k=>exact (hτ a k z).2.2.1
 ·intro a u e
  have ne:a ≠ p:=fun z=>by subst z;rw [Si.t0 _ _ ht] at e;cases e
  rw [keep a ne];exact Si.same a u e
theorem SI.put {i m:Nat} {v:V} {d:D} {ds ds':List D} {g:List V -> List V} {p:Addr} {xs:List V} (Si:SI X F R τ ρ σ H) (hi:ρ[i]? = some (some (.lst .ow ds))) (hv:σ[i]? = some (some (.ref p))) (hp:H p = some (.lst xs)) (ht:τ p = some [i])
  (rs:af (aA X.K H) (nd X.K R (fun _=>False) τ H) [i] 0 xs ds) (rk:gB X R τ H v d)
  (hb:∀ {N:gC},af (aA X.K (upd H p (.lst (g xs)))) N [i] 0 xs ds -> Rep (aA X.K (upd H p (.lst (g xs)))) N (m :: [i]) v d -> af (aA X.K (upd H p (.lst (g xs)))) N [i] 0 (g xs) ds') :
  ∃ τ',SI X F R τ' (ρ.set i (some (.lst .ow ds'))) σ (upd H p (.lst (g xs))) :=
 Si.FT (n:=.l xs) (n':=.l (g xs)) hi hv hp ht rs rk aB (fun h r=>.lst h r) hb
end
end DI
end
section
namespace DI
open PySem PySem.Spec PyProof.Rows L2
theorem i7 {env:Env}:∀ (names:List (Str × NameKind)) (acc:List (Str × Addr)),(∀ x,(x,NameKind.free) ∈ names -> ∃ c,env.cells.lookup x = some c) ->
  ∃ cl,(forIn names acc (fun (y:Str × NameKind) (cs:List (Str × Addr))=>do
    let (name,kind):=y
    let mut cs:=cs
    if kind == .free then cs:=(name,<- cellOf env name) :: cs
    pure (ForInStep.yield cs)):Sem (List (Str × Addr))) = pure cl /\
   (∀ x c,cl.lookup x = some c -> acc.lookup x = some c \/ (env.cells.lookup x = some c /\ (x,NameKind.free) ∈ names)) /\ (∀ x,((x,NameKind.free) ∈ names \/ (∃ c,acc.lookup x = some c)) -> ∃ c,cl.lookup x = some c)
 | [],acc,_=>⟨acc,rfl,fun x c h=>.inl h,fun x h=>h.elim (fun h=>nomatch h) id⟩
 | (n,kd) :: names,acc,h=>by
  by_cases hk:kd = .free
  ·subst hk
   obtain ⟨c,hc⟩:=h n List.mem_cons_self
   obtain ⟨cl,e,h1,h2⟩:=i7 names ((n,c) :: acc) (fun x hx=>h x (List.mem_cons_of_mem _ hx))
   refine ⟨cl,?_,fun x c' hx=>?_,fun x hx=>?_⟩
   ·rw [List.forIn_cons]
    have e0:cellOf env n = pure c:=by unfold cellOf;rw [hc]
    simp only [beq_self_eq_true,if_true,e0,pure_bind]
    exact e
   ·rcases h1 x c' hx with z | z
    ·by_cases LH:x = n
     ·subst LH
      simp at z;subst z
      exact .inr ⟨hc,List.mem_cons_self⟩
     ·rw [List.lookup_cons] at z
      have:(x == n) = false:=by simpa using LH
      rw [this] at z
      exact .inl z
    ·exact .inr ⟨z.1,List.mem_cons_of_mem _ z.2⟩
   ·refine h2 x ?_
    rcases hx with hx | ⟨c',hx⟩
    ·rcases List.mem_cons.mp hx with z | z
     ·cases z;exact .inr ⟨c,by simp⟩
     ·exact .inl z
    ·by_cases LH:x = n
     ·subst LH;exact .inr ⟨c,by simp⟩
     ·refine .inr ⟨c',?_⟩
      rw [List.lookup_cons]
      have:(x == n) = false:=by simpa using LH
      rw [this];exact hx
  ·obtain ⟨cl,e,h1,h2⟩:=i7 names acc (fun x hx=>h x (List.mem_cons_of_mem _ hx))
   have hb:(kd == NameKind.free) = false:=by simpa using hk
   refine ⟨cl,?_,fun x c' hx=>(h1 x c' hx).imp id fun z=>⟨z.1,List.mem_cons_of_mem _ z.2⟩,fun x hx=>h2 x ?_⟩
   ·rw [List.forIn_cons]
    simp only [hb,Bool.false_eq_true,if_false,pure_bind]
    exact e
   ·rcases hx with hx | hx
    ·rcases List.mem_cons.mp hx with z | z
     ·cases z;exact absurd rfl hk
     ·exact .inl z
    ·exact .inr hx
theorem uz {env:Env} {sc:Scope} (h:∀ x,(x,NameKind.free) ∈ sc.names -> ∃ c,env.cells.lookup x = some c) :
  ∃ cl,closureFor sc env = pure cl /\ (∀ x c,cl.lookup x = some c -> env.cells.lookup x = some c) /\ (∀ x,(x,NameKind.free) ∈ sc.names -> ∃ c,cl.lookup x = some c):=by
 obtain ⟨cl,e,h1,h2⟩:=i7 (env:=env) sc.names [] h
 refine ⟨cl,?_,fun x c hx=>(h1 x c hx).elim (fun z=>by simp at z) (·.1),fun x hx=>h2 x (.inl hx)⟩
 unfold closureFor
 simp only [bind_pure]
 exact e
theorem qo {prog:Program} {w:World} {A:Around} {R:Result -> Shared -> Prop} {s:Shared} {elt target iter:Expr} {ifs:List Expr} {scope:Scope} {pos:Pos} {it acc:Value} {env:Env} (I:Nat -> Shared -> Prop)
  (turn:∀ n s,I n s -> wpAny (model prog w) A (pyNext it) (fun r s₁=>match r with
   | none=>R (.ok .next) s₁
   | some v=>wpAny (model prog w) A (letOwnedTupleGo target it v) (fun _ s₁=>wpAny (model prog w) A (assign target env v) (fun _ s₂ =>
     wpAny (model prog w) A (forIn ifs true fun c r=>if r = true then do let ok <- isTrue c env (eval c env);pure (ForInStep.yield ok) else pure (ForInStep.yield r)) (fun ok s₃ =>
      if ok = true then wpAny (model prog w) A (eval elt env) (fun x s₄ =>
       wpAny (model prog w) A (call (.builtin "list.append") [acc,x]) (fun _ s₅=>∃ m,m < n /\ I m s₅) (fun _ _=>False) s₄) (fun _ _=>False) s₃
      else ∃ m,m < n /\ I m s₃) (fun _ _=>False) s₂) (fun _ _=>False) s₁) (fun _ _=>False) s₁) (fun _ _=>False) s)
  (n:Nat) (h:I n s) :
  codeAny (model prog w) A (.compLoop (.ListComp elt [⟨target,iter,ifs,0⟩] scope pos) 0 it acc env) R s:=by
 refine codeAny_loop rfl I (fun n s hI=>?_) n h
 show wpAny _ A ((compTurn (.ListComp elt [⟨target,iter,ifs,0⟩] scope pos) 0 it acc env).onRaise (fun x=>do noteFrame x env;theTreesLotGoes x)) _ _ s
 refine wpAny_noted ?_
 rw [compTurn_list]
 refine wpAny_bind (wpAny_standAt (wpAny_bind (wpAny_mono (turn n s hI) (fun r s₁ h₁=>?_) fun _ _ h'=>h'.elim)))
 cases r with
 | none=>exact wpAny_pure h₁
 | some v =>
  refine wpAny_bind (wpAny_mono h₁ (fun _ s₂ h₂=>?_) fun _ _ h'=>h'.elim)
  refine wpAny_bind (wpAny_mono h₂ (fun _ s₂ h₂=>wpAny_bind (wpAny_mono h₂ (fun ok s₃ h₃=>?_) fun _ _ h'=>h'.elim)) fun _ _ h'=>h'.elim)
  cases ok with
  | false=>exact wpAny_pure ⟨rfl,h₃⟩
  | true =>
   exact wpAny_bind (wpAny_bind (wpAny_mono h₃ (fun x s₄ h₄=>wpAny_bind (wpAny_mono h₄ (fun _ s₅ h₅=>wpAny_pure (wpAny_pure ⟨rfl,h₅⟩)) fun _ _ h'=>h'.elim)) fun _ _ h'=>h'.elim))
noncomputable def dH (X:Cx) (N':List Str) (scope:Scope) (cl:List (Str × Addr)) (C:Addr) (s₀:Shared) (H₀:Hp) (fp:List Addr):Cx :=
 { X with N:=N',s₀:=s₀,H₀:=H₀,env:=compEnvC scope cl C X.env,outer:=X.stack,stack:=X.stack,ex:=fp,fn:=fun _=>false,pn:=[],xe:=fun _ _=>False }
theorem eR {env:Env}:∀ {names:List (Str × NameKind)} {x:Str} {kd:NameKind},(names.map fun (n,k)=>if (k == NameKind.free && env.scope.kind == .function && env.kindOf n == some .cell) then (n,NameKind.cell) else (n,k)).lookup x = some kd ->
  names.lookup x = some kd \/ (kd = .cell /\ names.lookup x = some .free)
 | [],_,_,h=>by simp at h
 | (n,k) :: r,x,kd,h=>by
  rw [List.map_cons] at h
  cases hx:x == n with
  | true =>
   by_cases hc:(k == NameKind.free && env.scope.kind == .function && env.kindOf n == some .cell) = true
   ·simp only [hc,if_true,List.lookup_cons,hx] at h
    cases h
    simp only [Bool.and_eq_true,beq_iff_eq] at hc
    refine .inr ⟨rfl,?_⟩
    rw [List.lookup_cons,hx,hc.1.1]
   ·have A9:(k == NameKind.free && env.scope.kind == .function && env.kindOf n == some .cell) = false:=by simpa using hc
    simp only [A9,Bool.false_eq_true,if_false,List.lookup_cons,hx] at h
    cases h
    exact .inl (by rw [List.lookup_cons,hx])
  | false =>
   have:List.lookup x (r.map fun (n,k)=>if (k == NameKind.free && env.scope.kind == .function && env.kindOf n == some .cell) then (n,NameKind.cell) else (n,k)) = some kd:=by
    by_cases hc:(k == NameKind.free && env.scope.kind == .function && env.kindOf n == some .cell) = true
    ·simp only [hc,if_true,List.lookup_cons,hx] at h;exact h
    ·have A9:(k == NameKind.free && env.scope.kind == .function && env.kindOf n == some .cell) = false:=by simpa using hc
     simp only [A9,Bool.false_eq_true,if_false,List.lookup_cons,hx] at h;exact h
   rw [List.lookup_cons,hx]
   exact eR this
theorem cV {env:Env}:∀ {names:List (Str × NameKind)} {x:Str},names.lookup x = some .free ->
  (names.map fun (n,k)=>if (k == NameKind.free && env.scope.kind == .function && env.kindOf n == some .cell) then (n,NameKind.cell) else (n,k)).lookup x = some .free \/
  (names.map fun (n,k)=>if (k == NameKind.free && env.scope.kind == .function && env.kindOf n == some .cell) then (n,NameKind.cell) else (n,k)).lookup x = some .cell
 | [],_,h=>by simp at h
 | (n,k) :: r,x,h=>by
  rw [List.map_cons]
  cases hx:x == n with
  | true =>
   rw [List.lookup_cons,hx] at h
   cases h
   by_cases hc:(NameKind.free == NameKind.free && env.scope.kind == .function && env.kindOf n == some .cell) = true
   ·simp only [hc,if_true,List.lookup_cons,hx];exact .inr trivial
   ·have A9:(NameKind.free == NameKind.free && env.scope.kind == .function && env.kindOf n == some .cell) = false:=by simpa using hc
    simp only [A9,Bool.false_eq_true,if_false,List.lookup_cons,hx];exact .inl trivial
  | false =>
   rw [List.lookup_cons,hx] at h
   by_cases hc:(k == NameKind.free && env.scope.kind == .function && env.kindOf n == some .cell) = true
   ·simp only [hc,if_true,List.lookup_cons,hx];exact cV h
   ·have A9:(k == NameKind.free && env.scope.kind == .function && env.kindOf n == some .cell) = false:=by simpa using hc
    simp only [A9,Bool.false_eq_true,if_false,List.lookup_cons,hx];exact cV h
theorem dt {names:List (Str × NameKind)} {x:Str} {kd:NameKind} (h:names.lookup x = some kd):(x,kd) ∈ names:=PySem.mem_of_lookup h
end DI
end
section
namespace DI
open PySem PySem.Spec PyProof.Rows L2
structure jh (S:Sx) (n:Nat) (t:Tg) (caps:List Nat) (target:Expr) (sc:Scope):Prop where
 kind:sc.kind = .function
 zp:∀ y ∈ sc.names,y.2 ≠ .cell
 loc:∀ y ∈ sc.names,y.2 = .local -> sc.names.lookup y.1 = some .local
 free:∀ x,(x,NameKind.free) ∈ sc.names -> S.sc.names.lookup x = some .cell \/ S.sc.names.lookup x = some .free
 n:n = (bH target).length
 tl:∀ x ∈ bH target,sc.names.lookup x = some .local
 nd:(bH target ++ fu S caps).Nodup
 dU:∀ i ∈ caps,∃ x,S.N[i]? = some x /\ sc.names.lookup x = some .free
 tg:(∃ x p,t = .nm 0 /\ target = .Name x p) \/ (∃ es k p,t = .tp (List.range es.length) /\ target = .Tuple es k p /\ es.all isNm = true)
theorem pd {S:Sx} {n:Nat} {t:Tg} {caps:List Nat} {target:Expr} {sc:Scope} (h:qv S n t caps target sc = true):jh S n t caps target sc:=by
 unfold qv at h
 simp only [Bool.and_eq_true,decide_eq_true_eq,List.all_eq_true,Bool.or_eq_true] at h
 obtain ⟨⟨⟨⟨⟨⟨h1,h2⟩,h3⟩,h4⟩,h5⟩,h6⟩,h7⟩:=h
 refine ⟨h1,fun y hy=>(h2 y hy).1.1,fun y hy hk=>?_,fun x hx=>?_,h3,h4,h5,fun i hi=>?_,?_⟩
 ·rcases (h2 y hy).1.2 with z | z
  ·exact absurd hk z
  ·exact z
 ·rcases (h2 _ hx).2 with (z | z) | z
  ·exact absurd rfl z
  ·exact .inl z
  ·exact .inr z
 ·have:=h6 i hi
  split at this
  ·rename_i x e;exact ⟨x,e,of_decide_eq_true this⟩
  ·cases this
 ·cases t with
  | nm i =>
   obtain ⟨g1,g2⟩:=ak h7
   obtain rfl:i = 0:=of_decide_eq_true g1
   cases target <;> first | (cases g2;done) | exact .inl ⟨_,_,rfl,rfl⟩
  | tp is =>
   obtain ⟨es,hv,g⟩:=aP h7
   obtain ⟨k,p,rfl⟩:=jn hv
   obtain ⟨g1,g2⟩:=ak g
   obtain rfl:is = _:=of_decide_eq_true g1
   exact .inr ⟨es,k,p,rfl,rfl,g2⟩
theorem sN {S:Sx}:∀ {caps:List Nat},(∀ i ∈ caps,∃ x,S.N[i]? = some x) -> (fu S caps).length = caps.length /\ ∀ (j i:Nat),caps[j]? = some i -> (fu S caps)[j]? = S.N[i]?
 | [],_=>⟨rfl,fun j i h=>by simp at h⟩
 | i :: caps,h=>by
  obtain ⟨x,hx⟩:=h i List.mem_cons_self
  obtain ⟨h1,h2⟩:=sN (caps:=caps) fun j hj=>h j (List.mem_cons_of_mem _ hj)
  have e:fu S (i :: caps) = x :: fu S caps:=by unfold fu;rw [List.filterMap_cons,hx]
  rw [e]
  refine ⟨by simp [h1],fun j k hj=>?_⟩
  cases j with
  | zero=>simp at hj;subst hj;simp [hx]
  | succ j=>simp at hj ⊢;exact h2 j k hj
section
variable {X:Cx} {S:Sx} {k:Nat} {Φ:az} {pins:List (Addr × Obj)} {σ:St} {H2:Hp} {s₂:Shared}
noncomputable def nW (n:Nat) (caps:List Nat) (σ:St):St:=List.replicate n none ++ caps.map fun i=>σ[i]?.getD none
noncomputable def d7 (ai:List Value) (n:Nat):Obj:={ cls:=.type "list",data:=.seq ai.toArray n }
theorem Dx {n:Nat} {t:Tg} {caps:List Nat} {target:Expr} {sc:Scope} {cl:List (Str × Addr)} {fp:List Addr} (L:Lk X S k Φ) (co:jh S n t caps target sc) (I2:Inv X pins σ H2 s₂)
  (kX:∀ x c,cl.lookup x = some c -> X.env.cells.lookup x = some c) (ud:∀ x,(x,NameKind.free) ∈ sc.names -> ∃ c,cl.lookup x = some c) (CU:∀ b ∈ fp,nI X pins H2 b) (Hm:∀ b ∈ fp,b < s₂.heap.objs.size) :
  (dH X (bH target ++ fu S caps) sc cl (s₂.heap.objs.size + 1) s₂ H2 fp).Ok:=by
 have RS:=I2.j5
 refine ⟨I2.ok.mod,co.kind,I2.ok.glob,I2.ok.blt,Nat.le_succ _,fun x y c h1 h2=>I2.ok.inj x y c (kX x c h1) (kX y c h2),fun x hx=>?_,(fun _ _ z=>by cases z),I2.ok.hd,I2.ok.frames,.inl rfl,fun b hb=>⟨?_,fun x c e=>(CU b hb).2.2.2.2.1 x c (kX x c e)⟩,I2.bs,Nat.le_trans I2.ok.EN I2.sz,fun b o e hb=>?_,fun b hb z=>?_,I2.stack,I2.uP⟩
 ·have CL:(relabel sc X.env).names.lookup x = some .cell \/ (relabel sc X.env).names.lookup x = some .free:=hx
  rcases CL with CL | CL
  ·rcases eR CL with z | z
   ·exact absurd rfl (co.zp _ (dt z))
   ·exact ud x (dt z.2)
  ·rcases eR CL with z | z
   ·exact ud x (dt z)
   ·cases z.1
 ·exact Nat.ne_of_lt (Nat.lt_succ_of_lt (Hm b hb))
 ·rcases (CU b hb).2.2.2.1 with z | z
  ·exact I2.ok.zo b o e z
  ·exact absurd (Nat.lt_of_lt_of_le (Heap.lt_size e) (Nat.le_trans I2.ok.EN z)) (Nat.lt_irrefl _)
 ·rcases List.mem_cons.mp (RS b z) with w | w
  ·exact (CU b hb).2.1 w
  ·exact (CU b hb).2.2.1 w
theorem zQ {n:Nat} {t:Tg} {caps:List Nat} {target:Expr} {sc:Scope} {cl:List (Str × Addr)} {fp:List Addr} {h₁:Heap} {tk:Nat} (L:Lk X S k Φ) (co:jh S n t caps target sc) (I2:Inv X pins σ H2 s₂)
  (kX:∀ x c,cl.lookup x = some c -> X.env.cells.lookup x = some c) (ud:∀ x,(x,NameKind.free) ∈ sc.names -> ∃ c,cl.lookup x = some c) (CU:∀ b ∈ fp,nI X pins H2 b) (Hm:∀ b ∈ fp,b < s₂.heap.objs.size)
  (x3:h₁.Ns (s₂.heap.objs.size + 1) fun _=>none) (old:∀ b o,s₂.heap.get? b = some o -> h₁.get? b = some o) (eV:h₁.get? s₂.heap.objs.size = some (d7 [] 0)) :
  Inv (dH X (bH target ++ fu S caps) sc cl (s₂.heap.objs.size + 1) s₂ H2 fp) [(s₂.heap.objs.size,d7 [] 0)] (nW n caps σ) H2 { s₂ with heap:=h₁,toks:=tk }:=by
 have mL:∀ i ∈ caps,∃ x,S.N[i]? = some x:=fun i hi=>let ⟨x,e,_⟩:=co.dU i hi;⟨x,e⟩
 obtain ⟨cl1,cl2⟩:=sN mL
 refine ⟨Dx L co I2 kX ud CU Hm,rfl,I2.bare,Un.kept old,⟨_,x3,fun i x v e1 e2 e3=>?_⟩,fun x c e=>?_,I2.cQ.fresh (Nat.le_succ _),fun x c e=>I2.iR x c (kX x c e),fun p hp=>?_,I2.cQ.kept old,?_⟩
 ·unfold nW at e2
  have hi:n <= i:=by
   by_cases hi:i < n
   ·rw [List.getElem?_append_left (by simpa using hi),List.getElem?_replicate,if_pos hi] at e2;cases e2
   ·omega
  have JB:(bH target ++ fu S caps)[i]? = some x:=e1
  rw [List.getElem?_append_right (by rw [<- co.n];exact hi),<- co.n] at JB
  rw [List.getElem?_append_right (by simpa using hi),List.length_replicate,List.getElem?_map] at e2
  cases hc:caps[i - n]? with
  | none=>rw [hc] at e2;cases e2
  | some ci =>
   rw [hc] at e2
   rw [cl2 _ _ hc] at JB
   obtain ⟨x',MB,N3⟩:=co.dU ci (List.mem_of_getElem? hc)
   rw [MB] at JB;cases JB
   have ZP:σ[ci]? = some (some v):=by
    have MF:σ[ci]?.getD none = some v:=Option.some.inj e2
    cases q:σ[ci]? with
    | none=>rw [q] at MF;cases MF
    | some o=>rw [q] at MF;simp at MF;rw [MF]
   have LI:IJ X.env.scope x:=by
    unfold IJ;rw [L.sc]
    rcases co.free x (dt N3) with z | z
    ·exact .inr (.inl z)
    ·exact .inr (.inr z)
   obtain ⟨m,hn,hl⟩:=I2.loc
   obtain ⟨u,r,lk⟩:=hl ci x v (by rw [L.N];exact MB) ZP LI
   refine ⟨u,r,.inr ⟨?_,?_⟩⟩
   ·rcases cV (env:=X.env) N3 with z | z
    ·exact .inr z
    ·exact .inl z
   ·have Zd:∃ c,X.env.cells.lookup x = some c /\ s₂.heap.IsCell c (some u):=by
     rcases lk with ⟨z,_⟩ | ⟨_,z⟩
     ·have z':X.env.scope.names.lookup x = some .local:=z
      rw [L.sc] at z'
      rcases co.free x (dt N3) with w | w <;> (rw [w] at z';cases z')
     ·exact z
    obtain ⟨c,ec,o,ho,hd⟩:=Zd
    obtain ⟨c',Wc⟩:=ud x (dt N3)
    have:=kX x c' Wc
    rw [ec] at this;cases this
    exact ⟨c,Wc,o,old _ _ ho,hd⟩
 ·obtain ⟨v,o,ho,hd⟩:=I2.cell x c (kX x c e)
  exact ⟨v,o,old _ _ ho,hd⟩
 ·have uc:p = (s₂.heap.objs.size,d7 [] 0):=by simpa [dH] using hp
  subst uc
  refine ⟨eV,I2.cQ.fresh (Nat.le_refl _),Nat.ne_of_lt (Nat.lt_succ_self _),fun z=>?_,fun v z=>by cases z⟩
  rcases List.mem_cons.mp (I2.j5 _ z) with w | w
  ·exact absurd w (Nat.ne_of_gt I2.lt)
  ·exact I2.GG (Nat.le_refl _) w
 ·show (nW n caps σ).length = (bH target ++ fu S caps).length
  unfold nW
  rw [List.length_append,List.length_append,List.length_replicate,List.length_map,cl1,co.n]
end
end DI
end
section
namespace DI
open PySem PySem.Spec PyProof.Rows L2
theorem af.snoc {T:iL} {N:gC} {k:aE}:∀ {n:Nat} {vs:List V} {ds:List D} {v:V} {d:D},af T N k n vs ds -> Rep T N ((n + ds.length) :: k) v d -> af T N k n (vs ++ [v]) (ds ++ [d])
 | n,_,_,_,_,.nil,h=>.cons h .nil
 | n,_,_,_,_,.cons (ds:=ds) h t,r=>.cons h (af.snoc t (by
  have e:n + (ds.length + 1) = n + 1 + ds.length:=by omega
  rw [List.length_cons,e] at r;exact r))
open Classical in
theorem bU.snoc {K:PySem.W.Frag} {G R:Addr -> Prop} {τ:Addr -> Option aE} {fv:List Nat} {H H1 H2:Hp} {v:V} {d:D} {vs:List V} {ds:List D} (e1:aj H H1) (e2:aj H1 H2) (h:bU K G R τ fv H H1 vs ds) (t:bt K G R τ fv H1 H2 v d) :
  bU K G R τ fv H H2 (vs ++ [v]) (ds ++ [d]):=by
 obtain ⟨τ1,f1,h1⟩:=h
 obtain ⟨τ2,f2,h2⟩:=t
 refine ⟨fun p=>if H1 p = none then (τ2 p).map (· ++ [ds.length]) else τ1 p,fun p q hq=>?_,af.snoc (h1.imp (q:=[]) (q':=[]) (fun _ _ h=>aA.same e2 h) fun c p xs f h=>?_) ((Nat.zero_add ds.length).symm ▸ h2.imp (q:=[]) (q':=[ds.length]) (fun _ _ h=>h) fun c p xs f h=>?_)⟩
 ·dsimp only at hq
  by_cases hp:H1 p = none
  ·exact e1.free hp
  ·rw [if_neg hp] at hq;exact f1 p q hq
 ·have h':=nd.same e2 h
  cases f with
  | ow =>
   refine ⟨h'.1,?_⟩
   show (if H1 p = none then (τ2 p).map (· ++ [ds.length]) else τ1 p) = _
   rw [if_neg (h.1.ne)];exact h.2
  | fz=>exact h'
  | al=>exact h'
  | sc=>exact h'
 ·cases f with
  | ow =>
   refine ⟨h.1,?_⟩
   show (if H1 p = none then (τ2 p).map (· ++ [ds.length]) else τ1 p) = _
   rw [if_pos (f2 p _ h.2),h.2];simp
  | fz=>exact h
  | al=>exact h
  | sc=>exact h
structure Yl (K:PySem.W.Frag) (J:It) (R:Addr -> Prop) (H1:Hp) (items:List D):Prop where
 go:∀ i H',aj H1 H' -> i < items.length -> J.go i H'
 sW:∀ i H' x lj,aj H1 H' -> i < items.length -> J.sW i H' x lj -> aj H' lj /\ ∃ d,items[i]? = some d /\ Rep (aA K lj) (nd K R (fun _=>False) (fun _=>none) lj) [] x d
 stop:∀ i H',aj H1 H' -> items.length <= i -> J.stop i H'
section
variable {X:Cx} {S:Sx} {k:Nat} {F:Addr -> Prop} {Φ:az}
noncomputable def j8 (X:Cx) (F:Addr -> Prop) (τ:Addr -> Option aE) (fv:List Nat) (H2:Hp) (p:Addr):Prop:=H2 p ≠ none /\ iK (gP X F) τ fv p
theorem tI {R:Addr -> Prop} {τ τt:Addr -> Option aE} {ρ:au} {σ:St} {H H2:Hp} {fv fv':List Nat} (Si:SI X F R τ ρ σ H) (fr:∀ p q,τt p = some q -> H p = none) (hs:∀ i ∈ fv,i ∈ fv') (kp kq:aE) (p:Addr) (xs:Nd) (f:Fl)
  (h:nd X.K R (iK (gP X F) τ fv) τt H2 kp p xs f):nd X.K (j8 X F τ fv' H2) (fun _=>False) (fun _=>none) H2 kq p xs (aK f):=by
 cases f with
 | ow=>exact ⟨h.1,h.1.ne,.inr (Si.same.free (fr p _ h.2)),fun c i e=>absurd (fr p _ h.2) (Si.th p _ e)⟩
 | fz=>exact ⟨h.1,h.1.ne,Si.rf p h.2,fun c i e=>by rw [Si.rt p h.2] at e;cases e⟩
 | al=>exact ⟨h.1,h.1.ne,h.2.mono hs⟩
 | sc=>exact h
theorem Bk {a:Addr} {xs:List V} {items:List D} {R:Addr -> Prop} {H1:Hp} {q:aE} (hl:dm X.K H1 a xs) (rs:af (aA X.K H1) (nd X.K R (fun _=>False) (fun _=>none) H1) q 0 xs items):Yl X.K (JJ X.K a) R H1 items where
 go:=fun i H' e hi=>⟨xs,xs[i]'(by rw [rs.length];exact hi),e.seq hl,List.getElem?_eq_getElem _⟩
 sW:=fun i H' x lj e hi y=>by
  obtain ⟨rfl,y⟩:=y
  obtain ⟨d,hd,rd⟩:=rs.xx (y xs (e.seq hl))
  refine ⟨aj.refl _,d,hd,?_⟩
  have:=Rep.gS (g:=id) (fun _ _ h=>h) nd.mV rd []
  rw [dR] at this
  exact this.imp (fun _ _ h=>aA.same e h) fun _ _ _ _ h=>nd.same e h
 stop:=fun i H' e hi=>⟨xs,e.seq hl,by rw [rs.length];exact hi⟩
theorem EY {a:Addr} {xs:List V} {items:List D} {R:Addr -> Prop} {H1:Hp} {q:aE} (hl:aA X.K H1 a xs) (rs:af (aA X.K H1) (nd X.K R (fun _=>False) (fun _=>none) H1) q 0 xs items):Yl X.K (JI X.K a) R H1 items where
 go:=fun i H' e hi=>⟨xs,xs[i]'(by rw [rs.length];exact hi),aA.same e hl,List.getElem?_eq_getElem _⟩
 sW:=fun i H' x lj e hi y=>by
  obtain ⟨rfl,y⟩:=y
  obtain ⟨d,hd,rd⟩:=rs.xx (y xs (aA.same e hl))
  refine ⟨aj.refl _,d,hd,?_⟩
  have:=Rep.gS (g:=id) (fun _ _ h=>h) nd.mV rd []
  rw [dR] at this
  exact this.imp (fun _ _ h=>aA.same e h) fun _ _ _ _ h=>nd.same e h
 stop:=fun i H' e hi=>⟨xs,aA.same e hl,by rw [rs.length];exact hi⟩
theorem EZ {lo:Int} {n:Nat} {R:Addr -> Prop} {H1:Hp}:Yl X.K (xW lo n) R H1 ((List.range n).map fun (k:Nat)=>D.int (lo + (k:Int))) where
 go:=fun i H' e hi=>by simpa [xW] using hi
 sW:=fun i H' x lj e hi y=>by
  obtain ⟨rfl,rfl⟩:=y
  have lF:i < n:=by simpa using hi
  exact ⟨aj.refl _,.int (lo + i),by rw [List.getElem?_map,List.getElem?_range lF];rfl,.int _⟩
 stop:=fun i H' e hi=>by simpa [xW] using hi
theorem yB {n:Nat} {t:Tg} {caps fv:List Nat} {target:Expr} {sc:Scope} {cl:List (Str × Addr)} {fp:List Addr} {R:Addr -> Prop} {τ:Addr -> Option aE} {ρ:au} {σ:St} {H2:Hp} {s₂:Shared} {C:Addr} (Si:SI X F R τ ρ σ H2) (hs:∀ i ∈ caps,i ∈ fv) :
  SI (dH X (bH target ++ fu S caps) sc cl C s₂ H2 fp) (iK (gP X F) τ fv) (j8 X F τ fv H2) (fun _=>none) (aT n caps ρ) (nW n caps σ) H2:=by
 refine ⟨by simp [aT,nW],fun i d hi=>?_,fun _ _=>rfl,fun p h=>h.1,fun p h=>.inl h.2,fun _ _ h=>by simp at h,fun _ _ h=>by simp at h,aj.refl _⟩
 unfold aT at hi
 have hn:n <= i:=by
  by_cases hn:i < n
  ·rw [List.getElem?_append_left (by simpa using hn),List.getElem?_replicate,if_pos hn] at hi;cases hi
  ·omega
 rw [List.getElem?_append_right (by simpa using hn),List.length_replicate,List.getElem?_map] at hi
 cases hc:caps[i - n]? with
 | none=>rw [hc] at hi;cases hi
 | some ci =>
  rw [hc] at hi
  have lF:(ρ[ci]?.getD none).map (aD aK) = some d:=Option.some.inj hi
  have hr:∃ d0,ρ[ci]? = some (some d0) /\ aD aK d0 = d:=by
   cases q:ρ[ci]? with
   | none=>rw [q] at lF;cases lF
   | some o =>
    cases o with
    | none=>rw [q] at lF;cases lF
    | some d0=>rw [q] at lF;exact ⟨d0,rfl,Option.some.inj lF⟩
  obtain ⟨d0,h0,rfl⟩:=hr
  obtain ⟨v,hv,rv⟩:=Si.rep ci d0 h0
  refine ⟨v,?_,Rep.gS (fun _ _ h=>h) (fun kp kq p xs f h=>?_) ((rv.imp (q:=[ci]) (q':=[ci]) (N':=fun q p xs f=>nd X.K R (fun _=>False) τ H2 q p xs f /\ (f = .ow -> ∃ c,q = c ++ [ci])) (fun _ _ h=>h) fun c p xs f h=>⟨h,fun _=>⟨c,rfl⟩⟩)) [i]⟩
  ·unfold nW
   rw [List.getElem?_append_right (by simpa using hn),List.length_replicate,List.getElem?_map,hc]
   simp [hv]
  ·obtain ⟨h,hq⟩:=h
   cases f with
   | ow =>
    obtain ⟨c,rfl⟩:=hq rfl
    refine ⟨h.1,h.1.ne,.inr (Si.t0 p _ h.2),fun c' i' e=>?_⟩
    rw [h.2] at e
    have:=congrArg List.getLast? (Option.some.inj e)
    simp at this;subst this
    exact hs _ (List.mem_of_getElem? hc)
   | fz=>exact ⟨h.1,h.1.ne,Si.rf p h.2,fun c i e=>by rw [Si.rt p h.2] at e;cases e⟩
   | al=>exact h.2.elim
   | sc=>exact h
theorem zr:∀ {es:List Expr},es.all isNm = true -> ∃ xs:List (Str × Pos),es = xs.map fun x=>Expr.Name x.1 x.2
 | [],_=>⟨[],rfl⟩
 | e :: es,h=>by
  rw [List.all_cons,Bool.and_eq_true] at h
  obtain ⟨xs,rfl⟩:=zr h.2
  cases e <;> simp [isNm] at h
  exact ⟨(_,_) :: xs,rfl⟩
theorem tF (xs:List (Str × Pos)):(xs.map fun x=>Expr.Name x.1 x.2).filterMap (fun e=>match e with | .Name x _=>some x | _=>none) = xs.map (·.1):=by
 induction xs with
 | nil=>rfl
 | cons x xs ih=>simp [ih]
noncomputable def Aj (i:Nat):Nat -> DM
 | 0=>HE
 | n + 1=>Ak (o6 i) (Aj (i + 1) n)
theorem vd {X:Cx} (hN:X.N.Nodup):∀ (xs:List (Str × Pos)) (i:Nat),(∀ (j:Nat) x,xs[j]? = some x -> X.N[i + j]? = some x.1 /\ X.env.scope.names.lookup x.1 = some .local) ->
  JH X (xs.map fun x=>Expr.Name x.1 x.2) (Aj i xs.length) /\ (assignEach (xs.map fun x=>Expr.Name x.1 x.2) X.env).length = xs.length /\ (assignEach (xs.map fun x=>Expr.Name x.1 x.2) X.env).findIdx? (·.1) = none
 | [],_,_=>⟨vc,rfl,rfl⟩
 | x :: xs,i,h=>by
  obtain ⟨h1,h2,h3⟩:=vd hN xs (i + 1) fun j y hy=>by
   have:=h (j + 1) y (by simpa using hy)
   rwa [show i + (j + 1) = i + 1 + j by omega] at this
  obtain ⟨g1,g2⟩:=h 0 x rfl
  refine ⟨rJ (pW hN g1 (.inl g2) (.inr g2)) h1 rfl,?_,?_⟩
  ·show (_ :: assignEach _ X.env).length = _
   rw [List.length_cons,h2];rfl
  ·show (((false,assign (.Name x.1 x.2) X.env) :: assignEach (xs.map fun x=>Expr.Name x.1 x.2) X.env)).findIdx? (·.1) = none
   rw [List.findIdx?_cons]
   simp [h3]
end
end DI
end
section
namespace DI
open PySem PySem.Spec PyProof.Rows L2
section
variable {X:Cx} {F R:Addr -> Prop} {τ:Addr -> Option aE} {ρ:au} {σ σ':St} {H:Hp}
theorem SI.Km {i:Nat} {v:V} {d:D} (Si:SI X F R τ ρ σ H) (rp:Rep (aA X.K H) (nd X.K R (fun _=>False) (fun _=>none) H) [] v d) (hi:i < ρ.length):SI X F R τ (ρ.set i (some d)) (σ.set i (some v)) H:=by
 refine ⟨by simp [Si.len],fun j d' hj=>?_,Si.rt,Si.rh,Si.rf,Si.th,Si.t0,Si.same⟩
 by_cases iQ:j = i
 ·subst iQ
  rw [List.getElem?_set_self hi] at hj
  cases hj
  refine ⟨v,List.getElem?_set_self (by rw [<- Si.len];exact hi),rp.imp (q':=[j]) (fun _ _ h=>h) fun c p xs f h=>?_⟩
  cases f with
  | ow=>exact nomatch h.2
  | fz=>exact h
  | al=>exact h
  | sc=>exact h
 ·rw [List.getElem?_set_ne (Ne.symm iQ)] at hj
  obtain ⟨w,hw,jw⟩:=Si.rep j d' hj
  exact ⟨w,by rw [List.getElem?_set_ne (Ne.symm iQ)];exact hw,jw⟩
theorem SI.sig (Si:SI X F R τ ρ σ H) (hl:σ'.length = σ.length) (h:∀ (i:Nat) d,ρ[i]? = some (some d) -> σ'[i]? = σ[i]?):SI X F R τ ρ σ' H :=
 ⟨by rw [hl];exact Si.len,fun i d hi=>let ⟨v,hv,r⟩:=Si.rep i d hi;⟨v,by rw [h i d hi];exact hv,r⟩,Si.rt,Si.rh,Si.rf,Si.th,Si.t0,Si.same⟩
theorem lZ {Q:St -> Hp -> Prop} (σ0:St) (hi:Nat):∀ {m i:Nat} {vs:List V} {ds:List D} {kp:aE} {q:Nat} {σ:St} {ρ ρ':au},i + m = hi -> af (aA X.K H) (nd X.K R (fun _=>False) (fun _=>none) H) kp q vs ds -> SI X F R τ ρ σ H -> gx (List.range' i m) ds ρ = ok ρ' ->
  σ.length = σ0.length -> (∀ j,hi <= j -> σ[j]? = σ0[j]?) -> (∀ σ',σ'.length = σ0.length -> (∀ j,hi <= j -> σ'[j]? = σ0[j]?) -> SI X F R τ ρ' σ' H -> Q σ' H) -> Aj i m vs σ H Q
 | 0,_,_,_,_,_,σ,_,_,_,.nil,Si,e,h1,h2,hq=>by
  cases e
  exact ⟨rfl,hq σ h1 h2 Si⟩
 | 0,_,_,_,_,_,_,_,_,_,.cons _ _,_,e,_,_,_=>by cases e
 | m + 1,_,_,_,_,_,_,_,_,_,.nil,_,e,_,_,_=>by cases e
 | m + 1,i,_,_,_,_,σ,ρ,_,him,.cons (v:=v) (d:=d) h t,Si,e,h1,h2,hq=>by
  change (if _ then _ else _) = _ at e
  split at e
  ·rename_i lF
   have fW:=Si.Km (i:=i) (Rep.p5 h) lF
   refine ⟨_,_,rfl,lZ σ0 hi (by omega) t fW e (by simpa using h1) (fun j hj=>?_) hq⟩
   rw [List.getElem?_set_ne (by omega)];exact h2 j hj
  ·cases e
end
section
variable {X:Cx} {S:Sx} {k:Nat} {F:Addr -> Prop} {Φ:az}
theorem Fh {n:Nat} {t:Tg} {caps:List Nat} {target:Expr} {sc:Scope} {cl:List (Str × Addr)} {fp:List Addr} {s₂:Shared} {H2:Hp} {C:Addr} (Md:X.calm = true) (co:jh S n t caps target sc) :
  ∃ g,PG (dH X (bH target ++ fu S caps) sc cl C s₂ H2 fp) target g /\ ∀ (F' R':Addr -> Prop) (x:V) (d:D) (σ':St) (lj:Hp) (Q:St -> Hp -> Prop) (ρb ρ1:au),
   SI (dH X (bH target ++ fu S caps) sc cl C s₂ H2 fp) F' R' (fun _=>none) ρb σ' lj -> Rep (aA X.K lj) (nd X.K R' (fun _=>False) (fun _=>none) lj) [] x d -> aq cG d = false -> ck t d ρb = ok ρ1 ->
   (∀ σ2,σ2.length = σ'.length -> (∀ j,n <= j -> σ2[j]? = σ'[j]?) -> SI (dH X (bH target ++ fu S caps) sc cl C s₂ H2 fp) F' R' (fun _=>none) ρ1 σ2 lj -> Q σ2 lj) -> g x σ' lj Q:=by
 have Hl:∀ x ∈ bH target,(relabel sc X.env).names.lookup x = some .local:=fun x hx=>lookup_relabel_local (co.tl x hx)
 rcases co.tg with ⟨x,p,rfl,rfl⟩ | ⟨es,kk,p,rfl,rfl,xq⟩
 ·have hn:n = 1:=co.n
  subst hn
  refine ⟨o6 0,pW co.nd rfl (.inl (Hl x (List.mem_singleton.mpr rfl:x ∈ [x]))) (.inr (Hl x (List.mem_singleton.mpr rfl:x ∈ [x]))),fun F' R' v d σ' lj Q ρb ρ1 Si rp _ e hq=>?_⟩
  simp only [ck] at e
  split at e
  ·rename_i hi
   cases e
   refine hq _ (by simp) (fun j hj=>?_) (Si.Km rp hi)
   rw [List.getElem?_set_ne (by omega)]
  ·cases e
 ·obtain ⟨xs,rfl⟩:=zr xq
  have hN:bH (.Tuple (xs.map fun x=>Expr.Name x.1 x.2) kk p) = xs.map (·.1):=tF xs
  have hn:n = xs.length:=by rw [co.n,hN,List.length_map]
  have:=vd (X:=dH X (bH (.Tuple (xs.map fun x=>Expr.Name x.1 x.2) kk p) ++ fu S caps) sc cl C s₂ H2 fp) co.nd xs 0 (fun j y hy=>by
   refine ⟨?_,Hl y.1 (by rw [hN];exact List.mem_map.mpr ⟨y,List.mem_of_getElem? hy,rfl⟩)⟩
   show (bH (.Tuple (xs.map fun x=>Expr.Name x.1 x.2) kk p) ++ fu S caps)[0 + j]? = _
   have hj:j < xs.length:=by
    by_cases hj:j < xs.length
    ·exact hj
    ·rw [List.getElem?_eq_none (by omega)] at hy;cases hy
   rw [hN,Nat.zero_add,List.getElem?_append_left (by simpa using hj),List.getElem?_map,hy];rfl)
  obtain ⟨h1,h2,h3⟩:=this
  refine ⟨_,yT Md h1 h2 h3,fun F' R' v d σ' lj Q ρb ρ1 Si rp ho e hq=>?_⟩
  cases d <;> try (simp [ck] at e;done)
  rename_i ds
  simp only [ck] at e
  split at e
  ·cases e
  ·cases rp with
   | @tup _ a ys _ hp rs =>
    rw [List.length_map] at e
    have e':gx (List.range' 0 xs.length) ds ρb = ok ρ1:=by rw [<- List.range_eq_range'];exact e
    refine ⟨a,ys,rfl,hp,?_,lZ (X:=dH X (bH (.Tuple (xs.map fun x=>Expr.Name x.1 x.2) kk p) ++ fu S caps) sc cl C s₂ H2 fp) σ' n (by omega) rs Si e' rfl (fun _ _=>rfl) hq⟩
    rw [rs.length]
    have:∀ (is:List Nat) (ds:List D) (ρ ρ':au),gx is ds ρ = ok ρ' -> ds.length = is.length:=by
     intro is
     induction is with
     | nil=>intro ds ρ ρ' e;cases ds with | nil=>rfl | cons _ _=>cases e
     | cons i is ih=>intro ds ρ ρ' e;cases ds with
      | nil=>cases e
      | cons d ds =>
       change (if _ then _ else _) = _ at e
       split at e
       ·simp [ih ds _ _ e]
       ·cases e
    rw [this _ _ _ _ e',List.length_range']
theorem Qe:∀ f:Fl,cG (aK f) = false:=by intro f;cases f <;> rfl
mutual
theorem Cm:∀ d:D,aq cG (aD aK d) = false
 | .bC=>by simp [aD,aq]
 | .bl _=>by simp [aD,aq]
 | .int _=>by simp [aD,aq]
 | .tup ds=>by simp [aD,aq,eQ ds]
 | .lst f ds=>by simp [aD,aq,eQ ds,Qe]
 | .cc f ks vs=>by simp [aD,aq,eQ vs,Qe]
 | .bx f ks vs=>by simp [aD,aq,eQ vs,Qe]
theorem eQ:∀ ds:List D,ao cG (ag aK ds) = false
 | []=>by simp [ag,ao]
 | d :: ds=>by simp [ag,ao,Cm d,eQ ds]
end
theorem vD {P:Program} {w:World} {H:Hp} {h:Heap} {a:Addr} {o:HO} (x:kC P w H h) (hn:H a = none) (new:bV P w (upd H a o) h a o):kC P w (upd H a o) h:=fun b u e=>by
 by_cases hb:b = a
 ·subst hb;rw [aB] at e;cases e;exact new
 ·rw [av hb] at e
  exact (x b u e).ju (fun c v _ q=>q) (fun c q=>by rw [av (bT q hn)];exact q) fun c xs q=>by rw [av (bT q hn)];exact q
structure CAt (X X':Cx) (F' R':Addr -> Prop) (n:Nat) (base:au) (σ0:St) (fp:List Addr) (tn:Nat -> Heap -> Prop) (H2:Hp) (D:Addr) (items:List DI.D) (bind:DI.D -> O au) (test:au -> O Bool) (el:au -> O DI.D) (all:List DI.D) (m:Nat) (s':Shared):Prop where
 ex:∃ (i:Nat) (vs:List V) (ai:List Value) (nn:Nat) (σ':St) (H':Hp) (dn rest:List DI.D),m = items.length - i /\ i <= items.length /\ Inv X' [(D,d7 ai nn)] σ' H' s' /\ tn i s'.heap /\ (∀ b ∈ fp,H' b = none) /\ Vals vs ai /\ aj H2 H' /\
  SI X' F' R' (fun _=>none) base σ' H' /\ bU X.K (gP X' F') R' (fun _=>none) [] H2 H' vs dn /\ fT bind test el (items.drop i) = ok rest /\ dn ++ rest = all
end
end DI
end
section
namespace DI
open PySem PySem.Spec PyProof.Rows L2
theorem bU.go {K:PySem.W.Frag} {G R:Addr -> Prop} {τ:Addr -> Option aE} {fv:List Nat} {H H1 H2:Hp} {vs:List V} {ds:List D} (h:bU K G R τ fv H H1 vs ds) (e:aj H1 H2):bU K G R τ fv H H2 vs ds :=
 let ⟨τt,h1,h2⟩:=h;⟨τt,h1,h2.imp (fun _ _ h=>aA.same e h) fun _ _ _ _ h=>nd.same e h⟩
theorem mn:∀ {ds:List D} {d:D},ao cG ds = false -> d ∈ ds -> aq cG d = false
 | [],_,_,h=>nomatch h
 | e :: ds,d,h,hm=>by
  rw [ao,Bool.or_eq_false_iff] at h
  rcases List.mem_cons.mp hm with rfl | z
  ·exact h.1
  ·exact mn h.2 z
theorem wM {d:D} {items:List D} (h:nY d = ok items):∀ d ∈ items,aq cG d = false:=by
 unfold nY at h
 split at h
 ·cases h;exact fun d hd=>mn (eQ _) hd
 ·cases h
theorem t5 {Φ:az} {ik:IK} {xs items:List D} (h:dF Φ ik xs = ok items):∀ d ∈ items,aq cG d = false:=by
 cases ik with
 | cj p=>obtain ⟨d,_,h⟩:=ae h;exact wM h
 | ji =>
  cases xs with
  | nil=>cases h
  | cons x t=>cases x <;> first | (cases h;done) | (cases t with
   | cons _ _=>cases h
   | nil =>
    obtain ⟨_,h⟩:=nM h
    subst h
    intro d hd
    obtain ⟨k,_,rfl⟩:=List.mem_map.mp hd
    rfl)
 | seq =>
  cases xs with
  | nil=>cases h
  | cons x t=>cases x <;> first | (cases h;done) | (cases t with
   | cons _ _=>cases h
   | nil=>cases h;exact fun d hd=>mn (eQ _) hd)
theorem t7 {n:Nat} {caps:List Nat} {ρ:au} {i:Nat} {d:D} (h:(aT n caps ρ)[i]? = some (some d)):n <= i:=by
 unfold aT at h
 by_cases hn:i < n
 ·rw [List.getElem?_append_left (by simpa using hn),List.getElem?_replicate,if_pos hn] at h;cases h
 ·omega
section
variable {X:Cx} {S:Sx} {k:Nat} {F:Addr -> Prop} {Φ:az}
theorem zD {n:Nat} {t:Tg} {caps:List Nat} {target:Expr} {sc:Scope} {cl:List (Str × Addr)} {fp:List Addr} {s₂:Shared} {H2:Hp} {C:Addr} (L:Lk X S k Φ) (co:jh S n t caps target sc) :
  Lk (dH X (bH target ++ fu S caps) sc cl C s₂ H2 fp) (S.inner target caps sc) k Φ:=by
 refine ⟨?_,rfl,co.nd,L.calm,L.room,L.bl,fun f x h=>⟨(L.fn f x h).ex⟩,L.cs,L.pr⟩
 show relabel sc X.env = rF sc S.sc
 rw [<- L.sc];rfl
theorem sE (L:Lk X S k Φ) {n:Nat} {t:Tg} {caps:List Nat} {ik:IK} {es aS:List CE} {elt:CE} {target iter gA:Expr} {ifs:List Expr} {sc:Scope} {pos:Pos} (co:jh S n t caps target sc) (x3:oX iter = true)
    (hE:∀ (X':Cx) (F':Addr -> Prop),Lk X' (S.inner target caps sc) k Φ -> PE X' gA (tD X' F' Φ elt))
    (hC:(aS = [] /\ ifs = []) \/ ∃ c e,aS = [c] /\ ifs = [e] /\ ∀ (X':Cx) (F':Addr -> Prop),Lk X' (S.inner target caps sc) k Φ -> PT X' e (fL X' F' Φ c))
    (hI:∀ (pins:List (Addr × Obj)) (s:Shared) (σ:St) (H:Hp) (R:Addr -> Prop) (τ:Addr -> Option aE) (ρ:au) (xs items:List D),Inv X pins σ H s -> SI X F R τ ρ σ H -> cD Φ es ρ = ok xs -> dF Φ ik xs = ok items -> ∀ Rr:It -> Hp -> Prop,
      (∀ J H2,aj H H2 -> Yl X.K J (j8 X F τ (caps ++ dk es) H2) H2 items -> Rr J H2) -> wpAny (model X.prog X.w) X.A (eval iter X.env) (fun v s1=>wpAny (model X.prog X.w) X.A (pyIter v) (AY X pins σ target Rr) X.xe s1) X.xe s)
    {use:Option (Value -> Sem Unit)} {Post:Value -> Shared -> Prop} {pins:List (Addr × Obj)} {s:Shared} {σ:St} {H:Hp} {R:Addr -> Prop} {τ:Addr -> Option aE} {ρ:au} {d:D} {S3:Pos} (I:Inv X pins σ H s) (Si:SI X F R τ ρ σ H) (ev:aL Φ (.comp n t caps ik es aS elt) ρ = ok d)
    (LS:∀ (acc C:Addr) (H1:Hp) (s1:Shared) (m:Str -> Option Value),s1.heap.Ns C m -> (C ≠ X.env.locals /\ X.s₀.heap.objs.size <= C /\ (∀ x c,X.env.cells.lookup x = some c -> c ≠ C) /\ (∀ p ∈ X.pn ++ pins,p.1 ≠ C) /\ H1 C = none) -> (∀ h',Heap.SameBut C s1.heap h' -> Inv X pins σ H1 { s1 with heap:=h' }) -> aj H H1 ->
      bt X.K (gP X F) R τ (fM (.comp n t caps ik es aS elt)) H H1 (.ref acc) d -> compPost (model X.prog X.w) X.A X.xe use Post (.ref acc) C (.ok .next) s1) :
    wpAny (model X.prog X.w) X.A (comprehension (.ListComp gA [⟨target,iter,ifs,0⟩] sc pos) sc X.env S3 (newList []) false (eval iter X.env) use) Post X.xe s:=by
  obtain ⟨xs,bP,ev⟩:=ae ev
  obtain ⟨items,um,ev⟩:=ae ev
  obtain ⟨ds,Ik,ev⟩:=ae ev
  simp only [Er] at ev
  obtain ⟨mL,rfl⟩:=ev
  have LY:=t5 um
  obtain ⟨cl,Mc,kX,ud⟩:=uz (env:=X.env) (sc:=sc) (fun x hx=>I.ok.has x (by
    show X.env.scope.names.lookup x = some .cell \/ X.env.scope.names.lookup x = some .free
    rw [L.sc];exact co.free x hx))
  have mK:∀ x,foldedSetIterable iter X.env x = pure x:=by intro x;cases iter <;> first | rfl | (cases x3;done)
  refine wpAny_comprehension_free (use:=use) rfl mK Mc co.kind co.loc (wpAny_mono (hI pins s σ H R τ ρ xs items I Si bP um (fun J H2=>aj H H2 /\ Yl X.K J (j8 X F τ (caps ++ dk es) H2) H2 items) (fun J H2 e y=>⟨e,y⟩)) (fun xv s₁ h₁=>wpAny_mono h₁ (fun Ry s₂ h₂=>?_) fun _ _ e=>e) fun _ _ e=>e)
  obtain ⟨it,fp,tn,J,H2,rfl,I2,T,Kg,f2,e2,yl⟩:=h₂
  have pB:=Si.go e2
  have Hm:∀ b ∈ fp,b < s₂.heap.objs.size:=fun b hb=>let ⟨o,ho,_⟩:=T.obj 0 _ Kg b hb;Heap.lt_size ho
  refine wpAny_newObj_type (wpAny_newFunctionEnv co.zp (by intro y hy;simp at hy) (fun h₁ p_ mJ=>?_) co.kind)
  dsimp only at p_ mJ ⊢
  generalize Sw:s₂.heap.push { cls:=.type "list",dict:=none,data:=.seq ([]:List Value).toArray } = G2 at p_ mJ ⊢
  have V7:G2.objs.size = s₂.heap.objs.size + 1:=by rw [<- Sw,Heap.size_push]
  have N7:s₂.heap.objs.size ≠ s₂.heap.objs.size + 1:=Nat.ne_of_lt (Nat.lt_succ_self _)
  rw [V7] at p_ mJ
  have old:∀ b o,s₂.heap.get? b = some o -> h₁.get? b = some o:=fun b o e=>mJ.extBut b o (Nat.ne_of_lt (Nat.lt_succ_of_lt (Heap.lt_size e))) (Heap.get?_push_of_some _ (Sw ▸ Heap.get?_push_of_some _ e))
  have eV:h₁.get? s₂.heap.objs.size = some (d7 [] 0):=mJ.extBut _ _ N7 (Heap.get?_push_of_some _ (Sw ▸ Heap.get?_push_size _ rfl))
  let X':=dH X (bH target ++ fu S caps) sc cl (s₂.heap.objs.size + 1) s₂ H2 fp
  let F':=iK (gP X F) τ (caps ++ dk es)
  let R':=j8 X F τ (caps ++ dk es) H2
  have L':Lk X' (S.inner target caps sc) k Φ:=zD L co
  have I4:=fun tk=>zQ (h₁:=h₁) (tk:=tk) L co I2 kX ud f2 Hm (by simpa using p_) old eV
  have S4:SI X' F' R' (fun _=>none) (aT n caps ρ) (nW n caps σ) H2:=yB (t:=t) pB (fun i hi=>by simp [hi])
  obtain ⟨g,hg,z_⟩:=Fh (X:=X) (S:=S) (cl:=cl) (fp:=fp) (s₂:=s₂) (H2:=H2) (C:=s₂.heap.objs.size + 1) L.calm co
  have Sy:s₂.heap.objs.size ∉ X'.fs:=fun z=>by
    rcases List.mem_cons.mp (I2.j5 _ z) with w | w
    · exact absurd w (Nat.ne_of_gt I2.lt)
    · exact I2.GG (Nat.le_refl _) w
  have Hq:∀ x c,cl.lookup x = some c -> c ≠ s₂.heap.objs.size:=fun x c e=>by
    obtain ⟨v,q⟩:=I2.cell x c (kX x c e)
    exact Nat.ne_of_lt q.lt
  have CT:∀ b ∈ fp,b ≠ X'.env.locals /\ b ∉ X'.fs /\ (b ∈ X'.ex \/ X'.s₀.heap.objs.size <= b) /\ (∀ x c,X'.env.cells.lookup x = some c -> c ≠ b):=fun b hb =>
    ⟨Nat.ne_of_lt (Nat.lt_succ_of_lt (Hm b hb)),fun z=>by
      rcases List.mem_cons.mp (I2.j5 b z) with w | w
      · exact (f2 b hb).2.1 w
      · exact (f2 b hb).2.2.1 w,.inl hb,fun x c e=>(f2 b hb).2.2.2.2.1 x c (kX x c e)⟩
  have L7:∀ b ∈ fp,b ≠ s₂.heap.objs.size:=fun b hb=>Nat.ne_of_lt (Hm b hb)
  have fin:∀ (vs:List V) (ai:List Value) (nn:Nat) (σ':St) (H':Hp) (s1:Shared),Inv X' [(s₂.heap.objs.size,d7 ai nn)] σ' H' s1 -> Vals vs ai -> aj H2 H' -> bU X.K (gP X' F') R' (fun _=>none) [] H2 H' vs ds ->
      compPost (model X.prog X.w) X.A X.xe use Post (.ref s₂.heap.objs.size) (s₂.heap.objs.size + 1) (.ok .next) s1:=by
    intro vs ai nn σ' H' s1 I1 rv sm BY
    obtain ⟨m,hn,_⟩:=I1.loc
    obtain ⟨pD,nD,_,_,_⟩:=I1.pin (s₂.heap.objs.size,d7 ai nn) (List.mem_append_right _ List.mem_cons_self)
    have bs:=I1.base
    have Ek:∀ b o,s₂.heap.get? b = some o -> b ≠ s₂.heap.objs.size + 1:=fun b o e=>Nat.ne_of_lt (Nat.lt_succ_of_lt (Heap.lt_size e))
    have Ys:∀ b o,s₂.heap.get? b = some o -> b ≠ s₂.heap.objs.size:=fun b o e=>Nat.ne_of_lt (Heap.lt_size e)
    have OH:∀ b u,H' b = some u -> upd H' s₂.heap.objs.size (.lst vs) b = some u:=fun b u e=>by rw [av (bT e nD)];exact e
    have hlen:vs.length <= sizeLine:=by
      obtain ⟨_,_,rr⟩:=BY
      have hz:sizeLine = 16777216:=sizeLine_eq
      have hc:dU = 1000000:=rfl
      rw [rr.length];omega
    have IX:∀ h',Heap.SameBut (s₂.heap.objs.size + 1) s1.heap h' -> Inv X pins σ (upd H' s₂.heap.objs.size (.lst vs)) { s1 with heap:=h' }:=fun h' xo=>by
      have un:Un (x6 X.stack) fp H2 (upd H' s₂.heap.objs.size (.lst vs)) s₂.heap h' :=
        ⟨fun b o e n hb hx=>xo.extBut b o (Ek b o e) (bs.keep b o e n hb hx),
         fun b o e n hb hx=>let ⟨sl,q⟩:=bs.slot b o e n hb hx;⟨sl,xo.extBut b _ (Ek b o e) q⟩,
         fun b o e n hx=>by rw [av (Ys b o e)];exact bs.free b o e n hx,
         fun b o e hx=>let ⟨o',q⟩:=bs.there b o e hx;⟨o',xo.extBut b _ (Ek b o e) q⟩,
         fun b xs e=>OH b _ (bs.pF b xs e),fun b o u e=>OH b _ (bs.oj b o u e),fun b ps e=>let ⟨more,q⟩:=bs.pG b ps e;⟨more,OH b _ q⟩⟩
      have R4:kC X.prog X.w H' h':=fun a o e=>(I1.cQ a o e).ju (fun b u hb q=>xo.extBut b u (by
        rintro rfl
        have hf:H' (s₂.heap.objs.size + 1) = none:=I1.free
        rcases hb with z | z
        · rw [<- z,hf] at e;cases e
        · rw [hf] at z;cases z) q) (fun _ q=>q) fun _ _ q=>q
      have RZ:kC X.prog X.w (upd H' s₂.heap.objs.size (.lst vs)) h':=vD R4 nD ⟨hlen,ai,nn,rv,xo.extBut _ _ N7 pD⟩
      exact I2.M7 (ch:=fp) I1.os un RZ I1.bare fun b hb=>⟨(f2 b hb).2.2.2.1,(f2 b hb).2.1,(f2 b hb).2.2.2.2.1,(f2 b hb).2.2.2.2.2⟩
    have eS:aj H' (upd H' s₂.heap.objs.size (.lst vs)):=aj.upd nD
    obtain ⟨τt,fr,rs⟩:=BY
    have Q0:s₂.heap.objs.size + 1 ≠ s₂.heap.objs.size:=Nat.succ_ne_self _
    refine LS s₂.heap.objs.size (s₂.heap.objs.size + 1) _ s1 m hn ⟨Nat.ne_of_gt (Nat.lt_succ_of_lt I2.lt),Nat.le_succ_of_le I2.sz,fun x c e=>?_,fun p hp=>?_,?_⟩ IX ((e2.trans sm).trans eS) ⟨fun q=>if q = s₂.heap.objs.size then some [] else τt q,fun q z hz=>?_,.lst ⟨aB,by simp⟩ (af.map (q:=[]) (q':=[]) (fun _ _ h=>aA.same eS h) (fun c p ys f h=>?_) rs [] rfl)⟩
    · obtain ⟨v,z⟩:=I2.cell x c e
      exact Nat.ne_of_lt (Nat.lt_succ_of_lt z.lt)
    · exact Nat.ne_of_lt (Nat.lt_succ_of_lt (Heap.lt_size (I2.pin p hp).1))
    · rw [av Q0];exact I1.free
    · by_cases qM:q = s₂.heap.objs.size
      · rw [qM];exact e2.free (sm.free nD)
      · simp only [qM,if_false] at hz;exact e2.free (fr q z hz)
    · have h':=nd.same eS h
      have UZ:∀ p,gP X' F' p -> iK (gP X F) τ (caps ++ dk es) p:=fun p hp=>hp.elim id fun z=>⟨.inr (pB.same.free z),fun c i e=>absurd z (pB.th p _ e)⟩
      cases f with
      | ow =>
        have qM:p ≠ s₂.heap.objs.size:=by
          intro z;subst z
          exact h.1.ne nD
        refine ⟨h'.1,?_⟩
        show (if p = s₂.heap.objs.size then some [] else τt p) = _
        rw [if_neg qM];exact h'.2
      | fz=>exact ⟨h'.1,h'.2.2⟩
      | al=>exact ⟨h'.1,UZ p h'.2.1⟩
      | sc=>exact h'
  have Xg:∀ (P:List (Addr × Obj)) (ρ1:au) (b:Bool) (σ2:St) (H5:Hp) (s6:Shared),gz Φ aS ρ1 = ok b -> Inv X' P σ2 H5 s6 -> SI X' F' R' (fun _=>none) ρ1 σ2 H5 ->
      wpAny (model X.prog X.w) X.A (forIn ifs true fun c r=>if r = true then do let ok <- isTrue c X'.env (eval c X'.env);pure (ForInStep.yield ok) else pure (ForInStep.yield r)) (fun Qi s7=>Qi = b /\ ∃ H7,Inv X' P σ2 H7 s7 /\ aj H5 H7) (fun _ _=>False) s6:=by
    intro P ρ1 b σ2 H5 s6 eb I6 S6
    rcases hC with ⟨rfl,rfl⟩ | ⟨c,e,rfl,rfl,hPT⟩
    · rw [gz] at eb;cases eb
      exact wpAny_tests_nil ⟨rfl,H5,I6,aj.refl _⟩
    · rw [gz] at eb
      obtain ⟨b',ZH,eb⟩:=ae eb
      have hb:b' = b:=by
        cases b' with
        | true=>rw [if_pos rfl,gz] at eb;cases eb;rfl
        | false=>rw [if_neg (by simp)] at eb;cases eb;rfl
      subst hb
      refine wpAny_tests_one (wpAny_mono (hPT X' F' L' P s6 σ2 H5 (fun WI H7=>WI = b' /\ aj H5 H7) I6 ⟨R',_,ρ1,b',S6,ZH,fun H7 e7=>⟨rfl,e7⟩⟩) (fun WI s7 ⟨H7,I7,hb,e7⟩=>⟨hb,H7,I7,e7⟩) fun _ _ e=>e)
  have loop:∀ tk,codeAny (model X.prog X.w) X.A (.compLoop (.ListComp gA [⟨target,iter,ifs,0⟩] sc pos) 0 (.ref it) (.ref s₂.heap.objs.size) X'.env)
      (compPost (model X.prog X.w) X.A X.xe use Post (.ref s₂.heap.objs.size) (s₂.heap.objs.size + 1)) { s₂ with heap:=h₁,toks:=tk }:=by
    intro tk
    refine qo (CAt X X' F' R' n (aT n caps ρ) (nW n caps σ) fp tn H2 s₂.heap.objs.size items (fun d=>ck t d (aT n caps ρ)) (fun ρ'=>gz Φ aS ρ') (fun ρ'=>aL Φ elt ρ') ds) ?_ items.length
      ⟨0,[],[],0,nW n caps σ,H2,[],ds,rfl,Nat.zero_le _,I4 tk,T.keep _ _ _ Kg (fun b _ o e=>old b o e),fun b hb=>(f2 b hb).1,.nil,aj.refl _,S4,.nil,by rw [List.drop_zero];exact Ik,rfl⟩
    rintro m s' ⟨i,vs,ai,nn,σ',H',dn,rest,hm,hi,I',kS,fr',rv,sm,fW,BY,eW,eall⟩
    have HG:∀ b ∈ fp,nI X' [(s₂.heap.objs.size,d7 ai nn)] H' b:=fun b hb=>⟨fr' b hb,(CT b hb).1,(CT b hb).2.1,(CT b hb).2.2.1,(CT b hb).2.2.2,fun p hp=>by
      have uc:p = (s₂.heap.objs.size,d7 ai nn):=by simpa [X',dH] using hp
      rw [uc];exact (L7 b hb).symm⟩
    by_cases fQ:i < items.length
    · refine wpAny_mono (T.item X' rfl rfl rfl L.calm i _ s' σ' H' (fun _ _=>False) I' HG kS (yl.go i H' sm fQ)) (fun r s1 h4=>?_) fun _ _ e=>e
      obtain ⟨u,hr,h4⟩:=h4
      subst hr
      refine wpAny_mono h4 (fun _ s5 h5=>?_) fun _ _ e=>e
      obtain ⟨x,H5,I5,r5,y5,Fs,S0⟩:=h5
      obtain ⟨e5,dd,hd,rd⟩:=yl.sW i H' x H5 sm fQ y5
      have U7:=I5.pinned (fp:=fp) (fun b hb=>⟨S0 b hb,(HG b hb).2⟩) (T.obj _ _ Fs)
      have r9:items.drop i = dd :: items.drop (i + 1):=by
        rw [List.drop_eq_getElem_cons fQ]
        rw [List.getElem?_eq_getElem fQ] at hd
        cases hd;rfl
      rw [r9,fT] at eW
      obtain ⟨ρ1,eb,eW⟩:=ae eW
      obtain ⟨bb,et,eW⟩:=ae eW
      refine wpAny_mono (hg _ s5 σ' H5 x u (fun σ2 H6=>H6 = H5 /\ σ2.length = σ'.length /\ (∀ j,n <= j -> σ2[j]? = σ'[j]?) /\ SI X' F' R' (fun _=>none) ρ1 σ2 H5) U7 r5
        (z_ F' R' x dd σ' H5 _ (aT n caps ρ) ρ1 (fW.go e5) rd (LY dd (List.mem_of_getElem? hd)) eb fun σ2 g1 g2 g3=>⟨rfl,g1,g2,g3⟩)) (fun _ s6 h6=>?_) fun _ _ e=>e
      obtain ⟨σ2,H6,I6,rfl,g1,g2,S6⟩:=h6
      refine wpAny_mono (Xg _ ρ1 bb σ2 H6 s6 et I6 S6) (fun Qi s7 h7=>?_) fun _ _ e=>e
      obtain ⟨rfl,H7,I7,e7⟩:=h7
      have OK:∀ {P:List (Addr × Obj)} {σ3:St} {H8:Hp} {s8:Shared},Inv X' (P ++ gL fp s5.heap) σ3 H8 s8 -> tn (i + 1) s8.heap /\ ∀ b ∈ fp,H8 b = none:=fun {P σ3 H8 s8} I8 =>
        ⟨T.keep _ _ _ Fs fun b hb o e=>(I8.pin (b,o) (List.mem_append_right _ (List.mem_append_right _ (gf hb e)))).1,fun b hb=>by
          obtain ⟨o,e,_⟩:=T.obj _ _ Fs b hb
          exact (I8.pin (b,o) (List.mem_append_right _ (List.mem_append_right _ (gf hb e)))).2.1⟩
      have ER:∀ {H8:Hp},aj H7 H8 -> SI X' F' R' (fun _=>none) (aT n caps ρ) σ2 H8:=fun {H8} e8=>(fW.go ((e5.trans e7).trans e8)).sig g1 fun j d hj=>g2 j (t7 hj)
      cases Qi with
      | false =>
        rw [if_neg (by simp)] at eW ⊢
        exact ⟨items.length - (i + 1),by omega,i + 1,vs,ai,nn,σ2,H7,dn,rest,rfl,fQ,I7.jo,(OK I7).1,(OK I7).2,rv,(sm.trans e5).trans e7,ER (aj.refl _),BY.go (e5.trans e7),eW,eall⟩
      | true =>
        rw [if_pos rfl] at eW ⊢
        obtain ⟨y,ey,eW⟩:=ae eW
        obtain ⟨ys,om,eW⟩:=ae eW
        cases eW
        refine wpAny_mono (hE X' F' L' _ s7 σ2 H7 (fun v H8=>aj H7 H8 /\ bt X.K (gP X' F') R' (fun _=>none) [] H7 H8 v y) I7 ⟨R',_,ρ1,y,S6.go e7,ey,fun v H8 e8 r8=>⟨e8,?_⟩⟩) (fun u8 s8 h8=>?_) fun _ _ e=>e
        · obtain ⟨τt,fr,rr⟩:=r8
          exact ⟨τt,fr,rr.imp (q:=[]) (q':=[]) (fun _ _ h=>h) fun c p ys f h=>h.mono id (fun h=>⟨h.1,fun _ _ e=>by cases e⟩) id⟩
        · obtain ⟨v8,H8,I8,XH,e8,r8⟩:=h8
          obtain ⟨pD,nD,_,_,_⟩:=I8.pin (s₂.heap.objs.size,d7 ai nn) (List.mem_append_right _ (List.mem_append_left _ List.mem_cons_self))
          have hlen:ai.length <= 1000000:=by
            obtain ⟨_,_,rr⟩:=BY
            have h1:dn.length <= ds.length:=by rw [<- eall,List.length_append];omega
            have hc:dU = 1000000:=rfl
            rw [<- rv.length,rr.length];omega
          have hz:sizeLine = 16777216:=sizeLine_eq
          refine call_meets PySem.F.slot_list_append ⟨_,pD,rfl⟩ PySem.F.entry_list_append (PySem.F.args_list_append_2 _ _) (PySem.list_append s₂.heap.objs.size ai.toArray nn u8 (by rw [List.size_toArray];omega)) ⟨pD,?_⟩
          have q:=PySem.IsL.update pD (fun x=>x.push u8)
          have LQ:ai.toArray.push u8 = (ai ++ [u8]).toArray:=by simp
          rw [LQ] at q
          obtain ⟨NT,q'⟩:∃ NT,(s8.heap.update s₂.heap.objs.size (Obj.mapSeq fun x=>x.push u8)).get? s₂.heap.objs.size = some (d7 (ai ++ [u8]) NT):=⟨_,q⟩
          have I8d:Inv X' (gL fp s5.heap) σ2 H8 s8:=I8.iu fun p hp=>I8.pin p (List.mem_append_right _ (List.mem_append_right _ hp))
          have WL:Inv X' (gL fp s5.heap) σ2 H8 { s8 with heap:=s8.heap.update s₂.heap.objs.size (Obj.mapSeq fun x=>x.push u8),toks:=s8.toks } :=
            I8d.turned (it:=s₂.heap.objs.size) (fun b o hb e=>(Heap.get?_update_other s8.heap (Obj.mapSeq fun x=>x.push u8) (Ne.symm hb)).trans e) nD N7 (.inr (Nat.le_refl _)) Hq fun p hp=>by
              have uc:p ∈ gL fp s5.heap:=by simpa [X',dH] using hp
              exact L7 p.1 (oW uc).1
          have kp:=OK (P:=[]) (by rw [List.nil_append];exact WL)
          refine ⟨items.length - (i + 1),by omega,i + 1,vs ++ [v8],ai ++ [u8],NT,σ2,H8,dn ++ [y],ys,rfl,fQ,WL.iu (fun p hp=>?_),kp.1,kp.2,rv.append (.cons XH .nil),((sm.trans e5).trans e7).trans e8,ER e8,bU.snoc ((sm.trans e5).trans e7) e8 (BY.go (e5.trans e7)) r8,om,by rw [List.append_assoc];exact eall⟩
          have uc:p = (s₂.heap.objs.size,d7 (ai ++ [u8]) NT):=by simpa using hp
          rw [uc]
          exact ⟨q',nD,N7,Sy,fun v z=>by cases z⟩
    · refine wpAny_mono (T.done X' rfl rfl rfl L.calm i _ s' σ' H' (fun _ _=>False) I' HG kS (yl.stop i H' sm (by omega))) (fun r s1 h1=>?_) fun _ _ e=>e
      obtain ⟨hr,I1⟩:=h1
      subst hr
      have R8:items.drop i = []:=List.drop_eq_nil_of_le (by omega)
      rw [R8,fT] at eW
      cases eW
      rw [List.append_nil] at eall
      subst eall
      exact fin vs ai nn σ' H' s1 I1 rv sm BY
  have key:=fun tk=>codeAny_compStart_list (loop tk) (T.self X.A 0 _ _ _ (T.keep _ _ _ Kg fun b _ o e=>old b o e) (loop tk))
  rw [V7]
  exact key _
theorem BU (L:Lk X S k Φ) {n:Nat} {t:Tg} {caps:List Nat} {ik:IK} {es aS:List CE} {elt:CE} {target iter gA:Expr} {ifs:List Expr} {sc:Scope} {pos:Pos} (co:jh S n t caps target sc) (x3:oX iter = true)
  (hE:∀ (X':Cx) (F':Addr -> Prop),Lk X' (S.inner target caps sc) k Φ -> PE X' gA (tD X' F' Φ elt))
  (hC:(aS = [] /\ ifs = []) \/ ∃ c e,aS = [c] /\ ifs = [e] /\ ∀ (X':Cx) (F':Addr -> Prop),Lk X' (S.inner target caps sc) k Φ -> PT X' e (fL X' F' Φ c))
  (hI:∀ (pins:List (Addr × Obj)) (s:Shared) (σ:St) (H:Hp) (R:Addr -> Prop) (τ:Addr -> Option aE) (ρ:au) (xs items:List D),Inv X pins σ H s -> SI X F R τ ρ σ H -> cD Φ es ρ = ok xs -> dF Φ ik xs = ok items -> ∀ Rr:It -> Hp -> Prop,
   (∀ J H2,aj H H2 -> Yl X.K J (j8 X F τ (caps ++ dk es) H2) H2 items -> Rr J H2) -> wpAny (model X.prog X.w) X.A (eval iter X.env) (fun v s1=>wpAny (model X.prog X.w) X.A (pyIter v) (AY X pins σ target Rr) X.xe s1) X.xe s) :
  PE X (.ListComp gA [⟨target,iter,ifs,0⟩] sc pos) (tD X F Φ (.comp n t caps ik es aS elt)):=by
 intro pins s σ H Q I hq
 obtain ⟨R,τ,ρ,d,Si,ev,hq⟩:=hq
 rw [eval_ListComp]
 refine sE L co x3 hE hC hI (use:=none) (Post:=EP X pins σ Q) I Si ev fun acc C H1 s1 m hn _ IX sm rt=>?_
 exact ⟨m,hn,fun h' xo=>⟨.ref acc,H1,IX h' xo,rfl,hq _ _ sm rt⟩⟩
end
end DI
end
section
namespace DI
open PySem PySem.Spec PyProof.Rows L2
section
variable {X:Cx} {pins:List (Addr × Obj)} {s:Shared} {σ:L2.St} {H:Hp}
theorem rW {A:Around} {E:Value -> Shared -> Prop} {l:Addr} {items:Array Value} {prog:Program} {w:World} {Q:Value -> Shared -> Prop} {s:Shared} (hl:s.heap.IsList l items)
  (h:∀ s₂:Shared,s₂ = { s with heap:=s.heap.push { cls:=.type "list_iterator",data:=.fields #[.ref l,.int 0 0] } } -> s₂.heap.IsListIter s.heap.objs.size l 0 /\ s₂.heap.IsList l items -> (∀ b ∈ [s.heap.objs.size,l],b < s₂.heap.objs.size) -> l ≠ s.heap.objs.size -> Q (.ref s.heap.objs.size) s₂) :
  wpAny (model prog w) A (pyIter (.ref l)) Q E s:=by
 have fQ:l < s.heap.objs.size:=by obtain ⟨_,e,_⟩:=hl;exact Heap.lt_size e
 refine wpAny_pyIter_list hl (h _ rfl ⟨⟨_,Heap.get?_push_size _ rfl,rfl,rfl⟩,hl.push _⟩ (fun b hb=>?_) (Nat.ne_of_lt fQ))
 have hz:(s.heap.push { cls:=.type "list_iterator",data:=.fields #[.ref l,.int 0 0] }).objs.size = s.heap.objs.size + 1:=Heap.size_push ..
 have vF:b = s.heap.objs.size \/ b = l:=by simpa using hb
 show b < _
 rw [hz]
 rcases vF with e | e
 ·rw [e];exact Nat.lt_succ_self _
 ·rw [e];exact Nat.lt_succ_of_lt fQ
theorem rT {h':Heap} {o₀:Obj} {s:Shared} (hk:∀ b o,b ∉ [s.heap.objs.size] -> (s.heap.push o₀).get? b = some o -> h'.get? b = some o):∀ b o,s.heap.get? b = some o -> h'.get? b = some o:=fun b o e =>
 hk b o (fun hm=>absurd ((by simpa using hm:b = s.heap.objs.size) ▸ Heap.lt_size e) (Nat.lt_irrefl _)) (Heap.get?_push_of_some _ e)
theorem dP {h:Heap} {a:Addr} {ai:Array Value} (p:PlainL h a ai):h.IsList a ai:=let ⟨o,n,h1,h2,_,h4⟩:=p;⟨o,h1,h2,n,h4⟩
theorem kH (val:Nat -> Int) (ns:List Int) (hv:∀ i,val i = ns.getD i 0):∀ k,k <= ns.length -> preSum val k = (ns.take k).sum
 | 0,_=>by simp [preSum]
 | k + 1,h=>by
  have hk:k < ns.length:=by omega
  rw [preSum,kH val ns hv k (by omega),hv k,List.take_add_one,List.sum_append]
  simp [List.getD,hk]
theorem xR (hc:X.calm = true):e_ X (.builtin "sum") (fun xs H Q=>∃ (p:Addr) (ns:List Int),xs = [.ref p] /\ dm X.K H p (ns.map V.int) /\ Q (.int ns.sum) H):=by
 intro pins s σ H xs us Q I r h
 obtain ⟨p,ns,rfl,hq,q⟩:=h
 obtain ⟨u,rfl,ru⟩:=r.one
 cases ru
 obtain ⟨ai,rv,pl,hz⟩:=I.list hq
 have hlen:ai.length = ns.length:=by have:=rv.length;simpa using this.symm
 refine call_sum_walkG (rW (dP pl) fun s₂ e st CU Sa=>?_)
 subst e
 refine ⟨_,_,_,_,_,_,fun i=>ns.getD i 0,rfl,Walks.list (A:=X.A.in1) (I.ok.hd hc) _ p Sa ai.toArray,st,CU,fun i v hP=>?_,fun h' tk t' hk=>?_⟩
 ·have hv:ai[i]? = some v:=by simpa using hP
  have hi:i < ai.length:=by
   by_cases z:i < ai.length
   ·exact z
   ·rw [List.getElem?_eq_none (by omega)] at hv;cases hv
  have hn:(ns.map V.int)[i]? = some (.int (ns.getD i 0)):=by
   rw [List.getElem?_map,List.getElem?_eq_getElem (by omega)]
   simp [List.getD,show i < ns.length by omega]
  obtain ⟨u,hu,ru⟩:=rv.get hn
  rw [hv] at hu
  cases hu
  exact ru
 ·refine ⟨.int ns.sum,H,I.kept (t':=tk) (rT hk),⟨t',?_⟩,q⟩
  have hz:preSum (fun i=>ns.getD i 0) ai.toArray.size = ns.sum:=by
   rw [List.size_toArray,hlen,kH _ ns (fun _=>rfl) _ (Nat.le_refl _),List.take_length]
  rw [hz]
theorem range_all {α:Type} (l:List α) (f:α -> Bool) (tr:Nat -> Bool) (h:∀ i a,l[i]? = some a -> tr i = f a):(List.range l.length).all tr = l.all f:=by
 rw [Bool.eq_iff_iff,List.all_eq_true,List.all_eq_true]
 constructor
 ·intro z a ha
  obtain ⟨i,hi,e⟩:=List.mem_iff_getElem.mp ha
  have:=z i (List.mem_range.mpr hi)
  rw [h i a (by rw [List.getElem?_eq_getElem hi,e])] at this
  exact this
 ·intro z i hi
  have hi:=List.mem_range.mp hi
  rw [h i l[i] (List.getElem?_eq_getElem hi)]
  exact z _ (List.getElem_mem hi)
theorem xT (hc:X.calm = true):e_ X (.builtin "all") (fun xs H Q=>∃ (p:Addr) (bs:List Bool),xs = [.ref p] /\ dm X.K H p (bs.map V.bl) /\ Q (.bl (bs.all id)) H):=by
 intro pins s σ H xs us Q I r h
 obtain ⟨p,bs,rfl,hq,q⟩:=h
 obtain ⟨u,rfl,ru⟩:=r.one
 cases ru
 obtain ⟨ai,rv,pl,hz⟩:=I.list hq
 have hlen:ai.length = bs.length:=by have:=rv.length;simpa using this.symm
 refine call_all_walk (rW (dP pl) fun s₂ e st CU Sa=>?_)
 subst e
 refine ⟨_,_,_,_,_,_,fun i=>bs.getD i false,rfl,Walks.list (A:=X.A.in1) (I.ok.hd hc) _ p Sa ai.toArray,st,fun i v s' Q' E' hP hQ=>?_,fun h' tk hk=>?_⟩
 ·have hv:ai[i]? = some v:=by simpa using hP
  have hi:i < ai.length:=by
   by_cases z:i < ai.length
   ·exact z
   ·rw [List.getElem?_eq_none (by omega)] at hv;cases hv
  have hn:(bs.map V.bl)[i]? = some (.bl (bs.getD i false)):=by
   rw [List.getElem?_map,List.getElem?_eq_getElem (by omega)]
   simp [List.getD,show i < bs.length by omega]
  obtain ⟨u,hu,ru⟩:=rv.get hn
  rw [hv] at hu
  cases hu
  cases ru
  exact wpAny_truthy_bool hQ
 ·refine ⟨.bl (bs.all id),H,I.kept (t':=tk) (rT hk),?_,q⟩
  show Value.bool _ = Value.bool _
  rw [List.size_toArray,hlen,range_all bs id _ fun i a e=>by simp [List.getD,e]]
end
end DI
end
section
namespace DI
open PySem PySem.Spec PyProof.Rows L2
section
variable {prog:Program} {w:World} {A:Around} {E:Value -> Shared -> Prop} {s:Shared}
theorem m8 {l:Addr} {vs:List Value} {Q:List Value -> Shared -> Prop} {o:Obj} {n:Nat} (ho:s.heap.get? l = some o) (hc:o.cls = .type "tuple") (hd:o.data = .seq vs.toArray n)
  (h:Q vs { s with heap:=(s.heap.push (seqObj "list" #[] 0)).update s.heap.objs.size (Obj.mapSeq (· ++ vs.toArray)) }) (hsz:vs.length <= sizeLine):wpAny (model prog w) A (collect (.ref l)) Q E s:=by
 unfold collect
 refine wpAny_bind (wpAny_runValue (codeAny_builtin entry_proto_collect' ?_))
 show wpAny _ _ (newList [] >>= fun z=>again (.builtin "list.__iadd__" ⟨[z,.ref l],[]⟩)) _ _ s
 refine wpAny_bind (wpAny_newList (wpAny_pure ⟨Code.quiet_builtin _ (by decide +kernel),codeAny_builtin entry_list_iadd' ?_⟩))
 have z1:(s.heap.push (seqObj "list" #[] 0)).get? l = some o:=Heap.get?_push_of_some _ ho
 have z2:(s.heap.push (seqObj "list" #[] 0)).get? s.heap.objs.size = some (seqObj "list" #[] 0):=Heap.get?_push_size _ rfl
 show wpAny _ _ (Builtin.List.listExtendWith (.ref s.heap.objs.size) (.ref l) (.ref s.heap.objs.size)) _ _ ({ s with heap:=s.heap.push (seqObj "list" #[] 0) }:Shared)
 unfold Builtin.List.listExtendWith
 refine wpAny_bind (wpAny_typeOf (T:="tuple") ⟨o,z1,hc⟩ ?_)
 rw [if_pos (by rw [show (Value.type "tuple" == Value.type "tuple") = true from rfl,Bool.or_true])]
 refine wpAny_bind (listItems_at z1 hd (wpAny_bind (listItems_at z2 rfl ?_)))
 rw [if_neg (by simp)]
 refine wpAny_bind (listUpdate_at z2 rfl ?_ (Nat.zero_le _) (by
  show (#[] ++ vs.toArray).size <= sizeLine + 1
  rw [Array.size_append,List.size_toArray]
  exact Nat.le_succ_of_le (by simpa using hsz)))
 refine wpAny_pure ?_
 show wpAny (model prog w) A (load s.heap.objs.size >>= fun o=>match o.data with
   | .seq xs _=>pure xs.toList
   | _=>unsupported "internal:collect") Q E ({ s with heap:=(s.heap.push (seqObj "list" #[] 0)).update s.heap.objs.size (Obj.mapSeq (· ++ vs.toArray)) }:Shared)
 refine wpAny_bind (wpAny_load (get?_update_seq z2 _) ?_)
 show wpAny _ _ (pure ((#[]:Array Value) ++ vs.toArray).toList) Q E _
 rw [show ((#[]:Array Value) ++ vs.toArray).toList = vs by simp]
 exact wpAny_pure h
theorem nU {l:Addr} {vs:List Value} {ns:List Int} {Q:Value -> Shared -> Prop} {o:Obj} {n:Nat} (ho:s.heap.get? l = some o) (hc:o.cls = .type "tuple") (hd:o.data = .seq vs.toArray n) (hI:IntsAre vs ns) (o5:vs.length < 64)
  (h:∀ (out:Array Value) (gD:List Int),IntsAre out.toList gD -> gD.Perm ns -> gD.Pairwise (· <= ·) -> Q (.ref (s.heap.objs.size + 1)) { s with heap:=sortedAll s.heap vs out }):wpAny (model prog w) A (call (.builtin "sorted") [.ref l]) Q E s:=by
 refine Calls.call_function_entry kind_sorted plain_sorted entry_sorted (args_sorted1 _) ?_
 unfold Builtin.«sorted»
 have hz:vs.length <= sizeLine:=by rw [sizeLine_eq];omega
 refine wpAny_bind (m:=checkCount "sorted" 1 1 _) (wpAny_pure (wpAny_bind (m8 ho hc hd (wpAny_bind (wpAny_newList ?_)) hz)))
 have e1:((s.heap.push (seqObj "list" #[] 0)).update s.heap.objs.size (Obj.mapSeq (· ++ vs.toArray))).objs.size = s.heap.objs.size + 1:=by rw [Heap.size_update,size_push']
 have e2:(((s.heap.push (seqObj "list" #[] 0)).update s.heap.objs.size (Obj.mapSeq (· ++ vs.toArray))).push (seqObj "list" vs.toArray 0)).get? (s.heap.objs.size + 1) = some (seqObj "list" vs.toArray 0):=by
  rw [<- e1];exact Heap.get?_push_size _ rfl
 show wpAny _ _ _ _ _ ({ s with heap:=((s.heap.push (seqObj "list" #[] 0)).update s.heap.objs.size (Obj.mapSeq (· ++ vs.toArray))).push (seqObj "list" vs.toArray 0) }:Shared)
 rw [e1]
 refine wpAny_bind (wpAny_holding (wpAny_call_entry slot_list_sort ⟨_,e2,rfl⟩ entry_list_sort (list_sort_tree e2 hI o5 fun out gD a1 a2 a3=>⟨_,rfl,wpAny_pure ⟨_,rfl,h out gD a1 a2 a3⟩⟩) (args_list_sort _)))
end
theorem sortI_perm (ns:List Int):(sortI ns).Perm ns:=List.mergeSort_perm ..
theorem qZ (ns:List Int):(sortI ns).Pairwise (· <= ·):=by
 have:=List.pairwise_mergeSort (le:=fun a b:Int=>decide (a <= b)) (by intro a b c;simp;omega) (by intro a b;simp;omega) ns
 unfold sortI
 simpa using this
theorem dC:∀ {vs:List Value} {ns:List Int},Vals (ns.map V.int) vs -> IntsAre vs ns
 | _,[],h=>by cases h;exact .nil
 | _,n :: ns,h=>by
  cases h with
  | cons r t=>obtain ⟨tk,rfl⟩:=r;exact .cons n tk (dC t)
theorem qy {X:Cx}:e_ X (.builtin "sorted") (fun xs H Q=>∃ (p:Addr) (ns:List Int),xs = [.ref p] /\ (dm X.K H p (ns.map V.int) \/ aA X.K H p (ns.map V.int)) /\ ns.length < 64 /\ ∀ l,H l = none -> Q (.ref l) (upd H l (.lst ((sortI ns).map V.int)))):=by
 intro pins s σ H xs us Q I r h
 obtain ⟨p,ns,rfl,hq,o5,q⟩:=h
 obtain ⟨u,rfl,ru⟩:=r.one
 cases ru
 have fin:∀ (vs:List Value) (out:Array Value) (gD:List Int),IntsAre out.toList gD -> gD.Perm ns -> gD.Pairwise (· <= ·) -> EP X pins σ Q (.ref (s.heap.objs.size + 1)) { s with heap:=sortedAll s.heap vs out }:=by
  intro vs out gD h1 h2 h3
  obtain rfl:gD = sortI ns:=PySem.W.ksm_same (h2.trans (sortI_perm ns).symm) h3 (qZ ns)
  obtain ⟨e,he⟩:=sortedAll_at s.heap vs out
  have hn:H (s.heap.objs.size + 1) = none:=I.cQ.fresh (Nat.le_succ _)
  refine ⟨.ref (s.heap.objs.size + 1),upd H (s.heap.objs.size + 1) (.lst ((sortI ns).map V.int)),I.laid (t':=s.toks) (fun b u z=>sortedAll_old z) (Nat.le_succ _) ⟨?_,out.toList,e,ip h1,by simpa using he⟩,rfl,q _ hn⟩
  rw [List.length_map,(sortI_perm ns).length_eq,sizeLine_eq]
  omega
 rcases hq with hq | hq
 ·obtain ⟨ai,rv,pl,hz⟩:=I.list hq
  have hl:ai.length < 64:=by rw [<- rv.length];simpa using o5
  exact sorted_ints (dP pl) (dC rv) hl fun out gD h1 h2 h3=>fin ai out gD h1 h2 h3
 ·obtain ⟨ai,rv,⟨o,ho,hc,n,hd⟩,hz⟩:=I.tuple hq
  have hl:ai.length < 64:=by rw [<- rv.length];simpa using o5
  exact nU ho hc hd (dC rv) hl fun out gD h1 h2 h3=>fin ai out gD h1 h2 h3
end DI
end
section
namespace DI
open PySem PySem.Spec PyProof.Rows L2
theorem yk:isSubtype (.type "tuple") (.type "set") = pure false:=by rw [isSubtype_type];kernel_rfl
theorem qS:isSubtype (.type "tuple") (.type "frozenset") = pure false:=by rw [isSubtype_type];kernel_rfl
noncomputable abbrev kT (led:Bool):Obj:={ cls:=.type "set",dict:=none,data:=.set #[] 0 (.fresh 0 0 led) }
noncomputable abbrev dist (ns:List Int):List Int:=firstMet (fun i=>ns.getD i 0) ns.length
section
variable {prog:Program} {w:World} {A:Around} {E:Value -> Shared -> Prop} {s:Shared}
theorem tH {l:Addr} {ai:List Value} {ns:List Int} {Q:Value -> Shared -> Prop} (hh:A.handled = none) (hl:s.heap.IsTuple l ai.toArray) (hi:IntsAre ai ns) (hb:ai.length + 1 < scanBound)
  (h:∀ (h':Heap) (tk:Nat),h'.SetOf (intKind prog w) s.heap.objs.size (fun k=>(dist ns).any (· == k)) (dist ns).length -> (∀ b o,b < s.heap.objs.size -> s.heap.get? b = some o -> h'.get? b = some o) -> Q (.ref s.heap.objs.size) { s with heap:=h',toks:=tk }) :
  wpAny (model prog w) A (call (.type "set") [.ref l]) Q E s:=by
 have YY:ai.length = ns.length:=hi.length
 obtain ⟨c,tl,k1⟩:=F.called_set.mro
 have k2:=F.called_set.made
 have k3:=F.called_set.sub
 have k4:=F.called_set.notType
 have k5:=F.called_set.canCreate
 have k6:=F.typeCall_set_1 (.ref l)
 refine wpAny_call (codeAny_of_tree (show wpAny _ _ (callAny (.type "set") _) _ _ _ from wpAny_pure ⟨Code.quiet_builtin _ (by decide +kernel),codeAny_builtin F.entry_type_call ?_⟩))
 rw [Around.under_plain (weight_type_call_type "set" [.ref l] []) rfl]
 repeat (any_goals (first | assumption | wp_step))
 refine codeAny_mono (code_set_new_1 (.ref l) (E:=E) (Q₁:=fun z s₁=>∃ led:Bool,z = .ref s.heap.objs.size /\ s₁ = { s with heap:=s.heap.push (kT led) }) fun led=>⟨led,rfl,rfl⟩) fun r s₁ hr=>?_
 cases r with
 | error e=>exact hr
 | ok fl =>
  cases fl with
  | next=>exact hr.elim
  | brk=>exact hr.elim
  | cont=>exact hr.elim
  | ret z =>
   obtain ⟨led,rfl,rfl⟩:=hr
   have g1:(s.heap.push (kT led)).get? s.heap.objs.size = some (kT led):=Heap.get?_push_size _ rfl
   have g2:Shared.TypeIs { s with heap:=s.heap.push (kT led) } (.ref s.heap.objs.size) "set":=⟨_,g1,rfl⟩
   have g3:=F.called_set.init.lookup
   have g4:=F.called_set.init.bind (.ref s.heap.objs.size)
   repeat (any_goals (first | assumption | wp_step))
   refine codeAny_mono (codeAny_call_builtin (R:=wants (fun r s₂=>r = .none /\ ∃ h' tk,s₂ = { s with heap:=h',toks:=tk } /\ h'.SetOf (intKind prog w) s.heap.objs.size (fun k=>(dist ns).any (· == k)) (dist ns).length /\ ∀ b o,b < s.heap.objs.size -> s.heap.get? b = some o -> h'.get? b = some o) E) F.called_set.init.plain F.entry_set_init (check_set_init_1 g2 ?_)) fun r₂ s₂ rZ=>?_
   ·obtain ⟨ot,VR,V0,nt,VY⟩:=hl
    obtain ⟨oc,od,odt,A3⟩:=ot
    simp only at V0 VY
    subst V0
    subst VY
    have u1:(s.heap.push (kT led)).get? l = some { cls:=.type "tuple",dict:=od,data:=.seq ai.toArray nt,slots:=A3 }:=Heap.get?_push_of_some _ VR
    have u2:=yk
    have u3:=qS
    have u4:(Value.type "tuple" == Value.type "dict") = false:=by decide
    have u5:(s.heap.push (kT led)).IsTuple l ai.toArray:=⟨_,u1,rfl,nt,rfl⟩
    unfold Builtin.«set.__init__» noKeywords Builtin.Frozenset.updateFrom
    generalize Zn:pyIter = PI
    wp_walk
    subst Zn
    refine wpAny_pyIter_tuple u5 (wpAny_bind (wpAny_runValue ?_))
    have u6:l < s.heap.objs.size:=Heap.lt_size VR
    have u7:A.in1.in1.in1.handled = none:=by simp [hh]
    have hz:(s.heap.push (kT led)).objs.size = s.heap.objs.size + 1:=Heap.size_push ..
    have u8:l ≠ (s.heap.push (kT led)).objs.size:=by rw [hz];exact Nat.ne_of_lt (Nat.lt_succ_of_lt u6)
    have u9:s.heap.objs.size ∉ [(s.heap.push (kT led)).objs.size,l]:=by
     rw [hz]
     intro m
     simp at m
     exact absurd m (Nat.ne_of_gt u6)
    have v1:∀ (i:Nat) (v:Value),ai.toArray[i]? = some v -> ∃ t,v = .int ((fun i=>ns.getD i 0) i) t:=fun i v hv=>hi.int_at i v (by simpa using hv)
    refine codeAny_set_update_loopS ((Walks.tuple u7 _ l u8 ai.toArray).toS) s.heap.objs.size u9 (fun i=>ns.getD i 0) v1 (by rw [List.size_toArray];exact hb) (ai.toArray.size - 0) 0 _ (by omega) (Nat.zero_le _) ⟨⟨_,Heap.get?_push_size _ rfl,rfl,rfl⟩,u5.push _⟩ ?hS0 ?hR
    case hS0 =>
     have y1:((s.heap.push (kT led)).push { cls:=.type "tuple_iterator",data:=.fields #[.ref l,.int 0 0] }).get? s.heap.objs.size = some (kT led):=Heap.get?_push_of_some _ g1
     exact SetOf_congr ((setObjOf_fresh (knd:=intKind prog w) led).setOf y1 (by unfold scanBound;omega)) (fun _=>rfl) rfl
    case hR =>
     intro s' hm xw
     obtain ⟨h',g',d',Xi,Qf⟩:=s'
     cases (show g' = s.gens from hm.gens)
     cases (show d' = s.drawn from hm.drawn)
     cases (show Qf = s.os from hm.os)
     have xw:h'.SetOf (intKind prog w) s.heap.objs.size (fun k=>(dist ns).any (· == k)) (dist ns).length:=by
      have e:ai.toArray.size = ns.length:=by rw [List.size_toArray,YY]
      rw [e] at xw
      exact xw
     refine wpAny_pure (show wpAny _ _ (ret Value.none) _ _ _ from wpAny_pure ⟨rfl,h',Xi,rfl,xw,fun b o hb e=>hm.heap b o (fun m=>?_) (Heap.get?_push_of_some _ (Heap.get?_push_of_some _ e))⟩)
     rcases List.mem_cons.mp m with m | m
     ·exact Nat.ne_of_lt hb m
     ·have m:b = (s.heap.push (kT led)).objs.size:=by simpa using m
      rw [hz] at m
      exact Nat.ne_of_lt (Nat.lt_succ_of_lt hb) m
   ·cases r₂ with
    | error e=>exact rZ
    | ok Mx =>
     cases Mx with
     | ret r =>
      obtain ⟨rfl,h',tk,rfl,xw,VU⟩:=rZ
      repeat (any_goals (first | assumption | wp_step))
      exact h _ _ xw VU
     | next=>exact rZ.elim
     | brk=>exact rZ.elim
     | cont=>exact rZ.elim
end
theorem AA (ns:List Int):dist ns = sA ns:=by
 unfold dist firstMet sA
 have e:(List.range ns.length).map (fun i=>ns.getD i 0) = ns:=by
  refine List.ext_getElem (by simp) fun i h1 h2=>?_
  simp at h1
  simp [h1]
 rw [e]
 rfl
noncomputable def XN (K:PySem.W.Frag):List V -> Hp -> VK -> Prop:=fun xs H Q=>∃ (p:Addr) (ns:List Int),xs = [.ref p] /\ aA K H p (ns.map V.int) /\ ns.length < 4000 /\ Q (.int (sA ns).length) H
theorem boot_set:bootBuiltins ("set" : Str) = some (.type "set"):=by decide +kernel
theorem B7 {X:Cx} {e:Expr} {t:TA} {p p' pos pos':Pos} (hc:X.calm = true) (Sg:Gl X ("len" : Str)) (Y1:X.mg ("len" : Str) = none) (Y8:Gl X ("set" : Str)) (Y0:X.mg ("set" : Str) = none) (ha:PA X [e] t)
  (o3:∀ es,starEach (e :: es) X.env = (false,eval e X.env) :: starEach es X.env):PE X (.Call (.Name ("len" : Str) p) [.Call (.Name ("set" : Str) p') [e] [] pos'] [] pos) (Ka (XN X.K) t):=by
 intro pins s σ H Q I h
 refine wpAny_Call_Name_kw (ft I Sg Y1 PySem.boot_len ?_ (by decide) (by decide))
 refine PyProof.Rows.callWith_builtin1 ?_ rfl rfl
 show wpAny _ _ (spliced ((false,eval (.Call (.Name ("set" : Str) p') [e] [] pos') X.env) :: [])) _ _ s
 refine Calls.spliced_cons ?_
 refine wpAny_Call_Name_kw (ft I Y8 Y0 boot_set ?_ (by decide) (by decide))
 refine PyProof.Rows.callWith_type1 (cI (ha pos' pins s σ H _ I h) fun us s1 ⟨vs,H1,I1,r1,q1⟩=>?_) (o3 _) rfl
 obtain ⟨a,ns,rfl,hq,hl,q⟩:=q1
 obtain ⟨u,rfl,ru⟩:=r1.one
 cases ru
 obtain ⟨ai,rv,it,hz⟩:=I1.tuple hq
 have hle:ai.length = ns.length:=by rw [<- rv.length];simp
 refine tH (I1.ok.hd hc) it (dC rv) (by unfold scanBound;omega) fun h' tk hS kp=>Calls.spliced_nil ?_
 rw [AA] at hS
 obtain ⟨o,es,ep,tb,g1,g2,g3,_,_,g6,g7,g8⟩:=hS
 refine call_len_set g1 g2 g3 g7 (by unfold scanBound at g6;omega) ?_
 exact ⟨.int (sA ns).length,H1,I1.kept (t':=tk + 1 + 1) fun b u z=>kp b u (Heap.lt_size z) z,⟨_,by rw [g8]⟩,q⟩
end DI
end
section
namespace DI
open PySem PySem.Spec PyProof.Rows L2
section
variable {X:Cx} {S:Sx} {k:Nat} {F:Addr -> Prop} {Φ:az}
theorem Lk.Vg (L:Lk X S k Φ):X.A.units + 40 < cLine:=by have:=L.room.units;omega
noncomputable def NG (K:PySem.W.Frag) (neg:Bool):R2:=fun v u H Q=>∃ (d d':D) (N N':gC) (k k':aE),Rep (aA K H) N k v d /\ Rep (aA K H) N' k' u d' /\ (∀ q p xs f,N q p (.l xs) f -> dm K H p xs) /\ (∀ q p xs f,N' q p (.l xs) f -> dm K H p xs) /\ cC 40 d = true /\ cC 40 d' = true /\
 Q (.bl (if neg then !i3 d d' else i3 d d')) H
theorem Gy (hu:X.A.units + 40 < cLine):i8 X (compareOp .Eq) (NG X.K false):=by
 intro pins s σ H x y v u Q I rx ry h
 obtain ⟨d,d',N,N',k,k',r1,r2,n1,n2,o1,o2,q⟩:=h
 exact (alike I n1 n2 40 X.A r1 r2 o1 o2 rx ry hu).rc X.prog X.w X.xe _ ⟨.bl _,H,I,rfl,q⟩
theorem Gw (hu:X.A.units + 40 < cLine):i8 X (compareOp .NotEq) (NG X.K true):=by
 intro pins s σ H x y v u Q I rx ry h
 obtain ⟨d,d',N,N',k,k',r1,r2,n1,n2,o1,o2,q⟩:=h
 exact (alike I n1 n2 40 X.A r1 r2 o1 o2 rx ry hu).ne X.prog X.w X.xe _ ⟨.bl _,H,I,rfl,q⟩
theorem yI {T T':iL} {N N':gC} {k k':aE} {v v':V} {d d':D} (h:Rep T N k v d) (h':Rep T' N' k' v' d') (f:gy d = true) (f':gy d' = true):g5 v = true /\ Bb v v' = i3 d d':=by
 cases h <;> first | (cases f;done) | (cases h' <;> first | (cases f';done) | exact ⟨rfl,by simp [Bb,i3]⟩)
theorem oU {T:iL} {N:gC} {k:aE} {v:V} {d:D} (h:Rep T N k v d) (f:gy d = true):g5 v = true:=by
 cases h <;> first | (cases f;done) | rfl
theorem pT {T T':iL} {N N':gC} {k':aE} {v:V} {d:D} (hv:Rep T' N' k' v d) (f:gy d = true):∀ {k:aE} {n:Nat} {xs:List V} {ds:List D},af T N k n xs ds -> ds.all gy = true -> xs.all g5 = true /\ NW v xs = inD d ds
 | _,_,_,_,.nil,_=>⟨rfl,rfl⟩
 | _,_,_,_,.cons h t,fs=>by
  rw [List.all_cons,Bool.and_eq_true] at fs
  obtain ⟨h1,h2⟩:=pT hv f t fs.2
  obtain ⟨g1,g2⟩:=yI h hv fs.1 f
  refine ⟨by rw [List.all_cons,g1,h1];rfl,?_⟩
  unfold NW at h2 ⊢
  rw [List.any_cons,g2,h2];rfl
noncomputable def FO (K:PySem.W.Frag) (op:x_):R2:=match op with
 | .eq=>NG K false
 | .ne=>NG K true
 | .lt=>yL fun i j=>.bl (decide (i < j))
 | .le=>yL fun i j=>.bl (decide (i <= j))
 | .gt=>yL fun i j=>.bl (decide (j < i))
 | .ge=>yL fun i j=>.bl (decide (j <= i))
 | .Lz=>fun x y H Q=>y = .bC /\ Q (.bl (decide (x = .bC))) H
 | .zk=>fun x y H Q=>y = .bC /\ Q (.bl (!decide (x = .bC))) H
 | .xZ=>PJ K false
 | .tQ _=>fun x y H Q=>∃ a c,x = .bl a /\ y = .bl c /\ Q (.bl (!(a == c))) H
theorem zf (L:Lk X S k Φ) (op:x_):i8 X (compareOp (Qh op)) (FO X.K op):=by
 cases op with
 | eq=>exact Gy L.Vg
 | ne=>exact Gw L.Vg
 | lt=>exact K2
 | le=>exact K3
 | gt=>exact K4
 | ge=>exact K5
 | Lz=>exact Gx
 | zk=>exact Cd
 | xZ=>exact w8
 | tQ b =>
  intro pins s σ H x y v u Q I rx ry h
  obtain ⟨a,c,rfl,rfl,q⟩:=h
  cases rx;cases ry
  refine wpAny_isNot_plain rfl (uh I q ?_)
  cases a <;> cases c <;> rfl
theorem zq {op:CmpOp} {r:Expr} (h:oX r = true):behindInMarks op r = false:=by
 cases r <;> first | rfl | (cases h;done)
theorem lK {op:x_} {x y d:D} (LU:op = .lt \/ op = .le \/ op = .gt \/ op = .ge) (h:dI op x y = ok d):∃ i j,x = .int i /\ y = .int j:=by
 cases x with
 | int i=>cases y with
  | int j=>exact ⟨i,j,rfl,rfl⟩
  | _=>rcases LU with rfl | rfl | rfl | rfl <;> cases h
 | _=>rcases LU with rfl | rfl | rfl | rfl <;> cases h
theorem sF {op:x_} {a b:CE} {σ:St} {H:Hp} {Q:VK} (hq:tD X F Φ (.cmp op a b) σ H Q):D2 (FO X.K op) (tD X F Φ a) (tD X F Φ b) σ H Q:=by
 obtain ⟨R,τ,ρ,d,Si,ev,hq⟩:=hq
 obtain ⟨x,ex,ev⟩:=ae ev
 obtain ⟨y,ey,ev⟩:=ae ev
 refine tD.intro Si ex fun v H1 e1 r1=>tD.intro (Si.go e1) ey fun u H2 e2 r2=>?_
 have e:=e1.trans e2
 have rv:=r1.go e2
 have ru:=r2
 obtain ⟨τ1,f1,p1⟩:=rv
 obtain ⟨τ2,f2,p2⟩:=ru
 have sq:∀ {A:Addr -> Prop} {τ:Addr -> Option aE} (q:aE) (p:Addr) (xs:List V) (f:Fl),nd X.K R A τ H2 q p (.l xs) f -> dm X.K H2 p xs:=fun q p xs f h=>h.sq
 cases op with
 | eq =>
  obtain ⟨hc,ev⟩:=nM ev
  ·subst ev
   rw [Bool.and_eq_true] at hc
   exact ⟨x,y,_,_,_,_,p1,p2,sq,sq,hc.1,hc.2,hq _ H2 e .bl⟩
 | ne =>
  obtain ⟨hc,ev⟩:=nM ev
  ·subst ev
   rw [Bool.and_eq_true] at hc
   exact ⟨x,y,_,_,_,_,p1,p2,sq,sq,hc.1,hc.2,hq _ H2 e .bl⟩
 | lt=>obtain ⟨i,j,rfl,rfl⟩:=lK (by simp) ev;cases ev;cases p1;cases p2;exact ⟨_,_,rfl,rfl,hq _ H2 e .bl⟩
 | le=>obtain ⟨i,j,rfl,rfl⟩:=lK (by simp) ev;cases ev;cases p1;cases p2;exact ⟨_,_,rfl,rfl,hq _ H2 e .bl⟩
 | gt=>obtain ⟨i,j,rfl,rfl⟩:=lK (by simp) ev;cases ev;cases p1;cases p2;exact ⟨_,_,rfl,rfl,hq _ H2 e .bl⟩
 | ge=>obtain ⟨i,j,rfl,rfl⟩:=lK (by simp) ev;cases ev;cases p1;cases p2;exact ⟨_,_,rfl,rfl,hq _ H2 e .bl⟩
 | Lz =>
  cases y <;> simp [dI] at ev
  cases p2
  refine ⟨rfl,hq _ H2 e ?_⟩
  cases ev
  cases p1 <;> exact .bl
 | zk =>
  cases y <;> simp [dI] at ev
  cases p2
  refine ⟨rfl,hq _ H2 e ?_⟩
  cases ev
  cases p1 <;> exact .bl
 | xZ =>
  simp only [dI] at ev
  split at ev
  ·rename_i ds hi
   split at ev
   ·rename_i hc
    rw [Bool.and_eq_true] at hc
    cases ev
    cases p2 with
    | tup h rs=>cases hi;obtain ⟨g1,g2⟩:=pT p1 hc.1 rs hc.2;exact ⟨_,_,rfl,.inr h,oU p1 hc.1,g1,by rw [g2];exact hq _ H2 e .bl⟩
    | lst h rs=>cases hi;obtain ⟨g1,g2⟩:=pT p1 hc.1 rs hc.2;exact ⟨_,_,rfl,.inl h.sq,oU p1 hc.1,g1,by rw [g2];exact hq _ H2 e .bl⟩
    | _=>cases hi
   ·cases ev
  ·cases ev
 | tQ b=>cases x <;> cases y <;> simp [dI] at ev;subst ev;cases p1;cases p2;exact ⟨_,_,rfl,rfl,hq _ H2 e .bl⟩
theorem yq {c:CE} {σ:St} {H:Hp} {Q:Bool -> Hp -> Prop} (h:fL X F Φ c σ H Q):tB (tD X F Φ c) σ H Q:=by
 obtain ⟨R,τ,ρ,b,Si,ev,hq⟩:=h
 unfold sZ at ev
 obtain ⟨d,ed,et⟩:=ae ev
 refine tD.intro Si ed fun v H' e r=>?_
 cases d <;> simp [fZ] at et
 cases et
 exact ⟨_,r.xj,hq H' e⟩
theorem cg {c:CE} {e:Expr} (h:PE X e (tD X F Φ c)) (he:∀ whole,isTrue e X.env whole = (do let v <- whole;standAt e.pos;holding [v] (truthy v))):PT X e (fL X F Φ c) :=
 PT.imp (FU h he) fun _ _ _ h=>yq h
theorem wI {op:x_} {a b:CE} {σ:St} {H:Hp} {Q:Bool -> Hp -> Prop} (h:fL X F Φ (.cmp op a b) σ H Q):D1 (D2 (FO X.K op) (tD X F Φ a) (tD X F Φ b)) σ H Q :=
 sF (yq h)
theorem dictAt {pins:List (Addr × Obj)} {σ:St} {H:Hp} {s:Shared} {p:Addr} {cs:List (List Int)} {as:List Addr} {xs:List V} {ep:Nat} (I:Inv X pins σ H s) (h:H p = some (.ext (DO p cs as xs ep))):∃ o,s.heap.get? p = some o /\ o.cls = .type "dict":=by
 obtain ⟨⟨zs,o,es,_,_,_,ho,hx,_⟩,_⟩:=(show bV X.prog X.w H s.heap p (.ext (DO p cs as xs ep)) from I.cQ p _ h)
 exact ⟨o,ho,hx.1⟩
theorem CJ {pins:List (Addr × Obj)} {σ:St} {H:Hp} {s:Shared} {p:Addr} {ks:List Int} {xs:List V} {ep:Nat} (I:Inv X pins σ H s) (h:H p = some (.ext (IO p ks xs ep))):∃ o,s.heap.get? p = some o /\ o.cls = .type "dict":=by
 obtain ⟨⟨zs,o,es,_,_,ho,hx,_⟩,_⟩:=(show bV X.prog X.w H s.heap p (.ext (IO p ks xs ep)) from I.cQ p _ h)
 exact ⟨o,ho,hx.1⟩
theorem GV (L:Lk X S k Φ) (t:Ty):e_ X (.builtin "isinstance") (fun xs H Q=>∃ (x:V) (d:D) (N:gC) (k:aE),xs = [x,.ty (tyName t)] /\ Rep (aA X.K H) N k x d /\ (∀ q p xs f,N q p (.l xs) f -> dm X.K H p xs) /\ (∀ q p cs as xs ep f,N q p (.d cs as xs ep) f -> H p = some (.ext (DO p cs as xs ep))) /\ (∀ q p ks xs ep f,N q p (.ei ks xs ep) f -> H p = some (.ext (IO p ks xs ep))) /\ Q (.bl (dB t d)) H):=by
 intro pins s σ H xs us Q I r h
 obtain ⟨x,d,N,k,rfl,rp,hN,Zp,Zo,q⟩:=h
 obtain ⟨u,w',rfl,ru,jw⟩:=vals2 r
 cases (show w' = Value.type (tyName t) from jw)
 have kt:=Cv X.K t
 have fin:∀ b:Bool,b = dB t d -> ∀ tk,EP X pins σ Q (.bool b) { s with toks:=tk }:=fun b e tk=>⟨.bl b,H,I.tok tk,rfl,by rw [e];exact q⟩
 cases rp with
 | bC=>cases ru;exact PySem.W.kia_one PySem.W.kitx_none I.xb True.intro (kt "NoneType" (by simp [kinds])) (fun z=>nomatch z) (fin _ (by cases t <;> rfl))
 | bl b=>cases ru;exact PySem.W.kia_one PySem.W.kitx_bool I.xb True.intro (kt "bool" (by simp [kinds])) (fun z=>nomatch z) (fin _ (by cases t <;> rfl))
 | int i=>obtain ⟨t',rfl⟩:=ru;exact PySem.W.kia_one PySem.W.kitx_int I.xb True.intro (kt "int" (by simp [kinds])) (fun z=>nomatch z) (fin _ (by cases t <;> rfl))
 | tup h _ =>
  cases ru
  obtain ⟨ai,_,⟨o,h1,h2,_⟩,_⟩:=I.tuple h
  exact PySem.W.kia_one PySem.W.kitx_tuple I.xb ⟨o,h1,h2⟩ (kt "tuple" (by simp [kinds])) (fun z=>nomatch z) (fin _ (by cases t <;> rfl))
 | lst h _ =>
  cases ru
  obtain ⟨ai,_,⟨o,n,h1,h2,_⟩,_⟩:=I.list (hN _ _ _ _ h)
  exact PySem.W.kia_one PySem.W.kitx_list I.xb ⟨o,h1,h2⟩ (kt "list" (by simp [kinds])) (fun z=>nomatch z) (fin _ (by cases t <;> rfl))
 | cc h _ _ =>
  cases ru
  obtain ⟨o,h1,h2⟩:∃ o,s.heap.get? _ = some o /\ o.cls = .type "dict":=dictAt I (Zp _ _ _ _ _ _ _ h)
  exact PySem.W.kia_one PySem.W.kitx_dict I.xb ⟨o,h1,h2⟩ (kt "dict" (by simp [kinds])) (fun z=>nomatch z) (fin _ (by cases t <;> rfl))
 | bx h _ =>
  cases ru
  obtain ⟨o,h1,h2⟩:∃ o,s.heap.get? _ = some o /\ o.cls = .type "dict":=CJ I (Zo _ _ _ _ _ _ h)
  exact PySem.W.kia_one PySem.W.kitx_dict I.xb ⟨o,h1,h2⟩ (kt "dict" (by simp [kinds])) (fun z=>nomatch z) (fin _ (by cases t <;> rfl))
theorem DE (t:Ty):bootBuiltins (tyName t:Str) = some (.type (tyName t)):=by
 cases t <;> decide +kernel
theorem oJ (t:Ty):(tyName t:Str) ≠ "__name__" /\ ((tyName t:Str) == ("__debug__" : Str)) = false:=by
 cases t <;> decide +kernel
theorem FH (L:Lk X S k Φ) {a:CE} {t:Ty} {e:Expr} {p p' pos:Pos} (hf:gX S.sc ("isinstance" : Str) = true) (Sj:("isinstance" : Str) ∈ S.bl) (hg:gX S.sc (tyName t:Str) = true) (Sf:(tyName t:Str) ∈ S.bl)
  (ha:PE X e (tD X F Φ a)) (o3:∀ es,starEach (e :: es) X.env = (false,eval e X.env) :: starEach es X.env):PE X (.Call (.Name ("isinstance" : Str) p) [e,.Name (tyName t:Str) p'] [] pos) (tD X F Φ (.lE a t)):=by
 have hT:PE X (.Name (tyName t:Str) p') (tC (.ty (tyName t))):=Ca (L.gl hg) (L.bl _ Sf) (DE t) rfl (oJ t).1 (oJ t).2
 refine PE.imp (d3 (GV L t) (L.gl hf) (L.bl _ Sj) PyProof.Rows.boot_isinstance (dQ ha (dQ hT gN) (o3 _)) (he:=o3 _)) fun σ H Q hq=>?_
 obtain ⟨R,τ,ρ,d,Si,ev,hq⟩:=hq
 obtain ⟨x,ex,ev⟩:=ae ev
 cases ev
 refine tD.intro Si ex fun v H1 e1 r1=>?_
 obtain ⟨τ1,f1,p1⟩:=r1
 exact ⟨v,x,_,_,rfl,p1,fun q p xs f h=>h.sq,fun q p cs as xs ep f h=>h.dat,fun q p ks xs ep f h=>h.LC,hq _ H1 e1 .bl⟩
theorem G1:@DI.vy = @L2.vy:=rfl
theorem Kn (L:Lk X S k Φ) {a b:CE} {e i:Expr} {pos:Pos} (ha:PE X e (tD X F Φ a)) (hb:PE X i (tD X F Φ b)) (hp:lN i):PE X (.Subscript e i pos) (tD X F Φ (.ix a b)):=by
 refine PE.imp (ve (vw.or zI) ha hb hp) fun σ H Q hq=>?_
 obtain ⟨R,τ,ρ,d,Si,ev,hq⟩:=hq
 obtain ⟨x,ex,ev⟩:=ae ev
 obtain ⟨y,ey,ev⟩:=ae ev
 refine tD.intro Si ex fun v H1 e1 r1=>tD.intro (Si.go e1) ey fun u H2 e2 r2=>?_
 have ee:=e1.trans e2
 have rv:=(r1.go e2).mono (fv':=fM (.ix a b)) fun j hj=>List.mem_append_left _ hj
 have item:∀ {q:aE} {xs:List V} {ds:List D} {τt:Addr -> Option aE} {j:Int},(∀ p q,τt p = some q -> H p = none) -> af (aA X.K H2) (nd X.K R (iK (gP X F) τ (fM (.ix a b))) τt H2) q 0 xs ds -> s9 ds j = ok d -> ∃ w,L2.ET xs j = some w /\ Q w H2:=by
  intro q xs ds τt j fr rs h
  unfold s9 at h
  split at h
  ·rename_i d' hd
   cases h
   cases hx:DI.vy ds.length j with
   | none=>rw [hx] at hd;cases hd
   | some m =>
    rw [hx] at hd
    obtain ⟨w,hw,jw⟩:=rs.get (show ds[m]? = some d' from hd)
    refine ⟨w,?_,hq w H2 ee ⟨fun _=>none,fun _ _ h=>by simp at h,jw.eD Si fr⟩⟩
    unfold L2.ET
    rw [<- G1,rs.length,hx];exact hw
  ·cases h
 cases y with
 | int j =>
  obtain ⟨τt,fr,rp⟩:=rv
  cases r2.isInt
  cases x with
  | tup ds =>
   cases rp with
   | @tup _ p xs _ h rs=>obtain ⟨w,h1,h2⟩:=item fr rs ev;exact .inr ⟨p,xs,j,w,rfl,rfl,h,h1,h2⟩
  | lst f ds =>
   cases rp with
   | @lst _ p xs _ _ h rs=>obtain ⟨w,h1,h2⟩:=item fr rs ev;exact .inl ⟨p,xs,j,w,rfl,rfl,h.sq,h1,h2⟩
  | _=>cases ev
 | _=>cases x <;> cases ev
theorem mZ:∀ (cs:List CE) {ρ:au} {ds:List D},cD Φ cs ρ = ok ds -> ds.length = cs.length
 | [],_,_,h=>by cases h;rfl
 | c :: cs,_,_,h=>by
  obtain ⟨x,_,h⟩:=ae h
  obtain ⟨xs,hx,h⟩:=ae h
  cases h
  simp [mZ cs hx]
theorem FC {cs:List CE} {es:List Expr} {n:Nat} {pos:Pos} (h:PA X es (qV X F Φ cs)) (hl:cs.length <= 1000):PE X (.Tuple es n pos) (tD X F Φ (.tup cs)):=by
 refine PE.imp (Gd h) fun σ H Q hq=>?_
 obtain ⟨R,τ,ρ,d,Si,ev,hq⟩:=hq
 obtain ⟨ds,Ik,ev⟩:=ae ev
 cases ev
 refine ⟨R,τ,ρ,ds,Si,Ik,fun vs H1 e1 r1=>?_⟩
 obtain ⟨τt,fr,rs⟩:=r1
 have hz:sizeLine = 16777216:=sizeLine_eq
 refine ⟨by rw [rs.length,mZ cs Ik];omega,fun p hp=>?_⟩
 have es:aj H1 (upd H1 p (.tup vs)):=aj.upd hp
 exact hq _ _ (e1.trans es) ⟨τt,fr,.tup (aA.of aB) (rs.imp (fun _ _ h=>aA.same es h) fun _ _ _ _ h=>nd.same es h)⟩
theorem FF {cs:List CE} {es:List Expr} {pos:Pos} (h:PA X es (qV X F Φ cs)) (hl:cs.length <= 1000):PE X (.List es pos) (tD X F Φ (.lst cs)):=by
 refine PE.imp (Gg h) fun σ H Q hq=>?_
 obtain ⟨R,τ,ρ,d,Si,ev,hq⟩:=hq
 obtain ⟨ds,Ik,ev⟩:=ae ev
 cases ev
 refine ⟨R,τ,ρ,ds,Si,Ik,fun vs H1 e1 r1=>?_⟩
 obtain ⟨τt,fr,rs⟩:=r1
 have hz:sizeLine = 16777216:=sizeLine_eq
 refine ⟨by rw [rs.length,mZ cs Ik];omega,fun p hp=>?_⟩
 have es:aj H1 (upd H1 p (.lst vs)):=aj.upd hp
 refine hq _ _ (e1.trans es) ⟨fun q=>if q = p then some [] else τt q,fun q z hq=>?_,.lst ⟨aB,by simp⟩ (rs.imp (fun _ _ h=>aA.same es h) fun c q xs f h=>?_)⟩
 ·by_cases qM:q = p
  ·subst qM;exact e1.free hp
  ·simp only [qM,if_false] at hq;exact fr q z hq
 ·have h':=nd.same es h
  cases f with
  | ow =>
   have qM:q ≠ p:=by
    intro z;subst z
    exact h.1.ne hp
   exact ⟨h'.1,by simp only [qM,if_false];exact h'.2⟩
  | fz=>exact h'
  | al=>exact h'
  | sc=>exact h'
theorem BV (L:Lk X S k Φ) {f:Nat} {x:Str} {cs:List CE} {y:Expr} {ys:List Expr} {p pos:Pos} (hf:S.fn f = some x) (hg:gX S.sc x = true) (hn:mq x = true) (ha:PA X (y :: ys) (qV X F Φ cs))
  (o3:∀ es,starEach (y :: es) X.env = (false,eval y X.env) :: starEach es X.env) (hpl:∀ pos,(backTo pos (starEach ys X.env)).any (·.1) = false):PE X (.Call (.Name x p) (y :: ys) [] pos) (tD X F Φ (.call f cs)):=by
 obtain ⟨a,fd,ps,Fo,hm,hk,hb,hl⟩:=(L.fn f x hf).ex
 unfold mq at hn
 simp only [Bool.and_eq_true,Bool.not_eq_true'] at hn
 refine PE.imp (B_ Fo L.room (L.gl hg) hm hk hb .nil (KZ (X:=X)) ha hn.1.1 (o3 _) (hpl _)) fun σ H Q hq=>?_
 obtain ⟨R,τ,ρ,d,Si,ev,hq⟩:=hq
 obtain ⟨xs,bP,ev⟩:=ae ev
 obtain ⟨r,er,ev⟩:=ae ev
 cases ev
 refine ⟨R,τ,ρ,xs,Si,bP,fun vs H1 e1 r1=>?_⟩
 obtain ⟨τt,fr,rs⟩:=r1
 have fresh:∀ p,H p = none -> iK (gP X F) τ (dk cs) p:=fun p hp=>⟨.inr (Si.same.free hp),fun c i e=>absurd hp (Si.th p _ e)⟩
 have hR:∀ p,R p -> iK (gP X F) τ (dk cs) p:=fun p hp=>⟨Si.rf p hp,fun c i e=>by rw [Si.rt p hp] at e;cases e⟩
 rw [List.append_nil]
 refine ⟨iK (gP X F) τ (dk cs),ag aK xs,r,by rw [rs.length,<- hl _ _ er,aC,List.length_map],af.gS (fun _ _ h=>h) (fun k k' p xs f h=>?_) rs _ _,er,fun v H2 e2 rr=>?_⟩
 ·cases f with
  | ow=>exact ⟨h.1,fresh p (fr p _ h.2)⟩
  | fz=>exact ⟨h.1,hR p h.2⟩
  | al=>exact h
  | sc=>exact h
 ·obtain ⟨τ2,JA,rp⟩:=rr
  refine hq v H2 (e1.trans e2) ⟨τ2,fun p q h=>e1.free (JA p q h),Rep.map (q:=[]) (q':=[]) (fun _ _ h=>h) (fun c p xs f h=>?_) rp [] rfl⟩
  cases f with
  | ow=>exact h
  | fz=>exact ⟨h.1,h.2.elim id fun z=>fresh p (e1.free z)⟩
  | al=>exact h.2.elim
  | sc=>exact h
noncomputable def Vm (K:PySem.W.Frag) (f:Bf):List V -> Hp -> VK -> Prop:=match f with
 | .len=>fun xs H Q=>∃ p ys,xs = [.ref p] /\ (dm K H p ys \/ aA K H p ys) /\ Q (.int ys.length) H
 | .abs=>fun xs H Q=>∃ i,xs = [.int i] /\ Q (.int (if i < 0 then -i else i)) H
 | .zR=>fun xs H Q=>(∃ i,xs = [.int i] /\ Q (.int i) H) \/ ∃ k,xs = [.bl k] /\ Q (.int (if k then 1 else 0)) H
 | .list1=>fun xs H Q=>∃ p ys,xs = [.ref p] /\ (dm K H p ys \/ aA K H p ys) /\ ∀ l,H l = none -> Q (.ref l) (upd H l (.lst ys))
 | .tuple1=>fun xs H Q=>∃ p ys,xs = [.ref p] /\ ((dm K H p ys /\ ∀ l,H l = none -> Q (.ref l) (upd H l (.tup ys))) \/ (aA K H p ys /\ Q (.ref p) H))
 | .j4=>fun xs H Q=>∃ (p:Addr) (ns:List Int),xs = [.ref p] /\ dm K H p (ns.map V.int) /\ Q (.int ns.sum) H
 | .all1=>fun xs H Q=>∃ (p:Addr) (bs:List Bool),xs = [.ref p] /\ dm K H p (bs.map V.bl) /\ Q (.bl (bs.all id)) H
 | .f_=>fun xs H Q=>∃ (p:Addr) (ns:List Int),xs = [.ref p] /\ (dm K H p (ns.map V.int) \/ aA K H p (ns.map V.int)) /\ ns.length < 64 /\ ∀ l,H l = none -> Q (.ref l) (upd H l (.lst ((sortI ns).map V.int)))
theorem af.one {T:iL} {N:gC} {k:aE} {n:Nat} {vs:List V} {d:D} (h:af T N k n vs [d]):∃ v,vs = [v] /\ Rep T N (n :: k) v d:=by
 cases h with
 | cons h t=>cases t;exact ⟨_,rfl,h⟩
theorem af.two {T:iL} {N:gC} {k:aE} {n:Nat} {vs:List V} {d e:D} (h:af T N k n vs [d,e]):∃ v w,vs = [v,w] /\ Rep T N (n :: k) v d /\ Rep T N ((n + 1) :: k) w e:=by
 cases h with
 | cons h t=>obtain ⟨w,rfl,h'⟩:=t.one;exact ⟨_,_,rfl,h,h'⟩
theorem af.ints1 {T:iL} {N:gC} {k:aE} {n:Nat} {vs:List V} {i:Int} (h:af T N k n vs [.int i]):vs = [.int i]:=by
 obtain ⟨v,rfl,z⟩:=h.one;cases z;rfl
theorem af.ints2 {T:iL} {N:gC} {k:aE} {n:Nat} {vs:List V} {i j:Int} (h:af T N k n vs [.int i,.int j]):vs = [.int i,.int j]:=by
 obtain ⟨v,w,rfl,z,z'⟩:=h.two;cases z;cases z';rfl
noncomputable def Bf.one:Bf -> Bool
 | _=>true
theorem EO {f:Bf} {xs:List D} {d:D} (hf:f.one = true) (h:qC f xs = ok d):∃ x,xs = [x]:=by
 cases xs with
 | nil=>cases f <;> cases h
 | cons x xs=>cases xs with
  | nil=>exact ⟨x,rfl⟩
  | cons y ys=>cases f <;> first | (cases hf;done) | (cases x <;> cases h)
theorem af.ofInts {T:iL} {N:gC} {k:aE}:∀ {ns:List Int} {n:Nat} {vs:List V},af T N k n vs (ns.map D.int) -> vs = ns.map V.int
 | [],_,_,h=>by cases h;rfl
 | i :: ns,_,_,h=>by
  cases h with
  | cons h t=>cases h;rw [af.ofInts t];rfl
theorem af.Ei {T:iL} {N:gC} {k:aE}:∀ {ns:List Bool} {n:Nat} {vs:List V},af T N k n vs (ns.map D.bl) -> vs = ns.map V.bl
 | [],_,_,h=>by cases h;rfl
 | i :: ns,_,_,h=>by
  cases h with
  | cons h t=>cases h;rw [af.Ei t];rfl
theorem iw {T:iL} {N:gC} {k:aE}:∀ (ns:List Int) {n:Nat},af T N k n (ns.map V.int) (ns.map D.int)
 | [],_=>.nil
 | i :: ns,_=>.cons (.int i) (iw ns)
theorem DF {f:Bf} {cs:List CE} {σ:St} {H:Hp} {Q:VK} (hq:tD X F Φ (.bf f cs) σ H Q):Ka (Vm X.K f) (qV X F Φ cs) σ H Q:=by
 obtain ⟨R,τ,ρ,d,Si,ev,hq⟩:=hq
 obtain ⟨xs,bP,ev⟩:=ae ev
 refine ⟨R,τ,ρ,xs,Si,bP,fun vs H1 e1 r1=>?_⟩
 obtain ⟨τt,fr,rs⟩:=r1
 cases f with
 | len =>
  obtain ⟨x,rfl⟩:=EO rfl ev
  obtain ⟨v,rfl,rv⟩:=rs.one
  cases x with
  | tup ds=>cases ev;cases rv with | tup h r=>exact ⟨_,_,rfl,.inr h,by rw [r.length];exact hq _ H1 e1 .int⟩
  | lst f ds=>cases ev;cases rv with | lst h r=>exact ⟨_,_,rfl,.inl h.sq,by rw [r.length];exact hq _ H1 e1 .int⟩
  | _=>cases ev
 | abs =>
  obtain ⟨x,rfl⟩:=EO rfl ev
  cases x with
  | int i=>cases ev;cases rs.ints1;exact ⟨_,rfl,hq _ H1 e1 .int⟩
  | _=>cases ev
 | zR =>
  obtain ⟨x,rfl⟩:=EO rfl ev
  obtain ⟨v,rfl,rv⟩:=rs.one
  cases x with
  | int i=>cases ev;cases rv;exact .inl ⟨_,rfl,hq _ H1 e1 .int⟩
  | bl i=>cases ev;cases rv;exact .inr ⟨_,rfl,hq _ H1 e1 .int⟩
  | _=>cases ev
 | list1 =>
  obtain ⟨x,rfl⟩:=EO rfl ev
  obtain ⟨v,rfl,rv⟩:=rs.one
  cases x with
  | tup ds =>
   cases ev
   cases rv with
   | tup h r =>
    refine ⟨_,_,rfl,.inr h,fun l hl=>?_⟩
    exact hq _ _ (e1.trans (aj.upd hl)) (bt.p3 (e1.free hl) (e1.trans (aj.upd hl)) aB ((r.eD Si fr).imp (fun _ _ h=>aA.same (aj.upd hl) h) fun _ _ _ _ h=>nd.same (aj.upd hl) h))
  | lst f ds =>
   cases ev
   cases rv with
   | lst h r =>
    refine ⟨_,_,rfl,.inl h.sq,fun l hl=>?_⟩
    exact hq _ _ (e1.trans (aj.upd hl)) (bt.p3 (e1.free hl) (e1.trans (aj.upd hl)) aB ((r.eD Si fr).imp (fun _ _ h=>aA.same (aj.upd hl) h) fun _ _ _ _ h=>nd.same (aj.upd hl) h))
  | _=>cases ev
 | tuple1 =>
  obtain ⟨x,rfl⟩:=EO rfl ev
  obtain ⟨v,rfl,rv⟩:=rs.one
  cases x with
  | tup ds =>
   cases ev
   cases rv with
   | tup h r =>
    exact ⟨_,_,rfl,.inr ⟨h,hq _ H1 e1 ⟨fun _=>none,fun _ _ h=>by simp at h,.tup h (r.eD Si fr)⟩⟩⟩
  | lst f ds =>
   cases ev
   cases rv with
   | lst h r =>
    refine ⟨_,_,rfl,.inl ⟨h.sq,fun l hl=>?_⟩⟩
    exact hq _ _ (e1.trans (aj.upd hl)) ⟨fun _=>none,fun _ _ h=>by simp at h,.tup (aA.of aB) ((r.eD Si fr).imp (fun _ _ h=>aA.same (aj.upd hl) h) fun _ _ _ _ h=>nd.same (aj.upd hl) h)⟩
  | _=>cases ev
 | j4 =>
  obtain ⟨x,rfl⟩:=EO rfl ev
  obtain ⟨v,rfl,rv⟩:=rs.one
  cases x with
  | lst f ds =>
   have ev:(match intsOf ds with | some ns=>ok (.int ns.sum) | none=>none) = ok d:=ev
   cases hn:intsOf ds with
   | none=>rw [hn] at ev;cases ev
   | some ns =>
    rw [hn] at ev
    cases ev
    cases dG hn
    cases rv with
    | lst h r=>cases r.ofInts;exact ⟨_,ns,rfl,h.sq,hq _ H1 e1 .int⟩
  | _=>cases ev
 | all1 =>
  obtain ⟨x,rfl⟩:=EO rfl ev
  obtain ⟨v,rfl,rv⟩:=rs.one
  cases x with
  | lst f ds =>
   have ev:(match hU ds with | some bs=>ok (.bl (bs.all id)) | none=>none) = ok d:=ev
   cases hn:hU ds with
   | none=>rw [hn] at ev;cases ev
   | some ns =>
    rw [hn] at ev
    cases ev
    cases sP hn
    cases rv with
    | lst h r=>cases r.Ei;exact ⟨_,ns,rfl,h.sq,hq _ H1 e1 .bl⟩
  | _=>cases ev
 | f_ =>
  obtain ⟨x,rfl⟩:=EO rfl ev
  obtain ⟨v,rfl,rv⟩:=rs.one
  have fin:∀ ds,oP ds = ok d -> ∃ ns:List Int,ds = ns.map D.int /\ ns.length < 64 /\ ∀ l,H1 l = none -> Q (.ref l) (upd H1 l (.lst ((sortI ns).map V.int))):=by
   intro ds e
   unfold oP at e
   split at e
   ·rename_i ns hn
    split at e
    ·rename_i o5
     cases e
     refine ⟨ns,dG hn,o5,fun l hl=>hq _ _ (e1.trans (aj.upd hl)) (bt.p3 (e1.free hl) (e1.trans (aj.upd hl)) aB (iw _))⟩
    ·cases e
   ·cases e
  cases x with
  | tup ds =>
   obtain ⟨ns,rfl,o5,q⟩:=fin ds ev
   cases rv with
   | tup h r=>cases r.ofInts;exact ⟨_,ns,rfl,.inr h,o5,q⟩
  | lst f ds =>
   obtain ⟨ns,rfl,o5,q⟩:=fin ds ev
   cases rv with
   | lst h r=>cases r.ofInts;exact ⟨_,ns,rfl,.inl h.sq,o5,q⟩
  | _=>cases ev
theorem Ko (L:Lk X S k Φ) {f:Bf} {cs:List CE} {y:Expr} {ys:List Expr} {p pos:Pos} (hg:gX S.sc (qB f:Str) = true) (hb:(qB f:Str) ∈ S.bl) (ha:PA X (y :: ys) (qV X F Φ cs))
  (o3:∀ es,starEach (y :: es) X.env = (false,eval y X.env) :: starEach es X.env) (hpl:∀ pos,(backTo pos (starEach ys X.env)).any (·.1) = false):PE X (.Call (.Name (qB f:Str) p) (y :: ys) [] pos) (tD X F Φ (.bf f cs)):=by
 refine PE.imp (t:=Ka (Vm X.K f) (qV X F Φ cs)) ?_ fun σ H Q hq=>DF hq
 cases f with
 | len=>exact d3 qA (L.gl hg) (L.bl _ hb) PySem.boot_len ha (he:=o3 _) (hpl:=hpl _)
 | abs=>exact d3 AK (L.gl hg) (L.bl _ hb) (by decide +kernel) ha (he:=o3 _) (hpl:=hpl _)
 | zR=>exact ka xS (L.gl hg) (L.bl _ hb) (by decide +kernel) ha (he:=o3 _) (hpl:=hpl _)
 | list1=>exact ka qz (L.gl hg) (L.bl _ hb) (by decide +kernel) ha (he:=o3 _) (hpl:=hpl _)
 | tuple1=>exact ka oA (L.gl hg) (L.bl _ hb) (by decide +kernel) ha (he:=o3 _) (hpl:=hpl _)
 | j4=>exact d3 (xR L.calm) (L.gl hg) (L.bl _ hb) (by decide +kernel) ha (he:=o3 _) (hpl:=hpl _)
 | f_=>exact d3 qy (L.gl hg) (L.bl _ hb) (by decide +kernel) ha (he:=o3 _) (hpl:=hpl _)
 | all1=>exact d3 (xT L.calm) (L.gl hg) (L.bl _ hb) (by decide +kernel) ha (he:=o3 _) (hpl:=hpl _)
theorem BS (L:Lk X S k Φ) {a:CE} {e:Expr} {p p' pos pos':Pos} (hf:gX S.sc ("len" : Str) = true) (Sj:("len" : Str) ∈ S.bl) (hg:gX S.sc ("set" : Str) = true) (Sf:("set" : Str) ∈ S.bl)
  (ha:PE X e (tD X F Φ a)) (o3:∀ es,starEach (e :: es) X.env = (false,eval e X.env) :: starEach es X.env):PE X (.Call (.Name ("len" : Str) p) [.Call (.Name ("set" : Str) p') [e] [] pos'] [] pos) (tD X F Φ (.kc a)):=by
 refine PE.imp (B7 L.calm (L.gl hf) (L.bl _ Sj) (L.gl hg) (L.bl _ Sf) (dQ ha gN (o3 _)) o3) fun σ H Q hq=>?_
 obtain ⟨R,τ,ρ,d,Si,ev,hq⟩:=hq
 obtain ⟨x,ex,ev⟩:=ae ev
 refine tD.intro Si ex fun v H1 e1 r1=>?_
 obtain ⟨τ1,f1,rv⟩:=r1
 cases x with
 | tup ds =>
  simp only [vo] at ev
  split at ev
  ·rename_i ns hn
   split at ev
   ·rename_i hl
    cases ev
    cases dG hn
    cases rv with
    | tup h r=>cases r.ofInts;exact ⟨_,ns,rfl,h,hl,hq _ H1 e1 .int⟩
   ·cases ev
  ·cases ev
 | _=>cases ev
theorem FD {a:CE} {e:Expr} {pos:Pos} (h:PE X e (tD X F Φ a)):PE X (.UnaryOp .Not e pos) (tD X F Φ (.not a)):=by
 refine PE.imp (Ge h) fun σ H Q hq=>?_
 obtain ⟨R,τ,ρ,d,Si,ev,hq⟩:=hq
 obtain ⟨b,eb,ev⟩:=ae ev
 obtain ⟨x,ex,eb⟩:=ae eb
 cases ev
 refine tD.intro Si ex fun v H1 e1 r1=>?_
 cases x <;> simp [fZ] at eb
 cases eb
 exact ⟨_,r1.xj,hq _ H1 e1 .bl⟩
theorem Fp {a:CE} {e:Expr} {pos:Pos} (h:PT X e (fL X F Φ a)):PT X (.UnaryOp .Not e pos) (fL X F Φ (.not a)):=by
 refine PT.imp (FV h) fun σ H Q hq=>?_
 obtain ⟨R,τ,ρ,b,Si,ev,hq⟩:=hq
 unfold sZ at ev
 obtain ⟨d,ed,ev⟩:=ae ev
 obtain ⟨c,ec,ed⟩:=ae ed
 cases ed
 have Tu:b = !c:=by
  have e2:ok (!c) = ok b:=ev
  exact (Except.ok.inj (Option.some.inj e2)).symm
 subst Tu
 exact ⟨R,τ,ρ,c,Si,ec,fun H' e=>hq H' e⟩
theorem FG {c a b:CE} {t x y:Expr} {pos:Pos} (hc:PT X t (fL X F Φ c)) (ha:PE X x (tD X F Φ a)) (hb:PE X y (tD X F Φ b)):PE X (.IfExp t x y pos) (tD X F Φ (.ite c a b)):=by
 refine PE.imp (y_ hc ha hb) fun σ H Q hq=>?_
 obtain ⟨R,τ,ρ,d,Si,ev,hq⟩:=hq
 obtain ⟨w,ew,ev⟩:=ae ev
 refine ⟨R,τ,ρ,w,Si,ew,fun H1 e1=>?_⟩
 cases w with
 | true=>exact tD.intro (Si.go e1) ev fun v H' e r=>hq v H' (e1.trans e) ((r.old e1).mono fun i hi=>by simp [fM,hi])
 | false=>exact tD.intro (Si.go e1) ev fun v H' e r=>hq v H' (e1.trans e) ((r.old e1).mono fun i hi=>by simp [fM,hi])
theorem Fq {c a b:CE} {t x y:Expr} {pos:Pos} (hc:PT X t (fL X F Φ c)) (ha:PT X x (fL X F Φ a)) (hb:PT X y (fL X F Φ b)):PT X (.IfExp t x y pos) (fL X F Φ (.ite c a b)):=by
 intro pins s σ H Q I hq
 obtain ⟨R,τ,ρ,d,Si,ev,hq⟩:=hq
 unfold sZ at ev
 obtain ⟨x',MB,et⟩:=ae ev
 obtain ⟨w,ew,ev⟩:=ae MB
 refine isTrue_IfExp (cI (hc pins s σ H (fun w' H1=>w' = w /\ aj H H1) I ⟨R,τ,ρ,w,Si,ew,fun H1 e1=>⟨rfl,e1⟩⟩) fun w' s1 ⟨H1,I1,hw,e1⟩=>?_)
 subst hw
 cases w' with
 | true=>exact ha pins s1 σ H1 Q I1 ⟨R,τ,ρ,d,Si.go e1,by unfold sZ;rw [show aL Φ a ρ = ok x' from ev];exact et,fun H' e=>hq H' (e1.trans e)⟩
 | false=>exact hb pins s1 σ H1 Q I1 ⟨R,τ,ρ,d,Si.go e1,by unfold sZ;rw [show aL Φ b ρ = ok x' from ev];exact et,fun H' e=>hq H' (e1.trans e)⟩
theorem FE {a:CE} {e:Expr} {pos:Pos} (h:PE X e (tD X F Φ a)):PE X (.UnaryOp .USub e pos) (tD X F Φ (.neg a)):=by
 refine PE.imp (KS Ff h) fun σ H Q hq=>?_
 obtain ⟨R,τ,ρ,d,Si,ev,hq⟩:=hq
 obtain ⟨x,ex,ev⟩:=ae ev
 refine tD.intro Si ex fun v H1 e1 r1=>?_
 cases x <;> simp [Co] at ev
 cases ev
 exact ⟨_,r1.isInt,hq _ H1 e1 .int⟩
theorem DG {c:CE} {σ:St} {H:Hp} {Q:VK} (hq:tD X F Φ (.and [c]) σ H Q):tD X F Φ c σ H Q:=by
 obtain ⟨R,τ,ρ,d,Si,ev,hq⟩:=hq
 obtain ⟨b,eb,ev⟩:=ae ev
 obtain ⟨x,ex,eb⟩:=ae eb
 cases ev
 refine tD.intro Si ex fun v H1 e1 r1=>?_
 cases x <;> simp [fZ] at eb
 cases eb
 rw [r1.xj];exact hq _ H1 e1 .bl
theorem Gr {c:CE} {σ:St} {H:Hp} {Q:VK} (hq:tD X F Φ (.or [c]) σ H Q):tD X F Φ c σ H Q:=by
 obtain ⟨R,τ,ρ,d,Si,ev,hq⟩:=hq
 obtain ⟨b,eb,ev⟩:=ae ev
 obtain ⟨x,ex,eb⟩:=ae eb
 cases ev
 refine tD.intro Si ex fun v H1 e1 r1=>?_
 cases x <;> simp [fZ] at eb
 cases eb
 rw [r1.xj];exact hq _ H1 e1 .bl
theorem AS {c:CE} {σ:St} {H:Hp} {Q:Bool -> Hp -> Prop} (hq:fL X F Φ (.and [c]) σ H Q):fL X F Φ c σ H Q:=by
 obtain ⟨R,τ,ρ,d,Si,ev,hq⟩:=hq
 unfold sZ at ev
 obtain ⟨b,eb,ev⟩:=ae ev
 obtain ⟨x,ex,eb⟩:=ae eb
 cases eb;cases ev
 exact ⟨R,τ,ρ,_,Si,ex,hq⟩
theorem Cb {c:CE} {σ:St} {H:Hp} {Q:Bool -> Hp -> Prop} (hq:fL X F Φ (.or [c]) σ H Q):fL X F Φ c σ H Q:=by
 obtain ⟨R,τ,ρ,d,Si,ev,hq⟩:=hq
 unfold sZ at ev
 obtain ⟨b,eb,ev⟩:=ae ev
 obtain ⟨x,ex,eb⟩:=ae eb
 cases eb;cases ev
 exact ⟨R,τ,ρ,_,Si,ex,hq⟩
theorem AU {c c':CE} {cs:List CE} {σ:St} {H:Hp} {Q:VK} (hq:tD X F Φ (.and (c :: c' :: cs)) σ H Q):D5 (tD X F Φ c) (tD X F Φ (.and (c' :: cs))) σ H Q:=by
 obtain ⟨R,τ,ρ,d,Si,ev,hq⟩:=hq
 obtain ⟨b,eb,ev⟩:=ae ev
 obtain ⟨x,ex,eb⟩:=ae eb
 refine tD.intro Si ex fun v H1 e1 r1=>?_
 cases x <;> simp [fZ] at eb
 cases eb
 refine ⟨_,r1.xj,?_⟩
 cases b with
 | true =>
  rw [if_pos rfl] at ev ⊢
  exact tD.intro (Si.go e1) ev fun v H' e r=>hq v H' (e1.trans e) ((r.old e1).mono fun i hi=>List.mem_append_right _ hi)
 | false =>
  rw [if_neg (by simp)] at ev ⊢
  cases ev
  exact hq _ H1 e1 .bl
theorem Cc {c c':CE} {cs:List CE} {σ:St} {H:Hp} {Q:VK} (hq:tD X F Φ (.or (c :: c' :: cs)) σ H Q):J5 (tD X F Φ c) (tD X F Φ (.or (c' :: cs))) σ H Q:=by
 obtain ⟨R,τ,ρ,d,Si,ev,hq⟩:=hq
 obtain ⟨b,eb,ev⟩:=ae ev
 obtain ⟨x,ex,eb⟩:=ae eb
 refine tD.intro Si ex fun v H1 e1 r1=>?_
 cases x <;> simp [fZ] at eb
 cases eb
 refine ⟨_,r1.xj,?_⟩
 cases b with
 | false =>
  rw [if_neg (by simp)] at ev ⊢
  exact tD.intro (Si.go e1) ev fun v H' e r=>hq v H' (e1.trans e) ((r.old e1).mono fun i hi=>List.mem_append_right _ hi)
 | true =>
  rw [if_pos rfl] at ev ⊢
  cases ev
  exact hq _ H1 e1 .bl
theorem xV {c c':CE} {cs:List CE} {σ:St} {H:Hp} {Q:Bool -> Hp -> Prop} (hq:fL X F Φ (.and (c :: c' :: cs)) σ H Q):Kb (fL X F Φ c) (fL X F Φ (.and (c' :: cs))) σ H Q:=by
 obtain ⟨R,τ,ρ,d,Si,ev,hq⟩:=hq
 unfold sZ at ev
 obtain ⟨x,ex,et⟩:=ae ev
 obtain ⟨b,eb,ev⟩:=ae ex
 refine ⟨R,τ,ρ,b,Si,eb,fun H1 e1=>?_⟩
 cases b with
 | true =>
  rw [if_pos rfl] at ev ⊢
  exact ⟨R,τ,ρ,d,Si.go e1,by unfold sZ;rw [show aL Φ (.and (c' :: cs)) ρ = ok x from ev];exact et,fun H' e=>hq H' (e1.trans e)⟩
 | false =>
  rw [if_neg (by simp)] at ev ⊢
  cases ev;cases et
  exact hq H1 e1
theorem zd {c c':CE} {cs:List CE} {σ:St} {H:Hp} {Q:Bool -> Hp -> Prop} (hq:fL X F Φ (.or (c :: c' :: cs)) σ H Q):Vi (fL X F Φ c) (fL X F Φ (.or (c' :: cs))) σ H Q:=by
 obtain ⟨R,τ,ρ,d,Si,ev,hq⟩:=hq
 unfold sZ at ev
 obtain ⟨x,ex,et⟩:=ae ev
 obtain ⟨b,eb,ev⟩:=ae ex
 refine ⟨R,τ,ρ,b,Si,eb,fun H1 e1=>?_⟩
 cases b with
 | false =>
  rw [if_neg (by simp)] at ev ⊢
  exact ⟨R,τ,ρ,d,Si.go e1,by unfold sZ;rw [show aL Φ (.or (c' :: cs)) ρ = ok x from ev];exact et,fun H' e=>hq H' (e1.trans e)⟩
 | true =>
  rw [if_pos rfl] at ev ⊢
  cases ev;cases et
  exact hq H1 e1
theorem js {σ:St} {H:Hp} {Q:List V -> Hp -> Prop} (hq:qV X F Φ [] σ H Q):J7 σ H Q:=by
 obtain ⟨R,τ,ρ,d,Si,ev,hq⟩:=hq
 cases ev
 exact hq _ H (aj.refl H) .nil
theorem fO {c:CE} {cs:List CE} {σ:St} {H:Hp} {Q:List V -> Hp -> Prop} (hq:qV X F Φ (c :: cs) σ H Q):D4 (tD X F Φ c) (qV X F Φ cs) σ H Q:=by
 obtain ⟨R,τ,ρ,d,Si,ev,hq⟩:=hq
 obtain ⟨x,ex,ev⟩:=ae ev
 obtain ⟨xs,bP,ev⟩:=ae ev
 cases ev
 refine tD.intro Si ex fun v H1 e1 r1=>⟨R,τ,ρ,xs,Si.go e1,bP,fun vs H2 e2 r2=>hq _ H2 (e1.trans e2) (bU.cons e1 e2 (r1.mono fun i hi=>List.mem_append_left _ hi) (r2.mono fun i hi=>List.mem_append_right _ hi))⟩
theorem bY {c:CE} {e:Expr} (h:bO S c e = true) (es:List Expr) (env:Env):starEach (e :: es) env = (false,eval e env) :: starEach es env:=by
 cases e <;> first | rfl | (cases c <;> exact (Bool.false_ne_true h).elim)
theorem uB:∀ {cs:List CE} {es:List Expr},bE S cs es = true -> ∀ (pos:Pos) (env:Env),(backTo pos (starEach es env)).any (·.1) = false
 | [],[],_,_,_=>rfl
 | [],_ :: _,h,_,_=>by exact (Bool.false_ne_true h).elim
 | _ :: _,[],h,_,_=>by exact (Bool.false_ne_true h).elim
 | c :: cs,e :: es,h,pos,env=>by
  replace h:=ak h
  rw [bY h.1]
  have:=uB h.2 pos env
  unfold backTo at this ⊢
  simp only [List.map_cons,List.any_cons,Bool.false_or]
  exact this
theorem pf {c:CE} {e:Expr} (h:bO S c e = true):lN e:=by
 intro o i
 cases e <;> first | rfl | (cases c <;> exact (Bool.false_ne_true h).elim)
theorem yD {j:Nat} {pos:Pos}:PE X (.Constant .none j pos) (tD X F Φ .bC):=PE.imp Gf fun σ H Q ⟨R,τ,ρ,d,Si,ev,hq⟩=>by cases ev;exact hq _ H (aj.refl H) .bC
theorem Ea {b:Bool} {j:Nat} {pos:Pos}:PE X (.Constant (.bool b) j pos) (tD X F Φ (.bl b)):=PE.imp KY fun σ H Q ⟨R,τ,ρ,d,Si,ev,hq⟩=>by cases ev;exact hq _ H (aj.refl H) .bl
theorem yE {i:Int} {j:Nat} {pos:Pos}:PE X (.Constant (.int i) j pos) (tD X F Φ (.int i)):=PE.imp Gh fun σ H Q ⟨R,τ,ρ,d,Si,ev,hq⟩=>by cases ev;exact hq _ H (aj.refl H) .int
theorem G6 (L:Lk X S k Φ) {es:List CE} {y target:Expr} {caps:List Nat} {p G_:Pos} (g1:gX S.sc ("range" : Str) = true) (g2:("range" : Str) ∈ S.bl) (pa:PA X [y] (qV X F Φ es)) (xq:bE S es [y] = true)
  (pins:List (Addr × Obj)) (s:Shared) (σ:St) (H:Hp) (R:Addr -> Prop) (τ:Addr -> Option aE) (ρ:au) (xs items:List D) (I:Inv X pins σ H s) (Si:SI X F R τ ρ σ H) (bP:cD Φ es ρ = ok xs) (um:dF Φ .ji xs = ok items) (Rr:It -> Hp -> Prop)
  (hR:∀ J H2,aj H H2 -> Yl X.K J (j8 X F τ (caps ++ dk es) H2) H2 items -> Rr J H2) :
  wpAny (model X.prog X.w) X.A (eval (.Call (.Name ("range" : Str) p) [y] [] G_) X.env) (fun v s1=>wpAny (model X.prog X.w) X.A (pyIter v) (AY X pins σ target Rr) X.xe s1) X.xe s:=by
 match es,xq with
 | [c],xq =>
  replace xq:=ak xq
  refine oV (L.gl g1) (L.bl _ g2) pa (bY xq.1 _ _) pins s σ H Rr I ⟨R,τ,ρ,xs,Si,bP,fun vs H1 e1 rv=>?_⟩
  obtain ⟨τt,fr,rs⟩:=rv
  obtain ⟨n,rfl⟩:∃ n,xs = [.int n]:=by
   cases xs with
   | nil=>cases um
   | cons x t=>cases x <;> first | (cases um;done) | (cases t with | nil=>exact ⟨_,rfl⟩ | cons _ _=>cases um)
  cases rs.ints1
  ·obtain ⟨⟨c1,c2⟩,um⟩:=nM um
   subst um
   have mL:(dU:Int) = 1000000:=rfl
   refine ⟨n,rfl,by omega,by omega,hR _ H1 e1 ?_⟩
   have:=EZ (X:=X) (lo:=0) (n:=n.toNat) (R:=j8 X F τ (caps ++ dk [c]) H1) (H1:=H1)
   simpa using this
 | [],xq=>exact (Bool.false_ne_true xq).elim
 | _ :: _ :: _,xq=>exact (Bool.false_ne_true (ak xq).2).elim
theorem G5 (L:Lk X S k Φ) {c:CE} {y target:Expr} {caps:List Nat} (pe:PE X y (tD X F Φ c))
  (pins:List (Addr × Obj)) (s:Shared) (σ:St) (H:Hp) (R:Addr -> Prop) (τ:Addr -> Option aE) (ρ:au) (xs items:List D) (I:Inv X pins σ H s) (Si:SI X F R τ ρ σ H) (bP:cD Φ [c] ρ = ok xs) (um:dF Φ .seq xs = ok items) (Rr:It -> Hp -> Prop)
  (hR:∀ J H2,aj H H2 -> Yl X.K J (j8 X F τ (caps ++ dk [c]) H2) H2 items -> Rr J H2) :
  wpAny (model X.prog X.w) X.A (eval y X.env) (fun v s1=>wpAny (model X.prog X.w) X.A (pyIter v) (AY X pins σ target Rr) X.xe s1) X.xe s:=by
 obtain ⟨x,ex,bP⟩:=ae bP
 obtain ⟨xs',Tr,bP⟩:=ae bP
 cases Tr
 cases bP
 have VX:∀ i ∈ fM c,i ∈ caps ++ dk [c]:=fun i hi=>List.mem_append_right _ (List.mem_append_left _ hi)
 cases x with
 | tup ds =>
  cases um
  refine yS pe pins s σ H Rr I (tD.intro Si ex fun v H1 e1 rv=>?_)
  obtain ⟨τt,fr,rp⟩:=rv
  cases rp with
  | @tup _ p ys _ hp rs=>exact ⟨p,rfl,⟨ys,hp⟩,hR _ H1 e1 (EY (q:=[]) hp (af.gS (fun _ _ h=>h) (tI Si fr VX) rs _ _))⟩
 | lst f ds =>
  cases um
  refine vb pe pins s σ H Rr I (tD.intro Si ex fun v H1 e1 rv=>?_)
  obtain ⟨τt,fr,rp⟩:=rv
  cases rp with
  | @lst _ p ys _ _ hp rs=>exact ⟨p,rfl,⟨ys,hp.sq⟩,hR _ H1 e1 (Bk (q:=[]) hp.sq (af.gS (fun _ _ h=>h) (tI Si fr VX) rs _ _))⟩
 | _=>cases um
theorem JM {fv fv':List Nat} {R:Addr -> Prop} {τ:Addr -> Option aE} {ρ:au} {σ:St} {H H2:Hp} {vs:List V} {xs items:List D} {J:It} (Si:SI X F R τ ρ σ H) (hs:∀ i ∈ fv,i ∈ fv') (r:bU X.K (gP X F) R τ fv H H2 vs xs) (y:JG X.K J H2 vs xs items) :
  Yl X.K J (j8 X F τ fv' H2) H2 items:=by
 obtain ⟨τt,fr,rs⟩:=r
 have at':∀ H',aj H2 H' -> af (aA X.K H') (nd X.K (j8 X F τ fv' H2) (fun _=>False) (fun _=>none) H') [] 0 vs (ag aK xs):=fun H' e =>
  (af.gS (T':=aA X.K H2) (fun _ _ h=>h) (tI Si fr hs) rs [] 0).imp (fun _ _ h=>aA.same e h) fun _ _ _ _ h=>nd.same e h
 have st:∀ H',aj H2 H' -> pA X.K H2 vs xs H':=fun H' e=>⟨⟨_,at' H2 (aj.refl H2),fun p o _ h=>e p o h⟩,fun _ _ h=>aA.same e h⟩
 exact ⟨fun i H' e hi=>y.go i H' _ (st H' e) (at' H' e) hi,fun i H' x lj e hi hy=>y.sW i H' _ x lj (st H' e) (at' H' e) hi hy,fun i H' e hi=>y.stop i H' _ (st H' e) (at' H' e) hi⟩
theorem G7 (L:Lk X S k Φ) {p:Nat} {es:List CE} {args:List Expr} {y target:Expr} {caps:List Nat} (hp:S.px.pi p S.sc S.bl y = some args) (ht:(decide (1100 <= p) || gg target) = true) (hs:kP X F Φ es args)
  (pins:List (Addr × Obj)) (s:Shared) (σ:St) (H:Hp) (R:Addr -> Prop) (τ:Addr -> Option aE) (ρ:au) (xs items:List D) (I:Inv X pins σ H s) (Si:SI X F R τ ρ σ H) (bP:cD Φ es ρ = ok xs) (um:dF Φ (.cj p) xs = ok items) (Rr:It -> Hp -> Prop)
  (hR:∀ J H2,aj H H2 -> Yl X.K J (j8 X F τ (caps ++ dk es) H2) H2 items -> Rr J H2) :
  wpAny (model X.prog X.w) X.A (eval y X.env) (fun v s1=>wpAny (model X.prog X.w) X.A (pyIter v) (AY X pins σ target Rr) X.xe s1) X.xe s:=by
 obtain ⟨d,ed,ei⟩:=ae (show bd (Φ p xs) nY = ok items from um)
 exact L.pr.i X _ _ k L.pX p y args hp F es target ht hs pins s σ H R τ ρ xs d items I Si bP ed ei Rr fun J H2 vs e2 r yz=>hR J H2 e2 (JM Si (fun i hi=>by simp [hi]) r yz)
theorem sD {S':Sx} {aS:List CE} {ifs:List Expr} (h3:aS.length <= 1) (h4:bE S' aS ifs = true)
  (CV:∀ (X':Cx) (F':Addr -> Prop),Lk X' S' k Φ -> ∀ (j:Nat) (c:CE) (e:Expr),aS[j]? = some c -> ifs[j]? = some e -> PE X' e (tD X' F' Φ c) /\ PT X' e (fL X' F' Φ c)) :
  (aS = [] /\ ifs = []) \/ ∃ c e,aS = [c] /\ ifs = [e] /\ ∀ (X':Cx) (F':Addr -> Prop),Lk X' S' k Φ -> PT X' e (fL X' F' Φ c):=by
 cases aS with
 | nil=>cases ifs with
  | nil=>exact .inl ⟨rfl,rfl⟩
  | cons _ _=>exact (Bool.false_ne_true h4).elim
 | cons c cs=>cases cs with
  | cons _ _=>simp at h3
  | nil=>cases ifs with
   | nil=>exact (Bool.false_ne_true h4).elim
   | cons e ifs=>cases ifs with
    | cons _ _=>exact (Bool.false_ne_true (ak h4).2).elim
    | nil=>exact .inr ⟨c,e,rfl,rfl,fun X' F' L'=>(CV X' F' L' 0 c e rfl rfl).2⟩
noncomputable def ML (S:Sx) (ik:IK) (es:List CE) (target iter:Expr):Bool:=match ik with
 | .ji=>aO (eC iter) fun w=>decide (w.1 = ("range" : Str)) && gX S.sc w.1 && decide (w.1 ∈ S.bl) && aO (one w.2) fun y=>bE S es [y]
 | .seq=>bE S es [iter]
 | .cj p=>NN iter && (decide (1100 <= p) || gg target) && aO (S.px.pi p S.sc S.bl iter) fun xs=>bE S es xs
theorem zL (L:Lk X S k Φ) {ik:IK} {es:List CE} {target iter:Expr} {caps:List Nat} (xq:∀ l,bE S es l = true -> PA X l (qV X F Φ es))
  (CV:∀ l,bE S es l = true -> ∀ (j:Nat) (c:CE) (e:Expr),es[j]? = some c -> l[j]? = some e -> PE X e (tD X F Φ c) /\ PT X e (fL X F Φ c)) (YV:∀ l,bE S es l = true -> kP X F Φ es l) (h6:ML S ik es target iter = true) :
  ∀ (pins:List (Addr × Obj)) (s:Shared) (σ:St) (H:Hp) (R:Addr -> Prop) (τ:Addr -> Option aE) (ρ:au) (xs items:List D),Inv X pins σ H s -> SI X F R τ ρ σ H -> cD Φ es ρ = ok xs -> dF Φ ik xs = ok items -> ∀ (Rr:It -> Hp -> Prop),
   (∀ J H2,aj H H2 -> Yl X.K J (j8 X F τ (caps ++ dk es) H2) H2 items -> Rr J H2) ->
   wpAny (model X.prog X.w) X.A (eval iter X.env) (fun v s1=>wpAny (model X.prog X.w) X.A (pyIter v) (AY X pins σ target Rr) X.xe s1) X.xe s:=by
 cases ik with
 | ji =>
  obtain ⟨⟨x,as⟩,hv,h6⟩:=aP h6
  obtain ⟨p,G_,rfl⟩:=cY hv
  obtain ⟨HA,g3⟩:=ak h6
  obtain ⟨Hz,g2⟩:=ak HA
  obtain ⟨Hy,g1⟩:=ak Hz
  obtain rfl:x = _:=of_decide_eq_true Hy
  obtain ⟨y,hu,C4⟩:=aP g3
  obtain rfl:as = [y]:=cB hu
  exact G6 L g1 (of_decide_eq_true g2) (xq _ C4) C4
 | seq =>
  have RY:=CV _ h6
  cases es with
  | nil=>exact (Bool.false_ne_true h6).elim
  | cons c cs=>cases cs with
   | cons _ _=>exact (Bool.false_ne_true (ak h6).2).elim
   | nil=>exact G5 L (RY 0 c _ rfl rfl).1
 | cj p =>
  obtain ⟨h6,g3⟩:=ak h6
  obtain ⟨xs,ha,C4⟩:=aP g3
  exact G7 L ha (ak h6).2 (YV _ C4)
mutual
theorem aH:∀ (c:CE) (X:Cx) (S:Sx) (F:Addr -> Prop) (L:Lk X S k Φ) (e:Expr),bO S c e = true -> PE X e (tD X F Φ c) /\ PT X e (fL X F Φ c)
 | .cj p cs,X,S,F,L,e,h=>by
  obtain ⟨args,ha,hb⟩:=aP (ak h).2
  exact L.pr.e X _ _ k L.pX p e args ha F cs (ir cs X S F L args hb)
 | .bC,X,S,F,L,e,h=>by
  obtain ⟨c,hv,gi⟩:=aP h
  obtain ⟨j,p,rfl⟩:=yf hv
  obtain rfl:=xg gi
  exact ⟨yD,cg yD fun _=>rfl⟩
 | .bl b,X,S,F,L,e,h=>by
  obtain ⟨c,hv,gi⟩:=aP h
  obtain ⟨j,p,rfl⟩:=yf hv
  obtain rfl:=zP gi
  exact ⟨Ea,cg Ea fun _=>rfl⟩
 | .int i,X,S,F,L,e,h=>by
  obtain ⟨c,hv,gi⟩:=aP h
  obtain ⟨j,p,rfl⟩:=yf hv
  obtain rfl:=xh gi
  exact ⟨yE,cg yE fun _=>rfl⟩
 | .v i,X,S,F,L,e,h=>by
  obtain ⟨x,hv,h'⟩:=aP h
  obtain ⟨p,rfl⟩:=j3 hv
  have:=Pp (F:=F) L h
  exact ⟨this,cg this fun _=>rfl⟩
 | .glo x i,X,S,F,L,e,h=>by
  obtain ⟨y,hv,gi⟩:=aP h
  obtain ⟨pos,rfl⟩:=j3 hv
  obtain ⟨kg,h3⟩:=ak gi
  obtain ⟨n_,h2⟩:=ak kg
  obtain ⟨Ag,h1⟩:=ak n_
  obtain rfl:=of_decide_eq_true Ag
  obtain ⟨u,hm,r⟩:=L.cs _ _ (of_decide_eq_true h2)
  have this:PE X (.Name y pos) (tD X F Φ (.glo y i)):=PE.imp (vf (v:=.int i) (L.gl h1) hm r (mm h3)) fun σ H Q ⟨R,τ,ρ,d,Si,ev,hq⟩=>by cases ev;exact hq _ H (aj.refl H) .int
  exact ⟨this,cg this fun _=>rfl⟩
 | .glt x zs,X,S,F,L,e,h=>by
  obtain ⟨y,hv,gi⟩:=aP h
  obtain ⟨pos,rfl⟩:=j3 hv
  obtain ⟨kg,h3⟩:=ak gi
  obtain ⟨n_,h2⟩:=ak kg
  obtain ⟨Ag,h1⟩:=ak n_
  obtain rfl:=of_decide_eq_true Ag
  obtain ⟨u,hm,a,o,ai,n,rfl,q1,q2,q3,q4,q5⟩:=L.cs _ _ (of_decide_eq_true h2)
  have this:PE X (.Name y pos) (tD X F Φ (.glt y zs)):=PE.imp (vf (v:=.ref a) (L.gl h1) hm rfl (mm h3)) fun σ H Q ⟨R,τ,ρ,d,Si,ev,hq⟩=>by
   cases ev
   exact hq _ H (aj.refl H) ⟨fun _=>none,fun _ _ h=>by simp at h,.tup (.inr ⟨o,ai,n,q1,q2,q3,q4,q5⟩) (iw zs)⟩
  exact ⟨this,cg this fun _=>rfl⟩
 | .bin op a b,X,S,F,L,e,h=>by
  obtain ⟨⟨l,o,r⟩,hv,gi⟩:=aP h
  obtain ⟨pos,rfl⟩:=Bw hv
  obtain ⟨kg,h2⟩:=ak gi
  obtain ⟨n_,h1⟩:=ak kg
  obtain rfl:o = K6 op:=of_decide_eq_true n_
  have:=FI (F:=F) (pos:=pos) L (op:=op) (aH a X S F L _ h1).1 (aH b X S F L _ h2).1
  exact ⟨this,cg this fun _=>rfl⟩
 | .neg a,X,S,F,L,e,h=>by
  obtain ⟨⟨o,x⟩,hv,gi⟩:=aP h
  obtain ⟨pos,rfl⟩:=yd hv
  obtain ⟨kg,h1⟩:=ak gi
  obtain rfl:o = .USub:=of_decide_eq_true kg
  have:=FE (F:=F) (Φ:=Φ) (pos:=pos) (aH a X S F L _ h1).1
  exact ⟨this,cg this fun _=>rfl⟩
 | .not a,X,S,F,L,e,h=>by
  obtain ⟨⟨o,x⟩,hv,gi⟩:=aP h
  obtain ⟨pos,rfl⟩:=yd hv
  obtain ⟨kg,h1⟩:=ak gi
  obtain rfl:o = .Not:=of_decide_eq_true kg
  exact ⟨FD (aH a X S F L _ h1).1,Fp (aH a X S F L _ h1).2⟩
 | .and cs,X,S,F,L,e,h=>by
  obtain ⟨⟨o,vs⟩,hv,gi⟩:=aP h
  obtain ⟨pos,rfl⟩:=qQ hv
  obtain ⟨kg,h1⟩:=ak gi
  obtain rfl:o = .And:=of_decide_eq_true kg
  exact ⟨(j6 cs X S F L vs h1 pos).1,(j6 cs X S F L vs h1 pos).2.pt⟩
 | .or cs,X,S,F,L,e,h=>by
  obtain ⟨⟨o,vs⟩,hv,gi⟩:=aP h
  obtain ⟨pos,rfl⟩:=qQ hv
  obtain ⟨kg,h1⟩:=ak gi
  obtain rfl:o = .Or:=of_decide_eq_true kg
  exact ⟨(lX cs X S F L vs h1 pos).1,(lX cs X S F L vs h1 pos).2.pt⟩
 | .ite c a b,X,S,F,L,e,h=>by
  obtain ⟨⟨t,x,y⟩,hv,gi⟩:=aP h
  obtain ⟨pos,rfl⟩:=Fe hv
  obtain ⟨kg,h2⟩:=ak gi
  obtain ⟨h0,h1⟩:=ak kg
  exact ⟨FG (aH c X S F L _ h0).2 (aH a X S F L _ h1).1 (aH b X S F L _ h2).1,Fq (aH c X S F L _ h0).2 (aH a X S F L _ h1).2 (aH b X S F L _ h2).2⟩
 | .cmp op a b,X,S,F,L,e,h=>by
  obtain ⟨⟨l,os,rs⟩,hv,gi⟩:=aP h
  obtain ⟨pos,rfl⟩:=uJ hv
  obtain ⟨kg,h2⟩:=ak gi
  obtain ⟨n_,h1⟩:=ak kg
  obtain ⟨r,hr,SK⟩:=aP h2
  obtain ⟨Mr,h3⟩:=ak SK
  obtain rfl:os = [Qh op]:=of_decide_eq_true n_
  obtain rfl:rs = [r]:=cB hr
  exact ⟨PE.imp (vg (zf L op) (aH a X S F L _ h1).1 (aH b X S F L _ Mr).1 (zq h3)) fun _ _ _ n_=>sF n_,PT.imp (uX (zf L op) (aH a X S F L _ h1).1 (aH b X S F L _ Mr).1 (zq h3)) fun _ _ _ n_=>wI n_⟩
 | .lE a t,X,S,F,L,e,h=>by
  obtain ⟨⟨f,as⟩,hv,gi⟩:=aP h
  obtain ⟨p,pos,rfl⟩:=cY hv
  obtain ⟨kg,h5⟩:=ak gi
  obtain ⟨n_,h2⟩:=ak kg
  obtain ⟨Ag,h1⟩:=ak n_
  obtain rfl:f = _:=of_decide_eq_true Ag
  obtain ⟨⟨e,g⟩,hw,C1⟩:=aP h5
  obtain rfl:as = [e,g]:=gH hw
  obtain ⟨Mo,h6⟩:=ak C1
  obtain ⟨x,hn,HA⟩:=aP h6
  obtain ⟨p',rfl⟩:∃ p,g = .Name x p:=j3 hn
  obtain ⟨Hz,h4⟩:=ak HA
  obtain ⟨Hy,h3⟩:=ak Hz
  obtain rfl:=of_decide_eq_true Hy
  have:=FH (F:=F) (p:=p) (p':=p') (pos:=pos) L h1 (of_decide_eq_true h2) h3 (of_decide_eq_true h4) (aH a X S F L _ Mo).1 (fun es=>bY Mo es _)
  exact ⟨this,cg this fun _=>rfl⟩
 | .call f cs,X,S,F,L,e,h=>by
  obtain ⟨⟨x,as⟩,hv,gi⟩:=aP h
  obtain ⟨p,pos,rfl⟩:=cY hv
  obtain ⟨kg,h4⟩:=ak gi
  obtain ⟨n_,h3⟩:=ak kg
  obtain ⟨h1,h2⟩:=ak n_
  obtain ⟨⟨y,ys⟩,hu,qc⟩:=aP h4
  obtain rfl:as = y :: ys:=yg hu
  cases cs with
  | nil=>exact (Bool.false_ne_true qc).elim
  | cons c EL =>
   have Mp:=ak qc
   have:=BV (F:=F) (p:=p) (pos:=pos) L (of_decide_eq_true h1) h2 h3 (eO (c :: EL) X S F L (y :: ys) qc) (fun es=>bY Mp.1 es _) (fun pos=>uB Mp.2 pos _)
   exact ⟨this,cg this fun _=>rfl⟩
 | .bf f cs,X,S,F,L,e,h=>by
  obtain ⟨⟨x,as⟩,hv,gi⟩:=aP h
  obtain ⟨p,pos,rfl⟩:=cY hv
  obtain ⟨kg,h4⟩:=ak gi
  obtain ⟨n_,h3⟩:=ak kg
  obtain ⟨Ag,h2⟩:=ak n_
  obtain rfl:x = _:=of_decide_eq_true Ag
  obtain ⟨⟨y,ys⟩,hu,qc⟩:=aP h4
  obtain rfl:as = y :: ys:=yg hu
  cases cs with
  | nil=>exact (Bool.false_ne_true qc).elim
  | cons c EL =>
   have Mp:=ak qc
   have:=Ko (F:=F) (p:=p) (pos:=pos) L h2 (of_decide_eq_true h3) (eO (c :: EL) X S F L (y :: ys) qc) (fun es=>bY Mp.1 es _) (fun pos=>uB Mp.2 pos _)
   exact ⟨this,cg this fun _=>rfl⟩
 | .kc a,X,S,F,L,e,h=>by
  obtain ⟨⟨x,as⟩,hv,gi⟩:=aP h
  obtain ⟨p,pos,rfl⟩:=cY hv
  obtain ⟨kg,h4⟩:=ak gi
  obtain ⟨n_,h2⟩:=ak kg
  obtain ⟨Ag,h1⟩:=ak n_
  obtain rfl:x = _:=of_decide_eq_true Ag
  obtain ⟨y,hu,qc⟩:=aP h4
  obtain rfl:as = [y]:=cB hu
  obtain ⟨⟨z,bs⟩,hw,h4_3⟩:=aP qc
  obtain ⟨p',pos',rfl⟩:=cY hw
  obtain ⟨SH,h5⟩:=ak h4_3
  obtain ⟨SG,h6⟩:=ak SH
  obtain ⟨SF,h3⟩:=ak SG
  obtain rfl:z = _:=of_decide_eq_true SF
  obtain ⟨u,RO,C1⟩:=aP h5
  obtain rfl:bs = [u]:=cB RO
  have:=BS (F:=F) (p:=p) (p':=p') (pos:=pos) (pos':=pos') L h1 (of_decide_eq_true h2) h3 (of_decide_eq_true h6) (aH a X S F L _ C1).1 (fun es=>bY C1 es _)
  exact ⟨this,cg this fun _=>rfl⟩
 | .ix a b,X,S,F,L,e,h=>by
  obtain ⟨⟨l,r⟩,hv,gi⟩:=aP h
  obtain ⟨pos,rfl⟩:=fY hv
  obtain ⟨h1,h2⟩:=ak gi
  have:=Kn (F:=F) (pos:=pos) L (aH a X S F L _ h1).1 (aH b X S F L _ h2).1 (pf h2)
  exact ⟨this,cg this fun _=>rfl⟩
 | .tup cs,X,S,F,L,e,h=>by
  obtain ⟨es,hv,gi⟩:=aP h
  obtain ⟨n,pos,rfl⟩:=jn hv
  obtain ⟨h1,h2⟩:=ak gi
  have:=FC (F:=F) (n:=n) (pos:=pos) (eO cs X S F L es h1) (of_decide_eq_true h2)
  exact ⟨this,cg this fun _=>rfl⟩
 | .lst cs,X,S,F,L,e,h=>by
  obtain ⟨es,hv,gi⟩:=aP h
  obtain ⟨pos,rfl⟩:=Bq hv
  obtain ⟨h1,h2⟩:=ak gi
  have:=FF (F:=F) (pos:=pos) (eO cs X S F L es h1) (of_decide_eq_true h2)
  exact ⟨this,cg this fun _=>rfl⟩
 | .comp n t caps ik es aS elt,X,S,F,L,e,h=>by
  obtain ⟨⟨gA,gens,sc⟩,hv,gi⟩:=aP h
  obtain ⟨pos,rfl⟩:=ye hv
  obtain ⟨⟨target,iter,ifs,a⟩,hg,kg⟩:=aP gi
  obtain rfl:gens = _:=cB hg
  obtain ⟨n_,h6⟩:=ak kg
  obtain ⟨Ag,h5⟩:=ak n_
  obtain ⟨Zj,h4⟩:=ak Ag
  obtain ⟨Zi,h3⟩:=ak Zj
  obtain ⟨Zh,h2⟩:=ak Zi
  obtain ⟨Zg,h1⟩:=ak Zh
  obtain rfl:a = 0:=of_decide_eq_true Zg
  have CV:=fun (X':Cx) (F':Addr -> Prop) (L':Lk X' (S.inner target caps sc) k Φ)=>gJ aS X' _ F' L' ifs h4
  have this:PE X (.ListComp gA [⟨target,iter,ifs,0⟩] sc pos) (tD X F Φ (.comp n t caps ik es aS elt)) :=
   BU L (pd h1) h2 (fun X' F' L'=>(aH elt X' _ F' L' gA h5).1) (sD (of_decide_eq_true h3) h4 CV) (zL L (fun l=>eO es X S F L l) (fun l=>gJ es X S F L l) (fun l=>ir es X S F L l) h6)
  exact ⟨this,cg this fun _=>rfl⟩
theorem gJ:∀ (cs:List CE) (X:Cx) (S:Sx) (F:Addr -> Prop) (L:Lk X S k Φ) (es:List Expr),bE S cs es = true -> ∀ (j:Nat) (c:CE) (e:Expr),cs[j]? = some c -> es[j]? = some e -> PE X e (tD X F Φ c) /\ PT X e (fL X F Φ c)
 | [],X,S,F,L,_,_=>fun j c e h _=>by simp at h
 | _ :: _,X,S,F,L,[],h=>by exact (Bool.false_ne_true h).elim
 | c :: cs,X,S,F,L,e :: es,h=>fun j c' e' hc he=>by
  replace h:=ak h
  cases j with
  | zero=>simp at hc he;subst hc he;exact aH c X S F L e h.1
  | succ j=>exact gJ cs X S F L es h.2 j c' e' (by simpa using hc) (by simpa using he)
theorem ir:∀ (cs:List CE) (X:Cx) (S:Sx) (F:Addr -> Prop) (L:Lk X S k Φ) (es:List Expr),bE S cs es = true -> kP X F Φ cs es
 | [],X,S,F,L,[],_=>trivial
 | [],X,S,F,L,_ :: _,h=>by exact (Bool.false_ne_true h).elim
 | _ :: _,X,S,F,L,[],h=>by exact (Bool.false_ne_true h).elim
 | c :: cs,X,S,F,L,e :: es,h=>by
  replace h:=ak h
  exact ⟨(aH c X S F L e h.1).1,fun l=>bY h.1 l _,pf h.1,ir cs X S F L es h.2⟩
theorem eO:∀ (cs:List CE) (X:Cx) (S:Sx) (F:Addr -> Prop) (L:Lk X S k Φ) (es:List Expr),bE S cs es = true -> PA X es (qV X F Φ cs)
 | [],X,S,F,L,[],_=>PA.imp gN fun _ _ _ h=>js h
 | [],X,S,F,L,_ :: _,h=>by exact (Bool.false_ne_true h).elim
 | _ :: _,X,S,F,L,[],h=>by exact (Bool.false_ne_true h).elim
 | c :: cs,X,S,F,L,e :: es,h=>by
  replace h:=ak h
  exact PA.imp (dQ (aH c X S F L e h.1).1 (eO cs X S F L es h.2) (bY h.1 es _)) fun _ _ _ h=>fO h
theorem j6:∀ (cs:List CE) (X:Cx) (S:Sx) (F:Addr -> Prop) (L:Lk X S k Φ) (es:List Expr),bE S cs es = true -> ∀ pos,PE X (.BoolOp .And es pos) (tD X F Φ (.and cs)) /\ PW X (.BoolOp .And es pos) (fL X F Φ (.and cs))
 | [],X,S,F,L,_,_,pos=>⟨fun _ _ _ _ _ _ ⟨_,_,_,_,_,ev,_⟩=>(by cases ev),fun _ _ _ _ _ _ _ ⟨_,_,_,_,_,ev,_⟩=>by cases ev⟩
 | [c],X,S,F,L,[e],h,pos=>by
  replace h:=ak h
  exact ⟨PE.imp (yZ (aH c X S F L e h.1).1) fun _ _ _ h=>DG h,PW.imp (B4 (aH c X S F L e h.1).2) fun _ _ _ h=>AS h⟩
 | [_],X,S,F,L,[],h,_=>by exact (Bool.false_ne_true h).elim
 | [_],X,S,F,L,_ :: _ :: _,h,_=>by exact (Bool.false_ne_true (ak h).2).elim
 | _ :: _ :: _,X,S,F,L,[],h,_=>by exact (Bool.false_ne_true h).elim
 | _ :: _ :: _,X,S,F,L,[_],h,_=>by exact (Bool.false_ne_true (ak h).2).elim
 | c :: c' :: cs,X,S,F,L,e :: e' :: es,h,pos=>by
  replace h:=ak h
  have r:=j6 (c' :: cs) X S F L (e' :: es) h.2 pos
  exact ⟨PE.imp (Gi (aH c X S F L e h.1).1 r.1) fun _ _ _ h=>AU h,PW.imp (FR (aH c X S F L e h.1).2 r.2) fun _ _ _ h=>xV h⟩
theorem lX:∀ (cs:List CE) (X:Cx) (S:Sx) (F:Addr -> Prop) (L:Lk X S k Φ) (es:List Expr),bE S cs es = true -> ∀ pos,PE X (.BoolOp .Or es pos) (tD X F Φ (.or cs)) /\ PW X (.BoolOp .Or es pos) (fL X F Φ (.or cs))
 | [],X,S,F,L,_,_,pos=>⟨fun _ _ _ _ _ _ ⟨_,_,_,_,_,ev,_⟩=>(by cases ev),fun _ _ _ _ _ _ _ ⟨_,_,_,_,_,ev,_⟩=>by cases ev⟩
 | [c],X,S,F,L,[e],h,pos=>by
  replace h:=ak h
  exact ⟨PE.imp (yZ (aH c X S F L e h.1).1) fun _ _ _ h=>Gr h,PW.imp (FQ (aH c X S F L e h.1).2) fun _ _ _ h=>Cb h⟩
 | [_],X,S,F,L,[],h,_=>by exact (Bool.false_ne_true h).elim
 | [_],X,S,F,L,_ :: _ :: _,h,_=>by exact (Bool.false_ne_true (ak h).2).elim
 | _ :: _ :: _,X,S,F,L,[],h,_=>by exact (Bool.false_ne_true h).elim
 | _ :: _ :: _,X,S,F,L,[_],h,_=>by exact (Bool.false_ne_true (ak h).2).elim
 | c :: c' :: cs,X,S,F,L,e :: e' :: es,h,pos=>by
  replace h:=ak h
  have r:=lX (c' :: cs) X S F L (e' :: es) h.2 pos
  exact ⟨PE.imp (KU (aH c X S F L e h.1).1 r.1) fun _ _ _ h=>Cc h,PW.imp (KN (aH c X S F L e h.1).2 r.2) fun _ _ _ h=>zd h⟩
end
theorem gI (L:Lk X S k Φ) (c:CE) (e:Expr) (h:bO S c e = true):PE X e (tD X F Φ c) /\ PT X e (fL X F Φ c):=aH c X S F L e h
theorem lW (L:Lk X S k Φ) (cs:List CE) (es:List Expr) (h:bE S cs es = true):kP X F Φ cs es:=ir cs X S F L es h
theorem uQ (L:Lk X S k Φ) (cs:List CE) (es:List Expr) (h:bE S cs es = true):PA X es (qV X F Φ cs):=eO cs X S F L es h
end
end DI
end
section
namespace DI
open PySem PySem.Spec PyProof.Rows L2
section
variable {X:Cx} {S:Sx} {k:Nat} {F:Addr -> Prop} {Φ:az}
theorem pK (L:Lk X S k Φ) (c:CE) (e:Expr) (h:bO S c e = true):PE X e (tK X F Φ c):=by
 by_cases hv:∃ i,c = .v i
 ·obtain ⟨i,rfl⟩:=hv
  obtain ⟨x,hx,ha⟩:=aP h
  obtain ⟨p,rfl⟩:=j3 hx
  obtain ⟨hb,h3⟩:=ak ha
  obtain ⟨h1,h2⟩:=ak hb
  unfold mq at h3
  simp only [Bool.and_eq_true,Bool.not_eq_true'] at h3
  refine PE.imp (tO (i:=i) (by rw [L.N];exact of_decide_eq_true h1) (L.Np h2) h3.1.1 h3.1.2) fun σ H Q hq=>?_
  obtain ⟨R,τ,ρ,r,Si,ev,hq⟩:=hq
  simp only [iJ] at ev
  split at ev
  ·rename_i d hd
   split at ev
   ·cases ev
    obtain ⟨v,τ',hv,fW,rk⟩:=Si.move hd
    exact ⟨v,hv,hq v H R τ' (aj.refl H) (fun _ h=>h) fW rk⟩
   ·rename_i ho
    cases ev
    obtain ⟨v,hv,rp⟩:=Si.rep i d hd
    exact ⟨v,hv,hq v H R τ (aj.refl H) (fun _ h=>h) Si (xr rp (by simpa using ho))⟩
  ·cases ev
 ·refine PE.imp (gI (F:=F) L c e h).1 fun σ H Q hq=>?_
  obtain ⟨R,τ,ρ,r,Si,ev,hq⟩:=hq
  have Tu:bd (aL Φ c ρ) (fun d=>ok (keep c d ρ)) = ok r:=by
   cases c <;> first | exact ev | exact absurd ⟨_,rfl⟩ hv
  obtain ⟨d,ed,er⟩:=ae Tu
  cases er
  refine tD.intro Si ed fun v H' e' r'=>?_
  obtain ⟨R',τ',h1,h2,h3⟩:=En Si e' r'
  exact hq v H' R' τ' e' h1 h2 h3
end
structure Kp (R:Addr -> Prop) (H:Hp) (R':Addr -> Prop) (H':Hp):Prop where
 r:∀ p,R p -> R' p
 l:∀ p (o:HO),R p -> H p = some o -> H' p = some o
 t:∀ p xs,H p = some (.tup xs) -> H' p = some (.tup xs)
 z:∀ p o u,H p = some (.gZ o u) -> H' p = some (.gZ o u)
theorem Kp.refl (R:Addr -> Prop) (H:Hp):Kp R H R H:=⟨fun _ h=>h,fun _ _ _ h=>h,fun _ _ h=>h,fun _ _ _ h=>h⟩
theorem Kp.of {R R':Addr -> Prop} {H H':Hp} (e:aj H H') (h:∀ p,R p -> R' p):Kp R H R' H':=⟨h,fun p xs _ h=>e _ _ h,fun p xs h=>e _ _ h,fun p o u h=>e _ _ h⟩
theorem Kp.trans {R R1 R2:Addr -> Prop} {H H1 H2:Hp} (a:Kp R H R1 H1) (b:Kp R1 H1 R2 H2):Kp R H R2 H2 :=
 ⟨fun p h=>b.r p (a.r p h),fun p xs h e=>b.l p xs (a.r p h) (a.l p xs h e),fun p xs h=>b.t p xs (a.t p xs h),fun p o u h=>b.z p o u (a.z p o u h)⟩
theorem Kp.NA {K:PySem.W.Frag} {R R':Addr -> Prop} {H H':Hp} (a:Kp R H R' H') {p:Addr} {xs:List V} (h:aA K H p xs):aA K H' p xs:=by
 rcases h with (h | ⟨o,h⟩) | h
 ·exact .inl (.inl (a.t p xs h))
 ·exact .inl (.inr ⟨o,a.z p o _ h⟩)
 ·exact .inr h
theorem Kp.nd {K:PySem.W.Frag} {R R':Addr -> Prop} {H H':Hp} (a:Kp R H R' H') {q:aE} {p:Addr} {xs:Nd} {f:Fl} (h:DI.nd K R (fun _=>False) (fun _=>none) H q p xs f):DI.nd K R' (fun _=>False) (fun _=>none) H' q p xs f:=by
 cases f with
 | ow=>exact nomatch h.2
 | fz=>exact ⟨h.1.at fun o e=>a.l p o h.2 e,a.r p h.2⟩
 | al=>exact h.2.elim
 | sc =>
  obtain ⟨ys,rfl,h⟩:=h.yF
  exact h.elim (fun ⟨o,h⟩=>.inl ⟨o,a.z p o _ h⟩) .inr
theorem Kp.rep {K:PySem.W.Frag} {R R':Addr -> Prop} {H H':Hp} (a:Kp R H R' H') {k:aE} {v:V} {d:D} (h:Rep (aA K H) (DI.nd K R (fun _=>False) (fun _=>none) H) k v d):Rep (aA K H') (DI.nd K R' (fun _=>False) (fun _=>none) H') k v d :=
 h.imp (fun _ _ h=>a.NA h) fun _ _ _ _ h=>a.nd h
theorem Kp.Py {K:PySem.W.Frag} {R R':Addr -> Prop} {H H':Hp} (a:Kp R H R' H') {k:aE} {n:Nat} {v:List V} {d:List D} (h:af (aA K H) (DI.nd K R (fun _=>False) (fun _=>none) H) k n v d):af (aA K H') (DI.nd K R' (fun _=>False) (fun _=>none) H') k n v d :=
 h.imp (fun _ _ h=>a.NA h) fun _ _ _ _ h=>a.nd h
noncomputable def AX (X:Cx) (F:Addr -> Prop) (H':Hp) (v:V) (d:D):Prop:=∃ τt:Addr -> Option aE,(∀ p q,τt p = some q -> X.H₀ p = none) /\ Rep (aA X.K H') (nd X.K (gP X F) (fun _=>False) τt H') [] v d
theorem gB.ret {X:Cx} {F R:Addr -> Prop} {τ:Addr -> Option aE} {ρ:au} {σ:St} {H:Hp} {v:V} {d:D} (Si:SI X F R τ ρ σ H) (h:gB X R τ H v d):AX X F H v d:=by
 obtain ⟨τt,ht,rp⟩:=h
 exact ⟨τt,fun p q e=>(ht p q e).2.2.1,rp.imp (fun _ _ h=>h) fun _ _ _ _ h=>h.mono (fun h=>Si.rf _ h) id id⟩
noncomputable def kQ (X:Cx) (F:Addr -> Prop) (D:Ends) (R:Addr -> Prop) (H:Hp):Fo × au -> Prop
 | (.nx,ρ')=>∀ σ' H' R' τ',SI X F R' τ' ρ' σ' H' -> Kp R H R' H' -> D.nx σ' H'
 | (.bk,ρ')=>∀ σ' H' R' τ',SI X F R' τ' ρ' σ' H' -> Kp R H R' H' -> D.bk σ' H'
 | (.ct,ρ')=>∀ σ' H' R' τ',SI X F R' τ' ρ' σ' H' -> Kp R H R' H' -> D.ct σ' H'
 | (.rt d,_)=>∀ v H',aj X.H₀ H' -> AX X F H' v d -> D.rt v H'
noncomputable def qL (X:Cx) (F:Addr -> Prop) (Φ:az) (c:CS):TS:=fun D σ H=>∃ R τ ρ r,SI X F R τ ρ σ H /\ qk Φ c ρ = ok r /\ kQ X F D R H r
noncomputable def nS (X:Cx) (F:Addr -> Prop) (Φ:az) (cs:List CS):TS:=fun D σ H=>∃ R τ ρ r,SI X F R τ ρ σ H /\ bq Φ cs ρ = ok r /\ kQ X F D R H r
noncomputable def GR (sc:Scope) (x:Str):Bool:=decide (sc.names.lookup x = some .local) || decide (sc.names.lookup x = some .cell)
noncomputable def lg (S:Sx) (i:Nat):Expr -> Bool
 | .Name x _=>decide (S.N[i]? = some x) && GR S.sc x
 | _=>false
noncomputable def QY:Expr -> Bool
 | .Name x _=>mq x
 | _=>true
noncomputable def AG (S:Sx):List Nat -> List Expr -> Bool
 | [],es=>match es with
  | []=>true
  | _ :: _=>false
 | i :: is,es=>match es with
  | []=>false
  | e :: es=>lg S i e && AG S is es
noncomputable def xM (S:Sx):Tg -> Expr -> Bool
 | .nm i,e=>lg S i e
 | .tp is,e=>aO (wC e) fun es=>AG S is es
noncomputable def gh:Expr -> Bool
 | .ListComp _ _ _ _=>true
 | _=>false
noncomputable def isTup:Expr -> Bool
 | .Tuple _ _ _=>true
 | _=>false
noncomputable def O4 (S:Sx) (tg v:Expr):Bool:=match tg,v with
 | .Name x p,.ListComp _ _ sc pos=>(S.sc.names.lookup x == some .local) && (p.line == pos.line) && !(sc.names.any fun (n,k)=>n == x && (k == .local || k == .cell))
 | _,_=>false
noncomputable def Fd:Expr -> Option (Str × Pos)
 | .Name x p=>some (x,p)
 | _=>none
theorem uI {e:Expr} {x:Str} {p:Pos} (h:Fd e = some (x,p)):e = .Name x p:=by
 cases e <;> first | (cases h;done) | (cases h;rfl)
noncomputable def AF (S:Sx) (i j:Nat) (tg v:Expr):Bool :=
 aO (wC tg) fun ts=>aO (two ts) fun t=>aO (Fd t.1) fun x=>aO (Fd t.2) fun y=>aO (wC v) fun vs=>aO (two vs) fun w =>
  decide (S.N[i]? = some x.1) && decide (S.N[j]? = some y.1) && decide (i ≠ j) && decide (S.sc.names.lookup x.1 = some .local) && decide (S.sc.names.lookup y.1 = some .local) && decide (x.1 ≠ y.1) &&
   decide (x.2.line = y.2.line) && !([w.1,w.2].all (foldedForSure 8)) && !([w.1,w.2].all (constantsAlone 8)) && decide (([w.1,w.2].any fun e=>match e with | .Starred ..=>true | _=>false) = false)
noncomputable def MM (S:Sx) (it:CI) (e:Expr):Bool:=match it with
 | .ji a=>aO (eC e) fun w=>decide (w.1 = ("range" : Str)) && gX S.sc w.1 && decide (w.1 ∈ S.bl) && aO (one w.2) fun y=>bO S a y
 | .seq a=>bO S a e && oX e
 | .Gb p es=>NN e && aO (S.px.pi p S.sc S.bl e) fun xs=>bE S es xs
noncomputable def zj:CI -> Bool
 | .Gb p _=>decide (1100 <= p)
 | _=>true
noncomputable def wF:Stmt -> Option (List Expr × Expr)
 | .Assign ts v _=>some (ts,v)
 | _=>none
theorem ll {s:Stmt} {ts:List Expr} {v:Expr} (h:wF s = some (ts,v)):∃ p,s = .Assign ts v p:=by
 cases s <;> first | (cases h;done) | (cases h;exact ⟨_,rfl⟩)
noncomputable def JQ:Stmt -> Option (Option Expr)
 | .Return v _=>some v
 | _=>none
theorem Bo {s:Stmt} {v:Option Expr} (h:JQ s = some v):∃ p,s = .Return v p:=by
 cases s <;> first | (cases h;done) | (cases h;exact ⟨_,rfl⟩)
noncomputable def JU:Stmt -> Option Expr
 | .Expr v _=>some v
 | _=>none
theorem tj {s:Stmt} {v:Expr} (h:JU s = some v):∃ p,s = .Expr v p:=by
 cases s <;> first | (cases h;done) | (cases h;exact ⟨_,rfl⟩)
noncomputable def OG:Stmt -> Option (Expr × Operator × Expr)
 | .AugAssign o p v _=>some (o,p,v)
 | _=>none
theorem Nq {s:Stmt} {o v:Expr} {p:Operator} (h:OG s = some (o,p,v)):∃ q,s = .AugAssign o p v q:=by
 cases s <;> first | (cases h;done) | (cases h;exact ⟨_,rfl⟩)
noncomputable def JS:Stmt -> Option (Expr × List Stmt × List Stmt)
 | .If t x y _=>some (t,x,y)
 | _=>none
theorem Br {s:Stmt} {t:Expr} {x y:List Stmt} (h:JS s = some (t,x,y)):∃ q,s = .If t x y q:=by
 cases s <;> first | (cases h;done) | (cases h;exact ⟨_,rfl⟩)
noncomputable def JP:Stmt -> Option (Expr × List Stmt × List Stmt)
 | .While t x y _=>some (t,x,y)
 | _=>none
theorem Bn {s:Stmt} {t:Expr} {x y:List Stmt} (h:JP s = some (t,x,y)):∃ q,s = .While t x y q:=by
 cases s <;> first | (cases h;done) | (cases h;exact ⟨_,rfl⟩)
noncomputable def JT:Stmt -> Option (Expr × Expr × List Stmt × List Stmt)
 | .For tg it x y _=>some (tg,it,x,y)
 | _=>none
theorem Bs {s:Stmt} {tg it:Expr} {x y:List Stmt} (h:JT s = some (tg,it,x,y)):∃ q,s = .For tg it x y q:=by
 cases s <;> first | (cases h;done) | (cases h;exact ⟨_,rfl⟩)
noncomputable def uK:Expr -> Option (Expr × Str × Pos)
 | .Attribute o a p=>some (o,a,p)
 | _=>none
theorem qR {e o:Expr} {a:Str} {p:Pos} (h:uK e = some (o,a,p)):e = .Attribute o a p:=by
 cases e <;> first | (cases h;done) | (cases h;rfl)
noncomputable def pE:Expr -> Option (Expr × List Expr × List Keyword × Pos)
 | .Call f as ks p=>some (f,as,ks,p)
 | _=>none
theorem oI {e f:Expr} {as:List Expr} {ks:List Keyword} {p:Pos} (h:pE e = some (f,as,ks,p)):e = .Call f as ks p:=by
 cases e <;> first | (cases h;done) | (cases h;rfl)
noncomputable def isNil {α:Type}:List α -> Bool
 | []=>true
 | _ :: _=>false
theorem mD {α:Type} {l:List α} (h:isNil l = true):l = []:=by cases l <;> first | rfl | cases h
noncomputable def CA:Stmt -> Bool
 | .Raise _ _ _=>true
 | _=>false
noncomputable def G9:Stmt -> Bool
 | .Pass _=>true
 | _=>false
theorem Jf {s:Stmt} (h:G9 s = true):∃ p,s = .Pass p:=by cases s <;> first | (cases h;done) | exact ⟨_,rfl⟩
noncomputable def LB:Stmt -> Bool
 | .Break _=>true
 | _=>false
theorem LA {s:Stmt} (h:LB s = true):∃ p,s = .Break p:=by cases s <;> first | (cases h;done) | exact ⟨_,rfl⟩
noncomputable def RG:Stmt -> Bool
 | .Continue _=>true
 | _=>false
theorem NV {s:Stmt} (h:RG s = true):∃ p,s = .Continue p:=by cases s <;> first | (cases h;done) | exact ⟨_,rfl⟩
theorem wd {S:Sx} {i:Nat} {e:Expr} (h:lg S i e = true):∃ x p,e = .Name x p:=by
 cases e <;> first | exact ⟨_,_,rfl⟩ | exact (Bool.false_ne_true h).elim
theorem CB {e:Expr} (h:isNm e = true):∃ x p,e = .Name x p:=by cases e <;> first | (cases h;done) | exact ⟨_,_,rfl⟩
theorem xi {e:Expr} (h:gh e = true):∃ x g sc p,e = .ListComp x g sc p:=by cases e <;> first | (cases h;done) | exact ⟨_,_,_,_,rfl⟩
mutual
noncomputable def MK (S:Sx):CS -> Stmt -> Bool
 | .asg t e,s0=>aO (wF s0) fun z=>aO (one z.1) fun tg=>bO S e z.2 && xM S t tg && !(isTup z.2 && isTup tg) && (!gh z.2 || isNm tg)
 | .par i j a b,s0=>aO (wF s0) fun z=>aO (one z.1) fun tg=>bO S (.tup [a,b]) z.2 && AF S i j tg z.2
 | .ret e,s0=>aO (JQ s0) fun z=>aO z fun v=>bO S e v
 | .rs _,s0=>CA s0
 | .mut p i es,s0=>aO (S.px.pm p S.sc S.bl s0) fun z=>lg S i z.1 && QY z.1 && bE S es z.2
 | .app i e,s0=>aO (JU s0) fun c=>aO (pE c) fun z=>isNil z.2.2.1 && aO (uK z.1) fun a=>decide (a.2.1 = ("append" : Str)) && lg S i a.1 && QY a.1 && (a.2.2.endLine == z.2.2.2.line) && aO (one z.2.1) fun v=>bO S e v
 | .setI i k e,s0=>aO (wF s0) fun z=>aO (one z.1) fun tg=>aO (iU tg) fun w=>lg S i w.1 && QY w.1 && bO S k w.2 && bO S e z.2 && !gh z.2
 | .ex e,s0=>aO (JU s0) fun v=>bO S e v && !gh v
 | .ifs c a b,s0=>aO (JS s0) fun z=>bO S c z.1 && ba S a z.2.1 && ba S b z.2.2
 | .Fb c b,s0=>aO (JP s0) fun z=>isNil z.2.2 && bO S c z.1 && ba S b z.2.1
 | .fr t it b,s0=>aO (JT s0) fun z=>isNil z.2.2.2 && xM S t z.1 && MM S it z.2.1 && (gg z.1 || zj it) && ba S b z.2.2.1
noncomputable def ba (S:Sx):List CS -> List Stmt -> Bool
 | [],ss=>match ss with
  | []=>true
  | _ :: _=>false
 | c :: cs,ss=>match ss with
  | []=>false
  | s :: ss=>MK S c s && ba S cs ss
end
structure Oy (px:Px) (Φ:az):Prop where
 m:∀ (X:Cx) (sc:Scope) (bl:List Str) (k:Nat),PX X sc bl k -> X.N.Nodup -> (∀ x,X.fn x = true) -> ∀ (p:Nat) (st:Stmt) (x:Str) (pos:Pos) (args:List Expr),px.pm p sc bl st = some (.Name x pos,args) -> ∀ (i:Nat),X.N[i]? = some x -> L2.Loc X.env.scope x -> PE X (.Name x pos) (tE i) ->
  ∀ (F:Addr -> Prop) (cs:List CE),kP X F Φ cs args -> PS X st (qL X F Φ (.mut p i cs))
structure oE (X:Cx) (S:Sx) (k:Nat) (Φ:az):Prop extends Lk X S k Φ where
 C7:∀ x,X.fn x = true
 px:PassesOwn (model X.prog X.w) X.A X.env X.xe
 fk:S.sc.kind = .function
 pm:Oy S.px Φ
section
variable {X:Cx} {S:Sx} {k:Nat} {F:Addr -> Prop} {Φ:az}
theorem oE.loc (L:oE X S k Φ) {x:Str} (h:GR S.sc x = true):L2.Loc X.env.scope x:=by
 unfold L2.Loc;rw [L.sc]
 unfold GR at h
 rw [Bool.or_eq_true] at h
 exact h.imp of_decide_eq_true of_decide_eq_true
theorem D8 (L:oE X S k Φ) {x:Str} {p pos:Pos} {l:Nat} {elt:Expr} {gens:List Comprehension} {sc:Scope}:swapsWith (.ListComp elt gens sc pos) (some (.Name x p)) l X.env = pure (O4 S (.Name x p) (.ListComp elt gens sc pos)):=by
 have hb:X.env.blockKind = .function:=by unfold Env.blockKind;rw [L.sc,L.fk];rfl
 have hk:(X.env.kindOf x == some .local) = (S.sc.names.lookup x == some .local):=by
  unfold Env.kindOf
  rw [L.sc]
 unfold swapsWith O4
 simp only [hb,hk]
 rfl
theorem nj {c:CE} {e:Expr} (h:bO S c e = true) (hc:gh e = false) (t:Option Expr) (l:Nat) (env:Env):swapsWith e t l env = pure false:=by
 cases e <;> first | rfl | (cases hc;done) | (cases c <;> exact (Bool.false_ne_true h).elim)
noncomputable def SW:List Nat -> DM
 | []=>HE
 | i :: is=>Ak (o6 i) (SW is)
theorem yV (L:oE X S k Φ) {i:Nat} {e:Expr} (h:lg S i e = true):PG X e (o6 i):=by
 cases e <;> try (exact (Bool.false_ne_true h).elim;done)
 replace h:=ak h
 exact pW L.nd (by rw [L.N];exact of_decide_eq_true h.1) (L.loc h.2) (.inl (L.C7 _))
theorem Cn {i:Nat} {e:Expr} (h:lg S i e = true) (es:List Expr) (env:Env):assignEach (e :: es) env = (false,assign e env) :: assignEach es env:=by
 cases e <;> first | rfl | (exact (Bool.false_ne_true h).elim;done)
theorem yU (L:oE X S k Φ):∀ {is:List Nat} {es:List Expr},AG S is es = true -> JH X es (SW is) /\ (assignEach es X.env).length = is.length /\ (assignEach es X.env).findIdx? (·.1) = none
 | [],[],_=>⟨vc,rfl,rfl⟩
 | [],_ :: _,h=>by exact (Bool.false_ne_true h).elim
 | _ :: _,[],h=>by exact (Bool.false_ne_true h).elim
 | i :: is,e :: es,h=>by
  replace h:=ak h
  obtain ⟨h1,h2,h3⟩:=yU L h.2
  have he:=Cn h.1 es X.env
  refine ⟨rJ (yV L h.1) h1 (by rw [he];rfl),by rw [he];simp [h2],?_⟩
  rw [he,List.findIdx?_cons]
  simp [h3]
theorem ra {H:Hp} {R:Addr -> Prop} {Q:St -> Hp -> Prop}:∀ {is:List Nat} {vs:List V} {ds:List D} {kp:aE} {n:Nat} {σ:St} {τ:Addr -> Option aE} {ρ ρ':au},af (aA X.K H) (nd X.K R (fun _=>False) (fun _=>none) H) kp n vs ds -> SI X F R τ ρ σ H -> gx is ds ρ = ok ρ' ->
  (∀ σ' τ',SI X F R τ' ρ' σ' H -> Q σ' H) -> SW is vs σ H Q
 | [],_,_,_,_,σ,τ,_,_,.nil,Si,e,hq=>by
  cases e
  exact ⟨rfl,hq σ τ Si⟩
 | [],_,_,_,_,_,_,_,_,.cons _ _,_,e,_=>by cases e
 | _ :: _,_,_,_,_,_,_,_,_,.nil,_,e,_=>by cases e
 | i :: is,_,_,_,_,σ,τ,ρ,_,.cons (v:=v) (d:=d) h t,Si,e,hq=>by
  change (if _ then _ else _) = _ at e
  split at e
  ·rename_i hi
   obtain ⟨τ',fW⟩:=Si.set (i:=i) (lu (τ':=τ) (Rep.p5 h)) hi
   exact ⟨_,_,rfl,ra t fW e hq⟩
  ·cases e
theorem yn (L:oE X S k Φ) {t:Tg} {tg:Expr} (h:xM S t tg = true):∃ g,PG X tg g /\ ∀ (v:V) (σ:St) (H:Hp) (Q:St -> Hp -> Prop) (R:Addr -> Prop) (τ:Addr -> Option aE) (ρ ρ':au) (d:D),SI X F R τ ρ σ H -> gB X R τ H v d -> ck t d ρ = ok ρ' ->
  (∀ σ' τ',SI X F R τ' ρ' σ' H -> Q σ' H) -> g v σ H Q:=by
 cases t with
 | nm i =>
  refine ⟨o6 i,yV L h,fun v σ H Q R τ ρ ρ' d Si rk e hq=>?_⟩
  simp only [ck] at e
  split at e
  ·rename_i hi
   cases e
   obtain ⟨τ',fW⟩:=Si.set rk hi
   exact hq _ τ' fW
  ·cases e
 | tp is =>
  obtain ⟨es,hx,ha⟩:=aP h
  obtain ⟨nn,pp,rfl⟩:=jn hx
  obtain ⟨h1,h2,h3⟩:=yU L ha
  refine ⟨_,yT L.calm h1 h2 h3,fun v σ H Q R τ ρ ρ' d Si rk e hq=>?_⟩
  cases d <;> try (simp [ck] at e;done)
  rename_i ds
  simp only [ck] at e
  split at e
  ·cases e
  ·rename_i ho
   obtain ⟨τt,ht,rp⟩:=rk
   cases rp with
   | @tup _ p xs _ hp rs =>
    have tN:af (aA X.K H) (nd X.K R (fun _=>False) (fun _=>none) H) [] 0 xs ds:=af.without (P:=cG) (fun _ _ h=>h) (fun k k' p xs f hf h=>by
     cases f with
     | ow=>cases hf
     | fz=>exact h
     | al=>exact h.2.elim
     | sc=>exact h) rs (by simpa using ho) _ _
    refine ⟨p,xs,rfl,hp,?_,ra tN Si e hq⟩
    rw [rs.length]
    have:∀ (is:List Nat) (ds:List D) (ρ ρ':au),gx is ds ρ = ok ρ' -> ds.length = is.length:=by
     intro is
     induction is with
     | nil=>intro ds ρ ρ' e;cases ds with | nil=>rfl | cons _ _=>cases e
     | cons i is ih=>intro ds ρ ρ' e;cases ds with
      | nil=>cases e
      | cons d ds =>
       change (if _ then _ else _) = _ at e
       split at e
       ·simp [ih ds _ _ e]
       ·cases e
    exact this _ _ _ _ e
end
end DI
end
section
namespace DI
open PySem PySem.Spec PyProof.Rows L2
section
variable {X:Cx} {S:Sx} {k:Nat} {F:Addr -> Prop} {Φ:az}
theorem yu (L:oE X S k Φ) {t:Tg} {e:CE} {tg v:Expr} {pos:Pos} (he:bO S e v = true) (ht:xM S t tg = true) (hp:(isTup v && isTup tg) = false) (RR:swapsWithSole [tg] v pos.line X.env = pure false):PS X (.Assign [tg] v pos) (qL X F Φ (.asg t e)):=by
 obtain ⟨g,hg,z_⟩:=yn (F:=F) L ht
 have DX:(∃ x p,tg = .Name x p) \/ ∃ es n p,tg = .Tuple es n p:=by
  cases t with
  | nm i=>cases tg <;> first | exact .inl ⟨_,_,rfl⟩ | exact (Bool.false_ne_true ht).elim
  | tp is=>cases tg <;> first | exact .inr ⟨_,_,_,rfl⟩ | exact (Bool.false_ne_true ht).elim
 have each:(assignEach [tg] X.env).map (·.2) = [assign tg X.env]:=by
  rcases DX with ⟨x,p,rfl⟩ | ⟨es,n,p,rfl⟩ <;> rfl
 have hw:swappedStores [tg] v X.env = pure none:=by
  rcases DX with ⟨x,p,rfl⟩ | ⟨es,n,p,rfl⟩
  ·first | rfl | (cases v <;> rfl)
  ·cases v <;> first | rfl | exact absurd hp (by simp [isTup])
 refine PS.imp (yQ (pK (F:=F) L.toLk e v he) hg RR hw each) fun D σ H hq=>?_
 obtain ⟨R,τ,ρ,r,Si,ev,hq⟩:=hq
 obtain ⟨r1,uj,ev⟩:=ae ev
 obtain ⟨ρ',eρ,ev⟩:=ae ev
 cases ev
 exact ⟨R,τ,ρ,r1,Si,uj,fun v H' R' τ' es hR fW rk=>z_ v σ H' _ R' τ' r1.2 ρ' r1.1 fW rk eρ fun σ' ya IM=>hq σ' H' R' ya IM (Kp.of es hR)⟩
theorem BP (L:oE X S k Φ) {i n:Nat} {t:Tg} {caps:List Nat} {ik:IK} {es aS:List CE} {elt:CE} {x:Str} {p Kj pos:Pos} {gA:Expr} {gens:List Comprehension} {sc:Scope}
  (he:bO S (.comp n t caps ik es aS elt) (.ListComp gA gens sc pos) = true) (hn:lg S i (.Name x p) = true) (RR:swapsWith (.ListComp gA gens sc pos) (some (.Name x p)) Kj.line X.env = pure true) :
  PS X (.Assign [.Name x p] (.ListComp gA gens sc pos) Kj) (qL X F Φ (.asg (.nm i) (.comp n t caps ik es aS elt))):=by
 intro pins s σ H D I hq
 obtain ⟨R,τ,ρ,r,Si,ev,hq⟩:=hq
 obtain ⟨r1,uj,ev⟩:=ae ev
 obtain ⟨ρ',eρ,ev⟩:=ae ev
 cases ev
 have uj:bd (aL Φ (.comp n t caps ik es aS elt) ρ) (fun d=>ok (keep (.comp n t caps ik es aS elt) d ρ)) = ok r1:=uj
 obtain ⟨d,ed,uj⟩:=ae uj
 cases uj
 have hg:=yV L hn
 rw [exec_Assign_Name_used _ _ _ _ RR]
 refine wpAny_bind (wpAny_standAt (wpAny_bind ?_))
 obtain ⟨⟨e0,g0,s0⟩,YN,Ji⟩:=aP he
 cases YN
 obtain ⟨⟨target,iter,ifs,a⟩,Sg,hz⟩:=aP Ji
 obtain rfl:gens = _:=cB Sg
 obtain ⟨hz,h6⟩:=ak hz
 obtain ⟨hz,h5⟩:=ak hz
 obtain ⟨hz,h4⟩:=ak hz
 obtain ⟨hz,h3⟩:=ak hz
 obtain ⟨hz,h2⟩:=ak hz
 obtain ⟨hz,h1⟩:=ak hz
 obtain rfl:a = 0:=of_decide_eq_true hz
 have hC:=sD (of_decide_eq_true h3) h4 (fun (X':Cx) (F':Addr -> Prop) (L':Lk X' (S.inner target caps sc) k Φ)=>gJ aS X' _ F' L' ifs h4)
 have run:wpAny (model X.prog X.w) X.A (comprehension (.ListComp gA [⟨target,iter,ifs,0⟩] sc pos) sc X.env (firstIterPos [⟨target,iter,ifs,0⟩] pos) (newList []) false (eval iter X.env) (some (assign (.Name x p) X.env))) (fun _ s'=>SP X pins D .next s') X.xe s:=by
  refine sE (F:=F) (k:=k) L.toLk (pd h1) h2 (fun X' F' L'=>(gI (F:=F') L' elt gA h5).1) hC ?_ (use:=some (assign (.Name x p) X.env)) (Post:=fun _ s'=>SP X pins D .next s') I Si ed ?_
  ·exact zL L.toLk (fun l=>uQ (F:=F) L.toLk es l) (fun l=>gJ es X S F L.toLk l) (fun l=>lW L.toLk es l) h6
  ·intro acc C H1 s1 m x3 hc IX sm rt
   obtain ⟨c1,c2,c3,c4,c5⟩:=hc
   obtain ⟨R',τ',hR,fW,rk⟩:=En (e:=.comp n t caps ik es aS elt) Si sm rt
   have I1:Inv X pins σ H1 s1:=IX s1.heap (.refl ..)
   obtain ⟨oC,Zy,Zz,YW,VZ,YT⟩:=x3
   have cfs:C ∉ X.fs:=fun z=>by
    obtain ⟨_,o,ho,_⟩:=I1.ok.kY.mem z
    exact absurd (Nat.lt_of_lt_of_le (Heap.lt_size ho) c2) (Nat.lt_irrefl _)
   have I2:Inv X ((C,oC) :: pins) σ H1 s1:=I1.iu fun q hq=>by
    rcases List.mem_cons.mp hq with rfl | hq
    ·exact ⟨YW,c5,c1,cfs,fun v z=>by rw [VZ] at z;cases z⟩
    ·exact I1.pin q (List.mem_append_right _ hq)
   simp only [ck] at eρ
   split at eρ
   ·rename_i hi
    cases eρ
    obtain ⟨τ2,pB⟩:=fW.set rk hi
    show wpAny _ _ (assign (.Name x p) X.env (.ref acc)) _ _ _
    refine wpAny_mono (hg ((C,oC) :: pins) s1 σ H1 (.ref acc) (.ref acc) (fun σ' H'=>σ' = σ.set i (some (.ref acc)) /\ H' = H1) I2 rfl ⟨rfl,rfl⟩) (fun _ s2 h2=>?_) fun _ _ z=>z
    obtain ⟨σ',H',I3,rfl,rfl⟩:=h2
    have Zq:=(I3.pin (C,oC) (List.mem_append_right _ List.mem_cons_self)).1
    refine ⟨m,⟨oC,Zy,Zz,Zq,VZ,YT⟩,fun h' xo=>?_⟩
    have I4:Inv X pins (σ.set i (some (.ref acc))) H' s2:=I3.iu fun q hq=>I3.pin q (List.mem_append_right _ (List.mem_cons_of_mem _ hq))
    have I5:=I4.turned (t':=s2.toks) (h':=h') (it:=C) (fun b o hb e=>(xo.2 b hb).trans e) c5 c1 (.inr c2) c3 c4
    exact ⟨_,H',I5,hq _ H' R' τ2 pB (Kp.of sm hR)⟩
   ·cases eρ
 exact wpAny_bind (wpAny_mono run (fun _ s' h=>wpAny_pure (wpAny_pure h)) fun _ _ z=>z)
theorem Ft (L:oE X S k Φ) {e:CE} {v:Expr} {pos:Pos} (he:bO S e v = true):PS X (.Return (some v) pos) (qL X F Φ (.ret e)):=by
 refine PS.imp (FW (pK (F:=F) L.toLk e v he)) fun D σ H hq=>?_
 obtain ⟨R,τ,ρ,r,Si,ev,hq⟩:=hq
 obtain ⟨r1,uj,ev⟩:=ae ev
 cases ev
 exact ⟨R,τ,ρ,r1,Si,uj,fun v H' R' τ' es hR fW rk=>hq v H' fW.same (rk.ret fW)⟩
theorem Ki (L:oE X S k Φ) {e:CE} {v:Expr} {pos:Pos} (he:bO S e v = true) (R9:gh v = false):PS X (.Expr v pos) (qL X F Φ (.ex e)):=by
 refine PS.imp (lA (gI (F:=F) L.toLk e v he).1 (nj he R9 _ _ _)) fun D σ H hq=>?_
 obtain ⟨R,τ,ρ,r,Si,ev,hq⟩:=hq
 obtain ⟨d,ed,ev⟩:=ae ev
 cases ev
 exact tD.intro Si ed fun v H' es rv=>hq σ H' R τ (Si.go es) (Kp.of es fun _ h=>h)
theorem kQ.from {D:Ends} {R R1:Addr -> Prop} {H H1:Hp} {r:Fo × au} (h:kQ X F D R H r) (kp:Kp R H R1 H1):kQ X F D R1 H1 r:=by
 obtain ⟨fo,ρ'⟩:=r
 cases fo with
 | nx=>exact fun σ' H' R' τ' Si k2=>h σ' H' R' τ' Si (kp.trans k2)
 | bk=>exact fun σ' H' R' τ' Si k2=>h σ' H' R' τ' Si (kp.trans k2)
 | ct=>exact fun σ' H' R' τ' Si k2=>h σ' H' R' τ' Si (kp.trans k2)
 | rt d=>exact h
theorem Kh (L:oE X S k Φ) {c:CE} {a b:List CS} {t:Expr} {x y:List Stmt} {pos:Pos} (hc:bO S c t = true) (ha:lO X x (nS X F Φ a)) (hb:lO X y (nS X F Φ b)):PS X (.If t x y pos) (qL X F Φ (.ifs c a b)):=by
 refine PS.imp (KO (gI (F:=F) L.toLk c t hc).2 ha hb) fun D σ H hq=>?_
 obtain ⟨R,τ,ρ,r,Si,ev,hq⟩:=hq
 obtain ⟨w,ew,ev⟩:=ae ev
 refine ⟨R,τ,ρ,w,Si,ew,fun H1 e1=>?_⟩
 cases w with
 | true=>rw [if_pos rfl] at ev ⊢;exact ⟨R,τ,ρ,r,Si.go e1,ev,hq.from (Kp.of e1 fun _ h=>h)⟩
 | false=>rw [if_neg (by simp)] at ev ⊢;exact ⟨R,τ,ρ,r,Si.go e1,ev,hq.from (Kp.of e1 fun _ h=>h)⟩
theorem yt (L:oE X S k Φ) {c:CE} {b:List CS} {t:Expr} {x:List Stmt} {pos:Pos} (hc:bO S c t = true) (hb:lO X x (nS X F Φ b)):PS X (.While t x [] pos) (qL X F Φ (.Fb c b)):=by
 refine PS.imp (yN L.px (gI (F:=F) L.toLk c t hc).2 hb) fun D σ H hq=>?_
 obtain ⟨R,τ,ρ,r,Si,ev,hq⟩:=hq
 obtain ⟨n,hn⟩:=kb ev
 refine ⟨fun m σ' H'=>∃ R' τ' ρ',SI X F R' τ' ρ' σ' H' /\ Kp R H R' H' /\ cP m _ ρ' = ok r,⟨n,R,τ,ρ,Si,Kp.refl R H,hn⟩,?_⟩
 rintro m σ1 H1 ⟨R1,τ1,ρ1,pC,k1,e1⟩
 cases m with
 | zero=>simp [cP] at e1
 | succ m =>
  rw [cP] at e1
  obtain ⟨st,es,e1⟩:=ae e1
  obtain ⟨w,ew,es⟩:=ae es
  refine ⟨R1,τ1,ρ1,w,pC,ew,fun H2 e2=>?_⟩
  cases w with
  | false =>
   rw [if_neg (by simp)] at es ⊢
   cases es
   cases e1
   exact hq σ1 H2 R1 τ1 (pC.go e2) (k1.trans (Kp.of e2 fun _ h=>h))
  | true =>
   rw [if_pos rfl] at es ⊢
   obtain ⟨⟨fo,ρ2⟩,eb,es⟩:=ae es
   refine ⟨fun σ' H'=>∃ R' τ' ρ',SI X F R' τ' ρ' σ' H' /\ Kp R H R' H' /\ cP m _ ρ' = ok r,fun σ' H' h=>⟨m,Nat.lt_succ_self m,h⟩,R1,τ1,ρ1,(fo,ρ2),pC.go e2,eb,?_⟩
   have k2:Kp R H R1 H2:=k1.trans (Kp.of e2 fun _ h=>h)
   cases fo with
   | nx=>cases es;exact fun σ' H' R' τ' fW k3=>⟨R',τ',ρ2,fW,k2.trans k3,e1⟩
   | ct=>cases es;exact fun σ' H' R' τ' fW k3=>⟨R',τ',ρ2,fW,k2.trans k3,e1⟩
   | bk=>cases es;cases e1;exact fun σ' H' R' τ' fW k3=>hq σ' H' R' τ' fW (k2.trans k3)
   | rt d=>cases es;cases e1;exact hq
noncomputable def jY (X:Cx) (F:Addr -> Prop) (Φ:az) (t:Tg) (b:List CS) (R1:Addr -> Prop) (H1:Hp) (r:Fo × au) (items:List DI.D) (i:Nat) (σ:St) (H:Hp):Prop :=
 ∃ R' τ' ρ',SI X F R' τ' ρ' σ H /\ Kp R1 H1 R' H /\ eh (fun d ρ=>ck t d ρ) (fun ρ=>bq Φ b ρ) (items.drop i) ρ' = ok r
theorem mW {g:TG} {t:Tg} {b:List CS} {D:Ends} {R1:Addr -> Prop} {H1:Hp} {r:Fo × au} {items:List DI.D} {xs:List V} {q:aE}
  (z_:∀ (v:V) (σ:St) (H:Hp) (Q:St -> Hp -> Prop) (R:Addr -> Prop) (τ:Addr -> Option aE) (ρ ρ':au) (d:DI.D),SI X F R τ ρ σ H -> gB X R τ H v d -> ck t d ρ = ok ρ' -> (∀ σ' τ',SI X F R τ' ρ' σ' H -> Q σ' H) -> g v σ H Q)
  (rs:af (aA X.K H1) (nd X.K R1 (fun _=>False) (fun _=>none) H1) q 0 xs items) (hq:kQ X F D R1 H1 r) (i:Nat) (x:V) (σ:St) (H:Hp) (hx:xs[i]? = some x) (h:jY X F Φ t b R1 H1 r items i σ H) :
  g x σ H fun σ2 H2=>nS X F Φ b { D with nx:=jY X F Φ t b R1 H1 r items (i + 1),ct:=jY X F Φ t b R1 H1 r items (i + 1),bk:=D.nx } σ2 H2:=by
 obtain ⟨R',τ',ρ',Si,kp,ef⟩:=h
 obtain ⟨d,hd,rd⟩:=rs.xx hx
 have hi:i < items.length:=by
  by_cases hi:i < items.length
  ·exact hi
  ·rw [List.getElem?_eq_none (by omega)] at hd;cases hd
 have r9:items.drop i = d :: items.drop (i + 1):=by
  rw [List.drop_eq_getElem_cons hi]
  rw [List.getElem?_eq_getElem hi] at hd
  cases hd;rfl
 rw [r9,eh] at ef
 obtain ⟨ρ1,e1,ef⟩:=ae ef
 obtain ⟨⟨fo,ρ2⟩,e2,ef⟩:=ae ef
 refine z_ x σ H _ R' τ' ρ' ρ1 d Si (lu (Rep.p5 (kp.rep rd))) e1 fun σ' ya fW=>⟨R',ya,ρ1,(fo,ρ2),fW,e2,?_⟩
 cases fo with
 | nx=>exact fun σ3 H3 R3 τ3 sT k3=>⟨R3,τ3,ρ2,sT,kp.trans k3,ef⟩
 | ct=>exact fun σ3 H3 R3 τ3 sT k3=>⟨R3,τ3,ρ2,sT,kp.trans k3,ef⟩
 | bk=>cases ef;exact fun σ3 H3 R3 τ3 sT k3=>hq σ3 H3 R3 τ3 sT (kp.trans k3)
 | rt d=>cases ef;exact hq
theorem lH {t:Tg} {b:List CS} {D:Ends} {R1:Addr -> Prop} {H1:Hp} {r:Fo × au} {items:List DI.D} {n:Nat} (hn:n = items.length) (hq:kQ X F D R1 H1 r) (σ:St) (H:Hp) (h:jY X F Φ t b R1 H1 r items n σ H):D.nx σ H:=by
 obtain ⟨R',τ',ρ',Si,kp,ef⟩:=h
 subst hn
 rw [List.drop_length,eh] at ef
 cases ef
 exact hq σ H R' τ' Si kp
theorem vS (ρ:au):gZ [] ρ = ρ:=by
 unfold gZ
 apply List.ext_getElem?
 intro i
 rw [List.getElem?_mapIdx]
 cases ρ[i]? with
 | none=>rfl
 | some o=>simp
theorem vV {R:Addr -> Prop} {τ:Addr -> Option aE} {ρ:au} {σ:St} {H H':Hp} {fv:List Nat} {v:V} {d:DI.D} (Si:SI X F R τ ρ σ H) (es:aj H H') (r:bt X.K (gP X F) R τ fv H H' v d) :
  ∃ R' τ',(∀ p,R p -> R' p) /\ SI X F R' τ' (if aq bp d then gZ fv ρ else ρ) σ H' /\ Rep (aA X.K H') (nd X.K R' (fun _=>False) (fun _=>none) H') [] v (aD aK d):=by
 by_cases ha:aq bp d = true
 ·rw [if_pos ha];exact qi Si es r
 ·rw [if_neg ha]
  have r':bt X.K (gP X F) R τ [] H H' v d:=by
   obtain ⟨τt,fr,rp⟩:=r
   exact ⟨τt,fr,Rep.jl (P:=bp) (fun _ _ h=>h) (fun k p xs f hf h=>by
    cases f with
    | ow=>exact h
    | fz=>exact h
    | al=>cases hf
    | sc=>exact h) rp (by simpa using ha)⟩
  have:=qi Si es r'
  rw [vS] at this;exact this
theorem Am {R:Addr -> Prop} {τ:Addr -> Option aE} {ρ:au} {σ:St} {H H':Hp} {fv:List Nat} {vs:List V} {ds:List DI.D} (Si:SI X F R τ ρ σ H) (es:aj H H') (r:bU X.K (gP X F) R τ fv H H' vs ds) :
  ∃ R' τ',(∀ p,R p -> R' p) /\ SI X F R' τ' (if ao bp ds then gZ fv ρ else ρ) σ H' /\ af (aA X.K H') (nd X.K R' (fun _=>False) (fun _=>none) H') [] 0 vs (ag aK ds):=by
 by_cases ha:ao bp ds = true
 ·rw [if_pos ha];exact sr Si es r
 ·rw [if_neg ha]
  have r':bU X.K (gP X F) R τ [] H H' vs ds:=by
   obtain ⟨τt,fr,rp⟩:=r
   exact ⟨τt,fr,af.jl (P:=bp) (fun _ _ h=>h) (fun k p xs f hf h=>by
    cases f with
    | ow=>exact h
    | fz=>exact h
    | al=>cases hf
    | sc=>exact h) rp (by simpa using ha)⟩
  have:=sr Si es r'
  rw [vS] at this;exact this
noncomputable def Xc (X:Cx) (F:Addr -> Prop) (Φ:az) (p:Nat) (cs:List CE):TI:=fun σ H Rr=>∃ R τ ρ xs d items,SI X F R τ ρ σ H /\ cD Φ cs ρ = ok xs /\ Φ p xs = ok d /\ nY d = ok items /\
 ∀ J H2 vs,aj H H2 -> bU X.K (gP X F) R τ (dk cs) H H2 vs xs -> JG X.K J H2 vs xs items -> Rr J H2
theorem BO (L:oE X S k Φ) {t:Tg} {p:Nat} {cs:List CE} {b:List CS} {tg iter:Expr} {x:List Stmt} {pos:Pos} {args:List Expr} (ht:xM S t tg = true) (hi:S.px.pi p S.sc S.bl iter = some args) (hc:bE S cs args = true) (Hf:NN iter = true) (YR:(decide (1100 <= p) || gg tg) = true) (hb:lO X x (nS X F Φ b)):PS X (.For tg iter x [] pos) (qL X F Φ (.fr t (.Gb p cs) b)):=by
 obtain ⟨g,hg,z_⟩:=yn (F:=F) L ht
 have mK:∀ y,foldedSetIterable iter X.env y = pure y:=by
  intro y
  cases iter <;> first | rfl | (cases Hf;done)
 have pi:PI X tg iter (Xc X F Φ p cs):=fun pins s σ H Rr I ⟨R,τ,ρ,xs,d,items,Si,bP,ed,ei,hR⟩ =>
  L.pr.i X _ _ k L.toLk.pX p iter args hi F cs tg YR (lW L.toLk cs args hc) pins s σ H R τ ρ xs d items I Si bP ed ei Rr hR
 refine PS.imp (pV L.px L.calm pi hg hb mK) fun D σ H hq=>?_
 obtain ⟨R,τ,ρ,r,Si,ev,hq⟩:=hq
 obtain ⟨⟨items,ρ1⟩,ei,ef⟩:=ae ev
 obtain ⟨xs,bP,ei⟩:=ae ei
 obtain ⟨d,ed,ei⟩:=ae ei
 obtain ⟨Rz,ZD,ei⟩:=ae ei
 cases ei
 refine ⟨R,τ,ρ,xs,d,items,Si,bP,ed,ZD,fun J H2 vs e2 BY yz=>?_⟩
 obtain ⟨R',τ',hR,fW,rs⟩:=Am Si e2 BY
 have vB:=hq.from (Kp.of e2 hR)
 refine ⟨fun i m σ' H'=>m = items.length - i /\ i <= items.length /\ jY X F Φ t b R' H2 r items i σ' H',⟨_,rfl,Nat.zero_le _,R',τ',_,fW,Kp.refl R' H2,by rw [List.drop_zero];exact ef⟩,?_⟩
 rintro i m σ1 H1 ⟨rfl,N2,hf⟩
 obtain ⟨R1,τ1,ρ2,pC,k1,e1⟩:=id hf
 have Kv:=k1.Py rs
 have O6:pA X.K H2 vs xs H1:=⟨⟨R',rs,k1.l⟩,fun a ys h=>k1.NA h⟩
 by_cases fQ:i < items.length
 ·refine .inr ⟨yz.go i H1 R1 O6 Kv fQ,fun σ' H'=>jY X F Φ t b R' H2 r items (i + 1) σ' H',fun σ' H' h=>⟨items.length - (i + 1),by omega,rfl,fQ,h⟩,fun v H3 hy=>?_⟩
  obtain ⟨e3,dd,hd,rd⟩:=yz.sW i H1 R1 v H3 O6 Kv fQ hy
  have r9:items.drop i = dd :: items.drop (i + 1):=by
   rw [List.drop_eq_getElem_cons fQ]
   rw [List.getElem?_eq_getElem fQ] at hd
   cases hd;rfl
  rw [r9,eh] at e1
  obtain ⟨ρ3,eb,e1⟩:=ae e1
  obtain ⟨⟨fo,ρ4⟩,e4,e1⟩:=ae e1
  have k3:Kp R' H2 R1 H3:=k1.trans (Kp.of e3 fun _ h=>h)
  refine z_ v σ1 H3 _ R1 τ1 ρ2 ρ3 dd (pC.go e3) (lu rd) eb fun σ' ya IM=>⟨R1,ya,ρ3,(fo,ρ4),IM,e4,?_⟩
  cases fo with
  | nx=>exact fun σ3 H4 R3 τ3 sT k4=>⟨R3,τ3,ρ4,sT,k3.trans k4,e1⟩
  | ct=>exact fun σ3 H4 R3 τ3 sT k4=>⟨R3,τ3,ρ4,sT,k3.trans k4,e1⟩
  | bk=>cases e1;exact fun σ3 H4 R3 τ3 sT k4=>vB σ3 H4 R3 τ3 sT (k3.trans k4)
  | rt d=>cases e1;exact vB
 ·exact .inl ⟨yz.stop i H1 R1 O6 Kv (by omega),lH (n:=i) (by omega) vB σ1 H1 hf⟩
theorem af.ints {T:iL} {N:gC}:∀ (is:List Int) {k:aE} {n:Nat},af T N k n (is.map V.int) (is.map DI.D.int)
 | [],_,_=>.nil
 | i :: is,_,_=>.cons (.int i) (af.ints is)
theorem Fw (L:oE X S k Φ) {t:Tg} {it:CI} {b:List CS} {tg iter:Expr} {x:List Stmt} {pos:Pos} (ht:xM S t tg = true) (hi:MM S it iter = true) (YX:(gg tg || zj it) = true) (hb:lO X x (nS X F Φ b)):PS X (.For tg iter x [] pos) (qL X F Φ (.fr t it b)):=by
 obtain ⟨g,hg,z_⟩:=yn (F:=F) L ht
 have mK:∀ y,foldedSetIterable iter X.env y = pure y:=by
  intro y
  cases iter <;> first | rfl | (cases it <;> first | exact (Bool.false_ne_true hi).elim | exact (Bool.false_ne_true (ak hi).2).elim)
 have ji:∀ {lo:Int} {n:Nat} {D:Ends} {R:Addr -> Prop} {τ:Addr -> Option aE} {ρ:au} {σ:St} {H H1:Hp} {r:Fo × au},SI X F R τ ρ σ H -> aj H H1 -> kQ X F D R H r ->
   eh (fun d ρ=>ck t d ρ) (fun ρ=>bq Φ b ρ) ((List.range n).map fun (k:Nat)=>DI.D.int (lo + (k:Int))) ρ = ok r ->
   ∃ W:Nat -> Nat -> L2.St -> Hp -> Prop,(∃ m,W 0 m σ H1) /\ ∀ i m σ H,W i m σ H ->
    ((xW lo n).stop i H /\ D.nx σ H) \/ ((xW lo n).go i H /\ ∃ N:L2.St -> Hp -> Prop,(∀ σ' H',N σ' H' -> ∃ m',m' < m /\ W (i + 1) m' σ' H') /\ ∀ x H',(xW lo n).sW i H x H' -> g x σ H' fun σ2 H2=>nS X F Φ b { D with nx:=N,ct:=N,bk:=D.nx } σ2 H2):=by
  intro lo n D R τ ρ σ H H1 r Si e1 hq ef
  have rs:af (aA X.K H1) (nd X.K R (fun _=>False) (fun _=>none) H1) [] 0 ((List.range n).map fun (k:Nat)=>V.int (lo + (k:Int))) ((List.range n).map fun (k:Nat)=>DI.D.int (lo + (k:Int))):=by
   have:=af.ints (T:=aA X.K H1) (N:=nd X.K R (fun _=>False) (fun _=>none) H1) ((List.range n).map fun (k:Nat)=>lo + (k:Int)) (k:=[]) (n:=0)
   rw [List.map_map,List.map_map] at this;exact this
  have vB:=hq.from (Kp.of e1 (R':=R) fun _ h=>h)
  refine xD (jY X F Φ t b R H1 r _) ⟨R,τ,ρ,Si.go e1,Kp.refl R H1,by rw [List.drop_zero];exact ef⟩ (fun i σ' H' Y5 h=>?_) (fun σ' H' h=>lH (by simp) vB σ' H' h)
  exact mW z_ rs vB i (.int (lo + i)) σ' H' (by rw [List.getElem?_map,List.getElem?_range Y5];rfl) h
 intro pins s σ H D I RV
 cases it with
 | Gb p cs =>
  obtain ⟨Hf,hz⟩:=ak hi
  obtain ⟨args,ha,NX⟩:=aP hz
  exact BO L ht ha NX Hf (by rw [Bool.or_comm];exact YX) hb pins s σ H D I RV
 | ji a =>
  obtain ⟨R,τ,ρ,r,Si,ev,hq⟩:=RV
  obtain ⟨⟨items,ρ1⟩,ei,ef⟩:=ae ev
  obtain ⟨⟨y,as⟩,hv,hz⟩:=aP hi
  obtain ⟨p,G_,rfl⟩:=cY hv
  obtain ⟨VO,NX⟩:=ak hz
  obtain ⟨YK,h2⟩:=ak VO
  obtain ⟨YJ,h1⟩:=ak YK
  obtain rfl:y = _:=of_decide_eq_true YJ
  obtain ⟨e,hu,h3⟩:=aP NX
  obtain rfl:as = [e]:=cB hu
  have pa:PA X [e] (qV X F Φ [a]):=PA.imp (dQ (gI (F:=F) L.toLk a e h3).1 gN (bY h3 _ _)) fun _ _ _ h=>by
   have:=fO h
   obtain ⟨R,τ,ρ,d,Si,ev,hq⟩:=this
   exact ⟨R,τ,ρ,d,Si,ev,fun v H' e r=>js (hq v H' e r)⟩
  refine pV L.px L.calm (oV (L.gl h1) (L.bl _ (of_decide_eq_true h2)) pa (bY h3 _ _)) hg hb mK pins s σ H D I ?_
  obtain ⟨d,ed,ei⟩:=ae ei
  cases d <;> try (simp at ei;done)
  rename_i n
  simp at ei
  obtain ⟨⟨c1,c2⟩,rfl,rfl⟩:=ei
  have mL:(dU:Int) = 1000000:=rfl
  refine ⟨R,τ,ρ,[.int n],Si,by show bd (aL Φ a ρ) _ = _;rw [ed];rfl,fun vs H1 e1 rv=>?_⟩
  obtain ⟨τt,fr,rs⟩:=rv
  cases rs.ints1
  ·refine ⟨n,rfl,by omega,by omega,?_⟩
   refine ji (lo:=0) Si e1 hq ?_
   simpa using ef
 | seq a =>
  obtain ⟨R,τ,ρ,r,Si,ev,hq⟩:=RV
  obtain ⟨⟨items,ρ1⟩,ei,ef⟩:=ae ev
  replace hi:=ak hi
  obtain ⟨d,ed,ei⟩:=ae ei
  have pe:=(gI (F:=F) L.toLk a iter hi.1).1
  cases d <;> try (simp at ei;done)
  ·rename_i ds
   simp at ei
   obtain ⟨rfl,rfl⟩:=ei
   refine pV L.px L.calm (yS pe) hg hb mK pins s σ H D I (tD.intro Si ed fun v H1 e1 rv=>?_)
   obtain ⟨R',τ',hR,fW,rp⟩:=vV Si e1 rv
   rw [aD] at rp
   cases rp with
   | @tup _ p xs _ hp rs =>
    have vB:=hq.from (Kp.of e1 hR)
    refine ⟨p,rfl,⟨xs,hp⟩,C6 (xs:=xs) (jY X F Φ t b R' H1 r (ag aK ds)) ⟨R',τ',_,fW,Kp.refl R' H1,by rw [List.drop_zero];exact ef⟩ (fun i σ' H' _ h=>?_) (fun i x σ' H' hx h=>mW z_ rs vB i x σ' H' hx h) (fun σ' H' h=>lH (rs.length) vB σ' H' h)⟩
    obtain ⟨R2,τ2,ρ2,_,kp,_⟩:=h
    exact kp.NA hp
  ·rename_i f ds
   simp at ei
   obtain ⟨rfl,rfl⟩:=ei
   refine pV L.px L.calm (vb pe) hg hb mK pins s σ H D I (tD.intro Si ed fun v H1 e1 rv=>?_)
   obtain ⟨R',τ',hR,fW,rp⟩:=vV Si e1 rv
   rw [aD] at rp
   cases rp with
   | @lst _ p xs _ _ hp rs =>
    have vB:=hq.from (Kp.of e1 hR)
    refine ⟨p,rfl,⟨xs,hp.sq⟩,Ao (xs:=xs) (jY X F Φ t b R' H1 r (ag aK ds)) ⟨R',τ',_,fW,Kp.refl R' H1,by rw [List.drop_zero];exact ef⟩ (fun i σ' H' _ h=>?_) (fun i x σ' H' hx h=>mW z_ rs vB i x σ' H' hx h) (fun σ' H' h=>lH (rs.length) vB σ' H' h)⟩
    obtain ⟨R2,τ2,ρ2,_,kp,_⟩:=h
    exact (kp.nd hp).sq
theorem iX {R R':Addr -> Prop} {τ':Addr -> Option aE} {ρ':au} {σ:St} {H H1:Hp} {p:Addr} {q:aE} {n:Nd} {o:HO} (Si:SI X F R' τ' ρ' σ H1) (es:aj H H1) (hR:∀ p,R p -> R' p) (hp:d5 H1 p n) (ht:τ' p = some q):Kp R H R' (upd H1 p o):=by
 obtain ⟨o0,Jm,LR,Jl⟩:=d5.some hp
 exact ⟨hR,fun a u ha e=>by
  have ne:a ≠ p:=fun z=>by subst z;rw [Si.rt _ (hR _ ha)] at ht;cases ht
  rw [av ne];exact es _ _ e,fun a zs e=>by
  have e1:=es _ _ e
  have ne:a ≠ p:=fun z=>by subst z;rw [Jm] at e1;cases e1;exact LR _ rfl
  rw [av ne];exact e1,fun a o u e=>by
  have e1:=es _ _ e
  have ne:a ≠ p:=fun z=>by subst z;rw [Jm] at e1;cases e1;exact Jl _ _ rfl
  rw [av ne];exact e1⟩
theorem gB.go {R:Addr -> Prop} {τ:Addr -> Option aE} {H H':Hp} {v:V} {d:DI.D} (h:gB X R τ H v d) (e:aj H H'):gB X R τ H' v d :=
 let ⟨τt,h1,h2⟩:=h;⟨τt,fun p q z=>let ⟨a,b,c,d⟩:=h1 p q z;⟨a,b,c,aj.ne e d⟩,h2.imp (fun _ _ h=>aA.same e h) fun _ _ _ _ h=>nd.same e h⟩
theorem QX (L:oE X S k Φ) {i:Nat} {o:Expr} (h:lg S i o = true) (hv:∀ x p,o = .Name x p -> mq x = true):∃ x p,o = .Name x p /\ X.N[i]? = some x /\ L2.Loc X.env.scope x /\ PE X o (tE i):=by
 cases o <;> try (exact (Bool.false_ne_true h).elim;done)
 rename_i x p
 have hn:=hv x p rfl
 replace h:=ak h
 unfold mq at hn
 simp only [Bool.and_eq_true,Bool.not_eq_true'] at hn
 have hN:X.N[i]? = some x:=by rw [L.N];exact of_decide_eq_true h.1
 have hl:=L.loc h.2
 exact ⟨x,p,rfl,hN,hl,tO hN (hl.imp id .inl) hn.1.1 hn.1.2⟩
theorem vW {e:CE} {ρ:au} {r:DI.D × au} {i:Nat} {ds:List DI.D} (h:iJ Φ e ρ = ok r) (ho:r.2[i]? = some (some (.lst .ow ds))):ρ[i]? = some (some (.lst .ow ds)):=by
 by_cases hv:∃ j,e = .v j
 ·obtain ⟨j,rfl⟩:=hv
  simp only [iJ] at h
  split at h
  ·split at h
   ·cases h
    by_cases iQ:i = j
    ·subst iQ
     rw [List.getElem?_set] at ho
     simp at ho
    ·rw [List.getElem?_set_ne (Ne.symm iQ)] at ho;exact ho
   ·cases h;exact ho
  ·cases h
 ·have h':bd (aL Φ e ρ) (fun d=>ok (keep e d ρ)) = ok r:=by
   cases e <;> first | exact h | exact absurd ⟨_,rfl⟩ hv
  obtain ⟨d,_,er⟩:=ae h'
  cases er
  unfold keep at ho
  split at ho
  ·obtain ⟨d',h1,h2⟩:=vT _ _ _ _ ho
   split at h2
   ·cases d' <;> simp [aD] at h2
    rename_i f ds'
    cases f <;> simp [aK] at h2
   ·rw [h2];exact h1
  ·exact ho
theorem Fx (L:oE X S k Φ) {i:Nat} {e:CE} {x:Str} {v:Expr} {p p1 p2 pos:Pos} (hn:lg S i (.Name x p) = true) (hx:mq x = true) (he:bO S e v = true) (Eu:(p1.endLine == p2.line) = true):PS X (.Expr (.Call (.Attribute (.Name x p) ("append" : Str) p1) [v] [] p2) pos) (qL X F Φ (.app i e)):=by
 obtain ⟨_,_,z,hN,hl,pe⟩:=QX L hn (fun y q e=>by cases e;exact hx)
 cases z
 refine PS.imp (lA (KW PySem.F.plainAttrs_list PySem.F.slot_list_append PySem.F.type_list_append w9 pe (dQ (pK (F:=F) L.toLk e v he) gN (bY he _ _)) (hfew:=by rw [bY he];rfl) (hline:=Eu) (hs:=bY he _ _))) fun D σ H hq=>?_
 obtain ⟨R,τ,ρ,r,Si,ev,hq⟩:=hq
 obtain ⟨r1,uj,ev⟩:=ae ev
 split at ev
 ·rename_i ds ho
  split at ev
  ·rename_i hc
   cases ev
   have ho:=vj ho
   obtain ⟨a,xs,hv,ha,VQ,N0,_⟩:=Si.own (vW uj ho)
   refine ⟨.ref a,hv,.inl ⟨rfl,_,dm.of ha⟩,R,τ,ρ,r1,Si,uj,fun w H1 R1 τ1 es hR pC rk=>?_⟩
   obtain ⟨a1,W_,NZ,Ss,YL,LM,Kv⟩:=pC.own ho
   rw [hv] at NZ
   cases NZ
   have hz:sizeLine = 16777216:=sizeLine_eq
   have mL:dU = 1000000:=rfl
   refine ⟨a,W_,w,rfl,rfl,Ss,by omega,?_⟩
   obtain ⟨τ2,pB⟩:=pC.put (m:=ds.length) (g:=fun ys=>ys ++ [w]) ho hv Ss LM Kv rk fun rs r=>af.D_ rs (by simpa using r)
   exact hq σ _ R1 τ2 pB (iX (n:=.l _) pC es hR Ss LM)
  ·cases ev
 ·cases ev
theorem BN (L:oE X S k Φ) {i:Nat} {c e:CE} {x:Str} {ke v:Expr} {p p1 pos:Pos} (hn:lg S i (.Name x p) = true) (hx:mq x = true) (hk:bO S c ke = true) (he:bO S e v = true) (R9:gh v = false):PS X (.Assign [.Subscript (.Name x p) ke p1] v pos) (qL X F Φ (.setI i c e)):=by
 obtain ⟨_,_,z,hN,hl,pe⟩:=QX L hn (fun y q e=>by cases e;exact hx)
 cases z
 have hw:swappedStores [.Subscript (.Name x p) ke p1] v X.env = pure none:=by cases v <;> rfl
 have ha:∀ u,assign (.Subscript (.Name x p) ke p1) X.env u = (do
   let ov <- holding [u] (eval (.Name x p) X.env)
   let iv <- holding [u,ov] (eval ke X.env)
   standAt p1
   holding [u,ov,iv] (setItem ov iv u)
   release [u,ov,iv] []):=by
  intro u
  cases ke <;> first | rfl | (cases c <;> exact (Bool.false_ne_true hk).elim)
 refine PS.imp (yQ (pK (F:=F) L.toLk e v he) (Ga pe (gI (F:=F) L.toLk c ke hk).1 set_list ha) (by first | rfl | (cases v <;> rfl) | (unfold swapsWithSole;exact nj he R9 _ _ _)) hw rfl) fun D σ H hq=>?_
 obtain ⟨R,τ,ρ,r,Si,ev,hq⟩:=hq
 obtain ⟨r1,uj,ev⟩:=ae ev
 obtain ⟨n,en,ev⟩:=ae ev
 obtain ⟨d,ed,en⟩:=ae en
 have en:=CD en
 subst en
 split at ev
 ·rename_i ds ho
  split at ev
  ·rename_i j hj
   cases ev
   have ho:=vj ho
   obtain ⟨a,xs,hv,ha,VQ,N0,_⟩:=Si.own (vW uj ho)
   refine ⟨R,τ,ρ,r1,Si,uj,fun w H1 R1 τ1 es hR pC rk=>?_⟩
   refine ⟨.ref a,hv,tD.intro pC ed fun u H2 e2 ru=>?_⟩
   cases ru.isInt
   have pB:=pC.go e2
   obtain ⟨a2,E_,NY,Sr,RM,LL,BZ⟩:=pB.own ho
   rw [hv] at NY
   cases NY
   refine ⟨a,E_,n,j,rfl,rfl,Sr,by rw [RM];exact hj,?_⟩
   obtain ⟨τ3,sT⟩:=pB.put (m:=j) (g:=fun ys=>ys.set j w) ho hv Sr LL BZ (rk.go e2) fun rs r=>af.setAt (j:=j) rs (by simpa using r)
   exact hq σ _ R1 τ3 sT (iX (n:=.l _) pB (es.trans e2) hR Sr LL)
  ·cases ev
 ·cases ev
end
end DI
end
section
namespace DI
open PySem PySem.Spec PyProof.Rows L2
section
variable {X:Cx} {S:Sx} {k:Nat} {F:Addr -> Prop} {Φ:az}
theorem FZ (x:Str) (p:Pos):(Expr.Name x p).pos = p:=rfl
theorem tG {env:Env} {x y:Str} {px py pt IW:Pos} {kt k2:Nat} {a b:Expr} (hk:env.scope.kind = .function) (hx:env.scope.names.lookup x = some .local) (hy:env.scope.names.lookup y = some .local) (VP:x ≠ y) (hl:px.line = py.line)
  (h1:[a,b].all (foldedForSure 8) = false) (h2:[a,b].all (constantsAlone 8) = false) (h3:([a,b].any fun e=>match e with | .Starred ..=>true | _=>false) = false) :
  swappedStores [.Tuple [.Name x px,.Name y py] kt pt] (.Tuple [a,b] k2 IW) env = pure (some [x,y]):=by
 have hb:env.blockKind = .function:=by unfold Env.blockKind;rw [hk];rfl
 have kx:env.kindOf x = some .local:=hx
 have ky:env.kindOf y = some .local:=hy
 have e1:([x,y].eraseDups.length != [x,y].length) = false:=by
  have:¬ (y == x) = true:=by simp;exact fun z=>VP z.symm
  have h':(y == x) = false:=by simpa using this
  simp [List.eraseDups_cons,List.filter,h',VP]
 unfold swappedStores
 simp only [hb,h3,List.filterMap_cons,List.filterMap_nil,kx,ky,hl,FZ,List.head?_cons,Option.map_some,Option.getD_some,h1,h2]
 simp only [beq_self_eq_true,Bool.and_self,if_true]
 rw [if_neg (by simp)]
 refine (if_neg ?_).trans ?_
 ·intro z;exact Bool.false_ne_true (h3.symm.trans z)
 rw [if_neg (by
  rw [e1]
  simp),if_neg Bool.false_ne_true,if_neg Bool.false_ne_true]
theorem jx {R R':Addr -> Prop} {A:Addr -> Prop} {τ τ':Addr -> Option aE} {H:Hp} {kp:aE} {v:V} {d:DI.D} (h:Rep (aA X.K H) (nd X.K R A τ H) kp v d) (hf:aq anyF d = false):gB X R' τ' H v d :=
 ⟨fun _=>none,fun _ _ h=>by simp at h,Rep.without (P:=anyF) (fun _ _ h=>h) (fun k k' p xs f hf h=>by cases hf) h hf _⟩
theorem Fv (L:oE X S k Φ) {i j:Nat} {a b:CE} {tg v:Expr} {pos:Pos} (he:bO S (.tup [a,b]) v = true) (hp:AF S i j tg v = true):PS X (.Assign [tg] v pos) (qL X F Φ (.par i j a b)):=by
 obtain ⟨ts,NZ,q1⟩:=aP hp
 obtain ⟨kt,pt,rfl⟩:=jn NZ
 obtain ⟨⟨t1,t2⟩,NY,q2⟩:=aP q1
 obtain rfl:ts = [t1,t2]:=gH NY
 obtain ⟨⟨x,px⟩,hv3,q3⟩:=aP q2
 obtain rfl:t1 = _:=uI hv3
 obtain ⟨⟨y,py⟩,hv4,q4⟩:=aP q3
 obtain rfl:t2 = _:=uI hv4
 obtain ⟨vs,YM,q5⟩:=aP q4
 obtain ⟨k2,IW,rfl⟩:=jn YM
 obtain ⟨⟨ea,eb⟩,hv6,q6⟩:=aP q5
 obtain rfl:vs = [ea,eb]:=gH hv6
 ·obtain ⟨q7,Mt⟩:=ak q6
  obtain ⟨q8,h9⟩:=ak q7
  obtain ⟨q9,h8⟩:=ak q8
  obtain ⟨PN,h7⟩:=ak q9
  obtain ⟨XX,h6⟩:=ak PN
  obtain ⟨XW,h5⟩:=ak XX
  obtain ⟨XU,h4⟩:=ak XW
  obtain ⟨XT,h3⟩:=ak XU
  obtain ⟨h1,h2⟩:=ak XT
  replace h1:S.N[i]? = some x:=of_decide_eq_true h1
  replace h2:S.N[j]? = some y:=of_decide_eq_true h2
  replace h3:=of_decide_eq_true h3
  replace h4:=of_decide_eq_true h4
  replace h5:=of_decide_eq_true h5
  replace h6:=of_decide_eq_true h6
  replace h7:=of_decide_eq_true h7
  replace h8:=mm h8
  replace h9:=mm h9
  replace Mt:=of_decide_eq_true Mt
  replace he:=ak he
  have pa:=uQ (F:=F) L.toLk [a,b] [ea,eb] he.1
  refine PS.imp (FX L.calm L.nd (by rw [L.N];exact h1) (by rw [L.N];exact h2) h3 (by rw [L.sc];exact h4) (by rw [L.sc];exact h5) pa (tG (by rw [L.sc];exact L.fk) (by rw [L.sc];exact h4) (by rw [L.sc];exact h5) h6 h7 h8 h9 Mt)) fun D σ H hq=>?_
  obtain ⟨R,τ,ρ,r,Si,ev,hq⟩:=hq
  obtain ⟨d1,ZF,ev⟩:=ae ev
  obtain ⟨d2,ZE,ev⟩:=ae ev
  simp only [Er] at ev
  obtain ⟨⟨f1,f2,l1,l2⟩,rfl⟩:=ev
  refine ⟨R,τ,ρ,[d1,d2],Si,by show bd (aL Φ a ρ) _ = _;rw [ZF];show bd (bd (aL Φ b ρ) _) _ = _;rw [ZE];rfl,fun vs H1 e1 rv=>?_⟩
  obtain ⟨τt,fr,rs⟩:=rv
  obtain ⟨v1,v2,rfl,r1,r2⟩:=rs.two
  ·obtain ⟨τ1,S1⟩:=(Si.go e1).set (i:=i) (jx r1 f1) l1
   obtain ⟨τ2,S2⟩:=S1.set (i:=j) (jx r2 f2) (by simpa using l2)
   exact ⟨v1,v2,rfl,hq _ H1 R τ2 S2 (Kp.of e1 fun _ h=>h)⟩
mutual
theorem Fy (L:oE X S k Φ):∀ (c:CS) (st:Stmt),MK S c st = true -> PS X st (qL X F Φ c)
 | .asg t e,st,h=>by
  obtain ⟨⟨DX,v⟩,v1,q1⟩:=aP h
  obtain ⟨pos,rfl⟩:=ll v1
  obtain ⟨tg,v2,q2⟩:=aP q1
  obtain rfl:DX = [tg]:=cB v2
  obtain ⟨q3,h4⟩:=ak q2
  obtain ⟨q4,h3⟩:=ak q3
  obtain ⟨h1,h2⟩:=ak q4
  have h1:bO S e v = true:=h1
  replace h3:(isTup v && isTup tg) = false:=mm h3
  cases hc:gh v with
  | false=>exact yu L h1 h2 h3 (nj h1 hc _ _ _)
  | true =>
   have h4:(!gh v || isNm tg) = true:=h4
   rw [hc] at h4
   obtain ⟨x,p,rfl⟩:=CB h4
   obtain ⟨gA,gens,sc,JO,rfl⟩:=xi hc
   cases e <;> try (exact (Bool.false_ne_true h1).elim)
   cases t with
   | tp is=>exact (Bool.false_ne_true h2).elim
   | nm i =>
    cases hb:O4 S (.Name x p) (.ListComp gA gens sc JO) with
    | true=>exact BP L h1 h2 (by rw [D8 L,hb])
    | false=>exact yu L h1 h2 h3 (by
      show swapsWith (.ListComp gA gens sc JO) (some (.Name x p)) pos.line X.env = _
      rw [D8 L,hb])
 | .par i j a b,st,h=>by
  obtain ⟨⟨DX,v⟩,v1,q1⟩:=aP h
  obtain ⟨pos,rfl⟩:=ll v1
  obtain ⟨tg,v2,q2⟩:=aP q1
  obtain rfl:DX = [tg]:=cB v2
  exact Fv L (ak q2).1 (ak q2).2
 | .ret e,st,h=>by
  obtain ⟨z,v1,q1⟩:=aP h
  obtain ⟨pos,rfl⟩:=Bo v1
  obtain ⟨v,v2,q2⟩:=aP q1
  obtain rfl:z = some v:=v2
  exact Ft L q2
 | .rs c,st,h=>fun _ _ _ _ _ _ ⟨R,τ,ρ,r,Si,ev,hq⟩=>by cases ev
 | .ex e,st,h=>by
  obtain ⟨v,v1,q1⟩:=aP h
  obtain ⟨pos,rfl⟩:=tj v1
  exact Ki L (ak q1).1 (mm (ak q1).2)
 | .mut p i es,st,h=>by
  obtain ⟨⟨o,args⟩,ha,q1⟩:=aP h
  obtain ⟨q2,h3⟩:=ak q1
  obtain ⟨h1,h2⟩:=ak q2
  obtain ⟨x,pp,rfl,hN,hl,pe⟩:=QX L h1 (fun y q e=>by cases e;exact h2)
  exact L.pm.m X _ _ k L.toLk.pX L.nd L.C7 p st x pp args ha i hN hl pe F es (lW L.toLk es args h3)
 | .app i e,st,h=>by
  obtain ⟨c,v1,q1⟩:=aP h
  obtain ⟨pos,rfl⟩:=tj v1
  obtain ⟨⟨fn,as,ks,p2⟩,v2,q2⟩:=aP q1
  obtain rfl:c = _:=oI v2
  obtain ⟨q3,q4⟩:=ak q2
  obtain rfl:ks = []:=mD q3
  obtain ⟨⟨o,a,p1⟩,v3,q5⟩:=aP q4
  obtain rfl:fn = _:=qR v3
  obtain ⟨q6,q7⟩:=ak q5
  obtain ⟨v,v4,h4⟩:=aP q7
  obtain rfl:as = [v]:=cB v4
  obtain ⟨q8,h5⟩:=ak q6
  obtain ⟨q9,h2⟩:=ak q8
  obtain ⟨PN,h1⟩:=ak q9
  obtain rfl:a = _:=of_decide_eq_true PN
  obtain ⟨x,p,rfl⟩:∃ x p,o = .Name x p:=wd h1
  exact Fx L h1 h2 h4 h5
 | .setI i k e,st,h=>by
  obtain ⟨⟨DX,v⟩,v1,q1⟩:=aP h
  obtain ⟨pos,rfl⟩:=ll v1
  obtain ⟨tg,v2,q2⟩:=aP q1
  obtain rfl:DX = [tg]:=cB v2
  obtain ⟨⟨o,ke⟩,v3,q3⟩:=aP q2
  obtain ⟨p1,rfl⟩:=fY v3
  obtain ⟨q4,h5⟩:=ak q3
  obtain ⟨q5,h4⟩:=ak q4
  obtain ⟨q6,h3⟩:=ak q5
  obtain ⟨h1,h2⟩:=ak q6
  obtain ⟨x,p,rfl⟩:∃ x p,o = .Name x p:=wd h1
  exact BN L h1 h2 h3 h4 (mm h5)
 | .ifs c a b,st,h=>by
  obtain ⟨⟨t,x,y⟩,v1,q1⟩:=aP h
  obtain ⟨pos,rfl⟩:=Br v1
  obtain ⟨q2,h3⟩:=ak q1
  obtain ⟨h1,h2⟩:=ak q2
  exact Kh L h1 (iq L a _ h2) (iq L b _ h3)
 | .Fb c b,st,h=>by
  obtain ⟨⟨t,x,y⟩,v1,q1⟩:=aP h
  obtain ⟨pos,rfl⟩:=Bn v1
  obtain ⟨q2,h3⟩:=ak q1
  obtain ⟨h1,h2⟩:=ak q2
  obtain rfl:y = []:=mD h1
  exact yt L h2 (iq L b _ h3)
 | .fr t it b,st,h=>by
  obtain ⟨⟨tg,iter,x,y⟩,v1,q1⟩:=aP h
  obtain ⟨pos,rfl⟩:=Bs v1
  obtain ⟨q2,h5⟩:=ak q1
  obtain ⟨q3,h4⟩:=ak q2
  obtain ⟨q4,h3⟩:=ak q3
  obtain ⟨h1,h2⟩:=ak q4
  obtain rfl:y = []:=mD h1
  exact Fw L h2 h3 h4 (iq L b _ h5)
theorem iq (L:oE X S k Φ):∀ (cs:List CS) (Kf:List Stmt),ba S cs Kf = true -> lO X Kf (nS X F Φ cs)
 | [],[],_=>lO.imp B5 fun D σ H ⟨R,τ,ρ,r,Si,ev,hq⟩=>by cases ev;exact hq σ H R τ Si (Kp.refl R H)
 | [],_ :: _,h=>by exact (Bool.false_ne_true h).elim
 | _ :: _,[],h=>by exact (Bool.false_ne_true h).elim
 | c :: cs,st :: Kf,h=>by
  replace h:=ak h
  have h1:PS X st (qL X F Φ c):=Fy L c st h.1
  have h2:lO X Kf (nS X F Φ cs):=iq L cs Kf h.2
  refine lO.imp (yM h1 h2) fun D σ H hq=>?_
  obtain ⟨R,τ,ρ,r,Si,ev,hq⟩:=hq
  obtain ⟨⟨fo,ρ1⟩,e1,ev⟩:=ae ev
  refine ⟨R,τ,ρ,(fo,ρ1),Si,e1,?_⟩
  cases fo with
  | nx=>exact fun σ' H' R' τ' fW kp=>⟨R',τ',ρ1,r,fW,ev,hq.from kp⟩
  | bk=>cases ev;exact hq
  | ct=>cases ev;exact hq
  | rt d=>cases ev;exact hq
end
end
theorem su {P:Program} {w:World} {K:PySem.W.Frag} {mg:Str -> Option Value} {base:Heap} {x qual:Str} {st:Stmt} {f:Addr} {fd:FuncData} {ps:List Str} {k:Nat} {N bl:List Str} {cs:List (Str × GK)} {px:Px} {C7:Nat -> Option Str} {Φ:az} {m:List D -> O D} {body:List CS}
  (Fu:IP K x qual st f fd) (Sc:aG N ps (ab st)) (Ho:ba ⟨ab st,N,C7,bl,cs,px⟩ body (ah st) = true) (Hf:DN px Φ) (RW:Oy px Φ)
  (So:∀ y ∈ bl,mg y = none) (CV:∀ y i,(y,i) ∈ cs -> ∃ u,mg y = some u /\ OA K i u)
  (sY:∀ g y,C7 g = some y -> ∃ (f:Addr) (fd:FuncData) (ps:List Str),jb P w K mg base A1 k f fd ps (D9 K ps.length (Φ g)) /\ mg y = some (.ref f) /\ PySem.W.keepIn K (.ref f) = true /\ Binds K fd ps [] /\ ∀ ds r,Φ g ds = ok r -> ds.length = ps.length)
  (hm:∀ ds r,m ds = ok r -> ds.length = ps.length /\ tM Φ N.length body ds = ok r):jb P w K mg base A1 (k + 1) f fd ps (D9 K ps.length m):=by
 refine Fu.ok (N:=N) Sc (fun vs H Q E ⟨_,_,_,h,_⟩=>h) fun kN A outer s H vs Q E hr A5=>?_
 obtain ⟨F,ds,r,hl,rs,er,hq⟩:=A5
 obtain ⟨hdl,ub⟩:=hm ds r er
 let X:=(uw A1 P w K mg base N qual (ab st) f kN A outer s H E).K8
 have L:oE X ⟨ab st,N,C7,bl,cs,px⟩ k Φ:=⟨⟨rfl,rfl,Sc.nd,rfl,hr,So,fun g y h=>⟨sY g y h⟩,CV,Hf⟩,fun _=>rfl,PassesOwn.never,Sc.kind,RW⟩
 refine ⟨nS X F Φ body,iq L body _ Ho,?_⟩
 unfold tM at ub
 obtain ⟨⟨fo,ρ'⟩,eb,ub⟩:=ae ub
 have hpl:ps.length <= N.length:=by have:=congrArg List.length Sc.pre;rw [List.length_take] at this;omega
 have CM:vs.length = ds.length:=rs.length
 refine ⟨fun p=>F p /\ H p ≠ none,fun _=>none,_,(fo,ρ'),⟨?_,fun i d hi=>?_,fun _ _=>rfl,fun p h=>h.2,fun p h=>.inl h.1,fun _ _ h=>by simp at h,fun _ _ h=>by simp at h,aj.refl H⟩,eb,?_⟩
 ·unfold L2.start
  simp [CM]
 ·have VV:i < ds.length:=by
   by_cases lF:i < ds.length
   ·exact lF
   ·rw [List.getElem?_append_right (by simpa using lF)] at hi
    rw [List.getElem?_replicate] at hi
    split at hi <;> simp at hi
  rw [List.getElem?_append_left (by simpa using VV),List.getElem?_map] at hi
  have hd:ds[i]? = some d:=by
   cases q:ds[i]? with
   | none=>rw [q] at hi;cases hi
   | some z=>rw [q] at hi;simp at hi;rw [hi]
  obtain ⟨v,hv,rv⟩:=rs.get hd
  refine ⟨v,?_,rv.imp (q:=[0 + i]) (q':=[i]) (fun _ _ h=>h) fun c p xs f h=>?_⟩
  ·unfold L2.start
   rw [List.getElem?_append_left (by rw [List.length_map,CM];exact VV),List.getElem?_map,hv];rfl
  ·cases f with
   | ow=>exact nomatch h.2
   | fz=>exact ⟨h.1,h.2,h.1.ne⟩
   | al=>exact h.2.elim
   | sc=>exact h
 ·cases fo with
  | nx =>
   cases ub
   exact fun σ' H' R' τ' fW kp=>hq .bC H' fW.same ⟨fun _=>none,fun _ _ h=>by simp at h,.bC⟩
  | bk=>simp at ub
  | ct=>simp at ub
  | rt d =>
   cases ub
   exact fun v H' es rr=>hq v H' es rr
structure Ent (P:Program) (w:World) (K:PySem.W.Frag) (mg:Str -> Option Value) (base:Heap) (k:Nat) (y:Str) (m:List D -> O D):Prop where
 ex:∃ (f:Addr) (fd:FuncData) (ps:List Str),jb P w K mg base A1 k f fd ps (D9 K ps.length m) /\ mg y = some (.ref f) /\ PySem.W.keepIn K (.ref f) = true /\ Binds K fd ps [] /\ ∀ ds r,m ds = ok r -> ds.length = ps.length
theorem Ent.up {P:Program} {w:World} {K:PySem.W.Frag} {mg:Str -> Option Value} {base:Heap} {k k':Nat} {y:Str} {m:List D -> O D} (h:Ent P w K mg base k y m) (hk:k <= k'):Ent P w K mg base k' y m:=by
 obtain ⟨f,fd,ps,h1,h2⟩:=h.ex
 exact ⟨f,fd,ps,h1.mono hk,h2⟩
theorem ent {P:Program} {w:World} {K:PySem.W.Frag} {mg:Str -> Option Value} {base:Heap} {x qual:Str} {st:Stmt} {f:Addr} {fd:FuncData} {ps:List Str} {k:Nat} {N bl:List Str} {cs:List (Str × GK)} {px:Px} {C7:Nat -> Option Str} {Φ:az} {m:List D -> O D} {body:List CS}
  (Fu:IP K x qual st f fd) (hmg:mg x = some (.ref f)) (hb:Binds K fd ps []) (Sc:aG N ps (ab st)) (Ho:ba ⟨ab st,N,C7,bl,cs,px⟩ body (ah st) = true) (Hf:DN px Φ) (RW:Oy px Φ) (So:∀ y ∈ bl,mg y = none) (CV:∀ y i,(y,i) ∈ cs -> ∃ u,mg y = some u /\ OA K i u)
  (sY:∀ g y,C7 g = some y -> Ent P w K mg base k y (Φ g)) (hm:∀ ds r,m ds = ok r -> ds.length = ps.length /\ tM Φ N.length body ds = ok r):Ent P w K mg base (k + 1) x m :=
 ⟨f,fd,ps,su Fu Sc Ho Hf RW So CV (fun g y h=>(sY g y h).ex) hm,hmg,Fu.kp,hb,fun ds r h=>(hm ds r h).1⟩
noncomputable def aw {α:Type} (P:α -> Prop):List α -> Prop
 | []=>True
 | a :: l=>P a /\ aw P l
theorem aw.mem {α:Type} {P:α -> Prop}:∀ {l:List α},aw P l -> ∀ a ∈ l,P a
 | [],_,_,h=>by cases h
 | _ :: _,h,_,hm=>(List.mem_cons.mp hm).elim (fun e=>e ▸ h.1) (aw.mem h.2 _)
theorem aw.tab {β:Type} {P:Nat -> β -> Prop}:∀ {l:List (Nat × β)},aw (fun p=>P p.1 p.2) l -> ∀ g y,l.lookup g = some y -> P g y
 | [],_,_,_,h=>by cases h
 | (k,b) :: l,h,g,y,e=>by
  rw [List.lookup_cons] at e
  cases hg:g == k with
  | true=>rw [hg] at e;cases e;rw [eq_of_beq hg];exact h.1
  | false=>rw [hg] at e;exact aw.tab h.2 g y e
theorem aw.two {β γ:Type} {P:β -> γ -> Prop} {l:List (β × γ)} (h:aw (fun p=>P p.1 p.2) l) (y:β) (i:γ) (hm:(y,i) ∈ l):P y i:=aw.mem h _ hm
theorem gT {α:Type} {l:List α} (h:l.length = 1):∃ a,l = [a]:=List.length_eq_one_iff.mp h
theorem mB {α:Type} {l:List α} (h:l.length = 2):∃ a b,l = [a,b]:=by
 cases l with
 | nil=>cases h
 | cons a l=>obtain ⟨b,rfl⟩:=gT (Nat.succ.inj h);exact ⟨a,b,rfl⟩
theorem Lq {α:Type} {l:List α} (h:l.length = 3):∃ a b c,l = [a,b,c]:=by
 cases l with
 | nil=>cases h
 | cons a l=>obtain ⟨b,c,rfl⟩:=mB (Nat.succ.inj h);exact ⟨a,b,c,rfl⟩
noncomputable def mF:List D -> Option (List Int)
 | []=>some []
 | .int i :: ds=>(mF ds).map (i :: ·)
 | _ :: _=>none
theorem mE:∀ ns:List Int,mF (ns.map D.int) = some ns
 | []=>rfl
 | n :: ns=>by simp [mF,mE ns]
theorem rL:∀ {ds:List D} {ns:List Int},mF ds = some ns -> ds = ns.map D.int
 | [],ns,h=>by simp [mF] at h;subst h;rfl
 | d :: ds,ns,h=>by
  cases d <;> simp [mF] at h
  obtain ⟨ms,h1,rfl⟩:=h
  rw [rL h1];rfl
noncomputable def rP:List D -> O D
 | [.lst .sc ds]=>match mF ds with
  | some ns=>if ns.length <= 63 then ok (.bl true) else none
  | none=>none
 | _=>none
theorem Ct {ns:List Int} (h:ns.length <= 63):rP [.lst .sc (ns.map D.int)] = ok (.bl true):=by
 simp [rP,mE,h]
theorem zA {Φ:az} {n:Nat} {b:List CS} (h:∀ ns:List Int,ns.length <= 63 -> tM Φ n b [.lst .sc (ns.map D.int)] = ok (.bl true)):∀ ds r,rP ds = ok r -> ds.length = 1 /\ tM Φ n b ds = ok r:=by
 intro ds r e
 match ds,e with
 | [.lst .sc ds],e =>
  simp only [rP] at e
  split at e
  ·rename_i ns x3
   split at e
   ·rename_i hl
    cases e
    obtain rfl:=rL x3
    exact ⟨rfl,h ns hl⟩
   ·cases e
  ·cases e
theorem GU (K:PySem.W.Frag) (H:Hp) (a:Addr) (ns:List Int) (m:List D -> O D) (hm:m [.lst .sc (ns.map D.int)] = ok (.bl true)) (hO:DP H) (hS:dm K H a (ns.map V.int)):D9 K 1 m [.ref a] H (fun v _=>v = .bl true) fun _ _ _=>False:=by
 refine ⟨fun _=>True,_,.bl true,rfl,.cons (.lst ?_ (af.ints ns)) .nil,hm,fun v H' _ ⟨τt,_,rp⟩=>by cases rp;rfl⟩
 rcases hS with (h | h) | h
 ·rcases hO a with z | ⟨o,xs,z⟩
  ·rw [h] at z;cases z
  ·rw [h] at z;cases z
 ·exact .inl h
 ·exact .inr h
end DI
end
section
namespace DI
open PySem PySem.Spec PyProof.Rows L2
section
variable {X:Cx} {pins:List (Addr × Obj)} {σ:St} {H:Hp} {s:Shared} {h':Heap}
theorem BC {t':Nat} {ch:List Addr} (I:Inv X pins σ H s) (hf:∀ b ∈ ch,nI X pins H b) (k:∀ b u,b ∉ ch -> s.heap.get? b = some u -> h'.get? b = some u):Inv X pins σ H { s with heap:=h',toks:=t' }:=by
 have Ej:∀ b u,H b = some u -> b ∉ ch:=fun b u e z=>by rw [(hf b z).1] at e;cases e
 refine I.step (g':=s.gens) (d':=s.drawn) (ch:=ch) (fun b hb=>⟨(hf b hb).2.2.2.1,(hf b hb).2.1,(hf b hb).2.2.2.2.1,(hf b hb).2.2.2.2.2⟩) (fun b o _ _ hc e _=>k b o hc e) (fun b o _ _ hc e _=>⟨o.slots,k b o hc e⟩) (fun _ _ _ _ n=>n)
  (fun b o hc e=>⟨o,k b o hc e⟩) (fun _ _ e=>e) (fun _ _ _ e=>e) (fun b ps e=>⟨#[],by rw [e];simp⟩) (fun m hm=>?_) (fun b u e=>?_) I.bare
 ·obtain ⟨o,es,ep,ho,r⟩:=hm
  exact ⟨o,es,ep,k _ o (fun z=>(hf _ z).2.1 rfl) ho,r⟩
 ·refine (I.cQ b u e).ju (fun c v hc q=>k c v ?_ q) (fun _ q=>q) fun _ _ q=>q
  rcases hc with z | z
  ·rw [z];exact Ej b u e
  ·exact Ej c _ z
theorem BD {t':Nat} {ch:List Addr} {T:Addr} {o:HO} (I:Inv X pins σ H s) (hf:∀ b ∈ ch,nI X pins H b) (k:∀ b u,b ∉ ch -> s.heap.get? b = some u -> h'.get? b = some u) (hT:s.heap.objs.size <= T) (new:bV X.prog X.w (upd H T o) h' T o) :
  Inv X pins σ (upd H T o) { s with heap:=h',toks:=t' }:=by
 have Ej:∀ b u,H b = some u -> b ∉ ch:=fun b u e z=>by rw [(hf b z).1] at e;cases e
 have hn:H T = none:=I.cQ.fresh hT
 have ne:∀ b (u:Obj),s.heap.get? b = some u -> b ≠ T:=fun b u e z=>absurd (Heap.lt_size e) (by rw [z];exact Nat.not_lt.mpr hT)
 have up:∀ b u,H b = some u -> upd H T o b = some u:=fun b u e=>by rw [av (bT e hn)];exact e
 refine I.step (g':=s.gens) (d':=s.drawn) (ch:=ch) (fun b hb=>⟨(hf b hb).2.2.2.1,(hf b hb).2.1,(hf b hb).2.2.2.2.1,(hf b hb).2.2.2.2.2⟩) (fun b o _ _ hc e _=>k b o hc e) (fun b o _ _ hc e _=>⟨o.slots,k b o hc e⟩) (fun b u _ e n=>by rw [av (ne b u e)];exact n)
  (fun b o hc e=>⟨o,k b o hc e⟩) (fun _ _ e=>up _ _ e) (fun _ _ _ e=>up _ _ e) (fun b ps e=>⟨#[],by rw [up _ _ e];simp⟩) (fun m hm=>?_) (vD (fun b u e=>?_) hn new) I.bare
 ·obtain ⟨o,es,ep,ho,r⟩:=hm
  exact ⟨o,es,ep,k _ o (fun z=>(hf _ z).2.1 rfl) ho,r⟩
 ·refine (I.cQ b u e).ju (fun c v hc q=>k c v ?_ q) (fun _ q=>q) fun _ _ q=>q
  rcases hc with z | z
  ·rw [z];exact Ej b u e
  ·exact Ej c _ z
end
noncomputable def U6 (K:PySem.W.Frag) (a b:Addr):It :=
  ⟨fun i H=>∃ xs ys x y,dm K H a xs /\ dm K H b ys /\ xs[i]? = some x /\ ys[i]? = some y,
   fun i H v H'=>∃ T x y,(∀ xs,dm K H a xs -> xs[i]? = some x) /\ (∀ ys,dm K H b ys -> ys[i]? = some y) /\ H T = none /\ v = .ref T /\ H' = upd H T (.tup [x,y]),
   fun i H=>∃ xs ys,dm K H a xs /\ dm K H b ys /\ (xs.length <= i \/ ys.length <= i)⟩
theorem uL {P:Program} {w:World} {H:Hp} {h:Heap} {T:Addr} {x y:V} {u v:Value} (rx:RelV x u) (ry:RelV y v) (e:h.get? T = some { cls:=.type "tuple",data:=.seq #[u,v] }):bV P w H h T (.tup [x,y]) :=
 ⟨by rw [sizeLine_eq];simp,[u,v],.cons rx (.cons ry .nil),⟨_,e,rfl,_,rfl⟩⟩
theorem cS {h:Heap} {a b:Addr} {o u:Obj} (ha:h.get? a = some o) (hb:h.get? b = some u) (hc:o.cls ≠ u.cls):a ≠ b:=fun z=>by
 subst z;rw [ha] at hb;cases hb;exact hc rfl
theorem yi {P:Program} {w:World} {K:PySem.W.Frag} {elts:List Expr} {n1:Nat} {tp:Pos} {a b z TI TO i1 i2:Addr} (Zk:TI ≠ TO) (Jx:i1 ≠ i2) :
  Turn P w K (.Tuple elts n1 tp) (U6 K a b) [z,TI,TO,i1,i2] z (fun i h=>IsZip h z TI TO .none /\ IsPair h TI (.ref i1) (.ref i2) /\ (∃ x y,IsPair h TO x y) /\ h.IsListIter i1 a i /\ h.IsListIter i2 b i):=by
 have apart:∀ {h:Heap} {x y:Value} {xs ys:Array Value} {i:Nat},IsZip h z TI TO .none -> IsPair h TI (.ref i1) (.ref i2) -> IsPair h TO x y -> h.IsListIter i1 a i -> h.IsListIter i2 b i -> h.IsList a xs -> h.IsList b ys -> ZipApart z TI TO i1 i2 a b:=by
  intro h x y xs ys i hz hI hO l1 l2 ha hb
  obtain ⟨o1,e1,c1,_⟩:=l1
  obtain ⟨o2,e2,c2,_⟩:=l2
  obtain ⟨oa,ea,ca,_⟩:=ha
  obtain ⟨ob,eb,cb,_⟩:=hb
  exact ⟨cS hI hz (by simp),cS hO hz (by simp),cS e1 hz (by rw [c1];simp),cS e2 hz (by rw [c2];simp),Zk,cS hI e1 (by rw [c1];simp),cS hI e2 (by rw [c2];simp),cS hO e1 (by rw [c1];simp),cS hO e2 (by rw [c2];simp),Jx,
   cS ea hz (by rw [ca];simp),cS ea hO (by rw [ca];simp),cS ea e1 (by rw [ca,c1];simp),cS ea e2 (by rw [ca,c2];simp),cS eb hz (by rw [cb];simp),cS eb hO (by rw [cb];simp),cS eb e1 (by rw [cb,c1];simp),cS eb e2 (by rw [cb,c2];simp)⟩
 refine ⟨by simp,fun i h st c hc=>?_,fun i h h' st k=>?_,?_,?_,fun A i s Q E st hQ=>wpAny_pyIter_zip st.1 hQ⟩
 ·obtain ⟨hz,hI,⟨x,y,hO⟩,⟨o1,e1,_,d1⟩,⟨o2,e2,_,d2⟩⟩:=st
  simp only [List.mem_cons,List.not_mem_nil,or_false] at hc
  rcases hc with rfl | rfl | rfl | rfl | rfl
  ·exact ⟨_,hz,fun v q=>by cases q⟩
  ·exact ⟨_,hI,fun v q=>by cases q⟩
  ·exact ⟨_,hO,fun v q=>by cases q⟩
  ·exact ⟨o1,e1,fun v q=>by rw [d1] at q;cases q⟩
  ·exact ⟨o2,e2,fun v q=>by rw [d2] at q;cases q⟩
 ·obtain ⟨hz,hI,⟨x,y,hO⟩,l1,l2⟩:=st
  exact ⟨k z (by simp) _ hz,k TI (by simp) _ hI,⟨x,y,k TO (by simp) _ hO⟩,l1.at fun o e=>k i1 (by simp) o e,l2.at fun o e=>k i2 (by simp) o e⟩
 ·intro X hP hw hK hc i pins s σ H E I hf st hg
  subst hP hw hK
  obtain ⟨xs,ys,x,y,q1,q2,ex,ey⟩:=hg
  obtain ⟨hz,hI,⟨x0,y0,hO⟩,l1,l2⟩:=st
  obtain ⟨ai,rv,p,_⟩:=I.list q1
  obtain ⟨its',xX,p',_⟩:=I.list q2
  obtain ⟨u,hu,ru⟩:=rv.get ex
  obtain ⟨u',CN,XJ⟩:=xX.get ey
  have D:=apart hz hI hO l1 l2 p.isList p'.isList
  refine wpAny_pyNext_zip_item D hz hI hO l1 l2 p.isList p'.isList (x:=u) (y:=u') (by simpa using hu) (by simpa using CN) fun h1 z1 o1 a1 b1 t1 Ny k1=>⟨_,rfl,?_⟩
  refine wpAny_letOwnedTupleGo_zip z1 fun h2 z2 IV=>?_
  have W9:s.heap.objs.size ≠ z:=Nat.ne_of_gt (Heap.lt_size hz)
  have kk:∀ c o,c ∉ [z,TI,TO,i1,i2] -> s.heap.get? c = some o -> h2.get? c = some o:=fun c o hc e=>by
   simp only [List.mem_cons,List.not_mem_nil,or_false,not_or] at hc
   exact IV.extBut c o hc.1 (k1 c o hc.1 hc.2.2.1 hc.2.2.2.1 hc.2.2.2.2 e)
  have hT:h2.get? s.heap.objs.size = some { cls:=.type "tuple",data:=.seq #[u,u'] }:=IV.extBut _ _ W9 t1
  have hn:H s.heap.objs.size = none:=I.cQ.fresh (Nat.le_refl _)
  refine ⟨.ref s.heap.objs.size,upd H s.heap.objs.size (.tup [x,y]),BD (s:=s) (h':=h2) (t':=s.toks) I hf kk (Nat.le_refl _) (uL ru XJ hT),rfl,⟨_,x,y,fun zs hz=>by rw [I.jB hz q1];exact ex,fun zs hz=>by rw [I.jB hz q2];exact ey,hn,rfl,rfl⟩,⟨z2,IV.extBut _ _ D.TIz (k1 _ _ D.TIz D.TITO D.TIi1 D.TIi2 hI),⟨_,_,IV.extBut _ _ D.TOz o1⟩,a1.extBut IV.extBut D.i1z,b1.extBut IV.extBut D.i2z⟩,fun c hc=>?_⟩
  rw [av]
  ·exact (hf c hc).1
  ·intro z
   subst z
   simp only [List.mem_cons,List.not_mem_nil,or_false] at hc
   rcases hc with e | e | e | e | e
   ·exact absurd (Heap.lt_size hz) (by rw [<- e];exact Nat.lt_irrefl _)
   ·exact absurd (Heap.lt_size hI) (by rw [<- e];exact Nat.lt_irrefl _)
   ·exact absurd (Heap.lt_size hO) (by rw [<- e];exact Nat.lt_irrefl _)
   ·obtain ⟨_,w,_⟩:=l1;exact absurd (Heap.lt_size w) (by rw [<- e];exact Nat.lt_irrefl _)
   ·obtain ⟨_,w,_⟩:=l2;exact absurd (Heap.lt_size w) (by rw [<- e];exact Nat.lt_irrefl _)
 ·intro X hP hw hK hc i pins s σ H E I hf st hg
  subst hP hw hK
  obtain ⟨xs,ys,q1,q2,hl⟩:=hg
  obtain ⟨hz,hI,⟨x0,y0,hO⟩,l1,l2⟩:=st
  obtain ⟨ai,rv,p,_⟩:=I.list q1
  obtain ⟨its',xX,p',_⟩:=I.list q2
  have e1:=rv.length
  have e2:=xX.length
  refine wpAny_pyNext_zip_end (I.ok.hd hc) (apart hz hI hO l1 l2 p.isList p'.isList) hz hI hO l1 l2 p.isList p'.isList (by simp;omega) fun h1 k1=>⟨rfl,BC (t':=s.toks) I hf fun c o hc e=>?_⟩
  simp only [List.mem_cons,List.not_mem_nil,or_false,not_or] at hc
  exact k1 c o hc.1 hc.2.2.1 hc.2.2.2.1 hc.2.2.2.2 e
theorem F_ {X:Cx} {e1 e2:Expr} {ta:TA} {elts:List Expr} {n1:Nat} {tp p pos:Pos} (hg:Gl X "zip") (hm:X.mg "zip" = none) (ha:PA X [e1,e2] ta) (hs:∀ es,starEach (e1 :: es) X.env = (false,eval e1 X.env) :: starEach es X.env) (Jj:∀ es,starEach (e2 :: es) X.env = (false,eval e2 X.env) :: starEach es X.env) :
  PI X (.Tuple elts n1 tp) (.Call (.Name "zip" p) [e1,e2] [] pos) (fun σ H R=>ta σ H fun vs H1=>∃ a b,vs = [.ref a,.ref b] /\ (∃ xs,dm X.K H1 a xs) /\ (∃ ys,dm X.K H1 b ys) /\ R (U6 X.K a b) H1):=by
 intro pins s σ H R I h
 refine Call_ (ft I hg hm boot_zip (PyProof.Rows.callWith_type1 (cI (ha pos pins s σ H _ I h) fun us s1 ⟨vs,H1,I1,r1,q1⟩=>?_) (hs _) (by rw [Jj];rfl)))
 obtain ⟨a,b,e,⟨xs,q1⟩,⟨ys,q2⟩,q⟩:=q1
 subst e
 obtain ⟨u,v,rfl,ru,rv⟩:=vals2 r1
 cases ru
 cases rv
 obtain ⟨ai,_,p1,_⟩:=I1.list q1
 obtain ⟨its',_,p2,_⟩:=I1.list q2
 refine call_zip_2 p1.isList p2.isList fun h' z t o l1 l2 sz k=>wpAny_pyIter_zip z ?_
 refine ⟨s1.heap.objs.size + 4,[s1.heap.objs.size + 4,s1.heap.objs.size + 2,s1.heap.objs.size + 3,s1.heap.objs.size,s1.heap.objs.size + 1],_,_,H1,rfl,I1.kept (t':=s1.toks) k,yi (Nat.ne_of_lt (Nat.lt_succ_self _)) (Nat.ne_of_lt (Nat.lt_succ_self _)),⟨z,t,⟨_,_,o⟩,l1,l2⟩,fun b hb=>?_,q⟩
 have vF:s1.heap.objs.size <= b:=by
  simp only [List.mem_cons,List.not_mem_nil,or_false] at hb
  rcases hb with rfl | rfl | rfl | rfl | rfl <;> first | exact Nat.le_add_right .. | exact Nat.le_refl _
 exact I1.An vF (I1.cQ.fresh vF)
noncomputable def hJ (sc:Scope) (bl:List Str) (e:Expr):Option (List Expr):=match eC e with
 | some z=>match two z.2 with
  | some _=>if z.1 = ("zip" : Str) /\ gX sc z.1 = true /\ z.1 ∈ bl then some z.2 else none
  | none=>none
 | none=>none
theorem ph {sc:Scope} {bl:List Str} {e:Expr} {args:List Expr} (h:hJ sc bl e = some args):∃ p pos a b,e = .Call (.Name ("zip" : Str) p) [a,b] [] pos /\ args = [a,b] /\ gX sc ("zip" : Str) = true /\ ("zip" : Str) ∈ bl:=by
 unfold hJ at h
 cases hv:eC e with
 | none=>rw [hv] at h;cases h
 | some z =>
  obtain ⟨x,as⟩:=z
  rw [hv] at h
  obtain ⟨p,pos,rfl⟩:=cY hv
  have h:(match two as with | some _=>if x = ("zip" : Str) /\ gX sc x = true /\ x ∈ bl then some as else none | none=>none) = some args:=h
  cases hw:two as with
  | none=>rw [hw] at h;cases h
  | some w =>
   obtain ⟨a,b⟩:=w
   rw [hw] at h
   have h:(if x = ("zip" : Str) /\ gX sc x = true /\ x ∈ bl then some as else none) = some args:=h
   obtain rfl:=gH hw
   by_cases hc:x = ("zip" : Str) /\ gX sc x = true /\ x ∈ bl
   ·rw [if_pos hc] at h
    cases h
    obtain ⟨rfl,h1,h2⟩:=hc
    exact ⟨_,_,_,_,rfl,rfl,h1,h2⟩
   ·rw [if_neg hc] at h;cases h
theorem gM {X:Cx} {F:Addr -> Prop} {Φ:az} {cs:List CE} {a b:Expr} (h:kP X F Φ cs [a,b]):(∃ c d,cs = [c,d] /\ PE X a (tD X F Φ c) /\ PE X b (tD X F Φ d)) /\ PA X [a,b] (qV X F Φ cs) /\ (∀ es,starEach (a :: es) X.env = (false,eval a X.env) :: starEach es X.env) /\ (∀ es,starEach (b :: es) X.env = (false,eval b X.env) :: starEach es X.env):=by
 match cs,h with
 | [c,d],h =>
  obtain ⟨h1,h2,_,h3,h4,_,_⟩:=h
  exact ⟨⟨c,d,rfl,h1,h3⟩,PA.imp (dQ h1 (PA.imp (dQ h3 (PA.imp gN fun _ _ _ h=>js h) (h4 _)) fun _ _ _ h=>fO h) (h2 _)) fun _ _ _ h=>fO h,h2,h4⟩
 | [],h=>exact h.elim
 | [_],h=>exact h.2.2.2.elim
 | _ :: _ :: _ :: _,h=>exact h.2.2.2.2.2.2.elim
theorem Rep.Vh {K:PySem.W.Frag} {R:Addr -> Prop} {H H':Hp} {k:aE} {v:V} {d:D} (e:aj H H') (h:Rep (aA K H) (nd K R (fun _=>False) (fun _=>none) H) k v d) {k':aE}:Rep (aA K H') (nd K R (fun _=>False) (fun _=>none) H') k' v d :=
 (Rep.p5 h (k':=k')).imp (fun _ _ h=>aA.same e h) fun _ _ _ _ h=>nd.same e h
theorem Bj {K:PySem.W.Frag} {p q:Addr} {f g:Fl} {a b:List D} {H2:Hp}:JG K (U6 K p q) H2 [.ref p,.ref q] [.lst f a,.lst g b] (ag aK (List.zipWith (fun x y=>.tup [x,y]) a b)):=by
 have len:(ag aK (List.zipWith (fun x y=>D.tup [x,y]) a b)).length = min a.length b.length:=by rw [aC];simp
 have two:∀ {H':Hp} {R':Addr -> Prop},af (aA K H') (nd K R' (fun _=>False) (fun _=>none) H') [] 0 [.ref p,.ref q] (ag aK [.lst f a,.lst g b]) ->
   ∃ xs ys,dm K H' p xs /\ dm K H' q ys /\ af (aA K H') (nd K R' (fun _=>False) (fun _=>none) H') [0] 0 xs (ag aK a) /\ af (aA K H') (nd K R' (fun _=>False) (fun _=>none) H') [1] 0 ys (ag aK b):=by
  intro H' R' h
  rw [ag,aD,ag,aD,ag] at h
  cases h with
  | cons h t=>cases t with
   | cons h' t=>cases h with
    | lst h r=>cases h' with
     | lst h' r'=>exact ⟨_,_,h.sq,h'.sq,r,r'⟩
 refine ⟨fun i H' R' _ h hi=>?_,fun i H' R' x lj _ h hi hy=>?_,fun i H' R' _ h hi=>?_⟩
 ·obtain ⟨xs,ys,h1,h2,r1,r2⟩:=two h
  rw [len] at hi
  have l1:=r1.length
  have l2:=r2.length
  rw [aC,List.length_map] at l1 l2
  exact ⟨xs,ys,xs[i]'(by omega),ys[i]'(by omega),h1,h2,List.getElem?_eq_getElem _,List.getElem?_eq_getElem _⟩
 ·obtain ⟨xs,ys,h1,h2,r1,r2⟩:=two h
  obtain ⟨T,u,v,g1,g2,hn,rfl,rfl⟩:=hy
  obtain ⟨d1,e1,p1⟩:=r1.xx (g1 xs h1)
  obtain ⟨d2,e2,p2⟩:=r2.xx (g2 ys h2)
  have es:aj H' (upd H' T (.tup [u,v])):=aj.upd hn
  refine ⟨es,.tup [d1,d2],?_,.tup (aA.of aB) (.cons (p1.Vh es) (.cons (p2.Vh es) .nil))⟩
  rw [aC,List.getElem?_map] at e1 e2 ⊢
  obtain ⟨c1,q1,rfl⟩:=Option.map_eq_some_iff.mp e1
  obtain ⟨c2,q2,rfl⟩:=Option.map_eq_some_iff.mp e2
  rw [List.getElem?_zipWith,q1,q2]
  simp [aD,ag]
 ·obtain ⟨xs,ys,h1,h2,r1,r2⟩:=two h
  rw [len] at hi
  have l1:=r1.length
  have l2:=r2.length
  rw [aC,List.length_map] at l1 l2
  exact ⟨xs,ys,h1,h2,by omega⟩
theorem EX {Φ:az} {n:Nat} (hΦ:Φ n = wB) {X:Cx} {sc:Scope} {bl:List Str} {k:Nat} (L:PX X sc bl k) {e:Expr} {args:List Expr} (he:hJ sc bl e = some args) {F:Addr -> Prop} {cs:List CE} {tg:Expr} (ht:gg tg = true) (hs:kP X F Φ cs args)
  {pins:List (Addr × Obj)} {s:Shared} {σ:St} {H:Hp} {R:Addr -> Prop} {τ:Addr -> Option aE} {ρ:au} {xs:List D} {d:D} {items:List D} (I:Inv X pins σ H s) (Si:SI X F R τ ρ σ H) (bP:cD Φ cs ρ = ok xs) (ed:Φ n xs = ok d) (ei:nY d = ok items) (Rr:It -> Hp -> Prop)
  (hR:∀ J H2 vs,aj H H2 -> bU X.K (gP X F) R τ (dk cs) H H2 vs xs -> JG X.K J H2 vs xs items -> Rr J H2) :
  wpAny (model X.prog X.w) X.A (eval e X.env) (fun v s1=>wpAny (model X.prog X.w) X.A (pyIter v) (AY X pins σ tg Rr) X.xe s1) X.xe s:=by
 obtain ⟨p,pos,a,b,rfl,rfl,h1,h2⟩:=ph he
 cases tg <;> try (cases ht;done)
 obtain ⟨_,pa,s1,s2⟩:=gM hs
 refine F_ (L.gl h1) (L.bl _ h2) pa s1 s2 pins s σ H Rr I ⟨R,τ,ρ,xs,Si,bP,fun vs H1 e1 rv=>?_⟩
 have XI:=rv
 obtain ⟨τt,fr,rs⟩:=rv
 rw [hΦ] at ed
 unfold wB at ed
 split at ed
 ·cases ed
  cases ei
  obtain ⟨v,w,rfl,rx,ry⟩:=rs.two
  cases rx with
  | lst hx _=>cases ry with
   | lst hy _=>exact ⟨_,_,rfl,⟨_,hx.sq⟩,⟨_,hy.sq⟩,hR _ H1 _ e1 XI Bj⟩
 ·cases ed
end DI
end
section
namespace DI
open PySem PySem.Spec PyProof.Rows L2
end DI
end
section
namespace DI
open PySem PySem.Spec PyProof.Rows L2
section
variable {X:Cx}
end
noncomputable def ko (f:Str) (sc:Scope) (bl:List Str) (e:Expr):Option (List Expr):=match eC e with
 | some z=>match one z.2 with
  | some _=>if z.1 = f /\ gX sc z.1 = true /\ z.1 ∈ bl then some z.2 else none
  | none=>none
 | none=>none
theorem pj {f:Str} {sc:Scope} {bl:List Str} {e:Expr} {args:List Expr} (h:ko f sc bl e = some args):∃ p pos a,e = .Call (.Name f p) [a] [] pos /\ args = [a] /\ gX sc f = true /\ f ∈ bl:=by
 unfold ko at h
 cases hv:eC e with
 | none=>rw [hv] at h;cases h
 | some z =>
  obtain ⟨x,as⟩:=z
  rw [hv] at h
  obtain ⟨p,pos,rfl⟩:=cY hv
  have h:(match one as with | some _=>if x = f /\ gX sc x = true /\ x ∈ bl then some as else none | none=>none) = some args:=h
  cases hw:one as with
  | none=>rw [hw] at h;cases h
  | some a =>
   rw [hw] at h
   have h:(if x = f /\ gX sc x = true /\ x ∈ bl then some as else none) = some args:=h
   obtain rfl:=cB hw
   by_cases hc:x = f /\ gX sc x = true /\ x ∈ bl
   ·rw [if_pos hc] at h
    cases h
    obtain ⟨rfl,h1,h2⟩:=hc
    exact ⟨_,_,_,rfl,rfl,h1,h2⟩
   ·rw [if_neg hc] at h;cases h
end DI
end
section
namespace DI
open PySem PySem.Spec PyProof.Rows L2
end DI
end
section
namespace DI
open PySem PySem.Spec PyProof.Rows L2
section
variable {prog:Program} {w:World} {A:Around} {E:Value -> Shared -> Prop} {s:Shared}
noncomputable def qJ (h:Heap) (vs:List Value) (nss:List (List Int)):Prop:=vs.length = nss.length /\ ∀ (i:Nat) (ns:List Int),nss[i]? = some ns -> ∃ t ai,vs[i]? = some (.ref t) /\ IsTup h t ai.toArray /\ IntsAre ai ns /\ ns ≠ []
theorem rR {fin:Bool} {Q:Bool -> Shared -> Prop}:∀ {ai Cw:List Value} {ns ms:List Int} (i:Nat),IntsAre ai ns -> IntsAre Cw ms -> fin = decide (ai.length < Cw.length) -> Q (HT.lexLt ns ms) s -> PySem.W.KatLex prog w A true fin Q (ai.zip Cw) i s
 | _,_,_,_,i,.nil,.nil,hf,h=>by subst hf;exact h
 | _,_,_,_,i,.nil,.cons _ _ _,hf,h=>by subst hf;exact h
 | _,_,_,_,i,.cons _ _ _,.nil,hf,h=>by subst hf;exact h
 | _,_,_,_,i,.cons (ns:=ns) a t h1,.cons (ns:=ms) b u h2,hf,h=>by
  rw [HT.dj] at h
  refine PySem.W.kat_cons (wpAny_eqBool_int (PySem.W.kat_go (fun e=>?_) fun e=>?_))
  ·have e:a = b:=by simpa using e
   rw [if_pos e] at h
   exact PySem.W.kat_yes (rR (i + 1) h1 h2 (by rw [hf];simp) h)
  ·have e:¬ a = b:=by simpa using e
   rw [if_neg e] at h
   refine PySem.W.kat_no ?_
   rw [Bool.true_and]
   cases i == 0 with
   | true=>exact oneLt_int h
   | false=>exact PySem.W.kat_one _ _ (lt_int h)
theorem qJ.mono {h h':Heap} {vs:List Value} {nss:List (List Int)} (k:∀ b o,h.get? b = some o -> h'.get? b = some o) (t:qJ h vs nss):qJ h' vs nss :=
 ⟨t.1,fun i ns e=>let ⟨a,ai,e1,⟨o,ho,r⟩,e3⟩:=t.2 i ns e;⟨a,ai,e1,⟨o,k _ _ ho,r⟩,e3⟩⟩
end
end DI
end
section
namespace DI
open PySem PySem.Spec PyProof.Rows L2
noncomputable def fq (ns:List Int):D:=.tup (ns.map D.int)
end DI
end
section
namespace DI
open PySem PySem.Spec PyProof.Rows L2
theorem pJ {K:PySem.W.Frag} {H:Hp} {p a:Addr} {xs ys:List V} {o:HO} (hp:H p = some (.lst xs)) (h:aA K H a ys):aA K (upd H p o) a ys:=by
 rcases h with (h | ⟨o',h⟩) | h
 ·exact .inl (.inl (by rw [av (fun z=>by subst z;rw [hp] at h;cases h)];exact h))
 ·exact .inl (.inr ⟨o',by rw [av (fun z=>by subst z;rw [hp] at h;cases h)];exact h⟩)
 ·exact .inr h
theorem lB {Φ:az} {n i:Nat} {cs:List CE} {xs:List D} {ρ:au} {r:Fo × au} (ev:rN Φ n i (kI cs xs ρ) = ok r) (ha:ao bp xs = false):∃ d d',ρ[i]? = some (some d) /\ Φ n (d :: xs) = ok d' /\ r = (.nx,ρ.set i (some d')):=by
 unfold kI at ev
 rw [if_neg (by rw [ha];exact Bool.false_ne_true)] at ev
 unfold rN at ev
 split at ev
 ·rename_i d hd
  obtain ⟨d',h1,h2⟩:=ae ev
  cases h2
  exact ⟨d,d',hd,h1,rfl⟩
 ·cases ev
theorem tR {Φ:az} {n i:Nat} {cs:List CE} {xs:List D} {ρ:au} {r:Fo × au} (ev:rN Φ n i (kI cs xs ρ) = ok r) (ha:ao bp xs = true):∃ d d',Φ n (d :: ag aK xs) = ok d':=by
 unfold kI at ev
 rw [if_pos ha] at ev
 unfold rN at ev
 split at ev
 ·rename_i d hd
  obtain ⟨d',h1,h2⟩:=ae ev
  exact ⟨d,d',h1⟩
 ·cases ev
noncomputable def Gn:D -> Option (List D)
 | .lst f ds=>if cG f then some ds else none
 | _=>none
theorem zc {d:D} {ds:List D} (h:Gn d = some ds):d = .lst .ow ds:=by
 cases d <;> first | (cases h;done) | skip
 rename_i f es
 have h:(if cG f then some es else none) = some ds:=h
 cases f <;> first | (cases h;rfl) | (cases h;done)
noncomputable def kF (m:Str) (st:Stmt):Option (Expr × List Expr):=match JU st with
 | some c=>match pE c with
  | some z=>match uK z.1 with
   | some y=>if y.2.1 = m /\ z.2.2.1 = [] /\ (y.2.2.endLine == z.2.2.2.line) = true then some (y.1,z.2.1) else none
   | none=>none
  | none=>none
 | none=>none
theorem lT {m:Str} {st:Stmt} {o:Expr} {as:List Expr} (h:kF m st = some (o,as)):∃ p1 p2 pos,st = .Expr (.Call (.Attribute o m p1) as [] p2) pos /\ (p1.endLine == p2.line) = true:=by
 unfold kF at h
 cases h1:JU st with
 | none=>rw [h1] at h;cases h
 | some c =>
  obtain ⟨pos,rfl⟩:=tj h1
  rw [h1] at h
  cases h2:pE c with
  | none=>simp only [h2] at h;cases h
  | some z =>
   obtain ⟨f,Ou,ks,p2⟩:=z
   obtain rfl:=oI h2
   simp only [h2] at h
   cases h3:uK f with
   | none=>simp only [h3] at h;cases h
   | some y =>
    obtain ⟨o',a,p1⟩:=y
    obtain rfl:=qR h3
    simp only [h3] at h
    by_cases hc:a = m /\ ks = [] /\ (p1.endLine == p2.line) = true
    ·rw [if_pos hc] at h
     cases h
     obtain ⟨rfl,rfl,hl⟩:=hc
     exact ⟨p1,p2,pos,rfl,hl⟩
    ·rw [if_neg hc] at h;cases h
end DI
end
section
namespace DI
open PySem PySem.Spec PyProof.Rows L2
noncomputable def tq (J:Nat) (d:D):Nat -> List D -> List D
 | _,[]=>[]
 | n,x :: xs=>(if n = J then d else x) :: tq J d (n + 1) xs
theorem af.tq {T T':iL} {N N':gC} {q:aE} {J:Nat} {d:D} (hT:∀ p xs,T p xs -> T' p xs) (hN:∀ c m p xs f,m ≠ J -> N (c ++ (m :: q)) p xs f -> N' (c ++ (m :: q)) p xs f):∀ {n:Nat} {vs:List V} {ds:List D},af T N q n vs ds -> (∀ k v,vs[k]? = some v -> n + k = J -> Rep T' N' (J :: q) v d) -> af T' N' q n vs (DI.tq J d n ds)
 | _,_,_,.nil,_=>.nil
 | n,_,_,.cons (d:=x) h t,hj=>by
  refine .cons ?_ (af.tq hT hN t fun k v e z=>hj (k + 1) v e (by omega))
  by_cases hn:n = J
  ·rw [if_pos hn];subst hn;exact hj 0 _ rfl rfl
  ·rw [if_neg hn];exact h.imp (q:=n :: q) (q':=n :: q) hT fun c p xs f h=>hN c n p xs f hn h
section
variable {X:Cx} {F R:Addr -> Prop} {τ:Addr -> Option aE} {ρ:au} {σ:St} {H:Hp}
theorem SI.Q1 {p a:Addr} {q q0:aE} {n:Nd} {f:Fl} {o:HO} {xs:List V} (Si:SI X F R τ ρ σ H) (hp:H p = some (.lst xs)) (ht:τ p = some q0) (hq:q ≠ q0) (h:nd X.K R (fun _=>False) τ H q a n f):nd X.K R (fun _=>False) τ (upd H p o) q a n f:=by
 have low:∀ {a:Addr} {z:Nd},a ≠ p -> d5 H a z -> d5 (upd H p o) a z:=fun ne h=>h.at fun u e=>by rw [av ne];exact e
 cases f with
 | ow=>exact ⟨low (fun z=>by subst z;exact hq (Option.some.inj (h.2.symm.trans ht))) h.1,h.2⟩
 | fz=>exact ⟨low (fun z=>by subst z;rw [Si.rt _ h.2] at ht;cases ht) h.1,h.2⟩
 | al=>exact h.2.elim
 | sc =>
  obtain ⟨ys,rfl,h⟩:=h.yF
  exact h.elim (fun ⟨o',w⟩=>.inl ⟨o',by rw [av (fun z=>by subst z;rw [hp] at w;cases w)];exact w⟩) .inr
theorem SI.Wu {i j:Nat} {d0 d1:D} {p:Addr} {xs ys:List V} (Si:SI X F R τ ρ σ H) (hi:ρ[i]? = some (some d0)) (hp:H p = some (.lst xs)) (ht:τ p = some [j,i])
  {v:V} (hv:σ[i]? = some (some v)) (hb:Rep (aA X.K (upd H p (.lst ys))) (nd X.K R (fun _=>False) τ (upd H p (.lst ys))) [i] v d1):SI X F R τ (ρ.set i (some d1)) σ (upd H p (.lst ys)):=by
 have N2:i < ρ.length:=by
  by_cases z:i < ρ.length
  ·exact z
  ·rw [List.getElem?_eq_none (by omega)] at hi;cases hi
 have there:∀ a,H a ≠ none -> upd H p (.lst ys) a ≠ none:=fun a h=>by
  by_cases z:a = p
  ·rw [z,aB];simp
  ·rw [av z];exact h
 refine ⟨by simp [Si.len],fun m d hm=>?_,Si.rt,fun a ha=>there a (Si.rh a ha),Si.rf,fun a q e=>there a (Si.th a q e),Si.t0,fun a u e=>?_⟩
 ·by_cases z:m = i
  ·subst z
   rw [List.getElem?_set_self N2] at hm
   cases hm
   exact ⟨v,hv,hb⟩
  ·rw [List.getElem?_set_ne (Ne.symm z)] at hm
   obtain ⟨v,h1,h2⟩:=Si.rep m d hm
   refine ⟨v,h1,h2.imp (q:=[m]) (q':=[m]) (fun _ _ h=>pJ hp h) fun c a n f h=>Si.Q1 hp ht (fun e=>?_) h⟩
   have:=congrArg List.getLast? e
   simp at this
   exact z this
 ·rw [av (fun z=>by subst z;rw [Si.t0 _ _ ht] at e;cases e)]
  exact Si.same a u e
end
noncomputable def la (ds:List D) (j:Nat):Option (List D):=match ds[j]? with
 | some d=>match Gn d with
  | some _=>some (tq j (.lst .ow []) 0 ds)
  | none=>none
 | none=>none
theorem wb {ds es:List D} {j:Nat} (h:la ds j = some es):∃ gs,ds[j]? = some (.lst .ow gs) /\ es = tq j (.lst .ow []) 0 ds:=by
 unfold la at h
 cases h1:ds[j]? with
 | none=>rw [h1] at h;cases h
 | some d =>
  rw [h1] at h
  have h:(match Gn d with | some _=>some (tq j (.lst .ow []) 0 ds) | none=>none) = some es:=h
  cases h2:Gn d with
  | none=>rw [h2] at h;cases h
  | some gs =>
   rw [h2] at h
   cases h
   exact ⟨gs,by rw [zc h2],rfl⟩
noncomputable def uy (xs:List D):O D:=match two xs with
 | some z=>match z.2 with
  | .int k=>if 0 <= k then (match z.1 with
   | .tup ds=>(match la ds k.toNat with | some es=>ok (.tup es) | none=>none)
   | .lst f ds=>if cG f then (match la ds k.toNat with | some es=>ok (.lst f es) | none=>none) else none
   | _=>none) else none
  | _=>none
 | none=>none
theorem wc {x y d:D} (h0:uy [x,y] = ok d):∃ (k:Int) (ds gs:List D),y = .int k /\ 0 <= k /\ ds[k.toNat]? = some (.lst .ow gs) /\ ((x = .tup ds /\ d = .tup (tq k.toNat (.lst .ow []) 0 ds)) \/ (x = .lst .ow ds /\ d = .lst .ow (tq k.toNat (.lst .ow []) 0 ds))):=by
 cases y <;> first | (cases h0;done) | skip
 rename_i k
 by_cases hk:0 <= k
 ·have h:(if 0 <= k then (match x with
   | .tup ds=>(match la ds k.toNat with | some es=>ok (.tup es) | none=>none)
   | .lst f ds=>if cG f then (match la ds k.toNat with | some es=>ok (.lst f es) | none=>none) else none
   | _=>none) else none) = ok d:=h0
  rw [if_pos hk] at h
  clear h0
  cases x <;> first | (cases h;done) | skip
  ·rename_i ds
   replace h:(match la ds k.toNat with | some es=>ok (D.tup es) | none=>none) = ok d:=h
   cases hc:la ds k.toNat with
   | none=>rw [hc] at h;cases h
   | some es =>
    rw [hc] at h
    cases h
    obtain ⟨gs,h1,rfl⟩:=wb hc
    exact ⟨k,ds,gs,rfl,hk,h1,.inl ⟨rfl,rfl⟩⟩
  ·rename_i f ds
   replace h:(if cG f then (match la ds k.toNat with | some es=>ok (D.lst f es) | none=>none) else none) = ok d:=h
   by_cases hf:cG f = true
   ·rw [if_pos hf] at h
    cases hc:la ds k.toNat with
    | none=>rw [hc] at h;cases h
    | some es =>
     rw [hc] at h
     cases h
     obtain rfl:f = .ow:=by cases f <;> first | rfl | (cases hf;done)
     obtain ⟨gs,h1,rfl⟩:=wb hc
     exact ⟨k,ds,gs,rfl,hk,h1,.inr ⟨rfl,rfl⟩⟩
   ·rw [if_neg hf] at h;cases h
 ·have h:(if 0 <= k then (match x with
   | .tup ds=>(match la ds k.toNat with | some es=>ok (.tup es) | none=>none)
   | .lst f ds=>if cG f then (match la ds k.toNat with | some es=>ok (.lst f es) | none=>none) else none
   | _=>none) else none) = ok d:=h0
  rw [if_neg hk] at h
  cases h
noncomputable def qx (_:Scope) (_:List Str) (st:Stmt):Option (Expr × List Expr):=match kF ("clear" : Str) st with
 | some z=>if z.2 = [] then (match iU z.1 with
  | some y=>some (y.1,[y.2])
  | none=>none) else none
 | none=>none
theorem xO {sc:Scope} {bl:List Str} {st:Stmt} {o:Expr} {args:List Expr} (h:qx sc bl st = some (o,args)):∃ k p0 p1 p2 pos,args = [k] /\ st = .Expr (.Call (.Attribute (.Subscript o k p0) ("clear" : Str) p1) [] [] p2) pos /\ (p1.endLine == p2.line) = true:=by
 unfold qx at h
 cases h1:kF ("clear" : Str) st with
 | none=>rw [h1] at h;cases h
 | some z =>
  obtain ⟨b,as⟩:=z
  rw [h1] at h
  have h:(if as = [] then (match iU b with | some y=>some (y.1,[y.2]) | none=>none) else none) = some (o,args):=h
  by_cases ha:as = []
  ·rw [if_pos ha] at h
   cases h2:iU b with
   | none=>rw [h2] at h;cases h
   | some y =>
    obtain ⟨a,k⟩:=y
    rw [h2] at h
    cases h
    subst ha
    obtain ⟨p0,rfl⟩:=fY h2
    obtain ⟨p1,p2,pos,rfl,hl⟩:=lT h1
    exact ⟨k,p0,p1,p2,pos,rfl,rfl,hl⟩
  ·rw [if_neg ha] at h;cases h
theorem IB {Φ:az} {n:Nat} (hΦ:Φ n = uy) {X:Cx} {sc:Scope} {bl:List Str} {k:Nat} (L:PX X sc bl k) (hN:X.N.Nodup) (sY:∀ x,X.fn x = true) {st:Stmt} {x:Str} {pos:Pos} {args:List Expr} (he:qx sc bl st = some (.Name x pos,args))
  {i:Nat} (hi:X.N[i]? = some x) (hl:L2.Loc X.env.scope x) (pe:PE X (.Name x pos) (tE i)) {F:Addr -> Prop} {cs:List CE} (hs:kP X F Φ cs args):PS X st (qL X F Φ (.mut n i cs)):=by
 obtain ⟨ke,p0,p1,p2,pos',rfl,rfl,Eu⟩:=xO he
 cases cs with
 | nil=>exact hs.elim
 | cons c cs=>cases cs with
  | cons _ _=>exact hs.2.2.2.elim
  | nil =>
   refine PS.imp (lA (za PySem.F.plainAttrs_list PySem.F.slot_list_clear PySem.F.type_list_clear rO (ve (vw.or zI) pe hs.1 hs.2.2.1) (hline:=Eu))) fun D σ H hq=>?_
   obtain ⟨R,τ,ρ,r,Si,ev,hq⟩:=hq
   obtain ⟨xs,bP,ev⟩:=ae ev
   obtain ⟨y,ey,bP⟩:=ae bP
   cases bP
   have key:∃ (k:Int) (d0 d1:DI.D) (ds gs:List DI.D),y = .int k /\ ρ[i]? = some (some d0) /\ 0 <= k /\ ds[k.toNat]? = some (.lst .ow gs) /\ ((d0 = .tup ds /\ d1 = .tup (tq k.toNat (.lst .ow []) 0 ds)) \/ (d0 = .lst .ow ds /\ d1 = .lst .ow (tq k.toNat (.lst .ow []) 0 ds))) /\ r = (.nx,ρ.set i (some d1)):=by
    cases hz:ao bp [y] with
    | true =>
     obtain ⟨d,d',h⟩:=tR ev hz
     rw [hΦ] at h
     obtain ⟨k,ds,gs,h3,_⟩:=wc h
     cases y <;> first | (cases h3;done) | (cases hz;done)
    | false =>
     obtain ⟨d,d',h,h',rfl⟩:=lB ev hz
     rw [hΦ] at h'
     obtain ⟨k,ds,gs,rfl,h3,h4,h5⟩:=wc h'
     exact ⟨k,d,d',ds,gs,rfl,h,h3,h4,h5,rfl⟩
   obtain ⟨k,d0,d1,ds,gs,rfl,ho,hk,hg,hd,rfl⟩:=key
   obtain ⟨v,hv,_⟩:=Si.rep i _ ho
   refine ⟨v,hv,tD.intro Si ey fun u H1 e1 ru=>?_⟩
   cases ru.isInt
   have pC:=Si.go e1
   obtain ⟨v',LK,rv⟩:=pC.rep i _ ho
   rw [hv] at LK
   cases LK
   have at_:∀ {xs:List V},af (aA X.K H1) (nd X.K R (fun _=>False) τ H1) [i] 0 xs ds -> ∃ (p:Addr) (zs:List V),xs[k.toNat]? = some (.ref p) /\ H1 p = some (.lst zs) /\ τ p = some [k.toNat,i] /\ ET xs k = some (.ref p):=by
    intro xs rs
    obtain ⟨w,hw,jw⟩:=rs.get hg
    rw [Nat.zero_add] at jw
    cases jw with
    | @lst _ p zs _ _ h _ =>
     refine ⟨p,zs,hw,h.1,h.2,?_⟩
     have fQ:k.toNat < xs.length:=by
      by_cases z:k.toNat < xs.length
      ·exact z
      ·rw [List.getElem?_eq_none (by omega)] at hw;cases hw
     unfold ET L2.vy
     rw [if_pos hk,if_pos (by omega)]
     exact hw
   have go:∀ {xs:List V} {p:Addr} {zs:List V},af (aA X.K H1) (nd X.K R (fun _=>False) τ H1) [i] 0 xs ds -> xs[k.toNat]? = some (.ref p) -> H1 p = some (.lst zs) -> τ p = some [k.toNat,i] -> af (aA X.K (upd H1 p (.lst []))) (nd X.K R (fun _=>False) τ (upd H1 p (.lst []))) [i] 0 xs (tq k.toNat (.lst .ow []) 0 ds):=by
    intro xs p zs rs hx hp ht
    refine af.tq (fun _ _ h=>pJ hp h) (fun c m a n f hm h=>pC.Q1 hp ht (fun z=>?_) h) rs fun m w hw hm=>?_
    ·have:=congrArg List.reverse z
     simp at this
     exact hm this.1
    ·rw [Nat.zero_add] at hm
     subst hm
     rw [hx] at hw
     cases hw
     exact .lst ⟨aB,ht⟩ .nil
   rcases hd with ⟨rfl,rfl⟩ | ⟨rfl,rfl⟩
   ·cases rv with
    | @tup _ a xs _ hn rs =>
     obtain ⟨p,zs,h1,h2,h3,h4⟩:=at_ rs
     refine .inr ⟨a,xs,k,_,rfl,rfl,hn,h4,.inl ⟨rfl,_,dm.of h2⟩,p,zs,rfl,rfl,h2,?_⟩
     exact hq σ _ R τ (pC.Wu ho h2 h3 hv (.tup (pJ h2 hn) (go rs h1 h2 h3))) (iX (n:=.l _) pC e1 (fun _ h=>h) h2 h3)
   ·cases rv with
    | @lst _ a xs _ _ hn rs =>
     obtain ⟨p,zs,h1,h2,h3,h4⟩:=at_ rs
     refine .inl ⟨a,xs,k,_,rfl,rfl,hn.sq,h4,.inl ⟨rfl,_,dm.of h2⟩,p,zs,rfl,rfl,h2,?_⟩
     refine hq σ _ R τ (pC.Wu ho h2 h3 hv (.lst (pC.Q1 h2 h3 (fun z=>?_) hn) (go rs h1 h2 h3))) (iX (n:=.l _) pC e1 (fun _ h=>h) h2 h3)
     have:=congrArg List.length z
     simp at this
end DI
end
section
namespace DI
open PySem PySem.Spec PyProof.Rows L2
noncomputable def ux (xs:List D):O D:=match one xs with
 | some d=>match Gn d with
  | some _=>ok (.lst .ow [])
  | none=>none
 | none=>none
theorem DA {x d:D} (h:ux [x] = ok d):∃ ds,x = .lst .ow ds /\ d = .lst .ow []:=by
 have h:(match Gn x with | some _=>ok (D.lst .ow []) | none=>none) = ok d:=h
 cases h1:Gn x with
 | none=>rw [h1] at h;cases h
 | some ds=>rw [h1] at h;cases h;exact ⟨ds,zc h1,rfl⟩
noncomputable def qw (_:Scope) (_:List Str) (st:Stmt):Option (Expr × List Expr):=match kF ("clear" : Str) st with
 | some z=>if z.2 = [] then some (z.1,[]) else none
 | none=>none
theorem Dz {Φ:az} {n:Nat} (hΦ:Φ n = ux) {X:Cx} {sc:Scope} {bl:List Str} {k:Nat} (L:PX X sc bl k) (hN:X.N.Nodup) (sY:∀ x,X.fn x = true) {st:Stmt} {x:Str} {pos:Pos} {args:List Expr} (he:qw sc bl st = some (.Name x pos,args))
  {i:Nat} (hi:X.N[i]? = some x) (hl:L2.Loc X.env.scope x) (pe:PE X (.Name x pos) (tE i)) {F:Addr -> Prop} {cs:List CE} (hs:kP X F Φ cs args):PS X st (qL X F Φ (.mut n i cs)):=by
 unfold qw at he
 cases h1:kF ("clear" : Str) st with
 | none=>rw [h1] at he;cases he
 | some z =>
  obtain ⟨o,as⟩:=z
  rw [h1] at he
  replace he:(if as = [] then some (o,[]) else none) = some (Expr.Name x pos,args):=he
  by_cases ha:as = []
  ·rw [if_pos ha] at he
   cases he
   subst ha
   obtain ⟨p1,p2,pos',rfl,Eu⟩:=lT h1
   cases cs with
   | cons _ _=>exact hs.elim
   | nil =>
    refine PS.imp (lA (za PySem.F.plainAttrs_list PySem.F.slot_list_clear PySem.F.type_list_clear rO pe (hline:=Eu))) fun D σ H hq=>?_
    obtain ⟨R,τ,ρ,r,Si,ev,hq⟩:=hq
    have ev:rN Φ n i (kI [] [] ρ) = ok r:=ev
    obtain ⟨d,d',ho,hd,rfl⟩:=lB ev rfl
    rw [hΦ] at hd
    obtain ⟨ds,rfl,rfl⟩:=DA hd
    obtain ⟨a,xs,hv,ha,VQ,N0,rs⟩:=Si.own ho
    refine ⟨.ref a,hv,.inl ⟨rfl,_,dm.of ha⟩,a,xs,rfl,rfl,ha,?_⟩
    obtain ⟨τ2,pB⟩:=Si.put (m:=0) (g:=fun _=>[]) (v:=.int 0) (d:=.int 0) (ds':=[]) ho hv ha N0 rs ⟨fun _=>none,fun _ _ h=>by simp at h,.int 0⟩ fun _ _=>.nil
    exact hq σ _ R τ2 pB (iX (n:=.l _) Si (aj.refl H) (fun _ h=>h) ha N0)
  ·rw [if_neg ha] at he;cases he
end DI
end
section
namespace DI
open PySem PySem.Spec PyProof.Rows L2
noncomputable abbrev qI (h:Heap) (z TI TO a:Addr) (f:Bool):Prop :=
 h.get? z = some { cls:=.type "zip",dict:=none,data:=.fields #[rawInt a,.bool f,.bool false,.ref TI,.ref TO],slots:=#[] }
section
variable {prog:Program} {w:World} {A:Around} {E:Value -> Shared -> Prop} {s:Shared}
theorem yb {a:Addr} {o:Obj} {Q:Option Obj -> Shared -> Prop} (ho:s.heap.get? a = some o) (h:Q (some o) s):wpAny (model prog w) A (loadIfAlive a) Q E s:=by
 have h':Q (s.heap.get? a) s:=by rw [ho];exact h
 exact fun _ _ _=>h'
theorem uH {z TI TO a:Addr} {f:Bool} {oa:Obj} {Q:Bool -> Shared -> Prop} (hz:qI s.heap z TI TO a f) (ha:s.heap.get? a = some oa) (hQ:∀ h',qI h' z TI TO a true -> Heap.SameBut z s.heap h' -> Q false { s with heap:=h' }) :
  wpAny (model prog w) A (Builtin.SmallTypes.ownedTupleIsFree (.ref z)) Q E s:=by
 unfold Builtin.SmallTypes.ownedTupleIsFree
 refine wpAny_bind (wpAny_field hz rfl (x:=rawInt a) rfl ?_)
 show wpAny _ _ (loadIfAlive ((a:Int).toNat) >>= _) _ _ _
 rw [Int.toNat_natCast]
 refine wpAny_bind (yb ha ?_)
 simp only [Option.isNone_some,Bool.false_eq_true,if_false]
 refine wpAny_bind (wpAny_field hz rfl (x:=.bool f) rfl ?_)
 cases f with
 | true =>
  rw [if_neg (show ¬ ((Value.bool true != Value.bool true) = true) from Bool.false_ne_true)]
  exact wpAny_pure (hQ s.heap hz (Heap.SameBut.refl _ _))
 | false =>
  rw [if_pos (show (Value.bool false != Value.bool true) = true from rfl)]
  exact wpAny_bind (wpAny_setField_rec hz (by simp) fun h₃ L8 kJ=>wpAny_pure (hQ h₃ L8 kJ))
theorem qN {z TI TO i1 i2 l1 l2 a:Addr} {f:Bool} {oa:Obj} {k1 k2:Nat} {xs ys:Array Value} {x y:Value} {Q:Value -> Shared -> Prop} (D:ZipApart z TI TO i1 i2 l1 l2)
  (hz:qI s.heap z TI TO a f) (ha:s.heap.get? a = some oa) (A_:IsPair s.heap TI (.ref i1) (.ref i2))
  (h1:s.heap.IsListIter i1 l1 k1) (h2:s.heap.IsListIter i2 l2 k2) (A7:s.heap.IsList l1 xs) (x5:s.heap.IsList l2 ys) (hx:xs[k1]? = some x) (hy:ys[k2]? = some y)
  (hQ:∀ h',qI h' z TI TO a true -> h'.IsListIter i1 l1 (k1 + 1) -> h'.IsListIter i2 l2 (k2 + 1) -> IsPair h' s.heap.objs.size x y -> h'.objs.size = s.heap.objs.size + 1 ->
   (∀ c o,c ≠ z -> c ≠ i1 -> c ≠ i2 -> s.heap.get? c = some o -> h'.get? c = some o) -> Q (.ref s.heap.objs.size) { s with heap:=h' }) :
  wpAny (model prog w) A (Builtin.«zip.__next__» ⟨[.ref z],[]⟩) (fun fin s'=>∃ v,fin = .done (.ret v) /\ Q v s') E s:=by
 show wpAny _ _ (field (.ref z) 2 >>= _) _ _ _
 refine wpAny_bind (wpAny_field hz rfl (x:=.bool false) rfl ?_)
 show wpAny _ _ (field (.ref z) 3 >>= _) _ _ _
 refine wpAny_bind (wpAny_field hz rfl (x:=.ref TI) rfl ?_)
 refine wpAny_bind (wpAny_seqItems A_ rfl ?_)
 show wpAny _ _ (Builtin.SmallTypes.ownedTupleIsFree (.ref z) >>= _) _ _ _
 refine wpAny_bind (uH hz ha fun h₁ Es eT=>?_)
 simp only [Bool.false_eq_true,if_false]
 refine wpAny_bind ?_
 rw [<- Array.forIn_toList]
 simp only [List.forIn_cons,List.forIn_nil]
 refine wpAny_bind (wpAny_bind (wpAny_holding ?_))
 show wpAny _ _ (Builtin.SmallTypes.nextOf (.ref i1) >>= _) _ _ _
 refine wpAny_bind (wpAny_nextOf_list_item (h1.extBut eT.extBut D.i1z) (A7.extBut eT.extBut D.l1z) hx fun h₂ Ey gW=>wpAny_pure ?_)
 refine wpAny_pure ?_
 refine wpAny_bind (wpAny_bind (wpAny_holding ?_))
 show wpAny _ _ (Builtin.SmallTypes.nextOf (.ref i2) >>= _) _ _ _
 refine wpAny_bind (wpAny_nextOf_list_item ((h2.extBut eT.extBut D.i2z).extBut gW.extBut D.i12.symm) ((x5.extBut eT.extBut D.l2z).extBut gW.extBut D.l2i1) hy fun h₃ Mq kJ=>wpAny_pure ?_)
 refine wpAny_pure ?_
 refine wpAny_pure ?_
 have hsz:h₃.objs.size = s.heap.objs.size:=by rw [kJ.1,gW.1,eT.1]
 refine wpAny_bind (wpAny_newTuple ?_ (by show 2 <= _;rw [sizeLine_eq];decide))
 refine wpAny_pure ⟨_,rfl,?_⟩
 show Q (.ref h₃.objs.size) _
 have fQ:∀ {c o},h₃.get? c = some o -> c ≠ h₃.objs.size:=fun e=>Nat.ne_of_lt (Heap.lt_size e)
 have hk:∀ c o,c ≠ z -> c ≠ i1 -> c ≠ i2 -> s.heap.get? c = some o -> (h₃.push { cls:=.type "tuple",data:=.seq #[x,y] }).get? c = some o:=fun c o c1 c2 c3 e=>Heap.get?_push_of_some _ (kJ.extBut _ _ c3 (gW.extBut _ _ c2 (eT.extBut _ _ c1 e)))
 rw [hsz]
 refine hQ _ (Heap.get?_push_of_some _ (kJ.extBut _ _ D.i2z.symm (gW.extBut _ _ D.i1z.symm Es))) ((Ey.extBut kJ.extBut D.i12).at fun o e=>Heap.get?_push_of_some _ e) (Mq.at fun o e=>Heap.get?_push_of_some _ e) ?_ (by rw [Heap.size_push,hsz]) hk
 rw [<- hsz]
 exact Heap.get?_push_size _ rfl
theorem s_ {z TI TO i1 i2 l1 l2 a:Addr} {f:Bool} {oa:Obj} {k1 k2:Nat} {xs ys:Array Value} {Q:Fin -> Shared -> Prop} (hh:A.handled = none) (D:ZipApart z TI TO i1 i2 l1 l2)
  (hz:qI s.heap z TI TO a f) (ha:s.heap.get? a = some oa) (A_:IsPair s.heap TI (.ref i1) (.ref i2))
  (h1:s.heap.IsListIter i1 l1 k1) (h2:s.heap.IsListIter i2 l2 k2) (A7:s.heap.IsList l1 xs) (x5:s.heap.IsList l2 ys) (r6:xs[k1]? = none \/ ys[k2]? = none)
  (hE:∀ h' e,(∀ c o,c ≠ z -> c ≠ i1 -> c ≠ i2 -> s.heap.get? c = some o -> h'.get? c = some o) -> (∃ o,h'.get? e = some o /\ o.cls = .type "StopIteration") -> E (.ref e) { s with heap:=h' }) :
  wpAny (model prog w) A (Builtin.«zip.__next__» ⟨[.ref z],[]⟩) Q E s:=by
 show wpAny _ _ (field (.ref z) 2 >>= _) _ _ _
 refine wpAny_bind (wpAny_field hz rfl (x:=.bool false) rfl ?_)
 show wpAny _ _ (field (.ref z) 3 >>= _) _ _ _
 refine wpAny_bind (wpAny_field hz rfl (x:=.ref TI) rfl ?_)
 refine wpAny_bind (wpAny_seqItems A_ rfl ?_)
 show wpAny _ _ (Builtin.SmallTypes.ownedTupleIsFree (.ref z) >>= _) _ _ _
 refine wpAny_bind (uH hz ha fun h₁ Es eT=>?_)
 simp only [Bool.false_eq_true,if_false]
 refine wpAny_bind ?_
 rw [<- Array.forIn_toList]
 simp only [List.forIn_cons,List.forIn_nil]
 refine wpAny_bind (wpAny_bind (wpAny_holding ?_))
 show wpAny _ _ (Builtin.SmallTypes.nextOf (.ref i1) >>= _) _ _ _
 cases hx:xs[k1]? with
 | none =>
  refine wpAny_bind (wpAny_nextOf_list_end hh (h1.extBut eT.extBut D.i1z) (A7.extBut eT.extBut D.l1z) hx fun h₂ e gW he=>?_)
  exact hE h₂ e (fun c o c1 c2 c3 x=>gW _ _ c2 (eT.extBut _ _ c1 x)) he
 | some x =>
  have hy:ys[k2]? = none:=by rcases r6 with h | h;rw [hx] at h;cases h;exact h
  refine wpAny_bind (wpAny_nextOf_list_item (h1.extBut eT.extBut D.i1z) (A7.extBut eT.extBut D.l1z) hx fun h₂ Ey gW=>wpAny_pure ?_)
  refine wpAny_pure ?_
  refine wpAny_bind (wpAny_bind (wpAny_holding ?_))
  show wpAny _ _ (Builtin.SmallTypes.nextOf (.ref i2) >>= _) _ _ _
  refine wpAny_bind (wpAny_nextOf_list_end hh ((h2.extBut eT.extBut D.i2z).extBut gW.extBut D.i12.symm) ((x5.extBut eT.extBut D.l2z).extBut gW.extBut D.l2i1) hy fun h₃ e kJ he=>?_)
  exact hE h₃ e (fun c o c1 c2 c3 x=>kJ _ _ c3 (gW.extBut _ _ c2 (eT.extBut _ _ c1 x))) he
theorem lP {z TI TO i1 i2 l1 l2 a:Addr} {f:Bool} {oa:Obj} {k1 k2:Nat} {xs ys:Array Value} {x y:Value} {Q:Option Value -> Shared -> Prop} (D:ZipApart z TI TO i1 i2 l1 l2)
  (hz:qI s.heap z TI TO a f) (ha:s.heap.get? a = some oa) (A_:IsPair s.heap TI (.ref i1) (.ref i2))
  (h1:s.heap.IsListIter i1 l1 k1) (h2:s.heap.IsListIter i2 l2 k2) (A7:s.heap.IsList l1 xs) (x5:s.heap.IsList l2 ys) (hx:xs[k1]? = some x) (hy:ys[k2]? = some y)
  (hQ:∀ h',qI h' z TI TO a true -> h'.IsListIter i1 l1 (k1 + 1) -> h'.IsListIter i2 l2 (k2 + 1) -> IsPair h' s.heap.objs.size x y -> h'.objs.size = s.heap.objs.size + 1 ->
   (∀ c o,c ≠ z -> c ≠ i1 -> c ≠ i2 -> s.heap.get? c = some o -> h'.get? c = some o) -> Q (some (.ref s.heap.objs.size)) { s with heap:=h' }) :
  wpAny (model prog w) A (pyNext (.ref z)) Q E s:=by
 have hT:s.TypeIs (.ref z) "zip":=⟨_,hz,rfl⟩
 unfold pyNext
 exact wpAny_bind (wpAny_attempt (wpAny_callSpecial?_slot (name:=Str.ofString "__next__") hT PySem.F.slot_zip_next
  (wpAny_call_entry PySem.F.slot_zip_next hT PySem.F.entry_zip_next
   (qN D hz ha A_ h1 h2 A7 x5 hx hy fun h' a1 a2 a3 a4 a5 a6=>wpAny_pure (hQ h' a1 a2 a3 a4 a5 a6)) (PySem.F.args_zip_next_1 _))))
theorem nN {z TI TO i1 i2 l1 l2 a:Addr} {f:Bool} {oa:Obj} {k1 k2:Nat} {xs ys:Array Value} {Q:Option Value -> Shared -> Prop} (hh:A.handled = none) (D:ZipApart z TI TO i1 i2 l1 l2)
  (hz:qI s.heap z TI TO a f) (ha:s.heap.get? a = some oa) (A_:IsPair s.heap TI (.ref i1) (.ref i2))
  (h1:s.heap.IsListIter i1 l1 k1) (h2:s.heap.IsListIter i2 l2 k2) (A7:s.heap.IsList l1 xs) (x5:s.heap.IsList l2 ys) (r6:xs[k1]? = none \/ ys[k2]? = none)
  (hQ:∀ h',(∀ c o,c ≠ z -> c ≠ i1 -> c ≠ i2 -> s.heap.get? c = some o -> h'.get? c = some o) -> Q none { s with heap:=h' }):wpAny (model prog w) A (pyNext (.ref z)) Q E s:=by
 have hT:s.TypeIs (.ref z) "zip":=⟨_,hz,rfl⟩
 unfold pyNext
 refine wpAny_bind (wpAny_attempt (wpAny_callSpecial?_slot (name:=Str.ofString "__next__") hT PySem.F.slot_zip_next
  (wpAny_call_entry PySem.F.slot_zip_next hT PySem.F.entry_zip_next (s_ hh D hz ha A_ h1 h2 A7 x5 r6 fun h' e hk he=>?_) (PySem.F.args_zip_next_1 _))))
 obtain ⟨o,ho,hc⟩:=he
 refine wpAny_bind (wpAny_isInstance (T:="StopIteration") (b:=true) ⟨o,ho,hc⟩ isSubtype_stop ?_)
 exact wpAny_pure (hQ _ hk)
end
end DI
end
section
namespace DI
open PySem PySem.Spec PyProof.Rows L2
theorem EW:typeLookup (.type "zip") "__len__" = pure none:=by rw [typeLookup_type,builtinLookup_eq_fast];kernel_rfl
theorem JL:typeLookup (.type "zip") "__length_hint__" = pure none:=by rw [typeLookup_type,builtinLookup_eq_fast];kernel_rfl
section
variable {prog:Program} {w:World} {A:Around} {E:Value -> Shared -> Prop} {s:Shared}
theorem Bg {z:Addr} (hT:s.TypeIs (.ref z) "zip") {Q:Bool -> Shared -> Prop} (h:Q true s):wpAny (model prog w) A (Builtin.List.listLengthHint (.ref z)) Q E s:=by
 unfold Builtin.List.listLengthHint
 refine wpAny_bind (wpAny_specialOf hT EW ?_)
 refine wpAny_ite_split (fun uf=>absurd uf (by decide)) (fun _=>?_)
 refine wpAny_ite_split (fun uf=>absurd uf (by decide)) (fun _=>?_)
 refine wpAny_bind (wpAny_specialOf hT JL ?_)
 exact wpAny_pure h
end
structure Zl (h:Heap) (z TI TO i1 i2 l1 l2 S:Addr) (xs ys:Array Value) (i:Nat):Prop where
 st:(IsZip h z TI TO .none /\ ∃ a b,IsPair h TO a b) \/ ∃ a f oa,qI h z TI TO a f /\ h.get? a = some oa /\ S < a
 ti:IsPair h TI (.ref i1) (.ref i2)
 w1:h.IsListIter i1 l1 i
 w2:h.IsListIter i2 l2 i
 q1:h.IsList l1 xs
 q2:h.IsList l2 ys
structure Below (z TI TO i1 i2 l1 l2 S:Addr):Prop where
 D:ZipApart z TI TO i1 i2 l1 l2
 z:z < S
 TI:TI < S
 TO:TO < S
 i1:i1 < S
 i2:i2 < S
 l1:l1 < S
 l2:l2 < S
section
variable {prog:Program} {w:World} {A:Around} {E:Value -> Shared -> Prop} {s:Shared} {z TI TO i1 i2 l1 l2 S:Addr} {xs ys:Array Value} {i:Nat}
theorem Zl.keep {h h':Heap} (B:Below z TI TO i1 i2 l1 l2 S) (Z:Zl h z TI TO i1 i2 l1 l2 S xs ys i) (hk:∀ b o,b ≠ S -> h.get? b = some o -> h'.get? b = some o):Zl h' z TI TO i1 i2 l1 l2 S xs ys i:=by
 have n:∀ {b},b < S -> b ≠ S:=fun h=>Nat.ne_of_lt h
 refine ⟨?_,hk _ _ (n B.TI) Z.ti,Z.w1.at fun o e=>hk _ o (n B.i1) e,Z.w2.at fun o e=>hk _ o (n B.i2) e,Z.q1.at fun o e=>hk _ o (n B.l1) e,Z.q2.at fun o e=>hk _ o (n B.l2) e⟩
 rcases Z.st with ⟨h1,a,b,h2⟩ | ⟨a,f,oa,h1,h2,h3⟩
 ·exact .inl ⟨hk _ _ (n B.z) h1,a,b,hk _ _ (n B.TO) h2⟩
 ·exact .inr ⟨a,f,oa,hk _ _ (n B.z) h1,hk _ _ (Nat.ne_of_gt h3) h2,h3⟩
theorem Bd {x y:Value} {Q:Option Value -> Shared -> Prop} (B:Below z TI TO i1 i2 l1 l2 S) (Z:Zl s.heap z TI TO i1 i2 l1 l2 S xs ys i) (hS:S < s.heap.objs.size) (hx:xs[i]? = some x) (hy:ys[i]? = some y)
  (hQ:∀ h',Zl h' z TI TO i1 i2 l1 l2 S xs ys (i + 1) -> IsPair h' s.heap.objs.size x y -> h'.objs.size = s.heap.objs.size + 1 -> (∀ c o,c ≠ z -> c ≠ TO -> c ≠ i1 -> c ≠ i2 -> s.heap.get? c = some o -> h'.get? c = some o) -> Q (some (.ref s.heap.objs.size)) { s with heap:=h' }) :
  wpAny (model prog w) A (pyNext (.ref z)) Q E s:=by
 have D:=B.D
 rcases Z.st with ⟨hz,a,b,Ju⟩ | ⟨a,f,oa,hz,ha,hSa⟩
 ·refine wpAny_pyNext_zip_item D hz Z.ti Ju Z.w1 Z.w2 Z.q1 Z.q2 hx hy fun h' z1 o1 a1 b1 t1 Ny k1=>hQ h' ?_ t1 Ny k1
  exact ⟨.inr ⟨s.heap.objs.size,false,_,z1,t1,hS⟩,k1 _ _ D.TIz D.TITO D.TIi1 D.TIi2 Z.ti,a1,b1,Z.q1.at fun o e=>k1 _ o D.l1z D.l1TO D.l1i1 D.l1i2 e,Z.q2.at fun o e=>k1 _ o D.l2z D.l2TO D.l2i1 D.l2i2 e⟩
 ·refine lP D hz ha Z.ti Z.w1 Z.w2 Z.q1 Z.q2 hx hy fun h' z1 a1 b1 t1 Ny k1=>hQ h' ?_ t1 Ny fun c o c1 _ c3 c4 e=>k1 c o c1 c3 c4 e
  have n:∀ {b},b < S -> a ≠ b:=fun h=>Nat.ne_of_gt (Nat.lt_trans h hSa)
  exact ⟨.inr ⟨a,true,oa,z1,k1 _ _ (n B.z) (n B.i1) (n B.i2) ha,hSa⟩,k1 _ _ D.TIz D.TIi1 D.TIi2 Z.ti,a1,b1,Z.q1.at fun o e=>k1 _ o D.l1z D.l1i1 D.l1i2 e,Z.q2.at fun o e=>k1 _ o D.l2z D.l2i1 D.l2i2 e⟩
theorem Bh {Q:Option Value -> Shared -> Prop} (hh:A.handled = none) (B:Below z TI TO i1 i2 l1 l2 S) (Z:Zl s.heap z TI TO i1 i2 l1 l2 S xs ys i) (r6:xs[i]? = none \/ ys[i]? = none)
  (hQ:∀ h',(∀ c o,c ≠ z -> c ≠ TO -> c ≠ i1 -> c ≠ i2 -> s.heap.get? c = some o -> h'.get? c = some o) -> Q none { s with heap:=h' }):wpAny (model prog w) A (pyNext (.ref z)) Q E s:=by
 have D:=B.D
 rcases Z.st with ⟨hz,a,b,Ju⟩ | ⟨a,f,oa,hz,ha,hSa⟩
 ·exact wpAny_pyNext_zip_end hh D hz Z.ti Ju Z.w1 Z.w2 Z.q1 Z.q2 r6 hQ
 ·exact nN hh D hz ha Z.ti Z.w1 Z.w2 Z.q1 Z.q2 r6 fun h' k=>hQ h' fun c o c1 _ c3 c4 e=>k c o c1 c3 c4 e
end
structure Nk (xs ys:Array Value) (lo:Addr) (h:Heap) (as:List Addr):Prop where
 above:∀ a ∈ as,lo < a
 nd:as.Nodup
 pairs:∀ (j:Nat) (a:Addr),as[j]? = some a -> ∃ x y,xs[j]? = some x /\ ys[j]? = some y /\ IsPair h a x y
section
variable {prog:Program} {w:World} {A:Around} {s:Shared} {R:Result -> Shared -> Prop} {z TI TO i1 i2 l1 l2 S:Addr} {xs ys:Array Value}
theorem Bc (hh:A.handled = none) (B:Below z TI TO i1 i2 l1 l2 S) (hn:min xs.size ys.size <= sizeLine) (res:Value) {h₁:Heap}
  (hR:∀ h' tk acc c as,(∀ b o,b ≠ S -> b ≠ z -> b ≠ TO -> b ≠ i1 -> b ≠ i2 -> h₁.get? b = some o -> h'.get? b = some o) -> h'.get? S = some { cls:=.type "list",dict:=none,data:=.seq acc c,slots:=#[] } -> as.length = min xs.size ys.size -> Nk xs ys S h' as ->
   acc.toList = as.map Value.ref -> R (.ok (.ret res)) { s with heap:=h',toks:=tk }) :
  ∀ (k i:Nat) (h:Heap) (tk c:Nat) (acc:Array Value) (as:List Addr),min xs.size ys.size - i = k -> i <= min xs.size ys.size -> Zl h z TI TO i1 i2 l1 l2 S xs ys i -> (∀ b o,b ≠ S -> b ≠ z -> b ≠ TO -> b ≠ i1 -> b ≠ i2 -> h₁.get? b = some o -> h.get? b = some o) ->
   h.get? S = some { cls:=.type "list",dict:=none,data:=.seq acc c,slots:=#[] } -> acc.toList = as.map Value.ref -> as.length = i -> Nk xs ys S h as ->
   codeAny (model prog w) A (.builtin "list.extend.loop" ⟨[.ref S,.ref z,res],[]⟩) R { s with heap:=h,toks:=tk }:=by
 have nz:S ≠ z:=Nat.ne_of_gt B.z
 have nO:S ≠ TO:=Nat.ne_of_gt B.TO
 have n1:S ≠ i1:=Nat.ne_of_gt B.i1
 have n2:S ≠ i2:=Nat.ne_of_gt B.i2
 have Vf:∀ {a:Addr},S < a -> a ≠ z /\ a ≠ TO /\ a ≠ i1 /\ a ≠ i2:=fun h=>⟨Nat.ne_of_gt (Nat.lt_trans B.z h),Nat.ne_of_gt (Nat.lt_trans B.TO h),Nat.ne_of_gt (Nat.lt_trans B.i1 h),Nat.ne_of_gt (Nat.lt_trans B.i2 h)⟩
 intro k
 induction k with
 | zero =>
  intro i h tk c acc as hk hi Z zX hS eV C0 hG
  refine codeAny_builtin PySem.F.entry_extend_loop ?_
  rw [Around.under_plainId PySem.F.plain_extend_loop _]
  show wpAny _ A.in1 (pyNext (.ref z) >>= _) _ _ _
  have r6:xs[i]? = none \/ ys[i]? = none:=by
   rcases Nat.le_total xs.size ys.size with q | q
   ·exact .inl (Array.getElem?_eq_none (by omega))
   ·exact .inr (Array.getElem?_eq_none (by omega))
  refine wpAny_bind (Bh (s:={ s with heap:=h,toks:=tk }) (A:=A.in1) hh B Z r6 fun h' he=>?_)
  refine wpAny_pure (hR h' tk acc c as (fun b o h1 h2 h3 h4 h5 e=>he b o h2 h3 h4 h5 (zX b o h1 h2 h3 h4 h5 e)) (he S _ nz nO n1 n2 hS) (by omega) ⟨hG.above,hG.nd,fun j a hj=>?_⟩ eV)
  obtain ⟨x,y,e1,e2,e3⟩:=hG.pairs j a hj
  obtain ⟨a1,a2,a3,a4⟩:=Vf (hG.above a (List.mem_of_getElem? hj))
  exact ⟨x,y,e1,e2,he a _ a1 a2 a3 a4 e3⟩
 | succ k ih =>
  intro i h tk c acc as hk hi Z zX hS eV C0 hG
  have fQ:i < min xs.size ys.size:=by omega
  have hx:xs[i]? = some (xs[i]'(by omega)):=Array.getElem?_eq_getElem _
  have hy:ys[i]? = some (ys[i]'(by omega)):=Array.getElem?_eq_getElem _
  have hsz:acc.size = i:=by rw [<- Array.length_toList,eV,List.length_map,C0]
  have Sv:S < h.objs.size:=Heap.lt_size hS
  refine codeAny_builtin PySem.F.entry_extend_loop ?_
  rw [Around.under_plainId PySem.F.plain_extend_loop _]
  show wpAny _ A.in1 (pyNext (.ref z) >>= _) _ _ _
  refine wpAny_bind (Bd (s:={ s with heap:=h,toks:=tk }) B Z Sv hx hy fun h' Z' ht hz Ew=>?_)
  dsimp only at ht hz Ew ⊢
  have xw:=Ew S _ nz nO n1 n2 hS
  have up:∀ b o,b ≠ S -> h'.get? b = some o -> (h'.update S (Obj.mapSeq (·.push (Value.ref h.objs.size)))).get? b = some o:=fun b o hb e=>(Heap.get?_update_other _ _ (Ne.symm hb)).trans e
  show wpAny _ A.in1 (updateSeq S (·.push (Value.ref h.objs.size)) >>= _) _ _ _
  refine wpAny_bind ?_
  refine wpAny_updateSeq xw rfl (wpAny_pure ⟨plainId_quiet PySem.F.plain_extend_loop _,ih (i + 1) _ tk _ (acc.push (Value.ref h.objs.size)) (as ++ [h.objs.size]) (by omega) fQ (Z'.keep B up)
   (fun b o h1 h2 h3 h4 h5 e=>up b o h1 (Ew b o h2 h3 h4 h5 (zX b o h1 h2 h3 h4 h5 e))) (Heap.get?_update_self _ xw rfl) (by rw [Array.toList_push,eV,List.map_append];rfl) (by rw [List.length_append,C0];rfl) ⟨?_,?_,?_⟩⟩) (by rw [hsz];omega) (by show (acc.push (Value.ref h.objs.size)).size <= sizeLine + 1;rw [Array.size_push,hsz];omega)
  ·intro a ha
   rcases List.mem_append.mp ha with ha | ha
   ·exact hG.above a ha
   ·rw [List.mem_singleton.mp ha];exact Sv
  ·refine List.nodup_append.mpr ⟨hG.nd,List.nodup_cons.mpr ⟨List.not_mem_nil,List.nodup_nil⟩,fun a ha b hb e=>?_⟩
   rw [List.mem_singleton.mp hb] at e
   subst e
   obtain ⟨j,hj⟩:=List.mem_iff_getElem?.mp ha
   obtain ⟨_,_,_,_,e⟩:=hG.pairs j _ hj
   exact absurd (Heap.lt_size e) (Nat.lt_irrefl _)
  ·intro j b hj
   rcases Nat.lt_trichotomy j as.length with q | q | q
   ·rw [List.getElem?_append_left q] at hj
    obtain ⟨x',y',e1,e2,e3⟩:=hG.pairs j b hj
    have hb:=hG.above b (List.mem_of_getElem? hj)
    obtain ⟨a1,a2,a3,a4⟩:=Vf hb
    exact ⟨x',y',e1,e2,up b _ (Nat.ne_of_gt hb) (Ew b _ a1 a2 a3 a4 e3)⟩
   ·subst q
    have hb:h.objs.size = b:=by simpa using hj
    subst hb
    exact ⟨_,_,by rw [C0];exact hx,by rw [C0];exact hy,up _ _ (Nat.ne_of_gt Sv) ht⟩
   ·have LW:(as ++ [h.objs.size])[j]? = none:=List.getElem?_eq_none (by rw [List.length_append,List.length_singleton];omega)
    rw [LW] at hj;cases hj
theorem wA (hh:A.handled = none) (B:Below z TI TO i1 i2 l1 l2 S) (hn:min xs.size ys.size <= sizeLine) (Z:Zl s.heap z TI TO i1 i2 l1 l2 S xs ys 0) (Ji:IsZip s.heap z TI TO .none) (res:Value) (c₀:Nat) (hS:s.heap.get? S = some { cls:=.type "list",data:=.seq #[] c₀ })
  (hR:∀ h' tk acc c as,(∀ b o,b ≠ S -> b ≠ z -> b ≠ TO -> b ≠ i1 -> b ≠ i2 -> s.heap.get? b = some o -> h'.get? b = some o) -> h'.get? S = some { cls:=.type "list",dict:=none,data:=.seq acc c,slots:=#[] } -> as.length = min xs.size ys.size -> Nk xs ys S h' as ->
   acc.toList = as.map Value.ref -> R (.ok (.ret res)) { s with heap:=h',toks:=tk }) :
  wpAny (model prog w) A.in1 (Builtin.List.listExtendWith (.ref S) (.ref z) res)
   (fun fin s'=>match fin with | .done f=>R (.ok f) s' | .again c'=>c'.quiet = true /\ codeAny (model prog w) A c' R s') (fun e s'=>R (.error e) s') s:=by
 have Zm:S ≠ z:=Nat.ne_of_gt B.z
 have hT:s.TypeIs (.ref z) "zip":=⟨_,Ji,rfl⟩
 unfold Builtin.List.listExtendWith
 refine wpAny_bind (wpAny_typeOf (T:="zip") hT ?_)
 have h1:Builtin.List.listSameRef (.ref S) (.ref z) = false:=by simp [Builtin.List.listSameRef,Zm]
 have h2:(Value.type "zip" == Value.type "list") = false:=by decide
 have h3:(Value.type "zip" == Value.type "tuple") = false:=by decide
 simp only [h1,h2,h3,Bool.or_false,Bool.false_eq_true,if_false]
 refine wpAny_bind (wpAny_pyIter_zip Ji ?_)
 refine wpAny_bind (wpAny_holding (Bg hT ?_))
 refine wpAny_ite_split (fun _=>?_) (fun uf=>absurd rfl uf)
 refine wpAny_bind (wpAny_rule ?_)
 refine wpAny_bind ?_
 show wpAny _ _ (updateSeq S (·.push .none) >>= fun _=>updateSeq S (·.pop)) _ _ _
 refine wpAny_bind (wpAny_updateSeq hS rfl ?_)
 have vG:=Heap.get?_update_self (Obj.mapSeq (·.push Value.none)) hS rfl
 refine wpAny_updateSeq (hz:=by seq_fits) vG rfl ?_
 have Mn:=Heap.get?_update_self (Obj.mapSeq (·.pop)) vG rfl
 have IZ:∀ b o,b ≠ S -> s.heap.get? b = some o -> ((s.heap.update S (Obj.mapSeq (·.push Value.none))).update S (Obj.mapSeq (·.pop))).get? b = some o:=fun b o hb e=>(Heap.get?_update_other _ _ (Ne.symm hb)).trans ((Heap.get?_update_other _ _ (Ne.symm hb)).trans e)
 refine wpAny_pure ⟨plainId_quiet PySem.F.plain_extend_loop _,?_⟩
 exact Bc hh B hn res (s:=s) (h₁:=s.heap) hR (min xs.size ys.size) 0 _ s.toks _ #[] [] (Nat.sub_zero _) (Nat.zero_le _) (Z.keep B IZ) (fun b o h1 _ _ _ _ e=>IZ b o h1 e) Mn rfl rfl ⟨(fun _ ha=>nomatch ha),List.nodup_nil,fun j a hj=>by simp at hj⟩
theorem Be (hh:A.handled = none) (B:Below z TI TO i1 i2 l1 l2 S) (hn:min xs.size ys.size <= sizeLine) (Z:Zl s.heap z TI TO i1 i2 l1 l2 S xs ys 0) (Ji:IsZip s.heap z TI TO .none) (hS:s.heap.get? S = some { cls:=.type "list",data:=.seq #[] })
  (hR:∀ h' tk acc c as,(∀ b o,b ≠ S -> b ≠ z -> b ≠ TO -> b ≠ i1 -> b ≠ i2 -> s.heap.get? b = some o -> h'.get? b = some o) -> h'.get? S = some { cls:=.type "list",dict:=none,data:=.seq acc c,slots:=#[] } -> as.length = min xs.size ys.size -> Nk xs ys S h' as ->
   acc.toList = as.map Value.ref -> R (.ok (.ret .none)) { s with heap:=h',toks:=tk }) :
  wpAny (model prog w) A.in1 (Builtin.«list.__init__» ⟨[.ref S,.ref z],[]⟩)
   (fun fin s'=>match fin with | .done f=>R (.ok f) s' | .again c'=>c'.quiet = true /\ codeAny (model prog w) A c' R s') (fun e s'=>R (.error e) s') s:=by
 show wpAny _ _ (do let old <- Builtin.List.listItems (.ref S);Builtin.List.listUpdate (.ref S) (fun _=>#[]);letGo old.toList.reverse;Builtin.List.listExtendWith (.ref S) (.ref z) .none) _ _ s
 refine wpAny_bind ?_
 unfold Builtin.List.listItems
 refine wpAny_bind (wpAny_seqItems hS rfl (wpAny_pure ?_))
 show wpAny _ _ (updateSeq S (fun _=>#[]) >>= fun _=>letGo (#[]:Array Value).toList.reverse >>= fun _=>Builtin.List.listExtendWith (.ref S) (.ref z) .none) _ _ s
 refine wpAny_bind (wpAny_updateSeq hS rfl ?_)
 have vG:=Heap.get?_update_self (Obj.mapSeq (fun _=>(#[]:Array Value))) hS rfl
 have IZ:∀ b o,b ≠ S -> s.heap.get? b = some o -> (s.heap.update S (Obj.mapSeq (fun _=>(#[]:Array Value)))).get? b = some o :=
  fun b o hb e=>(Heap.get?_update_other _ _ (Ne.symm hb)).trans e
 refine wpAny_bind (wpAny_letGo ?_)
 refine wA hh B hn (Z.keep B IZ) (IZ _ _ (Nat.ne_of_lt B.z) Ji) .none _ vG fun h' tk acc c as hk xw hl hG eV=>?_
 exact hR h' tk acc c as (fun b o h1 h2 h3 h4 h5 e=>hk b o h1 h2 h3 h4 h5 (IZ b o h1 e)) xw hl hG eV
end
section
variable {prog:Program} {w:World} {A:Around} {E:Value -> Shared -> Prop} {s:Shared} {z TI TO i1 i2 l1 l2:Addr} {xs ys:Array Value}
theorem Bi {Q:Value -> Shared -> Prop} (hh:A.handled = none) (D:ZipApart z TI TO i1 i2 l1 l2) (hn:min xs.size ys.size <= sizeLine) (hz:IsZip s.heap z TI TO .none) (A_:IsPair s.heap TI (.ref i1) (.ref i2)) {a b:Value} (Ju:IsPair s.heap TO a b) (h1:s.heap.IsListIter i1 l1 0) (h2:s.heap.IsListIter i2 l2 0) (q1:s.heap.IsList l1 xs) (q2:s.heap.IsList l2 ys)
  (hQ:∀ h' tk acc c as,(∀ b o,b ≠ z -> b ≠ TO -> b ≠ i1 -> b ≠ i2 -> s.heap.get? b = some o -> h'.get? b = some o) -> h'.get? s.heap.objs.size = some { cls:=.type "list",dict:=none,data:=.seq acc c,slots:=#[] } -> as.length = min xs.size ys.size -> Nk xs ys s.heap.objs.size h' as ->
   acc.toList = as.map Value.ref -> Q (.ref s.heap.objs.size) { s with heap:=h',toks:=tk }) :
  wpAny (model prog w) A (call (.type "list") [.ref z]) Q E s:=by
 refine callType_codes (Q₁:=fun obj s₁=>obj = .ref s.heap.objs.size /\ s₁ = { s with heap:=s.heap.push { cls:=.type "list",data:=.seq #[] } }) PySem.F.called_list (PySem.F.typeCall_list_1 _) PySem.F.entry_list_init
  (code_list_new _ ⟨rfl,rfl⟩) fun obj s₁ h₁=>?_
 obtain ⟨rfl,rfl⟩:=h₁
 have hS:(s.heap.push { cls:=.type "list",data:=.seq #[] }).get? s.heap.objs.size = some { cls:=.type "list",data:=.seq #[] }:=Heap.get?_push_size _ rfl
 have up:∀ b o,s.heap.get? b = some o -> (s.heap.push { cls:=.type "list",data:=.seq #[] }).get? b = some o:=fun b o e=>Heap.get?_push_of_some _ e
 have B:Below z TI TO i1 i2 l1 l2 s.heap.objs.size:=⟨D,Heap.lt_size hz,Heap.lt_size A_,Heap.lt_size Ju,(by obtain ⟨_,e,_⟩:=h1;exact Heap.lt_size e),(by obtain ⟨_,e,_⟩:=h2;exact Heap.lt_size e),(by obtain ⟨_,e,_⟩:=q1;exact Heap.lt_size e),(by obtain ⟨_,e,_⟩:=q2;exact Heap.lt_size e)⟩
 refine ⟨⟨_,hS,rfl⟩,PySem.F.args_list_init_2 _ _,Be (A:=A.in1) hh B hn ⟨.inl ⟨up _ _ hz,a,b,up _ _ Ju⟩,up _ _ A_,h1.at fun o e=>up _ o e,h2.at fun o e=>up _ o e,q1.at fun o e=>up _ o e,q2.at fun o e=>up _ o e⟩ (up _ _ hz) hS fun h' tk acc c as hk xw hl hG eV=>?_⟩
 exact ⟨rfl,hQ h' tk acc c as (fun b o h2 h3 h4 h5 e=>hk b o (Nat.ne_of_lt (Heap.lt_size e)) h2 h3 h4 h5 (up b o e)) xw hl hG eV⟩
end
end DI
end
section
namespace DI
open PySem PySem.Spec PyProof.Rows L2
theorem Inv.Lu {X:Cx} {pins:List (Addr × Obj)} {σ:St} {H H':Hp} {s:Shared} {h':Heap} {t':Nat} (I:Inv X pins σ H s) (k:∀ b u,s.heap.get? b = some u -> h'.get? b = some u) (up:∀ b u,H b = some u -> H' b = some u)
  (nw:∀ b u,H' b = some u -> H b = some u \/ (s.heap.objs.size <= b /\ bV X.prog X.w H' h' b u)):Inv X pins σ H' { s with heap:=h',toks:=t' }:=by
 refine I.step (g':=s.gens) (d':=s.drawn) (ch:=[]) (fun b hb=>nomatch hb) (fun b o _ _ _ e _=>k b o e) (fun b o _ _ _ e _=>⟨o.slots,k b o e⟩) (fun b u _ e n=>?_)
  (fun b o _ e=>⟨o,k b o e⟩) (fun _ _ e=>up _ _ e) (fun _ _ _ e=>up _ _ e) (fun b ps e=>⟨#[],by rw [up _ _ e];simp⟩) (fun m hm=>?_) (fun b u e=>?_) I.bare
 ·cases q:H' b with
  | none=>rfl
  | some v =>
   rcases nw b v q with z | ⟨z,_⟩
   ·rw [n] at z;cases z
   ·exact absurd (Heap.lt_size e) (Nat.not_lt.mpr z)
 ·obtain ⟨o,es,ep,ho,r⟩:=hm
  exact ⟨o,es,ep,k _ o ho,r⟩
 ·rcases nw b u e with e | ⟨_,e⟩
  ·exact (I.cQ b u e).ju (fun c v _ q=>k c v q) (fun _ q=>up _ _ q) fun _ _ q=>up _ _ q
  ·exact e
noncomputable def n9 (H:Hp):List (Addr × V × V) -> Hp
 | []=>H
 | q :: r=>upd (n9 H r) q.1 (.tup [q.2.1,q.2.2])
theorem jC {H:Hp} {b:Addr} {u:HO} (e:H b = some u):∀ {r:List (Addr × V × V)},(∀ q ∈ r,H q.1 = none) -> n9 H r b = some u
 | [],_=>e
 | q :: r,h=>by
  have hn:b ≠ q.1:=fun z=>by rw [z,h q List.mem_cons_self] at e;cases e
  show upd (n9 H r) q.1 _ b = _
  rw [av hn]
  exact jC e fun q hq=>h q (List.mem_cons_of_mem _ hq)
theorem vv {H:Hp}:∀ {r:List (Addr × V × V)},(r.map (·.1)).Nodup -> ∀ q ∈ r,n9 H r q.1 = some (.tup [q.2.1,q.2.2])
 | [],_,_,h=>nomatch h
 | q' :: r,hn,q,h=>by
  show upd (n9 H r) q'.1 _ q.1 = _
  have x4:=List.nodup_cons.mp hn
  rcases List.mem_cons.mp h with rfl | h
  ·exact aB
  ·have:q.1 ≠ q'.1:=fun z=>x4.1 (by show q'.1 ∈ _;rw [<- z];exact List.mem_map_of_mem h)
   rw [av this]
   exact vv x4.2 q h
theorem rS {H:Hp} {b:Addr} {u:HO}:∀ {r:List (Addr × V × V)},n9 H r b = some u -> H b = some u \/ ∃ q ∈ r,q.1 = b /\ u = .tup [q.2.1,q.2.2]
 | [],e=>.inl e
 | q :: r,e=>by
  replace e:upd (n9 H r) q.1 (.tup [q.2.1,q.2.2]) b = some u:=e
  by_cases z:b = q.1
  ·subst z
   rw [aB] at e
   cases e
   exact .inr ⟨q,List.mem_cons_self,rfl,rfl⟩
  ·rw [av z] at e
   rcases rS e with h | ⟨q',h1,h2⟩
   ·exact .inl h
   ·exact .inr ⟨q',List.mem_cons_of_mem _ h1,h2⟩
noncomputable def Xl (K:PySem.W.Frag) (ta:TA):TE:=fun σ H Q=>ta σ H fun vs H1=>∃ a b xs ys,vs = [.ref a,.ref b] /\ dm K H1 a xs /\ dm K H1 b ys /\
 ∀ (l:Addr) (r:List (Addr × V × V)),H1 l = none -> (∀ q ∈ r,H1 q.1 = none) -> (r.map (·.1)).Nodup -> l ∉ r.map (·.1) -> r.map (·.2) = xs.zip ys -> Q (.ref l) (upd (n9 H1 r) l (.lst (r.map fun q=>V.ref q.1)))
theorem B6 {X:Cx} {e1 e2:Expr} {ta:TA} {p pos p' pos':Pos} (hc:X.calm = true) (Se:Gl X "list") (YZ:X.mg "list" = none) (hg:Gl X "zip") (hm:X.mg "zip" = none) (ha:PA X [e1,e2] ta) (hs:∀ es,starEach (e1 :: es) X.env = (false,eval e1 X.env) :: starEach es X.env) (Jj:∀ es,starEach (e2 :: es) X.env = (false,eval e2 X.env) :: starEach es X.env) :
  PE X (.Call (.Name "list" p') [.Call (.Name "zip" p) [e1,e2] [] pos] [] pos') (Xl X.K ta):=by
 intro pins s σ H Q I h
 refine wpAny_Call_Name_kw (ft I Se YZ boot_list ?_)
 refine PyProof.Rows.callWith_type1 ?_
 show wpAny _ _ (spliced ((false,eval (.Call (.Name "zip" p) [e1,e2] [] pos) X.env) :: backTo pos' (starEach [] X.env))) _ _ s
 refine Calls.spliced_cons ?_
 refine Call_ (ft I hg hm boot_zip (PyProof.Rows.callWith_type1 (cI (ha pos pins s σ H _ I h) fun us s1 ⟨vs,H1,I1,r1,q1⟩=>?_) (hs _) (by rw [Jj];rfl)))
 obtain ⟨a,b,xs,ys,e,q1,q2,hq⟩:=q1
 subst e
 obtain ⟨u,v,rfl,ru,rv⟩:=vals2 r1
 cases ru
 cases rv
 obtain ⟨ai,rx,p1,VO⟩:=I1.list q1
 obtain ⟨its',ry,p2,NX⟩:=I1.list q2
 refine call_zip_2 p1.isList p2.isList fun h' z t o l1 l2 sz k=>Calls.spliced_nil ?_
 have A7:h'.IsList a ai.toArray:=p1.isList.at fun o e=>k _ o e
 have x5:h'.IsList b its'.toArray:=p2.isList.at fun o e=>k _ o e
 have cls:∀ {x y:Addr} {o u:Obj},h'.get? x = some o -> h'.get? y = some u -> o.cls ≠ u.cls -> x ≠ y:=fun h1 h2 h3=>cS h1 h2 h3
 have al:@LT.lt Nat _ a s1.heap.objs.size:=by obtain ⟨_,e,_⟩:=p1.isList;exact Heap.lt_size e
 have bl:@LT.lt Nat _ b s1.heap.objs.size:=by obtain ⟨_,e,_⟩:=p2.isList;exact Heap.lt_size e
 have D:ZipApart (s1.heap.objs.size + 4) (s1.heap.objs.size + 2) (s1.heap.objs.size + 3) s1.heap.objs.size (s1.heap.objs.size + 1) a b:=by
  constructor <;> first | exact Nat.ne_of_lt (by omega) | exact Nat.ne_of_gt (by omega)
 have lx:=rx.length
 have ly:=ry.length
 have hn:min ai.toArray.size its'.toArray.size <= sizeLine:=by simp;omega
 refine Bi (s:={ s1 with heap:=h' }) (I1.ok.hd hc) D hn z t o l1 l2 A7 x5 fun Zv tk acc c as hk hS hl hG eV=>?_
 dsimp only at hk hS hG ⊢
 have hlen:as.length = (xs.zip ys).length:=by rw [hl,List.length_zip];simp;omega
 have keep:∀ b o,s1.heap.get? b = some o -> Zv.get? b = some o:=fun b o e=>by
  have:@LT.lt Nat _ b s1.heap.objs.size:=Heap.lt_size e
  exact hk b o (Nat.ne_of_lt (by omega)) (Nat.ne_of_lt (by omega)) (Nat.ne_of_lt (by omega)) (Nat.ne_of_lt (by omega)) (k b o e)
 have fresh:∀ c,s1.heap.objs.size <= c -> H1 c = none:=fun c h=>I1.cQ.fresh h
 have hS5:h'.objs.size = s1.heap.objs.size + 5:=sz
 let r:List (Addr × V × V):=as.zip (xs.zip ys)
 have r1:r.map (·.1) = as:=List.map_fst_zip (by omega)
 have r2:r.map (·.2) = xs.zip ys:=List.map_snd_zip (by omega)
 have uf:∀ c ∈ as,@LT.lt Nat _ h'.objs.size c:=hG.above
 have RT:∀ q ∈ r,H1 q.1 = none:=fun q hq=>fresh _ (by have:=uf q.1 (by rw [<- r1];exact List.mem_map_of_mem hq);omega)
 have Eu:H1 h'.objs.size = none:=fresh _ (by omega)
 have Hk:h'.objs.size ∉ r.map (·.1):=by rw [r1];exact fun z=>absurd (uf _ z) (Nat.lt_irrefl _)
 have A6:(r.map (·.1)).Nodup:=by rw [r1];exact hG.nd
 have zW:(as.map V.ref) = r.map fun q=>V.ref q.1:=by rw [<- r1,List.map_map];rfl
 refine ⟨.ref h'.objs.size,upd (n9 H1 r) h'.objs.size (.lst (r.map fun q=>V.ref q.1)),?_,rfl,hq _ r Eu RT A6 Hk r2⟩
 refine Inv.Lu (s:=s1) (t':=tk) I1 keep (fun b u e=>?_) fun b u e=>?_
 ·rw [av fun z=>by rw [z,Eu] at e;cases e]
  exact jC e RT
 ·by_cases zb:b = h'.objs.size
  ·subst zb
   rw [aB] at e
   cases e
   refine .inr ⟨by omega,?_,acc.toList,c,?_,by rw [Array.toArray_toList];exact hS⟩
   ·rw [<- zW,List.length_map,hlen,List.length_zip];omega
   ·rw [<- zW,eV]
    clear eV zW hG hl hlen r1 uf A6 r r2 RT Hk hS hk keep
    induction as with
    | nil=>exact .nil
    | cons a as ih=>exact .cons rfl ih
  ·rw [av zb] at e
   rcases rS e with e | ⟨q,hq,rfl,rfl⟩
   ·exact .inl e
   ·have hm:q.1 ∈ as:=by rw [<- r1];exact List.mem_map_of_mem hq
    refine .inr ⟨by have:=uf _ hm;omega,?_⟩
    obtain ⟨j,hj⟩:=List.mem_iff_getElem?.mp hq
    have Sd:as[j]? = some q.1 /\ (xs.zip ys)[j]? = some q.2:=by
     have:=List.getElem?_zip_eq_some.mp hj
     exact this
    obtain ⟨x,y,ex,ey,hp⟩:=hG.pairs j q.1 Sd.1
    obtain ⟨e1,e2⟩:xs[j]? = some q.2.1 /\ ys[j]? = some q.2.2:=List.getElem?_zip_eq_some.mp Sd.2
    obtain ⟨u1,RP,Ku⟩:=rx.get e1
    obtain ⟨u2,YQ,Kt⟩:=ry.get e2
    rw [List.getElem?_toArray,RP] at ex
    rw [List.getElem?_toArray,YQ] at ey
    cases ex
    cases ey
    exact uL Ku Kt hp
end DI
end
section
namespace DI
open PySem PySem.Spec PyProof.Rows L2
noncomputable def pairD (x y:D):D:=.tup [x,y]
noncomputable def GO (xs:List D):O D:=match two xs with
 | some z=>match z.1 with
  | .lst _ a=>match z.2 with
   | .lst _ b=>ok (.lst .ow (ag bc (List.zipWith pairD a b)))
   | _=>none
  | _=>none
 | none=>none
theorem GN {x y d:D} (h:GO [x,y] = ok d):∃ f a g b,x = .lst f a /\ y = .lst g b /\ d = .lst .ow (ag bc (List.zipWith pairD a b)):=by
 cases x <;> first | (cases h;done) | skip
 cases y <;> first | (cases h;done) | skip
 cases h
 exact ⟨_,_,_,_,rfl,rfl,rfl⟩
noncomputable def we (sc:Scope) (bl:List Str) (e:Expr):Option (List Expr):=match eC e with
 | some z=>match one z.2 with
  | some i=>if z.1 = ("list" : Str) /\ gX sc z.1 = true /\ z.1 ∈ bl then hJ sc bl i else none
  | none=>none
 | none=>none
theorem AH {sc:Scope} {bl:List Str} {e:Expr} {args:List Expr} (h:we sc bl e = some args):∃ p pos i,e = .Call (.Name ("list" : Str) p) [i] [] pos /\ gX sc ("list" : Str) = true /\ ("list" : Str) ∈ bl /\ hJ sc bl i = some args:=by
 unfold we at h
 cases hv:eC e with
 | none=>rw [hv] at h;cases h
 | some z =>
  obtain ⟨x,as⟩:=z
  rw [hv] at h
  obtain ⟨p,pos,rfl⟩:=cY hv
  have h2:(match one as with | some i=>if x = ("list" : Str) /\ gX sc x = true /\ x ∈ bl then hJ sc bl i else none | none=>none) = some args:=h
  clear h
  cases hw:one as with
  | none=>rw [hw] at h2;cases h2
  | some a =>
   rw [hw] at h2
   have h3:(if x = ("list" : Str) /\ gX sc x = true /\ x ∈ bl then hJ sc bl a else none) = some args:=h2
   clear h2
   obtain rfl:=cB hw
   by_cases hc:x = ("list" : Str) /\ gX sc x = true /\ x ∈ bl
   ·rw [if_pos hc] at h3
    obtain ⟨rfl,h1,h2⟩:=hc
    exact ⟨_,_,_,rfl,h1,h2,h3⟩
   ·rw [if_neg hc] at h3;cases h3
theorem rB {T:iL} {N:gC} (hN:∀ k k' p xs f,N k p xs f -> N k' p xs f):∀ {r:List (Addr × V × V)} {xs ys:List V} {a b:List D} {k1 k2 k:aE} {n1 n2 n:Nat},af T N k1 n1 xs a -> af T N k2 n2 ys b -> r.map (·.2) = xs.zip ys -> (∀ q ∈ r,T q.1 [q.2.1,q.2.2]) -> af T N k n (r.map fun q=>V.ref q.1) (List.zipWith pairD a b)
 | [],xs,ys,a,b,_,_,_,_,_,_,r1,r2,e,_=>by
  have l1:=r1.length
  have l2:=r2.length
  have e':=congrArg List.length e
  rw [List.length_zip] at e'
  have:List.zipWith pairD a b = []:=List.eq_nil_of_length_eq_zero (by rw [List.length_zipWith];simp at e';omega)
  rw [this]
  exact .nil
 | q :: r,xs,ys,a,b,k1,k2,k,n1,n2,n,r1,r2,e,ht=>by
  cases r1 with
  | nil=>cases e
  | cons h1 t1=>cases r2 with
   | nil=>cases e
   | cons h2 t2 =>
    have e1:q.2 = (_,_):=(List.cons.inj e).1
    have e2:=(List.cons.inj e).2
    refine .cons (.tup (ht q List.mem_cons_self) ?_) (rB hN t1 t2 e2 fun q hq=>ht q (List.mem_cons_of_mem _ hq))
    rw [e1]
    have m1:=Rep.gS (T':=T) (N':=N) (g:=id) (fun _ _ h=>h) hN h1 (0 :: n :: k)
    have m2:=Rep.gS (T':=T) (N':=N) (g:=id) (fun _ _ h=>h) hN h2 (1 :: n :: k)
    rw [dR] at m1 m2
    exact .cons m1 (.cons m2 .nil)
theorem ff (g:Fl -> Fl):∀ a b:List D,ag g (List.zipWith pairD a b) = List.zipWith pairD (ag g a) (ag g b)
 | [],_=>by cases ‹List D› <;> rfl
 | _ :: _,[]=>rfl
 | x :: a,y :: b=>by
  show aD g (pairD x y) :: ag g (List.zipWith pairD a b) = _
  rw [ff g a b];rfl
theorem Lo {Φ:az} {n:Nat} (hΦ:Φ n = GO) {X:Cx} {sc:Scope} {bl:List Str} {k:Nat} (L:PX X sc bl k) {e:Expr} {args:List Expr} (he:we sc bl e = some args) {F:Addr -> Prop} {cs:List CE} (hs:kP X F Φ cs args):PE X e (tD X F Φ (.cj n cs)) /\ PT X e (fL X F Φ (.cj n cs)):=by
 obtain ⟨p,pos,i,rfl,h1,h2,hz⟩:=AH he
 obtain ⟨p',pos',a,b,rfl,rfl,h3,h4⟩:=ph hz
 obtain ⟨⟨c,d,rfl,_,_⟩,pa,s1,s2⟩:=gM hs
 have this:PE X (.Call (.Name ("list" : Str) p) [.Call (.Name ("zip" : Str) p') [a,b] [] pos'] [] pos) (tD X F Φ (.cj n [c,d])):=by
  refine PE.imp (B6 L.calm (L.gl h1) (L.bl _ h2) (L.gl h3) (L.bl _ h4) pa s1 s2) fun σ H Q hq=>?_
  obtain ⟨R,τ,ρ,d',Si,ev,hq⟩:=hq
  obtain ⟨xs,bP,ev⟩:=ae ev
  rw [hΦ] at ev
  refine ⟨R,τ,ρ,xs,Si,bP,fun vs H1 e1 r1=>?_⟩
  obtain ⟨τt,fr,rs⟩:=r1
  have hl:∃ x y,xs = [x,y]:=by
   unfold GO at ev
   cases hw:two xs with
   | none=>rw [hw] at ev;cases ev
   | some z=>exact ⟨z.1,z.2,gH hw⟩
  obtain ⟨x,y,rfl⟩:=hl
  obtain ⟨f,da,g,db,rfl,rfl,rfl⟩:=GN ev
  obtain ⟨v,w,rfl,rx,ry⟩:=rs.two
  cases rx with
  | lst hx ax=>cases ry with
   | lst hy ay =>
    refine ⟨_,_,_,_,rfl,hx.sq,hy.sq,fun l r hl hr hn Hk hz=>hq _ _ ?_ ?_⟩
    ·intro b o e
     have e':=e1 b o e
     rw [av fun z=>by rw [z,hl] at e';cases e']
     exact jC e' hr
    ·have sm:aj H1 (upd (n9 H1 r) l (.lst (r.map fun q=>V.ref q.1))):=fun b o e=>by
      rw [av fun z=>by rw [z,hl] at e;cases e]
      exact jC e hr
     refine bt.p3 (e1.free hl) (e1.trans sm) aB ?_
     rw [ff]
     refine rB nd.mV ((ax.eD Si fr (k':=[]) (n':=0)).imp (fun _ _ h=>aA.same sm h) fun _ _ _ _ h=>nd.same sm h) ((ay.eD Si fr (k':=[]) (n':=0)).imp (fun _ _ h=>aA.same sm h) fun _ _ _ _ h=>nd.same sm h) hz fun q hq=>?_
     have vB:q.1 ≠ l:=fun z=>Hk (by rw [<- z];exact List.mem_map_of_mem hq)
     exact aA.of (by rw [av vB];exact vv hn q hq)
 exact ⟨this,cg this fun _=>rfl⟩
end DI
end
section
namespace DI
open PySem PySem.Spec PyProof.Rows L2
end DI
end
section
namespace DI
open PySem PySem.Spec PyProof.Rows L2
theorem af.EJ {T:iL} {N:gC} {k:aE}:∀ (j:Nat) {n:Nat} {vs:List V} {ds:List D},af T N k n vs ds -> af T N k (n + j) (vs.drop j) (ds.drop j)
 | 0,_,_,_,h=>h
 | j + 1,_,_,_,.nil=>.nil
 | j + 1,n,_,_,.cons h t=>by
  rw [show n + (j + 1) = n + 1 + j by omega]
  exact af.EJ j t
theorem af.DZ {T:iL} {N:gC} {k:aE}:∀ (j:Nat) {n:Nat} {vs:List V} {ds:List D},af T N k n vs ds -> af T N k n (vs.take j) (ds.take j)
 | 0,_,_,_,_=>by rw [List.take_zero,List.take_zero];exact .nil
 | j + 1,_,_,_,.nil=>.nil
 | j + 1,n,_,_,.cons h t=>.cons h (af.DZ j t)
noncomputable def oq {α:Type} (b:Bool) (k:Nat) (xs:List α):List α:=if b then xs.drop k else xs.take k
noncomputable def Kz (K:PySem.W.Frag) (b:Bool):V -> Option Int -> Option Int -> Hp -> VK -> Prop:=fun x lo hi H Q=>∃ (a:Addr) (xs:List V) (k:Nat),x = .ref a /\ dm K H a xs /\ lo = (if b then some (k:Int) else none) /\ hi = (if b then none else some (k:Int)) /\ k <= xs.length /\ ∀ p,H p = none -> Q (.ref p) (upd H p (.lst (oq b k xs)))
theorem uS {X:Cx} (b:Bool):U2 X (Kz X.K b):=by
 intro pins s σ H x v vl vu lo hi sl Q I rx hs pl pu h
 obtain ⟨a,xs,k,rfl,hx,rfl,rfl,hk,q⟩:=h
 cases rx
 obtain ⟨ai,r,Ef,hz⟩:=I.list hx
 have hl:=dP Ef
 have hlen:ai.length = xs.length:=r.length.symm
 refine ⟨"list",_,slot_list_getitem.lookup,hl.typeIs,wpAny_getItem_list_slice hl hs pl pu .none (by simp) ?_ (by rw [List.size_toArray,hlen];exact hz)⟩
 have e:slicePick ai.toArray (if b then some (k:Int) else none) (if b then none else some (k:Int)) none = (oq b k ai).toArray:=by
  cases b with
  | true=>exact slicePick_from ai.toArray k (by simp;omega)
  | false=>exact slicePick_upto ai.toArray k (by simp;omega)
 have rc:Vals (oq b k xs) (oq b k ai):=by
  cases b with
  | true=>exact r.drop k
  | false=>exact r.take k
 have lc:(oq b k xs).length <= xs.length:=by
  cases b with
  | true=>show (xs.drop k).length <= _;rw [List.length_drop];omega
  | false=>show (xs.take k).length <= _;rw [List.length_take];omega
 rw [e]
 exact ⟨.ref s.heap.objs.size,_,I.GS (t':=s.toks) rc (Nat.le_trans lc hz),rfl,q _ I.fresh⟩
noncomputable def cutD (b:Bool) (xs:List D):O D:=match two xs with
 | some z=>match z.1 with
  | .lst _ ds=>match z.2 with
   | .int k=>if 0 <= k /\ k <= ds.length then ok (.lst .ow (ag bc (oq b k.toNat ds))) else none
   | _=>none
  | _=>none
 | none=>none
theorem Dw {b:Bool} {x y d:D} (h:cutD b [x,y] = ok d):∃ (f:Fl) (ds:List D) (k:Nat),x = .lst f ds /\ y = .int k /\ k <= ds.length /\ d = .lst .ow (ag bc (oq b k ds)):=by
 cases x <;> first | (cases h;done) | (cases y <;> first | (cases h;done) | skip)
 obtain ⟨⟨h1,h2⟩,h3⟩:=nM h
 rename_i f ds k
 exact ⟨f,ds,k.toNat,rfl,by rw [Int.toNat_of_nonneg h1],by omega,h3.symm⟩
noncomputable def Bu (b:Bool) (e:Expr):Option Expr:=match e with
 | .Slice lo hi st _=>match st with
  | none=>match b with
   | true=>match hi with
    | none=>lo
    | some _=>none
   | false=>match lo with
    | none=>hi
    | some _=>none
  | some _=>none
 | _=>none
theorem Bt {b:Bool} {e k:Expr} (h:Bu b e = some k):∃ p,e = .Slice (if b then some k else none) (if b then none else some k) none p:=by
 cases e <;> first | (cases h;done) | skip
 rename_i lo hi st p
 cases st with
 | some _=>cases h
 | none=>cases b with
  | true=>cases hi with
   | some _=>cases h
   | none=>cases h;exact ⟨p,rfl⟩
  | false=>cases lo with
   | some _=>cases h
   | none=>cases h;exact ⟨p,rfl⟩
noncomputable def qu (b:Bool) (_:Scope) (_:List Str) (e:Expr):Option (List Expr):=match iU e with
 | some z=>match Bu b z.2 with
  | some k=>some [z.1,k]
  | none=>none
 | none=>none
theorem xN {b:Bool} {sc:Scope} {bl:List Str} {e:Expr} {args:List Expr} (h:qu b sc bl e = some args):∃ a k p pos,e = .Subscript a (.Slice (if b then some k else none) (if b then none else some k) none p) pos /\ args = [a,k]:=by
 unfold qu at h
 cases hv:iU e with
 | none=>rw [hv] at h;cases h
 | some z =>
  obtain ⟨a,s⟩:=z
  rw [hv] at h
  obtain ⟨pos,rfl⟩:=fY hv
  have h:(match Bu b s with | some k=>some [a,k] | none=>none) = some args:=h
  cases hw:Bu b s with
  | none=>rw [hw] at h;cases h
  | some k =>
   rw [hw] at h
   cases h
   obtain ⟨p,rfl⟩:=Bt hw
   exact ⟨a,k,p,pos,rfl,rfl⟩
theorem Iy {b:Bool} {Φ:az} {n:Nat} (hΦ:Φ n = cutD b) {X:Cx} {sc:Scope} {bl:List Str} {k:Nat} (L:PX X sc bl k) {e:Expr} {args:List Expr} (he:qu b sc bl e = some args) {F:Addr -> Prop} {cs:List CE} (hs:kP X F Φ cs args):PE X e (tD X F Φ (.cj n cs)) /\ PT X e (fL X F Φ (.cj n cs)):=by
 obtain ⟨a,ke,p,pos,rfl,rfl⟩:=xN he
 cases cs with
 | nil=>exact hs.elim
 | cons c cs=>cases cs with
  | nil=>exact hs.2.2.2.elim
  | cons c' cs=>cases cs with
   | cons _ _=>exact hs.2.2.2.2.2.2.elim
   | nil =>
    obtain ⟨h1,_,_,h2,_,_,_⟩:=hs
    have this:PE X (.Subscript a (.Slice (if b then some ke else none) (if b then none else some ke) none p) pos) (tD X F Φ (.cj n [c,c'])):=by
     have go:∀ {tl th:TO},PO X (if b then some ke else none) tl -> PO X (if b then none else some ke) th -> (∀ (H1:Hp) (R:Addr -> Prop) (τ:Addr -> Option aE) (ρ:au) (k:Nat) (σ:St) (Q:Option Int -> Option Int -> Hp -> Prop),SI X F R τ ρ σ H1 -> aL Φ c' ρ = ok (.int k) -> (∀ H2,aj H1 H2 -> Q (if b then some (k:Int) else none) (if b then none else some (k:Int)) H2) -> tl σ H1 fun l H2=>th σ H2 fun u H3=>Q l u H3) -> PE X (.Subscript a (.Slice (if b then some ke else none) (if b then none else some ke) none p) pos) (tD X F Φ (.cj n [c,c'])):=by
      intro tl th pl pu hh
      refine PE.imp (yX (uS b) h1 pl pu) fun σ H Q hq=>?_
      obtain ⟨R,τ,ρ,d,Si,ev,hq⟩:=hq
      obtain ⟨xs,bP,ev⟩:=ae ev
      obtain ⟨x,ex,bP⟩:=ae bP
      obtain ⟨ys,om,bP⟩:=ae bP
      cases bP
      obtain ⟨y,ey,om⟩:=ae om
      cases om
      rw [hΦ] at ev
      obtain ⟨f,ds,j,rfl,rfl,hj,rfl⟩:=Dw ev
      refine tD.intro Si ex fun v H1 e1 r1=>hh H1 R τ ρ j σ (fun l u H3=>Kz X.K b v l u H3 Q) (Si.go e1) ey fun H2 e2=>?_
      have r2:=(r1.go e2).mono (fv':=fM (.cj n [c,c'])) fun i hi=>List.mem_append_left _ hi
      obtain ⟨τt,fr,rp⟩:=r2
      cases rp with
      | @lst _ q xs _ _ hn rs =>
       have ee:=e1.trans e2
       refine ⟨q,xs,j,rfl,hn.sq,rfl,rfl,by rw [rs.length];exact hj,fun l hl=>hq _ _ (ee.trans (aj.upd hl)) (bt.p3 (ee.free hl) (ee.trans (aj.upd hl)) aB ?_)⟩
       have rc:∃ n',af (aA X.K H2) (nd X.K R (iK (gP X F) τ (fM (.cj n [c,c']))) τt H2) [] n' (oq b j xs) (oq b j ds):=by
        cases b with
        | true=>exact ⟨_,rs.EJ j⟩
        | false=>exact ⟨_,rs.DZ j⟩
       obtain ⟨n',rc⟩:=rc
       exact (rc.eD Si fr).imp (fun _ _ h=>aA.same (aj.upd hl) h) fun _ _ _ _ h=>nd.same (aj.upd hl) h
     cases b with
     | true =>
      refine go (u_ h2) va fun H1 R τ ρ k σ Q Si ek hk=>tD.intro Si ek fun v H2 e2 r2=>?_
      cases r2.isInt
      exact ⟨k,rfl,hk H2 e2⟩
     | false =>
      refine go va (u_ h2) fun H1 R τ ρ k σ Q Si ek hk=>tD.intro Si ek fun v H2 e2 r2=>?_
      cases r2.isInt
      exact ⟨k,rfl,hk H2 e2⟩
    exact ⟨this,cg this fun _=>by cases b <;> rfl⟩
end DI
end
section
namespace DI
open PySem PySem.Spec PyProof.Rows L2
section
open PySem.SeqAt
open PySem.AutoSeq1 (wpAny_loadPart')
open PySem.MeetsSeq PySem.MeetsSeq2 PySem.MeetsSeq3
theorem yK (A:Around) (s:Shared) (a:Int) (t:Tok) (c:Int) (u:Tok) (prog:Program) (w:World) (E:Value -> Shared -> Prop) (Q:Value -> Shared -> Prop) (h:Q (.bool (decide (a ≥ c))) s):wpAny (model prog w) A (richCompare .GtE (.int a t) (.int c u)) Q E s :=
 (PyProof.Rows.ge_int h:wpAny (model prog w) A (compareOp .GtE (.int a t) (.int c u)) Q E s)
theorem Cu {vs ws:List Value} {ns ms:List Int} {m n:Nat} (h1:IntsAre vs ns) (h2:IntsAre ws ms) (hz:vs.zip ws = []) (hl:ns.length + n = ms.length + m):(!HT.lexLt ns ms) = decide (m ≥ n):=by
 cases h1 with
 | nil=>cases h2 with
  | nil=>simp only [List.length_nil] at hl;exact (decide_eq_true (by omega)).symm
  | cons c u h=>simp only [List.length_nil,List.length_cons] at hl;exact (decide_eq_false (by omega)).symm
 | cons a t h=>cases h2 with
  | nil=>simp only [List.length_nil,List.length_cons] at hl;exact (decide_eq_true (by omega)).symm
  | cons c u h=>rw [List.zip_cons_cons] at hz;cases hz
theorem nQ (l b:Addr) (items cW:Array Value) (n n2:Nat) (dd v_:Option Addr) (sl sX:Array (Option Value)) (ns ms:List Int) (hi:IntsAre items.toList ns) (hj:IntsAre cW.toList ms) :
  Meets (Builtin.«tuple.__ge__» ⟨[.ref l,.ref b],[]⟩) (fun _ R s=>s.heap.get? l = some { cls:=.type "tuple",dict:=dd,data:=.seq items n,slots:=sl } /\ s.heap.get? b = some { cls:=.type "tuple",dict:=v_,data:=.seq cW n2,slots:=sX } /\ R (.ok (.ret (.bool (!HT.lexLt ns ms)))) s) :=
 .of_wp fun prog w A R s h=>by
  obtain ⟨hp,g,d,tk,os⟩:=s
  obtain ⟨hl,hb,h⟩:=h
  have f2:=AutoSeq1.sub_tuple_tuple
  have z1:items.size = ns.length:=by rw [<- hi.length];simp
  have z2:cW.size = ms.length:=by rw [<- hj.length];simp
  wp_walk using wpAny_loadPart' hl,wpAny_loadPart' hb,wpAny_forIn_list _ (fun rest b s'=>b.1 = none /\ s' = ⟨hp,g,d,tk,os⟩ /\ ∃ (vs ws:List Value) (gD xY:List Int),rest = vs.zip ws /\ IntsAre vs gD /\ IntsAre ws xY /\ gD.length + cW.size = xY.length + items.size /\ R (.ok (.ret (.bool (!HT.lexLt gD xY)))) ⟨hp,g,d,tk,os⟩) _
  case turn =>
   rintro ⟨y,x⟩ rest b s' ⟨vF,rfl,vs,ws,gD,xY,hz,Hd,Et,hlen,hR⟩
   cases Hd with
   | nil=>rw [List.zip_nil_left] at hz;cases hz
   | cons a t hvi'=>cases Et with
    | nil=>rw [List.zip_nil_right] at hz;cases hz
    | cons c u hwi' =>
     rw [List.zip_cons_cons] at hz
     injection hz with RL zU
     injection RL with hy hx
     subst hy hx
     rw [HT.dj] at hR
     simp only [List.length_cons] at hlen
     obtain ⟨e,he,zY⟩:=HT.sv A.in1 ⟨hp,g,d,tk,os⟩ a t c u
     refine wpAny_bind (he prog w _ _ ?_)
     cases e with
     | true =>
      rw [if_pos (zY.mp rfl)] at hR
      wp_walk
      exact ⟨rfl,rfl,_,_,_,_,zU,hvi',hwi',by omega,hR⟩
     | false =>
      have LZ:¬ a = c:=fun q=>absurd (zY.mpr q) Bool.false_ne_true
      rw [if_neg LZ,show (!decide (a < c)) = decide (a ≥ c) by by_cases q:a < c <;> simp [q] <;> omega] at hR
      have RU:=yK A.in1 ⟨hp,g,d,tk,os⟩ a t c u prog w
      wp_walk using RU
      exact ⟨_,rfl,by simpa using hR⟩
  case fin =>
   rintro ⟨b1,b2⟩ s' ⟨vF,rfl,vs,ws,gD,xY,hz,Hd,Et,hlen,hR⟩
   simp only at vF
   subst vF
   rw [Cu Hd Et hz.symm hlen] at hR
   wp_walk
   exact ⟨_,rfl,by simpa [Builtin.Tuple.tupleCompareSizes] using hR⟩
  case h=>exact ⟨rfl,rfl,items.toList,cW.toList,ns,ms,rfl,hi,hj,by omega,h⟩
end
noncomputable def Ky (K:PySem.W.Frag):R2:=fun x y H Q=>∃ a b ns ms,x = .ref a /\ y = .ref b /\ aA K H a (ns.map V.int) /\ aA K H b (ms.map V.int) /\ Q (.bl (!HT.lexLt ns ms)) H
theorem ze {X:Cx} (hu:X.A.units < cLine):i8 X (compareOp .GtE) (Ky X.K):=by
 intro pins s σ H x y v u Q I rx ry h
 obtain ⟨a,b,ns,ms,rfl,rfl,ha,hb,q⟩:=h
 cases rx
 cases ry
 obtain ⟨ai,r1,⟨⟨cls,dd,data,sl⟩,ho,hc,n,hd⟩,_⟩:=I.tuple ha
 obtain ⟨t4,r2,⟨⟨Dy,v_,data2,sX⟩,p9,hc2,n2,hd2⟩,_⟩:=I.tuple hb
 simp only at hc hd hc2 hd2
 subst hc hd hc2 hd2
 exact richCompare_meets_room (op:=.GtE) ⟨_,ho,rfl⟩ ⟨_,p9,rfl⟩ PySem.F.slot_tuple_ge PySem.F.entry_tuple_ge (PySem.F.args_tuple_ge_2 _ _) (nQ a b ai.toArray t4.toArray n n2 dd v_ sl sX ns ms (intsAre_of r1) (intsAre_of r2))
  ⟨ho,p9,show Value.bool (!HT.lexLt ns ms) ≠ Value.notImplemented /\ EP X pins σ Q (.bool (!HT.lexLt ns ms)) s from ⟨(fun x=>nomatch x),⟨.bl _,H,I,rfl,q⟩⟩⟩ hu
noncomputable def EG (xs:List D):O D:=match two xs with
 | some z=>match z.1 with
  | .tup a=>match z.2 with
   | .tup b=>match intsOf a with
    | some ns=>match intsOf b with
     | some ms=>ok (.bl (!HT.lexLt ns ms))
     | none=>none
    | none=>none
   | _=>none
  | _=>none
 | none=>none
theorem HC {x y d:D} (h:EG [x,y] = ok d):∃ ns ms:List Int,x = .tup (ns.map D.int) /\ y = .tup (ms.map D.int) /\ d = .bl (!HT.lexLt ns ms):=by
 cases x <;> first | (cases h;done) | (cases y <;> first | (cases h;done) | skip)
 rename_i a b
 have h:(match intsOf a with | some ns=>(match intsOf b with | some ms=>ok (D.bl (!HT.lexLt ns ms)) | none=>none) | none=>none) = ok d:=h
 cases h1:intsOf a with
 | none=>rw [h1] at h;cases h
 | some ns=>cases h2:intsOf b with
  | none=>rw [h1,h2] at h;cases h
  | some ms =>
   rw [h1,h2] at h
   cases h
   exact ⟨ns,ms,by rw [dG h1],by rw [dG h2],rfl⟩
noncomputable def wg (_:Scope) (_:List Str) (e:Expr):Option (List Expr):=match Bv e with
 | some z=>match one z.2.2 with
  | some r=>if z.2.1 = [.GtE] then some [z.1,r] else none
  | none=>none
 | none=>none
theorem AI {sc:Scope} {bl:List Str} {e:Expr} {args:List Expr} (h:wg sc bl e = some args):∃ l r p,e = .Compare l [.GtE] [r] p /\ args = [l,r]:=by
 unfold wg at h
 cases hv:Bv e with
 | none=>rw [hv] at h;cases h
 | some z =>
  obtain ⟨l,os,rs⟩:=z
  rw [hv] at h
  obtain ⟨p,rfl⟩:=uJ hv
  replace h:(match one rs with | some r=>if os = [.GtE] then some [l,r] else none | none=>none) = some args:=h
  cases hw:one rs with
  | none=>rw [hw] at h;cases h
  | some r =>
   rw [hw] at h
   replace h:(if os = [.GtE] then some [l,r] else none) = some args:=h
   obtain rfl:=cB hw
   by_cases hc:os = [.GtE]
   ·rw [if_pos hc] at h;cases h;subst hc;exact ⟨l,r,p,rfl,rfl⟩
   ·rw [if_neg hc] at h;cases h
theorem Mu {Φ:az} {n:Nat} (hΦ:Φ n = EG) {X:Cx} {sc:Scope} {bl:List Str} {k:Nat} (L:PX X sc bl k) {e:Expr} {args:List Expr} (he:wg sc bl e = some args) {F:Addr -> Prop} {cs:List CE} (hs:kP X F Φ cs args):PE X e (tD X F Φ (.cj n cs)) /\ PT X e (fL X F Φ (.cj n cs)):=by
 obtain ⟨l,r,p,rfl,rfl⟩:=AI he
 have hu:X.A.units < cLine:=by have:=L.room.units;omega
 cases cs with
 | nil=>exact hs.elim
 | cons c cs=>cases cs with
  | nil=>exact hs.2.2.2.elim
  | cons c' cs=>cases cs with
   | cons _ _=>exact hs.2.2.2.2.2.2.elim
   | nil =>
    obtain ⟨h1,_,_,h2,_,_,_⟩:=hs
    have key:∀ {σ:St} {H:Hp} {R:Addr -> Prop} {τ:Addr -> Option aE} {ρ:au} {d:D} {Q:VK},SI X F R τ ρ σ H -> aL Φ (.cj n [c,c']) ρ = ok d -> (∀ b H2,d = .bl b -> aj H H2 -> Q (.bl b) H2) -> D2 (Ky X.K) (tD X F Φ c) (tD X F Φ c') σ H Q:=by
     intro σ H R τ ρ d Q Si ev hq
     obtain ⟨xs,bP,ev⟩:=ae ev
     obtain ⟨x,ex,bP⟩:=ae bP
     obtain ⟨ys,om,bP⟩:=ae bP
     cases bP
     obtain ⟨y,ey,om⟩:=ae om
     cases om
     rw [hΦ] at ev
     obtain ⟨ns,ms,rfl,rfl,rfl⟩:=HC ev
     refine tD.intro Si ex fun v H1 e1 r1=>tD.intro (Si.go e1) ey fun u H2 e2 r2=>?_
     obtain ⟨_,_,p1⟩:=r1.go e2
     obtain ⟨_,_,p2⟩:=r2
     cases p1 with
     | tup t1 s1=>cases p2 with
      | tup t2 s2 =>
       cases s1.ofInts
       cases s2.ofInts
       exact ⟨_,_,ns,ms,rfl,rfl,t1,t2,hq _ H2 rfl (e1.trans e2)⟩
    refine ⟨PE.imp (vg (ze hu) h1 h2 (zm _)) fun σ H Q hq=>?_,PT.imp (uX (ze hu) h1 h2 (zm _)) fun σ H Q hq=>?_⟩
    ·obtain ⟨R,τ,ρ,d,Si,ev,hq⟩:=hq
     exact key Si ev fun b H2 e es=>hq _ H2 es (by subst e;exact .bl)
    ·obtain ⟨R,τ,ρ,b,Si,ev,hq⟩:=hq
     obtain ⟨d,ed,et⟩:=ae ev
     refine key Si ed fun b' H2 e es=>?_
     subst e
     cases et
     exact ⟨_,rfl,hq H2 es⟩
end DI
end
section
namespace DI
open PySem PySem.Spec PyProof.Rows L2 PySem.W
noncomputable def cH {α:Type} (lt:Nat -> Nat -> Bool):KasT α -> α
 | .ret a=>a
 | .ask i j k=>cH lt (k (lt i j))
theorem fR {α β:Type} (lt:Nat -> Nat -> Bool) (f:α -> KasT β):∀ t:KasT α,cH lt (t.bind f) = cH lt (f (cH lt t))
 | .ret a=>rfl
 | .ask i j k=>fR lt f (k (lt i j))
section
noncomputable def iM {α:Type} (n:Nat) (lt:Nat -> Nat -> Bool):KasT α -> Prop
 | .ret _=>True
 | .ask i j k=>i < n /\ j < n /\ iM n lt (k (lt i j))
end
theorem wu {α:Type} {cmp:Nat -> Nat -> (Bool -> Shared -> Prop) -> Shared -> Prop} {lt:Nat -> Nat -> Bool} {s:Shared} {n:Nat} (hc:∀ i j C,i < n -> j < n -> C (lt i j) s -> cmp i j C s) {Q:α -> Shared -> Prop} :
  ∀ (t:KasT α),iM n lt t -> Q (cH lt t) s -> t.kasWp cmp Q s
 | .ret a,_,h=>h
 | .ask i j k,⟨h1,h2,h3⟩,h=>hc i j _ h1 h2 (wu hc (k (lt i j)) h3 h)
theorem eL {α β:Type} {lt:Nat -> Nat -> Bool} {n:Nat} {f:α -> KasT β}:∀ {t:KasT α},iM n lt t -> iM n lt (f (cH lt t)) -> iM n lt (t.bind f)
 | .ret _,_,h=>h
 | .ask i j k,⟨h1,h2,h3⟩,h=>⟨h1,h2,eL h3 h⟩
structure Ord (lt:Nat -> Nat -> Bool) (n:Nat):Prop where
 tr:∀ a b c,a < n -> b < n -> c < n -> lt a b = true -> lt b c = true -> lt a c = true
 as:∀ a b,a < n -> b < n -> lt a b = true -> lt b a = false
 Nu:∀ a b,a < n -> b < n -> a ≠ b -> lt a b = true \/ lt b a = true
structure Arr (p:Array Nat) (n:Nat):Prop where
 sz:p.size = n
 pm:p.toList.Perm (List.range n)
section
variable {lt:Nat -> Nat -> Bool} {n:Nat} {p:Array Nat}
theorem Arr.bd (h:Arr p n) {i:Nat} (hi:i < n):p.getD i 0 < n:=by
 have lF:i < p.size:=by rw [h.sz];exact hi
 have:p.getD i 0 = p[i]:=by simp [Array.getD,lF]
 rw [this]
 have hm:p[i] ∈ p.toList:=Array.getElem_mem_toList lF
 exact List.mem_range.mp (h.pm.mem_iff.mp hm)
theorem Arr.inj (h:Arr p n) {i j:Nat} (hi:i < n) (hj:j < n) (e:p.getD i 0 = p.getD j 0):i = j:=by
 have lF:i < p.toList.length:=by rw [Array.length_toList,h.sz];exact hi
 have Sd:j < p.toList.length:=by rw [Array.length_toList,h.sz];exact hj
 have nd:p.toList.Nodup:=h.pm.nodup_iff.mpr List.nodup_range
 have e1:p.getD i 0 = p.toList[i]:=by simp [Array.getD,show i < p.size by rw [h.sz];exact hi]
 have e2:p.getD j 0 = p.toList[j]:=by simp [Array.getD,show j < p.size by rw [h.sz];exact hj]
 rw [e1,e2] at e
 exact (List.getElem_inj nd).mp e
noncomputable def Up (lt:Nat -> Nat -> Bool) (p:Array Nat) (k:Nat):Prop:=∀ i j,i < j -> j < k -> lt (p.getD i 0) (p.getD j 0) = true
noncomputable def Dn (lt:Nat -> Nat -> Bool) (p:Array Nat) (k:Nat):Prop:=∀ i j,i < j -> j < k -> lt (p.getD j 0) (p.getD i 0) = true
theorem Up.snoc (O:Ord lt n) (h:Arr p n) {k:Nat} (hk:k < n) (h1:1 <= k) (u:Up lt p k) (hl:lt (p.getD (k - 1) 0) (p.getD k 0) = true):Up lt p (k + 1):=fun i j iQ hj=>by
 by_cases e:j = k
 ·subst e
  by_cases e2:i = j - 1
  ·subst e2;exact hl
  ·exact O.tr _ _ _ (h.bd (by omega)) (h.bd (by omega)) (h.bd hk) (u i (j - 1) (by omega) (by omega)) hl
 ·exact u i j iQ (by omega)
theorem Dn.snoc (O:Ord lt n) (h:Arr p n) {k:Nat} (hk:k < n) (h1:1 <= k) (u:Dn lt p k) (hl:lt (p.getD k 0) (p.getD (k - 1) 0) = true):Dn lt p (k + 1):=fun i j iQ hj=>by
 by_cases e:j = k
 ·subst e
  by_cases e2:i = j - 1
  ·subst e2;exact hl
  ·exact O.tr _ _ _ (h.bd hk) (h.bd (by omega)) (h.bd (by omega)) hl (u i (j - 1) (by omega) (by omega))
 ·exact u i j iQ (by omega)
theorem qH (O:Ord lt n) (h:Arr p n):∀ (f k:Nat),1 <= k -> k + f <= n -> Up lt p k -> iM n lt (kas_asc p f k) /\ k <= cH lt (kas_asc p f k) /\ cH lt (kas_asc p f k) <= k + f /\ Up lt p (cH lt (kas_asc p f k))
 | 0,k,_,_,u=>⟨trivial,Nat.le_refl _,Nat.le_refl _,u⟩
 | f + 1,k,h1,hf,u=>by
  have a1:p.getD k 0 < n:=h.bd (by omega)
  have a2:p.getD (k - 1) 0 < n:=h.bd (by omega)
  cases c:lt (p.getD k 0) (p.getD (k - 1) 0) with
  | true =>
   have e:cH lt (kas_asc p (f + 1) k) = k:=by
    show cH lt (if lt (p.getD k 0) (p.getD (k - 1) 0) = true then .ret k else kas_asc p f (k + 1)) = k
    rw [c];rfl
   refine ⟨⟨a1,a2,?_⟩,by rw [e];exact Nat.le_refl _,by rw [e];omega,by rw [e];exact u⟩
   show iM n lt (if lt (p.getD k 0) (p.getD (k - 1) 0) = true then .ret k else kas_asc p f (k + 1))
   rw [c];trivial
  | false =>
   have e:cH lt (kas_asc p (f + 1) k) = cH lt (kas_asc p f (k + 1)):=by
    show cH lt (if lt (p.getD k 0) (p.getD (k - 1) 0) = true then .ret k else kas_asc p f (k + 1)) = _
    rw [c];rfl
   have hl:lt (p.getD (k - 1) 0) (p.getD k 0) = true:=by
    rcases O.Nu _ _ a2 a1 (fun z=>absurd (h.inj (by omega) (by omega) z) (by omega)) with z | z
    ·exact z
    ·rw [c] at z;cases z
   obtain ⟨b1,b2,b3,b4⟩:=qH O h f (k + 1) (by omega) (by omega) (u.snoc O h (by omega) h1 hl)
   refine ⟨⟨a1,a2,?_⟩,by rw [e];omega,by rw [e];omega,by rw [e];exact b4⟩
   show iM n lt (if lt (p.getD k 0) (p.getD (k - 1) 0) = true then .ret k else kas_asc p f (k + 1))
   rw [c];exact b1
theorem v7 (O:Ord lt n) (h:Arr p n):∀ (f k:Nat),1 <= k -> k + f <= n -> Dn lt p k -> iM n lt (kas_desc f p k 0) /\ ∃ m,cH lt (kas_desc f p k 0) = (p,m,0) /\ k <= m /\ m <= k + f /\ Dn lt p m
 | 0,k,_,_,u=>⟨trivial,k,rfl,Nat.le_refl _,Nat.le_refl _,u⟩
 | f + 1,k,h1,hf,u=>by
  have a1:p.getD k 0 < n:=h.bd (by omega)
  have a2:p.getD (k - 1) 0 < n:=h.bd (by omega)
  cases c:lt (p.getD k 0) (p.getD (k - 1) 0) with
  | true =>
   obtain ⟨b1,m,b2,b3,b4,b5⟩:=v7 O h f (k + 1) (by omega) (by omega) (u.snoc O h (by omega) h1 c)
   have e:kas_desc (f + 1) p k 0 = .ask (p.getD k 0) (p.getD (k - 1) 0) fun c=>if c = true then (if (0:Nat) > 0 then kas_desc f (kas_rev p (k - (0 + 1)) k) (k + 1) 0 else kas_desc f p (k + 1) 0) else .ask (p.getD (k - 1) 0) (p.getD k 0) fun d=>if d = true then .ret (p,k,0) else kas_desc f p (k + 1) (0 + 1):=rfl
   rw [e]
   refine ⟨⟨a1,a2,?_⟩,m,?_,by omega,by omega,b5⟩
   ·rw [c];exact b1
   ·show cH lt (if lt (p.getD k 0) (p.getD (k - 1) 0) = true then _ else _) = _
    rw [c];exact b2
  | false =>
   have hl:lt (p.getD (k - 1) 0) (p.getD k 0) = true:=by
    rcases O.Nu _ _ a2 a1 (fun z=>absurd (h.inj (by omega) (by omega) z) (by omega)) with z | z
    ·exact z
    ·rw [c] at z;cases z
   have e:kas_desc (f + 1) p k 0 = .ask (p.getD k 0) (p.getD (k - 1) 0) fun c=>if c = true then (if (0:Nat) > 0 then kas_desc f (kas_rev p (k - (0 + 1)) k) (k + 1) 0 else kas_desc f p (k + 1) 0) else .ask (p.getD (k - 1) 0) (p.getD k 0) fun d=>if d = true then .ret (p,k,0) else kas_desc f p (k + 1) (0 + 1):=rfl
   rw [e]
   refine ⟨⟨a1,a2,?_⟩,k,?_,Nat.le_refl _,by omega,u⟩
   ·rw [c];exact ⟨a2,a1,by rw [hl];trivial⟩
   ·show cH lt (if lt (p.getD k 0) (p.getD (k - 1) 0) = true then _ else _) = _
    rw [c]
    show cH lt (if lt (p.getD (k - 1) 0) (p.getD k 0) = true then _ else _) = _
    rw [hl];rfl
theorem lG {p q:Array Nat} {i j:Nat} (h:p[i]? = q[j]?):p.getD i 0 = q.getD j 0:=by
 rw [Array.getD_eq_getD_getElem?,Array.getD_eq_getD_getElem?,h]
theorem FN (h:Arr p n) {m:Nat} (hm:m <= n):Arr (kas_rev p 0 m) n /\ (Dn lt p m -> Up lt (kas_rev p 0 m) m):=by
 have hs:(kas_rev p 0 m).size = p.size:=mirror_size _ _ _ _
 refine ⟨⟨by rw [hs];exact h.sz,?_⟩,fun u i j iQ hj=>?_⟩
 ·have:=(mirror_perm p 0 m ((m - 0) / 2)).toList
  exact this.trans h.pm
 ·have g:∀ k,k < m -> (kas_rev p 0 m).getD k 0 = p.getD (m - 1 - k) 0:=fun k hk=>by
   refine lG ?_
   rw [show kas_rev p 0 m = mirror p 0 m ((m - 0) / 2) from rfl,getElem?_mirror_all (by rw [h.sz];exact hm),if_pos ⟨Nat.zero_le _,hk⟩]
   congr 1;omega
  rw [g i (by omega),g j hj]
  exact u (m - 1 - j) (m - 1 - i) (by omega) (by omega)
theorem yo (O:Ord lt n) (h:Arr p n) {m:Nat} (h1:1 <= m) (hm:m <= n) (u:Dn lt p m):iM n lt (kas_tail3 m n p) /\ ∃ r,cH lt (kas_tail3 m n p) = r /\ Arr r.2 n /\ 1 <= r.1 /\ r.1 <= n /\ Up lt r.2 r.1:=by
 obtain ⟨a1,a2⟩:=FN (lt:=lt) h hm
 obtain ⟨b1,b2,b3,b4⟩:=qH O a1 (n - m) m h1 (by omega) (a2 u)
 unfold kas_tail3
 refine ⟨eL b1 trivial,_,rfl,?_⟩
 rw [fR]
 exact ⟨a1,Nat.le_trans h1 b2,by show cH lt _ <= n;omega,b4⟩
theorem AD (O:Ord lt n) (h:Arr p n) (hn:2 <= n):iM n lt (kas_count n p) /\ ∃ r,cH lt (kas_count n p) = r /\ Arr r.2 n /\ 1 <= r.1 /\ r.1 <= n /\ Up lt r.2 r.1:=by
 obtain ⟨b1,b2,b3,b4⟩:=qH O h (n - 1) 1 (Nat.le_refl _) (by omega) (fun i j _ _=>by omega)
 generalize hk:cH lt (kas_asc p (n - 1) 1) = k at *
 have key:∀ t:KasT (Nat × Array Nat),t = (if (k == n) = true then .ret (k,p) else if k > 1 then .ask (p.getD 0 0) (p.getD (k - 1) 0) fun c=>if c = true then .ret (k,p) else kas_descPart k n (kas_rev p 0 k) else kas_descPart k n p) ->
   iM n lt t /\ ∃ r,cH lt t = r /\ Arr r.2 n /\ 1 <= r.1 /\ r.1 <= n /\ Up lt r.2 r.1:=by
  intro t ht
  by_cases e:k = n
  ·rw [if_pos (by simpa using e)] at ht
   subst ht
   exact ⟨trivial,(k,p),rfl,h,b2,by show k <= n;omega,b4⟩
  ·rw [if_neg (by simpa using e)] at ht
   by_cases e1:k > 1
   ·rw [if_pos e1] at ht
    subst ht
    have hl:lt (p.getD 0 0) (p.getD (k - 1) 0) = true:=b4 0 (k - 1) (by omega) (by omega)
    refine ⟨⟨h.bd (by omega),h.bd (by omega),by rw [hl];trivial⟩,(k,p),?_,h,b2,by omega,b4⟩
    show cH lt (if lt (p.getD 0 0) (p.getD (k - 1) 0) = true then _ else _) = _
    rw [hl];rfl
   ·rw [if_neg e1] at ht
    have Y4:k = 1:=by omega
    subst Y4
    subst ht
    have hl:lt (p.getD 1 0) (p.getD 0 0) = true:=by
     have a1:p.getD 1 0 < n:=h.bd (by omega)
     have a0:p.getD 0 0 < n:=h.bd (by omega)
     cases c:lt (p.getD 1 0) (p.getD 0 0) with
     | true=>rfl
     | false =>
      exfalso
      obtain ⟨f,hf⟩:∃ f,n - 1 = f + 1:=⟨n - 2,by omega⟩
      rw [hf] at hk
      have e':cH lt (kas_asc p (f + 1) 1) = cH lt (kas_asc p f 2):=by
       show cH lt (if lt (p.getD 1 0) (p.getD (1 - 1) 0) = true then .ret 1 else kas_asc p f 2) = _
       rw [show (1 - 1:Nat) = 0 from rfl,c];rfl
      rw [e'] at hk
      have u2:Up lt p 2:=fun i j iQ hj=>by
       have:i = 0 /\ j = 1:=by omega
       obtain ⟨rfl,rfl⟩:=this
       rcases O.Nu _ _ a0 a1 (fun z=>absurd (h.inj (by omega) (by omega) z) (by omega)) with z | z
       ·exact z
       ·rw [c] at z;cases z
      obtain ⟨_,c2,_,_⟩:=qH O h f 2 (by omega) (by omega) u2
      omega
    have d2:Dn lt p 2:=fun i j iQ hj=>by
     have:i = 0 /\ j = 1:=by omega
     obtain ⟨rfl,rfl⟩:=this
     exact hl
    obtain ⟨c1,m,c2,c3,c4,c5⟩:=v7 O h (n - 2) 2 (by omega) (by omega) d2
    obtain ⟨t1,r,t2,t3⟩:=yo O h (m:=m) (by omega) (by omega) c5
    unfold kas_descPart
    refine ⟨eL c1 ?_,r,?_,t3⟩
    ·rw [show (1 + 1:Nat) = 2 from rfl,show n - 2 = n - 2 from rfl,c2];exact t1
    ·rw [fR,show (1 + 1:Nat) = 2 from rfl,c2];exact t2
 have e:=key _ rfl
 refine ⟨?_,?_⟩
 ·unfold kas_count
  exact eL b1 (by rw [hk];exact e.1)
 ·unfold kas_count
  rw [fR,hk]
  exact e.2
theorem Arr.or (O:Ord lt n) (h:Arr p n) {i j:Nat} (hi:i < n) (hj:j < n) (e:i ≠ j) (c:lt (p.getD i 0) (p.getD j 0) = false):lt (p.getD j 0) (p.getD i 0) = true:=by
 rcases O.Nu _ _ (h.bd hi) (h.bd hj) (fun z=>e (h.inj hi hj z)) with z | z
 ·rw [c] at z;cases z
 ·exact z
theorem mi (O:Ord lt n) (h:Arr p n) {k:Nat} (hk:k < n) (u:Up lt p k):∀ (f l r:Nat),l <= r -> r <= k -> r - l <= f -> (∀ i,i < l -> lt (p.getD i 0) (p.getD k 0) = true) -> (∀ i,r <= i -> i < k -> lt (p.getD k 0) (p.getD i 0) = true) ->
  iM n lt (kas_place p k f l r) /\ ∃ m,cH lt (kas_place p k f l r) = m /\ m <= k /\ (∀ i,i < m -> lt (p.getD i 0) (p.getD k 0) = true) /\ ∀ i,m <= i -> i < k -> lt (p.getD k 0) (p.getD i 0) = true
 | 0,l,r,hl,hr,hf,a,b=>by
  have:l = r:=by omega
  subst this
  exact ⟨trivial,l,rfl,hr,a,b⟩
 | f + 1,l,r,hl,hr,hf,a,b=>by
  have e:kas_place p k (f + 1) l r = if l ≥ r then .ret l else .ask (p.getD k 0) (p.getD ((l + r) / 2) 0) fun c=>if c = true then kas_place p k f l ((l + r) / 2) else kas_place p k f ((l + r) / 2 + 1) r:=rfl
  rw [e]
  by_cases Hk:l ≥ r
  ·rw [if_pos Hk]
   have:l = r:=by omega
   subst this
   exact ⟨trivial,l,rfl,hr,a,b⟩
  ·rw [if_neg Hk]
   have hm:l <= (l + r) / 2 /\ (l + r) / 2 < r:=by omega
   generalize (l + r) / 2 = m at *
   have b1:p.getD k 0 < n:=h.bd hk
   have b2:p.getD m 0 < n:=h.bd (by omega)
   cases c:lt (p.getD k 0) (p.getD m 0) with
   | true =>
    obtain ⟨c1,m',c2,c3⟩:=mi O h hk u f l m hm.1 (by omega) (by omega) a fun i h1 h2=>by
     by_cases e:i = m
     ·subst e;exact c
     ·exact O.tr _ _ _ b1 b2 (h.bd (by omega)) c (u m i (by omega) h2)
    refine ⟨⟨b1,b2,by rw [c];exact c1⟩,m',?_,c3⟩
    show cH lt (if lt (p.getD k 0) (p.getD m 0) = true then _ else _) = _
    rw [c];exact c2
   | false =>
    have o4:=h.or O hk (by omega) (by omega) c
    obtain ⟨c1,m',c2,c3⟩:=mi O h hk u f (m + 1) r (by omega) hr (by omega) (fun i hi=>by
     by_cases e:i = m
     ·subst e;exact o4
     ·exact O.tr _ _ _ (h.bd (by omega)) b2 b1 (u i m (by omega) (by omega)) o4) b
    refine ⟨⟨b1,b2,by rw [c];exact c1⟩,m',?_,c3⟩
    show cH lt (if lt (p.getD k 0) (p.getD m 0) = true then _ else _) = _
    rw [c];exact c2
theorem xU (h:Arr p n) {k m:Nat} (hk:k < n) (hm:m <= k) (u:Up lt p k) (a:∀ i,i < m -> lt (p.getD i 0) (p.getD k 0) = true) (b:∀ i,m <= i -> i < k -> lt (p.getD k 0) (p.getD i 0) = true) :
  Arr (bubble p k (k - m)) n /\ Up lt (bubble p k (k - m)) (k + 1):=by
 have hs:(bubble p k (k - m)).size = p.size:=bubble_size _ _ _
 refine ⟨⟨by rw [hs];exact h.sz,(bubble_perm p k (k - m)).toList.trans h.pm⟩,fun i j iQ hj=>?_⟩
 have g:∀ t,(bubble p k (k - m)).getD t 0 = if t = m then p.getD k 0 else if m < t /\ t <= k then p.getD (t - 1) 0 else p.getD t 0:=fun t=>by
  have e:=getElem?_bubble (xs:=p) (src:=k) (by rw [h.sz];exact hk) (k - m) (Nat.sub_le _ _) t
  rw [show k - (k - m) = m by omega] at e
  by_cases h1:t = m
  ·rw [if_pos h1] at e ⊢;exact lG e
  ·rw [if_neg h1] at e ⊢
   by_cases h2:m < t /\ t <= k
   ·rw [if_pos h2] at e ⊢;exact lG e
   ·rw [if_neg h2] at e ⊢;exact lG e
 rw [g i,g j]
 by_cases i1:i = m
 ·rw [if_pos i1,if_neg (by omega),if_pos (by omega)]
  exact b (j - 1) (by omega) (by omega)
 ·rw [if_neg i1]
  by_cases i2:m < i /\ i <= k
  ·rw [if_pos i2,if_neg (by omega),if_pos (by omega)]
   exact u (i - 1) (j - 1) (by omega) (by omega)
  ·rw [if_neg i2]
   by_cases j1:j = m
   ·rw [if_pos j1];exact a i (by omega)
   ·rw [if_neg j1]
    by_cases j2:m < j /\ j <= k
    ·rw [if_pos j2]
     by_cases e:i = j - 1
     ·omega
     ·exact u i (j - 1) (by omega) (by omega)
    ·rw [if_neg j2];exact u i j iQ (by omega)
end
theorem AQ {lt:Nat -> Nat -> Bool} {n:Nat} (O:Ord lt n):∀ (f:Nat) {p:Array Nat} {k:Nat},Arr p n -> k + f = n -> Up lt p k -> iM n lt (kas_bin f p k) /\ Arr (cH lt (kas_bin f p k)) n /\ Up lt (cH lt (kas_bin f p k)) n
 | 0,p,k,h,hk,u=>⟨trivial,h,by rw [<- hk];exact u⟩
 | f + 1,p,k,h,hk,u=>by
  obtain ⟨a1,m,a2,a3,a4,a5⟩:=mi O h (k:=k) (by omega) u k 0 k (Nat.zero_le _) (Nat.le_refl _) (Nat.le_refl _) (fun i hi=>by omega) (fun i h1 h2=>by omega)
  obtain ⟨b1,b2⟩:=xU h (by omega) a3 u a4 a5
  obtain ⟨c1,c2,c3⟩:=AQ O f b1 (by omega) b2
  have e:kas_bin (f + 1) p k = (kas_place p k k 0 k).bind fun l=>kas_bin f (bubble p k (k - l)) (k + 1):=rfl
  rw [e]
  refine ⟨eL a1 (by rw [a2];exact c1),?_⟩
  rw [fR,a2]
  exact ⟨c2,c3⟩
theorem BQ {lt:Nat -> Nat -> Bool} {n:Nat} (O:Ord lt n) (hn:2 <= n):iM n lt (kas_sort n) /\ Arr (cH lt (kas_sort n)) n /\ Up lt (cH lt (kas_sort n)) n:=by
 have h0:Arr (List.toArray (List.range n)) n:=⟨by simp,by simp⟩
 obtain ⟨a1,r,a2,a3,a4,a5,a6⟩:=AD O h0 hn
 unfold kas_sort
 have key:∀ t,t = (if r.1 < n then kas_bin (n - max r.1 1) r.2 (max r.1 1) else .ret r.2) -> iM n lt t /\ Arr (cH lt t) n /\ Up lt (cH lt t) n:=by
  intro t ht
  by_cases h:r.1 < n
  ·rw [if_pos h] at ht
   subst ht
   rw [show max r.1 1 = r.1 by omega]
   exact AQ O _ a3 (by omega) a6
  ·rw [if_neg h] at ht
   subst ht
   have:r.1 = n:=by omega
   exact ⟨trivial,a3,by rw [this] at a6;exact a6⟩
 have e:=key _ rfl
 refine ⟨eL a1 (by rw [a2];exact e.1),?_⟩
 rw [fR,a2]
 exact e.2
end DI
end
section
namespace DI
open PySem PySem.Spec PyProof.Rows L2
noncomputable def oD (h:Heap) (vs:List Value) (nss:List (List Int)):Prop:=vs.length = nss.length /\ ∀ (i:Nat) (ns:List Int),nss[i]? = some ns -> ∃ t ai,vs[i]? = some (.ref t) /\ IsTup h t ai.toArray /\ IntsAre ai ns
theorem oD.mono {h h':Heap} {vs:List Value} {nss:List (List Int)} (k:∀ b o,h.get? b = some o -> h'.get? b = some o) (t:oD h vs nss):oD h' vs nss :=
 ⟨t.1,fun i ns e=>let ⟨a,ai,e1,⟨o,ho,r⟩,e3⟩:=t.2 i ns e;⟨a,ai,e1,⟨o,k _ _ ho,r⟩,e3⟩⟩
theorem oD.mem {h:Heap} {vs:List Value} {nss:List (List Int)} (t:oD h vs nss) {v:Value} (hv:v ∈ vs):∃ a ai ns,v = .ref a /\ IsTup h a ai.toArray /\ IntsAre ai ns:=by
 obtain ⟨i,hi⟩:=List.mem_iff_getElem?.mp hv
 have hl:i < nss.length:=by rw [<- t.1];exact (List.getElem?_eq_some_iff.mp hi).1
 obtain ⟨a,ai,e1,e2,e3⟩:=t.2 i _ (List.getElem?_eq_getElem hl)
 rw [hi] at e1
 cases e1
 exact ⟨a,ai,_,rfl,e2,e3⟩
section
variable {prog:Program} {w:World} {A:Around} {E:Value -> Shared -> Prop} {s:Shared}
theorem mY:∀ {vs:List Value} {nss:List (List Int)} {Q:List (Option Value) -> Shared -> Prop},oD s.heap vs nss -> (∀ fs:List (Option Value),fs.length = vs.length -> (∀ f ∈ fs,∀ v,f = some v -> ∃ n t,v = .int n t) -> Q fs s) -> wpAny (model prog w) A (vs.mapM firstOfTuple') Q E s
 | [],_,_,_,h=>by rw [List.mapM_nil];exact wpAny_pure (h [] rfl fun _ h=>nomatch h)
 | v :: vs,[],_,t,_=>by have:=t.1;simp at this
 | v :: vs,ns :: nss,Q,t,h=>by
  obtain ⟨a,ai,e,⟨o,ho,hc,n,hd⟩,hi⟩:=t.2 0 ns rfl
  cases e
  rw [List.mapM_cons]
  refine wpAny_bind ?_
  rw [PySem.W.kas_first_eq]
  refine wpAny_bind (PySem.W.Looks.here (show PySem.W.Looks (model prog w) s.heap (typeOf (.ref a)) o.cls from (PySem.W.Looks.ld ho).andThen .now) ?_)
  rw [hc,if_neg (by first | decide | simp)]
  refine wpAny_bind (listItems_at ho hd (wpAny_pure ?_))
  refine wpAny_bind (mY (vs:=vs) (nss:=nss) ⟨by simpa using t.1,fun i ms e=>t.2 (i + 1) ms e⟩ fun fs h1 h2=>wpAny_pure (h _ (by simp [h1]) fun f hf v hv=>?_))
  rcases List.mem_cons.mp hf with rfl | hf
  ·cases hi with
   | nil=>simp at hv
   | cons a' tk hi=>simp at hv;exact ⟨_,_,hv.symm⟩
  ·exact h2 f hf v hv
noncomputable def EV (κ:SortKind):Prop:=κ = tuples' true \/ κ = general' \/ κ = oneType'
theorem kind_any {vs:List Value} {nss:List (List Int)} {Q:SortKind -> Shared -> Prop} (t:oD s.heap vs nss) (LZ:vs ≠ []) (h:∀ κ,EV κ -> Q κ s):wpAny (model prog w) A (keyKind' vs.toArray) Q E s:=by
 obtain ⟨v0,vr,rfl⟩:∃ v0 vr,vs = v0 :: vr:=by
  cases vs with
  | nil=>exact absurd rfl LZ
  | cons v0 vr=>exact ⟨v0,vr,rfl⟩
 rw [kat_kind_eq,List.mapM_toArray,map_eq_pure_bind]
 refine wpAny_bind (wpAny_bind (mY t fun fs hl hf=>wpAny_pure ?_))
 by_cases ha:(fs.toArray.all fun x=>x.isSome) = true
 ·rw [if_pos ha]
  refine wpAny_bind (wpAny_rule ?_)
  obtain ⟨gs,hg,hgi⟩:∃ gs:List Value,fs = gs.map some /\ ∀ v ∈ gs,∃ n t,v = .int n t:=by
   clear h hl t
   induction fs with
   | nil=>exact ⟨[],rfl,fun _ h=>nomatch h⟩
   | cons f fs ih =>
    simp only [List.all_toArray,List.all_cons,Bool.and_eq_true] at ha
    obtain ⟨gs,e1,e2⟩:=ih (fun f Zb=>hf f (List.mem_cons_of_mem _ Zb)) (by simpa using ha.2)
    cases f with
    | none=>simp at ha
    | some v =>
     exact ⟨v :: gs,by rw [e1];rfl,fun u hu=>by
      rcases List.mem_cons.mp hu with rfl | hu
      ·exact hf _ List.mem_cons_self _ rfl
      ·exact e2 u hu⟩
  subst hg
  obtain ⟨g0,gr,rfl⟩:∃ g0 gr,gs = g0 :: gr:=by
   cases gs with
   | nil=>simp at hl
   | cons a b=>exact ⟨a,b,rfl⟩
  have Y9:(((g0 :: gr).map some).toArray.filterMap id) = (g0 :: gr).toArray:=by simp
  rw [Y9,oneTypeOnly'_eq,List.mapM_toArray,map_eq_pure_bind]
  refine wpAny_bind (wpAny_bind (wpAny_bind (PySem.W.kas_mapM (r:=Value.type "int") _ (fun v hv Q' hq=>by
   obtain ⟨n,t,rfl⟩:=hgi v hv
   exact (PySem.W.Looks.of_pure (M:=model prog w) rfl).here hq) (wpAny_pure ?_))))
  have Ae:((List.map (fun _=>Value.type "int") (g0 :: gr)).toArray.all fun x=>x == Value.type "int") = true:=by
   simp only [List.all_toArray,List.all_map,List.all_eq_true]
   intro _ _
   show (Value.type "int" == Value.type "int") = true
   decide
  have h0:(List.map (fun _=>Value.type "int") (g0 :: gr)).toArray[0]? = some (Value.type "int"):=by simp
  rw [h0]
  simp only [Ae,if_true]
  exact wpAny_pure (wpAny_pure (h _ (.inl rfl)))
 ·rw [if_neg ha]
  by_cases hb:((fs.toArray[0]?.bind id).isSome) = true
  ·rw [if_pos hb]
   exact wpAny_pure (h _ (.inr (.inl rfl)))
  ·rw [if_neg hb]
   rw [oneTypeOnly'_eq,List.mapM_toArray,map_eq_pure_bind]
   refine wpAny_bind (wpAny_bind (wpAny_bind (PySem.W.kas_mapM (r:=Value.type "tuple") _ (fun v hv Q' hq=>by
    obtain ⟨a,ai,ns,rfl,⟨o,ho,hc,_⟩,_⟩:=t.mem hv
    refine PySem.W.Looks.here (show PySem.W.Looks (model prog w) s.heap (typeOf (.ref a)) o.cls from (PySem.W.Looks.ld ho).andThen .now) ?_
    rw [hc];exact hq) (wpAny_pure ?_))))
   have Ae:((List.map (fun _=>Value.type "tuple") (v0 :: vr)).toArray.all fun x=>x == Value.type "tuple") = true:=by
    simp only [List.all_toArray,List.all_map,List.all_eq_true]
    intro _ _
    show (Value.type "tuple" == Value.type "tuple") = true
    decide
   have h0:(List.map (fun _=>Value.type "tuple") (v0 :: vr)).toArray[0]? = some (Value.type "tuple"):=by simp
   rw [h0]
   simp only [Ae,if_true]
   exact wpAny_pure (wpAny_pure (h _ (.inr (.inr rfl))))
theorem GP {κ:SortKind} (hk:EV κ) (hu:A.units < cLine) {a b:Addr} {ai Cw:List Value} {ns ms:List Int} {Q:Bool -> Shared -> Prop} (ha:IsTup s.heap a ai.toArray) (hb:IsTup s.heap b Cw.toArray) (hi:IntsAre ai ns) (hj:IntsAre Cw ms) (h:Q (HT.lexLt ns ms) s) :
  wpAny (model prog w) A (keyLt' κ (.ref a) (.ref b)) Q E s:=by
 rcases hk with rfl | rfl | rfl
 ·obtain ⟨o,ho,_,n,hd⟩:=ha
  obtain ⟨o',d_,_,n',Hn⟩:=hb
  exact PySem.W.kat_lt ho hd d_ Hn (rR 0 hi hj (by simp) h)
 ·exact PySem.W.kat_one _ _ (HT.tV ha hb (by simpa using hi) (by simpa using hj) hu h)
 ·show wpAny (model prog w) A (oneLt' true (.ref a) (.ref b)) Q E s
  rw [oneLt'_eq]
  simp only [if_true]
  refine wpAny_bind (wpAny_cRoomFor hu ?_)
  obtain ⟨⟨cls,dd,data,sl⟩,ho,hc,n,hd⟩:=id ha
  obtain ⟨⟨Dy,v_,data2,sX⟩,p9,hc2,n2,hd2⟩:=id hb
  simp only at hc hd hc2 hd2
  subst hc hd hc2 hd2
  refine wpAny_bind (wpAny_callSpecialIfBound?_slot (name:=Str.ofString "__lt__") ⟨_,ho,rfl⟩ PySem.F.slot_tuple_lt (call_meets PySem.F.slot_tuple_lt ⟨_,ho,rfl⟩ PySem.F.entry_tuple_lt (PySem.F.args_tuple_lt_2 _ _) (HT.iN a b _ _ n n2 dd v_ sl sX ns ms (by simpa using hi) (by simpa using hj)) ⟨ho,p9,?_⟩))
  exact wpAny_truthy_bool h
end
end DI
end
section
namespace DI
open PySem PySem.Spec PyProof.Rows L2
noncomputable def nE (h:Heap) (d:Addr) (es:Array DictEntry) (ep:Nat):Prop:=∃ o,h.get? d = some o /\ o.ExactDict /\ o.data = .dict es ep
section
variable {prog:Program} {w:World} {A:Around} {E:Value -> Shared -> Prop} {s:Shared} {d it:Addr} {es:Array DictEntry} {ep i:Nat}
theorem nE.typeIs (h:nE s.heap d es ep):s.TypeIs (.ref d) "dict":=let ⟨o,ho,hx,_⟩:=h;⟨o,ho,hx.1⟩
theorem v5 {Q:Value -> Shared -> Prop} (hd:(d == sysModules) = false) (hm:nE s.heap d es ep)
  (hQ:Q (.ref s.heap.objs.size) { s with heap:=s.heap.push { cls:=.type "dict_keyiterator",data:=.fields #[.ref d,.int 0 0,.int es.size 0,.int ep 0] } }):wpAny (model prog w) A (pyIter (.ref d)) Q E s:=by
 have hT:=hm.typeIs
 obtain ⟨o,ho,hx,Mb⟩:=hm
 refine wpAny_pyIter_slot hT PySem.F.slot_dict_iter (wpAny_call_entry PySem.F.slot_dict_iter hT PySem.F.entry_dict_iter ?_ (PySem.F.args_dict_iter_1 _))
 unfold Builtin.«dict.__iter__» Builtin.Dict.dictSlotNone
 refine wpAny_bind (wpAny_bind (wpAny_notOrdered_dict hT (wpAny_pure ?_)))
 show wpAny _ _ (Builtin.Dict.showsAll d >>= _) _ _ s
 unfold Builtin.Dict.showsAll
 rw [if_neg (by rw [hd];exact Bool.false_ne_true)]
 refine wpAny_bind (wpAny_pure (wpAny_bind (wpAny_dictEntries ho Mb (wpAny_bind (wpAny_dictEpoch ho Mb ?_)))))
 exact wpAny_bind (wpAny_newObj_type (wpAny_pure ⟨_,rfl,"dict_keyiterator",_,⟨_,Heap.get?_push_size _ rfl,rfl⟩,PySem.F.slot_dict_keyiterator_next.lookup,hQ⟩))
theorem vZ {Q:Option Value -> Shared -> Prop} (hit:s.heap.IsKeyIter it d i es.size ep) (hm:nE s.heap d es ep) (fQ:i < es.size)
  (hQ:∀ h',h'.IsKeyIter it d (i + 1) es.size ep -> Heap.SameBut it s.heap h' -> Q (some es[i].key) { s with heap:=h' }):wpAny (model prog w) A (pyNext (.ref it)) Q E s:=by
 obtain ⟨o,ho,hc,hd⟩:=id hit
 obtain ⟨od,LV,Aa,L_⟩:=hm
 unfold pyNext
 refine wpAny_bind (wpAny_attempt (wpAny_callSpecial?_slot (name:=Str.ofString "__next__") hit.typeIs PySem.F.slot_dict_keyiterator_next (wpAny_call_entry PySem.F.slot_dict_keyiterator_next hit.typeIs PySem.F.entry_dict_keyiterator_next ?_ (PySem.F.args_dict_keyiterator_next_1 _))))
 refine wpAny_bind (wpAny_pure (wpAny_bind (wpAny_bind ?_)))
 first | refine wpAny_bind (wpAny_typeNameOfWhole_keyiter hit.typeIs (wpAny_pure ?_)) | refine wpAny_bind (wpAny_typeNameOf_keyiter hit.typeIs (wpAny_pure ?_))
 refine wpAny_bind (wpAny_fieldsOf ho hd ?_)
 simp only [show Builtin.Dict_items.ownsTuple "dict_keyiterator" = false by decide,Bool.false_eq_true,if_false]
 show wpAny _ _ (if (Value.ref d == Value.none) = true then _ else _) _ _ s
 rw [if_neg (show ¬ ((Value.ref d == Value.none) = true) from Bool.false_ne_true)]
 refine wpAny_bind (wpAny_pure (wpAny_bind (wpAny_dictEntries LV L_ ?_)))
 rw [if_neg (by simp)]
 refine wpAny_bind (wpAny_pure (wpAny_bind (wpAny_dictEpoch LV L_ ?_)))
 rw [if_neg (by simp)]
 refine wpAny_pure ?_
 simp only [show ¬ ((i:Int) < 0) from by omega,if_false,Int.toNat_natCast,Array.getElem?_eq_getElem fQ]
 refine wpAny_bind ?_
 first | refine wpAny_bind (wpAny_typeNameOfWhole_keyiter hit.typeIs (wpAny_pure ?_)) | refine wpAny_bind (wpAny_typeNameOf_keyiter hit.typeIs (wpAny_pure ?_))
 refine wpAny_bind (wpAny_isOneOf_keyiter hit.typeIs ?_)
 show wpAny _ _ (setField (.ref it) 1 (rawInt ((i:Int) + 1)) >>= _) _ _ s
 refine wpAny_bind (wpAny_setField ho hd (by simp) ?_)
 have CQ:(s.heap.update it (Obj.mapFields (·.setIfInBounds 1 (rawInt ((i:Int) + 1))))).IsKeyIter it d (i + 1) es.size ep :=
  ⟨_,Heap.get?_update_self _ ho (Obj.isFreed_of_fields (Obj.data_mapFields hd _)),(Obj.cls_mapFields ..).trans hc,by rw [Obj.data_mapFields hd];simp [rawInt]⟩
 refine wpAny_bind (wpAny_holding (wpAny_bind (wpAny_isOneOf_keyiter (s:={ s with heap:=s.heap.update it (Obj.mapFields (·.setIfInBounds 1 (rawInt ((i:Int) + 1)))) }) CQ.typeIs ?_)))
 show wpAny _ _ (pure es[i].key) _ _ _
 exact wpAny_pure (wpAny_pure ⟨_,rfl,wpAny_pure (hQ _ CQ (Heap.SameBut.update ..))⟩)
theorem Az {Q:Option Value -> Shared -> Prop} (hh:A.handled = none) (hit:s.heap.IsKeyIter it d i es.size ep) (hm:nE s.heap d es ep) (Y7:es.size <= i)
  (hQ:∀ h',Heap.ExtBut it s.heap h' -> Q none { s with heap:=h' }):wpAny (model prog w) A (pyNext (.ref it)) Q E s:=by
 obtain ⟨o,ho,hc,hd⟩:=id hit
 obtain ⟨od,LV,Aa,L_⟩:=hm
 unfold pyNext
 refine wpAny_bind (wpAny_attempt (wpAny_callSpecial?_slot (name:=Str.ofString "__next__") hit.typeIs PySem.F.slot_dict_keyiterator_next (wpAny_call_entry PySem.F.slot_dict_keyiterator_next hit.typeIs PySem.F.entry_dict_keyiterator_next ?_ (PySem.F.args_dict_keyiterator_next_1 _))))
 refine wpAny_bind (wpAny_pure (wpAny_bind (wpAny_bind ?_)))
 first | refine wpAny_bind (wpAny_typeNameOfWhole_keyiter hit.typeIs (wpAny_pure ?_)) | refine wpAny_bind (wpAny_typeNameOf_keyiter hit.typeIs (wpAny_pure ?_))
 refine wpAny_bind (wpAny_fieldsOf ho hd ?_)
 simp only [show Builtin.Dict_items.ownsTuple "dict_keyiterator" = false by decide,Bool.false_eq_true,if_false]
 show wpAny _ _ (if (Value.ref d == Value.none) = true then _ else _) _ _ s
 rw [if_neg (show ¬ ((Value.ref d == Value.none) = true) from Bool.false_ne_true)]
 refine wpAny_bind (wpAny_pure (wpAny_bind (wpAny_dictEntries LV L_ ?_)))
 rw [if_neg (by simp)]
 refine wpAny_bind (wpAny_pure (wpAny_bind (wpAny_dictEpoch LV L_ ?_)))
 rw [if_neg (by simp)]
 refine wpAny_pure ?_
 simp only [show ¬ ((i:Int) < 0) from by omega,if_false,Int.toNat_natCast,Array.getElem?_eq_none Y7]
 refine wpAny_bind ?_
 first | refine wpAny_bind (wpAny_typeNameOfWhole_keyiter hit.typeIs (wpAny_pure ?_)) | refine wpAny_bind (wpAny_typeNameOf_keyiter hit.typeIs (wpAny_pure ?_))
 show wpAny _ _ (setField (.ref it) 0 .none >>= _) _ _ s
 refine wpAny_bind (wpAny_setField ho hd (by simp) ?_)
 show wpAny _ _ (newExc (.type "StopIteration") [] >>= _) _ _ _
 refine wpAny_bind ?_
 simp only [newExc,newTuple]
 refine wpAny_bind (wpAny_newObj_type ?_ (by size_fits))
 refine wpAny_bind (m:=firstArgMember _ _) (wpAny_of_eq (a:=Value.none) (by first | rfl | (simp only [firstArgMember];rfl)) ?_)
 refine wpAny_newObj_type ?_ (by size_fits)
 simp only [raiseNew]
 refine wpAny_bind (wpAny_handled ?_)
 rw [show A.in1.handled = none from hh]
 refine wpAny_bind (wpAny_pure (wpAny_throw ?_))
 refine wpAny_bind (wpAny_isInstance (T:="StopIteration") (b:=true) ⟨_,Heap.get?_push_size _ rfl,rfl⟩ isSubtype_stop ?_)
 exact wpAny_pure (hQ _ (((Heap.SameBut.update ..).extBut.push _).push _))
end
end DI
end
section
namespace DI
open PySem PySem.Spec PyProof.Rows L2
theorem tY:∀ a b c:List Int,HT.lexLt a b = true -> HT.lexLt b c = true -> HT.lexLt a c = true
 | [],[],_,h,_=>by rw [HT.iP] at h;cases h
 | [],_ :: _,[],_,h=>by rw [HT.cM] at h;cases h
 | [],_ :: _,_ :: _,_,_=>rfl
 | _ :: _,[],_,h,_=>by rw [HT.cM] at h;cases h
 | _ :: _,_ :: _,[],_,h=>by rw [HT.cM] at h;cases h
 | x :: a,y :: b,z :: c,h1,h2=>by
  rw [HT.dj] at *
  by_cases e1:x = y
  ·subst e1
   rw [if_pos rfl] at h1
   by_cases e2:x = z
   ·subst e2
    rw [if_pos rfl] at h2 ⊢
    exact tY a b c h1 h2
   ·rw [if_neg e2] at h2 ⊢;exact h2
  ·rw [if_neg e1] at h1
   have l1:x < y:=of_decide_eq_true h1
   by_cases e2:y = z
   ·subst e2
    rw [if_neg (by omega)]
    exact decide_eq_true l1
   ·rw [if_neg e2] at h2
    have l2:y < z:=of_decide_eq_true h2
    rw [if_neg (by omega)]
    exact decide_eq_true (by omega)
theorem p7:∀ a b:List Int,HT.lexLt a b = true -> HT.lexLt b a = false
 | [],[],_=>rfl
 | [],_ :: _,_=>rfl
 | _ :: _,[],h=>by rw [HT.cM] at h;cases h
 | x :: a,y :: b,h=>by
  rw [HT.dj] at *
  by_cases e:x = y
  ·subst e
   rw [if_pos rfl] at h ⊢
   exact p7 a b h
  ·rw [if_neg e] at h
   have l:x < y:=of_decide_eq_true h
   rw [if_neg (by omega)]
   exact decide_eq_false (by omega)
theorem lC:∀ a b:List Int,a ≠ b -> HT.lexLt a b = true \/ HT.lexLt b a = true
 | [],[],h=>absurd rfl h
 | [],_ :: _,_=>.inl rfl
 | _ :: _,[],_=>.inr rfl
 | x :: a,y :: b,h=>by
  rw [HT.dj,HT.dj]
  by_cases e:x = y
  ·subst e
   rw [if_pos rfl,if_pos rfl]
   exact lC a b fun z=>h (by rw [z])
  ·rw [if_neg e,if_neg (Ne.symm e)]
   rcases Int.lt_or_gt_of_ne e with l | l
   ·exact .inl (decide_eq_true l)
   ·exact .inr (decide_eq_true l)
noncomputable def bG (nss:List (List Int)):List (List Int):=nss.mergeSort fun a b=>!HT.lexLt b a
noncomputable def uG (nss:List (List Int)):Prop:=nss.Pairwise fun a b=>HT.lexLt a b = true
theorem uV:∀ {l m:List (List Int)},uG l -> uG m -> l.Perm m -> l = m
 | [],m,_,_,p=>(List.perm_nil.mp p.symm).symm
 | a :: l,[],_,_,p=>by have:=p.length_eq;simp at this
 | a :: l,b :: m,h1,h2,p=>by
  have e:a = b:=by
   have ha:a ∈ b :: m:=p.mem_iff.mp List.mem_cons_self
   have hb:b ∈ a :: l:=p.mem_iff.mpr List.mem_cons_self
   rcases List.mem_cons.mp ha with e | ha
   ·exact e
   ·rcases List.mem_cons.mp hb with e | hb
    ·exact e.symm
    ·have l1:=(List.pairwise_cons.mp h2).1 a ha
     have l2:=(List.pairwise_cons.mp h1).1 b hb
     rw [p7 _ _ l1] at l2;cases l2
  subst e
  rw [uV (List.pairwise_cons.mp h1).2 (List.pairwise_cons.mp h2).2 (List.perm_cons a |>.mp p)]
theorem lY {nss:List (List Int)} (h:nss.Nodup):uG (bG nss):=by
 have p:(bG nss).Perm nss:=List.mergeSort_perm _ _
 have nd:(bG nss).Nodup:=p.nodup_iff.mpr h
 have sd:(bG nss).Pairwise fun a b=>(!HT.lexLt b a) = true:=List.pairwise_mergeSort (fun a b c h1 h2=>by
  cases e:HT.lexLt c a with
  | false=>rfl
  | true =>
   exfalso
   by_cases uf:b = c
   ·subst uf;rw [e] at h1;cases h1
   ·rcases lC b c uf with l | l
    ·rw [tY _ _ _ l e] at h1;cases h1
    ·rw [l] at h2;cases h2) (fun a b=>by
  cases e:HT.lexLt b a with
  | false=>rfl
  | true=>rw [p7 _ _ e];rfl) nss
 exact (sd.and nd).imp fun {a b} ⟨h1,h2⟩=>by
  rcases lC a b h2 with l | l
  ·exact l
  ·rw [l] at h1;cases h1
theorem yx {nss l:List (List Int)} (h:nss.Nodup) (hr:uG l) (p:l.Perm nss):l = bG nss:=uV hr (lY h) (p.trans (List.mergeSort_perm _ _).symm)
noncomputable def ltN (nss:List (List Int)) (i j:Nat):Bool:=HT.lexLt (nss.getD i []) (nss.getD j [])
theorem Gq {nss:List (List Int)} (h:nss.Nodup):Ord (ltN nss) nss.length :=
 ⟨fun a b c _ _ _ h1 h2=>tY _ _ _ h1 h2,fun a b _ _ h=>p7 _ _ h,fun a b ha hb uf=>lC _ _ fun e=>uf (by
  have e1:nss.getD a [] = nss[a]:=by simp [ha]
  have e2:nss.getD b [] = nss[b]:=by simp [hb]
  rw [e1,e2] at e
  exact (List.getElem_inj h).mp e)⟩
theorem oN {nss:List (List Int)} (h:nss.Nodup) {p:Array Nat} (ha:Arr p nss.length) (hu:Up (ltN nss) p nss.length):(p.toList.map fun i=>nss.getD i []) = bG nss:=by
 refine yx h ?_ ?_
 ·refine List.pairwise_iff_getElem.mpr fun i j hi hj iQ=>?_
  simp only [List.length_map,Array.length_toList] at hi hj
  have:=hu i j iQ (by rw [<- ha.sz];exact hj)
  unfold ltN at this
  have e:∀ k (hk:k < p.size),p.getD k 0 = p[k]:=fun k hk=>by simp [Array.getD,hk]
  rw [e i hi,e j hj] at this
  simpa using this
 ·have e:nss = (List.range nss.length).map fun i=>nss.getD i []:=by
   refine List.ext_getElem (by simp) fun i h1 h2=>?_
   simp [h1]
  refine (ha.pm.map fun i=>nss.getD i []).trans ?_
  rw [<- e]
end DI
end
section
namespace DI
open PySem PySem.Spec PyProof.Rows L2
section
variable {prog:Program} {w:World} {A:Around} {E:Value -> Shared -> Prop} {s:Shared}
theorem yw {a:Addr} {vs:List Value} {nss:List (List Int)} {n:Nat} {P:PySem.Fin -> Shared -> Prop} (hu:A.units < cLine) (ho:s.heap.get? a = some (seqObj "list" vs.toArray n)) (o5:vs.length < 64) (A6:nss.Nodup)
  (ht:oD (((s.heap.update a (Obj.mapSeq fun _=>#[])).push (seqObj "tuple" vs.toArray 0)).push (seqObj "list" #[] 0)) vs nss)
  (h:∀ p:Array Nat,Arr p vs.length -> (p.toList.map fun i=>nss.getD i []) = bG nss -> P (.done (.ret .none)) { s with heap:=sortedHeap s.heap a vs (List.toArray (p.toList.map fun i=>vs.getD i Value.none)) }) :
  wpAny (model prog w) A (Builtin.«list.sort» ⟨[.ref a],[]⟩) P E s:=by
 rw [list_sort_plain]
 have ha:a < s.heap.objs.size:=Heap.lt_size ho
 have hsz:vs.toArray.size = vs.length:=by simp
 have hz:vs.length <= sizeLine:=by rw [sizeLine_eq];omega
 have hl:=ht.1
 refine wpAny_bind (listItems_at ho rfl (wpAny_bind (listUpdate_at ho rfl ?_ (by rw [hsz];exact hz) (Nat.zero_le _))))
 obtain ⟨e1,Jn⟩:∃ e1,(s.heap.update a (Obj.mapSeq fun _=>#[])).get? a = some (seqObj "list" #[] e1):=⟨_,get?_update_seq ho (fun _=>#[])⟩
 refine wpAny_bind (seqEpoch_at Jn rfl (wpAny_bind (wpAny_newTuple (wpAny_bind (wpAny_newList (wpAny_holding ?_) (Nat.zero_le _))) (by simpa using hz))))
 have VT:(((s.heap.update a (Obj.mapSeq fun _=>#[])).push (seqObj "tuple" vs.toArray 0)).push (seqObj "list" #[] 0)).get? a = some (seqObj "list" #[] e1):=Heap.get?_push_of_some _ (Heap.get?_push_of_some _ Jn)
 show wpAny (model prog w) A _ P E ({ s with heap:=((s.heap.update a (Obj.mapSeq fun _=>#[])).push (seqObj "tuple" vs.toArray 0)).push (seqObj "list" #[] 0) }:Shared)
 dsimp only
 have fin:∀ (kS:SortSt) (p:Array Nat),Arr p vs.length -> (p.toList.map fun i=>nss.getD i []) = bG nss -> (arrOf kS).map (·.2) = List.toArray (p.toList.map fun i=>vs.getD i Value.none) -> failedOf kS = none -> wpAny (model prog w) A (do
   let touched:=(<- seqEpoch a) != e1
   Builtin.List.listUpdate (.ref a) fun _=>(arrOf kS).map (·.2)
   if let some e:=failedOf kS then rule "list.sort.comparison-raised";throw e
   if touched then rule "list.sort.modified";raiseError "ValueError" "list modified during sort"
   ret .none) P E ({ s with heap:=((s.heap.update a (Obj.mapSeq fun _=>#[])).push (seqObj "tuple" vs.toArray 0)).push (seqObj "list" #[] 0) }:Shared):=by
  intro kS p hp hs hA hF
  refine wpAny_bind (seqEpoch_at VT rfl ?_)
  rw [hA]
  refine wpAny_bind (listUpdate_at VT rfl ?_ (Nat.zero_le _) (by rw [List.size_toArray,List.length_map,Array.length_toList,hp.sz];exact Nat.le_succ_of_le hz))
  rw [hF]
  simp only [bne_self_eq_false,Bool.false_eq_true,if_false]
  exact wpAny_pure (h p hp hs)
 by_cases h2:vs.toArray.size < 2
 ·rw [if_pos h2,if_pos h2]
  refine wpAny_bind (wpAny_pure ?_)
  rw [StateT.run_pure]
  refine wpAny_bind (wpAny_pure ?_)
  rw [hsz] at h2
  have Su:Arr (List.toArray (List.range vs.length)) vs.length:=⟨by simp,by simp⟩
  refine fin (SortSt.mk' general' (vs.toArray.zip vs.toArray) #[] 7 none) (List.toArray (List.range vs.length)) Su ?_ ?_ rfl
  ·rw [hl] at Su ⊢
   exact oN A6 Su fun i j iQ hj=>by omega
  ·apply Array.toList_inj.mp
   show (Array.map (·.2) (vs.toArray.zip vs.toArray)).toList = _
   rw [Array.toList_map,show (vs.toArray.zip vs.toArray) = pairsOf vs from rfl,pairsOf_toList,List.map_snd_zip (Nat.le_refl _)]
   refine List.ext_getElem (by simp) fun i h1 h2=>?_
   simp [h1]
 ·rw [if_neg h2,if_neg h2]
  rw [hsz] at h2
  refine wpAny_bind (kind_any ht (fun z=>by rw [z] at h2;simp at h2) fun κ hk=>?_)
  have ok:=BQ (Gq A6) (by rw [<- hl];omega)
  refine wpAny_bind (wpAny_mono (PySem.W.kat_run (ks:=vs) (vs:=vs) (κ:=κ) (Q:=fun kS s'=>s' = ({ s with heap:=((s.heap.update a (Obj.mapSeq fun _=>#[])).push (seqObj "tuple" vs.toArray 0)).push (seqObj "list" #[] 0) }:Shared) /\ ∃ p,Arr p vs.length /\ (p.toList.map fun i=>nss.getD i []) = bG nss /\ (arrOf kS).map (·.2) = List.toArray (p.toList.map fun i=>vs.getD i Value.none) /\ failedOf kS = none)
   (G:=fun p s'=>s' = ({ s with heap:=((s.heap.update a (Obj.mapSeq fun _=>#[])).push (seqObj "tuple" vs.toArray 0)).push (seqObj "list" #[] 0) }:Shared) /\ Arr p vs.length /\ (p.toList.map fun i=>nss.getD i []) = bG nss) rfl (by omega) o5 (fun p kS s' hps Zf hf hG=>⟨hG.1,p,hG.2.1,hG.2.2,PySem.W.kat_snds rfl Zf,hf⟩) ?_) (fun r s' ⟨e,p,hp,hs,hA,hF⟩=>?_) fun _ _ e=>e)
  rotate_left
  ·subst e
   exact fin r.2 p hp hs hA hF
  ·rw [hl]
   refine wu (lt:=ltN nss) (n:=nss.length) (fun i j C hi hj hC=>?_) _ ok.1 ⟨rfl,ok.2.1,oN A6 ok.2.1 ok.2.2⟩
   obtain ⟨x,ai,e1,i1,i2⟩:=ht.2 i _ (List.getElem?_eq_getElem hi)
   obtain ⟨y,Cw,e2,j1,j2⟩:=ht.2 j _ (List.getElem?_eq_getElem hj)
   unfold PySem.W.kas_ask
   rw [show vs.getD i Value.none = .ref x by simp [e1],show vs.getD j Value.none = .ref y by simp [e2]]
   refine GP hk hu i1 j1 i2 j2 ?_
   have e3:nss.getD i [] = nss[i]:=by simp [hi]
   have e4:nss.getD j [] = nss[j]:=by simp [hj]
   have V8:C (HT.lexLt (nss.getD i []) (nss.getD j [])) _:=hC
   rw [e3,e4] at V8
   exact V8
theorem Ax {es:Array DictEntry} {ep:Nat} (hh:A.handled = none) (I d:Addr) (LZ:d ≠ I):Walks prog w A I [I,d] [I] es.size (fun i v=>∃ e,es[i]? = some e /\ v = e.key) (fun i h=>h.IsKeyIter I d i es.size ep /\ nE h d es ep) where
 sub:=fun b hb=>by simp at hb;simp [hb]
 frame:=fun _ _ _ st hk=>⟨st.1.at fun o e=>hk I (by simp) o e,let ⟨o,ho,r⟩:=st.2;⟨o,hk d (by simp) o ho,r⟩⟩
 item:=fun i s Q E hi st hQ=>vZ st.1 st.2 hi fun h' CQ Jk=>hQ _ h' s.toks ⟨es[i],Array.getElem?_eq_getElem hi,rfl⟩ ⟨CQ,let ⟨o,ho,r⟩:=st.2;⟨o,Jk.extBut d o LZ ho,r⟩⟩ fun b o hb e=>Jk.extBut b o (fun h=>hb (by simp [h])) e
 done:=fun s Q E st hQ=>Az hh st.1 st.2 (Nat.le_refl _) fun h' Zc=>hQ h' s.toks fun b o hb e=>Zc b o (fun h=>hb (by simp [h])) e
 self:=fun _ _ _ _ st hQ=>wpAny_pyIter_keyiter st.1 hQ
theorem Ay {d:Addr} {es:Array DictEntry} {ep:Nat} (lo:(d == sysModules) = false):PySem.W.KdlSrc prog w "dict" d d es.size (fun i v=>∃ e,es[i]? = some e /\ v = e.key) (fun h=>nE h d es ep) where
 type:=fun _ hm=>hm.typeIs
 there:=fun _ hm=>let ⟨_,ho,_⟩:=hm;⟨Heap.lt_size ho,Heap.lt_size ho⟩
 keep:=fun _ _ hm hk=>let ⟨o,ho,r⟩:=hm;⟨o,hk d (.inl rfl) o ho,r⟩
 notList:=by decide
 notTuple:=by decide
 hint:=fun _ _ _ _ hm hq=>PySem.W.kdl_hint_dict hm.typeIs hq
 iter:=fun _ _ hh hm=>⟨_,_,(fun _ _ hq=>v5 lo hm hq),Ax hh _ d (let ⟨_,ho,_⟩:=hm;Nat.ne_of_lt (Heap.lt_size ho)),⟨⟨_,Heap.get?_push_size _ rfl,rfl,rfl⟩,let ⟨o,ho,r⟩:=hm;⟨o,Heap.get?_push_of_some _ ho,r⟩⟩⟩
theorem qY {d:Addr} {es:Array DictEntry} {ep:Nat} {nss:List (List Int)} {Q:Value -> Shared -> Prop} (hh:A.handled = none) (hu:A.units + 2 < cLine) (lo:(d == sysModules) = false) (hm:nE s.heap d es ep) (o5:es.size < 64) (A6:nss.Nodup) (ht:oD s.heap (es.toList.map (·.key)) nss)
  (h:∀ (S:Addr) (h':Heap) (tk e:Nat) (p:Array Nat),s.heap.get? S = none -> (∀ b o,s.heap.get? b = some o -> h'.get? b = some o) -> Arr p es.size -> (p.toList.map fun i=>nss.getD i []) = bG nss ->
   h'.get? S = some (seqObj "list" (List.toArray (p.toList.map fun i=>(es.toList.map (·.key)).getD i Value.none)) e) -> Q (.ref S) { s with heap:=h',toks:=tk }) :
  wpAny (model prog w) A (call (.builtin "sorted") [.ref d]) Q E s:=by
 refine Calls.call_function_entry kind_sorted plain_sorted entry_sorted (args_sorted1 _) ?_
 unfold Builtin.«sorted»
 have hz:es.size <= sizeLine:=by rw [sizeLine_eq];omega
 refine wpAny_bind (m:=checkCount "sorted" 1 1 _) (wpAny_pure (wpAny_bind (PySem.W.kdu_collect (A:=A.in1) (Ay lo) hh hm hz fun h1 tk acc hk eV=>?_)))
 have Af:acc.toList = es.toList.map (·.key):=by
  refine List.ext_getElem? fun i=>?_
  rw [List.getElem?_map,Array.getElem?_toList,Array.getElem?_toList]
  by_cases hi:i < es.size
  ·have L5:i < acc.size:=by rw [eV.1];exact hi
   obtain ⟨e,he,hv⟩:=eV.2 i acc[i] (Array.getElem?_eq_getElem L5)
   rw [Array.getElem?_eq_getElem L5,he,hv];rfl
  ·rw [Array.getElem?_eq_none (by rw [eV.1];omega),Array.getElem?_eq_none (by omega)];rfl
 rw [Af]
 generalize LI:es.toList.map (·.key) = vs at *
 have CM:vs.length = es.size:=by rw [<- LI];simp
 refine wpAny_bind (wpAny_newList ?_ (by rw [CM];exact hz))
 show wpAny _ _ _ _ _ ({ s with heap:=h1.push (seqObj "list" vs.toArray 0),toks:=tk }:Shared)
 have CP:(h1.push (seqObj "list" vs.toArray 0)).get? h1.objs.size = some (seqObj "list" vs.toArray 0):=Heap.get?_push_size _ rfl
 have k6:∀ b o,s.heap.get? b = some o -> ((((h1.push (seqObj "list" vs.toArray 0)).update h1.objs.size (Obj.mapSeq fun _=>#[])).push (seqObj "tuple" vs.toArray 0)).push (seqObj "list" #[] 0)).get? b = some o:=fun b o e=>by
  refine Heap.get?_push_of_some _ (Heap.get?_push_of_some _ ?_)
  rw [Heap.get?_update_other _ _ (Nat.ne_of_gt (Heap.lt_size (hk b o e)))]
  exact Heap.get?_push_of_some _ (hk b o e)
 have hle:s.heap.get? h1.objs.size = none:=by
  cases q:s.heap.get? h1.objs.size with
  | none=>rfl
  | some o=>exact absurd (Heap.lt_size (hk _ o q)) (Nat.lt_irrefl _)
 refine wpAny_bind (wpAny_holding (wpAny_call_entry slot_list_sort ⟨_,CP,rfl⟩ entry_list_sort (yw (s:={ s with heap:=h1.push (seqObj "list" vs.toArray 0),toks:=tk }) (nss:=nss) (show A.in1.in1.units < cLine by show A.units + 1 + 1 < cLine;omega) CP (by rw [CM];exact o5) A6 (ht.mono k6) fun p hp hs=>⟨_,rfl,?_⟩) (args_list_sort _)))
 obtain ⟨e,he⟩:=sortedHeap_at (out:=List.toArray (p.toList.map fun i=>vs.getD i Value.none)) CP
 refine wpAny_pure ⟨_,rfl,h h1.objs.size _ tk e p hle (fun b o e=>?_) (by rw [<- CM];exact hp) hs he⟩
 have fQ:=Heap.lt_size (hk b o e)
 rw [sortedHeap_old (Nat.ne_of_lt fQ) (by rw [size_push'];exact Nat.lt_succ_of_lt fQ)]
 exact Heap.get?_push_of_some _ (hk b o e)
end
end DI
end
section
namespace DI
open PySem PySem.Spec PyProof.Rows L2
section
variable {α β:Type}
noncomputable def aU:List (List Int) -> List α -> List Int -> Option α
 | c' :: cs,v :: vs,c=>if c' = c then some v else aU cs vs c
 | _,_,_=>none
noncomputable def setC:List (List Int) -> List α -> List Int -> α -> List α
 | c' :: cs,v' :: vs,c,v=>(if c' = c then v else v') :: setC cs vs c v
 | _,_,_,_=>[]
noncomputable def cN (cs:List (List Int)) (c:List Int):List (List Int):=if c ∈ cs then cs else cs ++ [c]
noncomputable def sS (cs:List (List Int)) (as:List α) (c:List Int) (a:α):List α:=if c ∈ cs then as else as ++ [a]
noncomputable def aI (cs:List (List Int)) (vs:List α) (c:List Int) (v:α):List α:=if c ∈ cs then setC cs vs c v else vs ++ [v]
end
section
variable {zs:List (List Int × Addr × Value)} {c:List Int}
theorem kz:∀ (zs:List (List Int × Addr × Value)) (c:List Int),(atKey zs c).map (·.2) = aU (zs.map (·.1)) (zs.map (·.2.2)) c
 | [],_=>rfl
 | z :: zs,c=>by
  have ih:=kz zs c
  unfold atKey at ih ⊢
  rw [List.find?_cons]
  show _ = if z.1 = c then some z.2.2 else aU (zs.map (·.1)) (zs.map (·.2.2)) c
  by_cases e:z.1 = c
  ·rw [decide_eq_true e,if_pos e];rfl
  ·rw [decide_eq_false e,if_neg e];exact ih
theorem dM:∀ (zs:List (List Int × Addr × Value)) (c:List Int),(atKey zs c).isSome = true ↔ c ∈ zs.map (·.1)
 | [],c=>by simp [atKey]
 | z :: zs,c=>by
  have ih:=dM zs c
  unfold atKey at ih ⊢
  rw [List.find?_cons,List.map_cons,List.mem_cons]
  by_cases e:z.1 = c
  ·rw [decide_eq_true e];simp [e]
  ·rw [decide_eq_false e]
   rw [ih]
   exact ⟨.inr,fun h=>h.resolve_left fun z=>e z.symm⟩
theorem kG (a:Addr) (v:Value):(storedH zs c a v).map (·.1) = cN (zs.map (·.1)) c:=by
 unfold storedH cN
 by_cases h:c ∈ zs.map (·.1)
 ·rw [if_pos ((dM zs c).mpr h),if_pos h,List.map_map]
  refine List.map_congr_left fun z _=>?_
  show (putAt c v z).1 = z.1
  unfold putAt;split <;> rfl
 ·rw [if_neg (fun z=>h ((dM zs c).mp z)),if_neg h,List.map_append];rfl
theorem qX (a:Addr) (v:Value):(storedH zs c a v).map (·.2.1) = sS (zs.map (·.1)) (zs.map (·.2.1)) c a:=by
 unfold storedH sS
 by_cases h:c ∈ zs.map (·.1)
 ·rw [if_pos ((dM zs c).mpr h),if_pos h,List.map_map]
  refine List.map_congr_left fun z _=>?_
  show (putAt c v z).2.1 = z.2.1
  unfold putAt;split <;> rfl
 ·rw [if_neg (fun z=>h ((dM zs c).mp z)),if_neg h,List.map_append];rfl
theorem rH (v:Value):∀ zs:List (List Int × Addr × Value),(zs.map (putAt c v)).map (·.2.2) = setC (zs.map (·.1)) (zs.map (·.2.2)) c v
 | []=>rfl
 | z :: zs=>by
  show (putAt c v z).2.2 :: ((zs.map (putAt c v)).map (·.2.2)) = (if z.1 = c then v else z.2.2) :: setC (zs.map (·.1)) (zs.map (·.2.2)) c v
  rw [rH v zs]
  unfold putAt
  by_cases e:z.1 = c
  ·rw [if_pos e,if_pos e]
  ·rw [if_neg e,if_neg e]
theorem qW (a:Addr) (v:Value):(storedH zs c a v).map (·.2.2) = aI (zs.map (·.1)) (zs.map (·.2.2)) c v:=by
 unfold storedH aI
 by_cases h:c ∈ zs.map (·.1)
 ·rw [if_pos ((dM zs c).mpr h),if_pos h];exact rH v zs
 ·rw [if_neg (fun z=>h ((dM zs c).mp z)),if_neg h,List.map_append];rfl
end
theorem qO {c:List Int} {v:V} {u:Value} (r:RelV v u):∀ {cs:List (List Int)} {xs:List V} {us:List Value},Vals xs us -> Vals (setC cs xs c v) (setC cs us c u)
 | [],_,_,h=>by cases h <;> exact .nil
 | c' :: cs,_,_,h=>by
  cases h with
  | nil=>exact .nil
  | cons h t =>
   refine .cons ?_ (qO r t)
   show RelV (if c' = c then v else _) (if c' = c then u else _)
   by_cases e:c' = c
   ·rw [if_pos e,if_pos e];exact r
   ·rw [if_neg e,if_neg e];exact h
theorem oG {v:V} {u:Value} (r:RelV v u):∀ {xs:List V} {us:List Value},Vals xs us -> Vals (xs ++ [v]) (us ++ [u])
 | _,_,.nil=>.cons r .nil
 | _,_,.cons h t=>.cons h (oG r t)
theorem qP {cs:List (List Int)} {xs:List V} {us:List Value} (h:Vals xs us) {c:List Int} {v:V} {u:Value} (r:RelV v u):Vals (aI cs xs c v) (aI cs us c u):=by
 unfold aI
 by_cases e:c ∈ cs
 ·rw [if_pos e,if_pos e];exact qO r h
 ·rw [if_neg e,if_neg e];exact oG r h
theorem gF:∀ {cs:List (List Int)} {xs:List V} {us:List Value} (_:Vals xs us) (c:List Int),jX (aU cs xs c) (aU cs us c)
 | [],_,_,_,_=>by cases ‹Vals _ _› <;> exact True.intro
 | c' :: cs,_,_,h,c=>by
  cases h with
  | nil=>exact True.intro
  | cons h t =>
   show jX (if c' = c then some _ else _) (if c' = c then some _ else _)
   by_cases e:c' = c
   ·rw [if_pos e,if_pos e];exact h
   ·rw [if_neg e,if_neg e];exact gF t c
end DI
end
section
namespace DI
open PySem PySem.Spec PyProof.Rows L2
section
variable {X:Cx} {pins:List (Addr × Obj)} {σ:St} {H:Hp} {s:Shared} {p b:Addr} {cs:List (List Int)} {as:List Addr} {xs:List V} {ep:Nat} {c:List Int} {A:Around} {E:Value -> Shared -> Prop}
theorem items_int:∀ {c:List Int} {ai:List Value},Vals (c.map V.int) ai -> ItemsAre (intKind X.prog X.w) c ai
 | [],_,h=>by cases h;exact .nil
 | i :: c,_,h=>by
  cases h with
  | cons h t =>
   obtain ⟨t',rfl⟩:=h
   exact .cons (by simp [intKind,Value.isInt]) (items_int t)
theorem p8 (I:Inv X pins σ H s) (h:aA X.K H b (c.map V.int)):(tupleKind (intKind X.prog X.w)).is s.heap c b:=by
 obtain ⟨ai,rv,⟨o,h1,h2,n,h3⟩,_⟩:=I.tuple h
 exact ⟨o,ai.toArray,n,h1,h2,h3,by simpa using items_int rv⟩
theorem ql (I:Inv X pins σ H s) (h:H p = some (.ext (DO p cs as xs ep))) (k:d6 (aA X.K H) as cs) :
  ∃ (zs:List (List Int × Addr × Value)) (o:Obj) (es:Array DictEntry),zs.map (·.1) = cs /\ zs.map (·.2.1) = as /\ Vals xs (zs.map (·.2.2)) /\ s.heap.get? p = some o /\ o.ExactDict /\ o.data = .dict es ep /\
   s.heap.DictOfH (tupleKind (intKind X.prog X.w)) p zs /\ es.toList = zs.map (entryOfKey (tupleKind (intKind X.prog X.w))) /\ cs.length <= sizeLine /\ (p == sysModules) = false:=by
 obtain ⟨⟨zs,o,es,e1,e2,e3,ho,hx,hd,he,hn,hl,hs⟩,_⟩:=(show bV X.prog X.w H s.heap p (.ext (DO p cs as xs ep)) from I.cQ p _ h)
 refine ⟨zs,o,es,e1,e2,e3,ho,hx,hd,⟨o,es,ep,ho,hx,hd,he,fun z hz=>?_,by rw [e1];exact hn⟩,he,hl,hs⟩
 obtain ⟨j,hj⟩:=List.mem_iff_getElem?.mp hz
 exact p8 I (k.tup j z.2.1 z.1 (by rw [<- e2,List.getElem?_map,hj];rfl) (by rw [<- e1,List.getElem?_map,hj];rfl))
theorem dict_cls (I:Inv X pins σ H s) (h:H p = some (.ext (DO p cs as xs ep))):s.TypeIs (.ref p) "dict" /\ ∀ b,Value.ref p = .ref b -> ∃ ob,s.heap.get? b = some ob /\ ob.dict = none:=by
 obtain ⟨⟨zs,o,es,e1,e2,e3,ho,hx,_⟩,_⟩:=(show bV X.prog X.w H s.heap p (.ext (DO p cs as xs ep)) from I.cQ p _ h)
 exact ⟨⟨o,ho,hx.1⟩,fun b q=>by cases q;exact ⟨o,ho,hx.2.1⟩⟩
theorem Du {d:V} {r:Value} {Q:Value -> Shared -> Prop} (hu:A.units + 1 < cLine) (I:Inv X pins σ H s) (h:H p = some (.ext (DO p cs as xs ep))) (k:d6 (aA X.K H) as cs) (hb:aA X.K H b (c.map V.int)) (rd:RelV d r) (hQ:∀ w' s',Inv X pins σ H s' -> RelV ((aU cs xs c).getD d) w' -> Q w' s') :
  wpAny (model X.prog X.w) A (call (.builtin "dict.get") [.ref p,.ref b,r]) Q E s:=by
 obtain ⟨zs,o,es,e1,e2,e3,ho,hx,hd,dd,_,hl,hs⟩:=ql I h k
 refine call_meetsIn PySem.F.slot_dict_get dd.typeIs PySem.F.entry_dict_get (PySem.F.args_dict_get_3 _ _ _) (meetsH_dict_get_default (tupleKind (intKind X.prog X.w)) p b hs r) ⟨tupleKind_room_in1 hu,c,zs,p8 I hb,dd,hQ _ _ (I.tok _) ?_⟩
 rw [kz,e1]
 have hg:=gF (cs:=cs) e3 c
 cases q:aU cs xs c with
 | none =>
  rw [q] at hg
  rw [jX.none_of hg]
  exact rd
 | some v =>
  rw [q] at hg
  obtain ⟨u,CN,ru⟩:=jX.some_of hg
  rw [CN]
  exact ru
theorem uv {v:V} {r:Value} {Q:Unit -> Shared -> Prop} (hu:A.units + 1 < cLine) (I:Inv X pins σ H s) (h:H p = some (.ext (DO p cs as xs ep))) (k:d6 (aA X.K H) as cs) (hb:aA X.K H b (c.map V.int)) (rv:RelV v r) (fQ:cs.length < sizeLine)
  (hQ:∀ k_ s',Inv X pins σ (upd H p (.ext (DO p (cN cs c) (sS cs as c b) (aI cs xs c v) k_))) s' -> Q () s') :
  wpAny (model X.prog X.w) A (setItem (.ref p) (.ref b) r) Q E s:=by
 obtain ⟨zs,o,es,e1,e2,e3,ho,hx,hd,dd,_,hl,hs⟩:=ql I h k
 have hz:zs.length <= sizeLine:=by rw [<- e1,List.length_map] at hl;exact hl
 refine wpAny_setItem_heap (hsz:=hz) (tupleKind_room_in1 hu) (p8 I hb) dd fun h' TN xo=>?_
 obtain ⟨q,Ii,k_,hq,h2,h3,h4,_,h5⟩:=TN
 refine hQ k_ _ (I.write (x:=p) (e:=p) (by rw [h];exact True.intro) (.inl rfl) (fun b q hb z=>(xo.2 b hb).trans z) ⟨q,hq⟩ ⟨⟨storedH zs c b r,q,Ii,?_,?_,?_,hq,h2,h3,h4,?_,?_,hs⟩,⟨q,hq⟩,?_⟩)
 ·rw [kG,e1]
 ·rw [qX,e1,e2]
 ·rw [qW,e1];exact qP e3 rv
 ·rw [<- e1,<- kG (zs:=zs) (c:=c) b r];exact h5
 ·unfold cN;split
  ·exact hl
  ·rw [List.length_append,List.length_singleton];omega
 ·rintro h1 SS ⟨DT,o',es'',f1,f2,f3,f4,f5⟩ kk
  exact ⟨DT,o',es'',f1,f2,f3,kk _ f4,f5⟩
theorem B9 {pos:Pos}:PE X (.Dict [] [] pos) (fun _ H Q=>∀ p,H p = none -> Q (.ref p) (upd H p (.ext (DO p [] [] [] 0)))):=fun pins s σ H Q I h=>by
 have Hr:sysModules < s.heap.objs.size:=Nat.lt_trans (by decide) (show mainGlobals < s.heap.objs.size from (I.mod.glob.keeps I.bk).lt)
 refine wpAny_Dict_empty ⟨.ref s.heap.objs.size,_,I.laid (a:=s.heap.objs.size) (o:=.ext (DO s.heap.objs.size [] [] [] 0)) (t':=s.toks) (fun _ _ q=>Heap.get?_push_of_some _ q) (Nat.le_refl _) ?_,rfl,h _ (I.cQ.fresh (Nat.le_refl _))⟩
 have hg:(s.heap.push { cls:=.type "dict",data:=.dict #[] }).get? s.heap.objs.size = some { cls:=.type "dict",data:=.dict #[] }:=Heap.get?_push_size _ rfl
 refine ⟨⟨[],_,#[],rfl,rfl,.nil,hg,⟨rfl,rfl,rfl⟩,rfl,rfl,List.nodup_nil,Nat.zero_le _,beq_eq_false_iff_ne.mpr (Ne.symm (Nat.ne_of_lt Hr))⟩,⟨_,hg⟩,?_⟩
 rintro h1 SS ⟨DT,o',es'',f1,f2,f3,f4,f5⟩ kk
 exact ⟨DT,o',es'',f1,f2,f3,kk _ f4,f5⟩
end
end DI
end
section
namespace DI
open PySem PySem.Spec PyProof.Rows L2
theorem dO {T:iL} {N N':gC} {k k':aE} {v:V} {d:D} (h:Rep T N k v d) (hf:aq anyF d = false):Rep T N' k' v d:=by
 have:=Rep.gen (T':=T) (N':=N') (g:=id) (P:=anyF) (C:=fun _ _=>True) (I:=fun _ _=>True) (fun _ _ h=>h) trivial (fun _ _ e=>e) (fun _ _ _ _ e _=>e) (fun k k' p xs f _ hz _=>nomatch hz) h (k':=k') trivial hf
 rw [dR] at this;exact this
theorem gK {T:iL} {N:gC}:∀ {cs:List (List Int)} {k:aE} {n:Nat} {xs:List V} {ds:List D} (_:af T N k n xs ds) (c:List Int),(aU cs xs c = none /\ aU cs ds c = none) \/ ∃ v d k',aU cs xs c = some v /\ aU cs ds c = some d /\ Rep T N k' v d /\ d ∈ ds
 | [],_,_,_,_,_,_=>by cases ‹af _ _ _ _ _ _› <;> exact .inl ⟨rfl,rfl⟩
 | c' :: cs,_,_,_,_,r,c=>by
  cases r with
  | nil=>exact .inl ⟨rfl,rfl⟩
  | @cons _ _ v d vs ds h t =>
   by_cases e:c' = c
   ·exact .inr ⟨v,d,_,if_pos e,if_pos e,h,List.mem_cons_self⟩
   ·have e1:∀ {α:Type} (a:α) (l:List α),aU (c' :: cs) (a :: l) c = aU cs l c:=fun a l=>if_neg e
    rw [e1,e1]
    rcases gK (cs:=cs) t c with h | ⟨v',d',k',h1,h2,h3,h4⟩
    ·exact .inl h
    ·exact .inr ⟨v',d',k',h1,h2,h3,List.mem_cons_of_mem _ h4⟩
theorem kf {p:Fl -> Bool}:∀ {ds:List D},ao p ds = false -> ∀ d ∈ ds,aq p d = false
 | [],_,_,h=>nomatch h
 | d :: ds,h,d',hd=>by
  have h:=A4 h
  rcases List.mem_cons.mp hd with rfl | hd
  ·exact h.1
  ·exact kf h.2 d' hd
theorem rC {T:iL} {N:gC} {c:List Int} {v:V} {d:D} (hv:∀ k,Rep T N k v d):∀ {cs:List (List Int)} {k:aE} {n:Nat} {xs:List V} {ds:List D},af T N k n xs ds -> af T N k n (setC cs xs c v) (setC cs ds c d)
 | [],_,_,_,_,r=>by cases r <;> exact .nil
 | c' :: cs,_,_,_,_,r=>by
  cases r with
  | nil=>exact .nil
  | cons h t =>
   refine .cons ?_ (rC hv t)
   show Rep _ _ _ (if c' = c then v else _) (if c' = c then d else _)
   by_cases e:c' = c
   ·rw [if_pos e,if_pos e];exact hv _
   ·rw [if_neg e,if_neg e];exact h
theorem oS {T:iL} {N:gC} {v:V} {d:D} (hv:∀ k,Rep T N k v d):∀ {k:aE} {n:Nat} {xs:List V} {ds:List D},af T N k n xs ds -> af T N k n (xs ++ [v]) (ds ++ [d])
 | _,_,_,_,.nil=>.cons (hv _) .nil
 | _,_,_,_,.cons h t=>.cons h (oS hv t)
theorem rE {T:iL} {N:gC} {c:List Int} {v:V} {d:D} (hv:∀ k,Rep T N k v d) {cs:List (List Int)} {k:aE} {n:Nat} {xs:List V} {ds:List D} (r:af T N k n xs ds):af T N k n (aI cs xs c v) (aI cs ds c d):=by
 unfold aI
 by_cases e:c ∈ cs
 ·rw [if_pos e,if_pos e];exact rC hv r
 ·rw [if_neg e,if_neg e];exact oS hv r
theorem zH {T:iL} {as:List Addr} {cs:List (List Int)} (k:d6 T as cs) {b:Addr} {c:List Int} (hb:T b (c.map V.int)):d6 T (sS cs as c b) (cN cs c):=by
 unfold sS cN
 by_cases e:c ∈ cs
 ·rw [if_pos e,if_pos e];exact k
 ·rw [if_neg e,if_neg e]
  refine ⟨by rw [List.length_append,List.length_append,k.len];rfl,fun j a c' ha hc=>?_⟩
  by_cases hj:j < as.length
  ·rw [List.getElem?_append_left hj] at ha
   rw [List.getElem?_append_left (by rw [<- k.len];exact hj)] at hc
   exact k.tup j a c' ha hc
  ·rw [List.getElem?_append_right (by omega)] at ha
   rw [List.getElem?_append_right (by rw [<- k.len];omega),<- k.len] at hc
   cases hz:j - as.length with
   | zero =>
    rw [hz] at ha hc
    cases ha
    cases hc
    exact hb
   | succ m=>rw [hz] at ha;cases ha
theorem bt.newD {K:PySem.W.Frag} {G R:Addr -> Prop} {τ:Addr -> Option aE} {fv:List Nat} {H H':Hp} {p:Addr} (hp:H p = none) (hl:H' p = some (.ext (DO p [] [] [] 0))):bt K G R τ fv H H' (.ref p) (.cc .ow [] []):=by
 refine ⟨fun q=>if q = p then some [] else none,fun q k hq=>?_,.cc (ep:=0) (as:=[]) (xs:=[]) ⟨hl,by simp⟩ ⟨rfl,fun j a c h=>by simp at h⟩ .nil⟩
 by_cases qM:q = p
 ·subst qM;exact hp
 ·simp [qM] at hq
noncomputable def sy (xs:List D):O D:=match xs with
 | []=>ok (.cc .ow [] [])
 | _ :: _=>none
noncomputable def iz (_:Scope) (_:List Str) (e:Expr):Option (List Expr):=match e with
 | .Dict [] [] _=>some []
 | _=>none
theorem Dp {Φ:az} {n:Nat} (hΦ:Φ n = sy) {X:Cx} {sc:Scope} {bl:List Str} {k:Nat} (L:PX X sc bl k) {e:Expr} {args:List Expr} (he:iz sc bl e = some args) {F:Addr -> Prop} {cs:List CE} (hs:kP X F Φ cs args):PE X e (tD X F Φ (.cj n cs)) /\ PT X e (fL X F Φ (.cj n cs)):=by
 have h1:∃ pos,e = .Dict [] [] pos /\ args = []:=by
  unfold iz at he
  split at he
  ·cases he;exact ⟨_,rfl,rfl⟩
  ·cases he
 obtain ⟨pos,rfl,rfl⟩:=h1
 cases cs with
 | cons _ _=>exact hs.elim
 | nil =>
  have this:PE X (.Dict [] [] pos) (tD X F Φ (.cj n [])):=by
   refine PE.imp (B9 (X:=X) (pos:=pos)) fun σ H Q hq p hp=>?_
   obtain ⟨R,τ,ρ,d,Si,ev,hq⟩:=hq
   have ev:Φ n [] = ok d:=ev
   rw [hΦ] at ev
   cases ev
   exact hq _ _ (aj.upd hp) (bt.newD hp aB)
  exact ⟨this,cg this fun _=>rfl⟩
noncomputable def three {α:Type}:List α -> Option (α × α × α)
 | [a,b,c]=>some (a,b,c)
 | _=>none
theorem jq {α:Type} {l:List α} {z:α × α × α} (h:three l = some z):l = [z.1,z.2.1,z.2.2]:=by
 unfold three at h
 split at h
 ·cases h;rfl
 ·cases h
noncomputable def fS:D -> Option (List (List Int) × List D)
 | .cc _ cs vs=>some (cs,vs)
 | _=>none
noncomputable def keyOf:D -> Option (List Int)
 | .tup ks=>intsOf ks
 | _=>none
theorem jL {d:D} {z:List (List Int) × List D} (h:fS d = some z):∃ f,d = .cc f z.1 z.2:=by
 cases d <;> first | (cases h;done) | (cases h;exact ⟨_,rfl⟩)
theorem mC {d:D} {c:List Int} (h:keyOf d = some c):d = .tup (c.map D.int):=by
 cases d <;> first | (cases h;done) | skip
 rw [dG (show intsOf _ = some c from h)]
noncomputable def uq (xs:List D):O D:=match two xs with
 | some z=>match fS z.1 with
  | some d=>match keyOf z.2 with
   | some c=>match aU d.1 d.2 c with
    | some v=>if aq anyF v = false then ok v else none
    | none=>none
   | none=>none
  | none=>none
 | none=>none
theorem Ds {xs:List D} {r:D} (h:uq xs = ok r):∃ f cs vs c,xs = [.cc f cs vs,.tup (c.map D.int)] /\ aU cs vs c = some r /\ aq anyF r = false:=by
 unfold uq at h
 cases h1:two xs with
 | none=>rw [h1] at h;cases h
 | some z =>
  rw [h1] at h
  have h:(match fS z.1 with | some d=>(match keyOf z.2 with | some c=>(match aU d.1 d.2 c with | some v=>if aq anyF v = false then ok v else none | none=>none) | none=>none) | none=>none) = ok r:=h
  cases h2:fS z.1 with
  | none=>rw [h2] at h;cases h
  | some d =>
   rw [h2] at h
   have h:(match keyOf z.2 with | some c=>(match aU d.1 d.2 c with | some v=>if aq anyF v = false then ok v else none | none=>none) | none=>none) = ok r:=h
   cases h3:keyOf z.2 with
   | none=>rw [h3] at h;cases h
   | some c =>
    rw [h3] at h
    have h:(match aU d.1 d.2 c with | some v=>if aq anyF v = false then ok v else none | none=>none) = ok r:=h
    cases h4:aU d.1 d.2 c with
    | none=>rw [h4] at h;cases h
    | some v =>
     rw [h4] at h
     obtain ⟨hf,rfl⟩:=nM (show (if aq anyF v = false then ok v else none) = ok r from h)
     obtain ⟨f,e1⟩:=jL h2
     exact ⟨f,d.1,d.2,c,by rw [gH h1,e1,mC h3],h4,hf⟩
noncomputable def PH (K:PySem.W.Frag):R2:=fun x y H Q=>∃ p b cs as xs ep c v,x = .ref p /\ y = .ref b /\ H p = some (.ext (DO p cs as xs ep)) /\ d6 (aA K H) as cs /\ aA K H b (c.map V.int) /\ aU cs xs c = some v /\ Q v H
theorem Cy {X:Cx} (hu:X.A.units + 1 < cLine):DQ X (PH X.K):=by
 intro value slice pins s σ H x y v u Q I rx ry h hs
 obtain ⟨p,b,cs,as,xs,ep,c,w,rfl,rfl,hp,hk,hb,hg,q⟩:=h
 cases rx
 cases ry
 obtain ⟨zs,o,es,e1,e2,e3,ho,hx,hd,dd,_,hl,ua⟩:=ql I hp hk
 have L6:=gF (cs:=cs) e3 c
 rw [hg] at L6
 obtain ⟨u,CN,ru⟩:=jX.some_of L6
 have:(atKey zs c).map (·.2) = some u:=by rw [kz,e1];exact CN
 obtain ⟨q',YU,rfl⟩:=Option.map_eq_some_iff.mp this
 exact subscriptTail_builtinR (x:=q'.2) dd.typeIs PySem.F.slot_dict_getitem.lookup
  (wpAny_getItem_heap (Q:=fun r s'=>r = q'.2 /\ EP X pins σ Q r s') (tupleKind_room_in1 hu) (p8 I hb) dd YU ⟨rfl,w,H,I.tok _,ru,q⟩) hs
noncomputable def kr (_:Scope) (_:List Str) (e:Expr):Option (List Expr):=match iU e with
 | some z=>some [z.1,z.2]
 | none=>none
theorem Iv {Φ:az} {n:Nat} (hΦ:Φ n = uq) {X:Cx} {sc:Scope} {bl:List Str} {k:Nat} (L:PX X sc bl k) {e:Expr} {args:List Expr} (he:kr sc bl e = some args) {F:Addr -> Prop} {cs:List CE} (hs:kP X F Φ cs args):PE X e (tD X F Φ (.cj n cs)) /\ PT X e (fL X F Φ (.cj n cs)):=by
 unfold kr at he
 cases h1:iU e with
 | none=>rw [h1] at he;cases he
 | some z =>
  rw [h1] at he
  cases he
  obtain ⟨pos,rfl⟩:=fY h1
  obtain ⟨⟨c1,c2,rfl,p1,p2⟩,_⟩:=gM hs
  have this:PE X (.Subscript z.1 z.2 pos) (tD X F Φ (.cj n [c1,c2])):=by
   refine PE.imp (ve (Cy (zT L.room)) p1 p2 hs.2.2.2.2.2.1) fun σ H Q hq=>?_
   obtain ⟨R,τ,ρ,d,Si,ev,hq⟩:=hq
   obtain ⟨xs,bP,ev⟩:=ae ev
   rw [hΦ] at ev
   obtain ⟨f,cs,vs,c,rfl,hg,hf⟩:=Ds ev
   obtain ⟨x,ex,bP⟩:=ae bP
   obtain ⟨ys,om,bP⟩:=ae bP
   obtain ⟨y,ey,Ih⟩:=ae om
   cases Ih
   cases bP
   refine tD.intro Si ex fun v H1 e1 r1=>tD.intro (Si.go e1) ey fun u H2 e2 r2=>?_
   obtain ⟨τ1,f1,q1⟩:=r1
   obtain ⟨τ2,f2,q2⟩:=r2
   cases q1 with
   | cc hn hk hr=>cases q2 with
    | tup ht He =>
     cases He.ofInts
     rcases gK hr c with ⟨_,hz⟩ | ⟨w,d',k',g1,g2,g3,_⟩
     ·rw [hg] at hz;cases hz
     ·rw [hg] at g2
      cases g2
      refine ⟨_,_,_,_,_,_,c,w,rfl,rfl,e2 _ _ hn.dat,hk.imp fun _ _ h=>aA.same e2 h,ht,g1,hq w H2 (e1.trans e2) ⟨fun _=>none,fun _ _ h=>by simp at h,?_⟩⟩
      exact (dO (N':=nd X.K R (iK (gP X F) τ (fM (.cj n [c1,c2]))) (fun _=>none) H1) (k':=[]) g3 hf).imp (fun _ _ h=>aA.same e2 h) fun _ _ _ _ h=>nd.same e2 h
  exact ⟨this,cg this fun _=>rfl⟩
end DI
end
section
namespace DI
open PySem PySem.Spec PyProof.Rows L2
noncomputable def m7 (xs:List D):O D:=match three xs with
 | some z=>match fS z.1 with
  | some d=>match keyOf z.2.1 with
   | some c=>if ao anyF d.2 = false /\ aq anyF z.2.2 = false then ok ((aU d.1 d.2 c).getD z.2.2) else none
   | none=>none
  | none=>none
 | none=>none
theorem AB {xs:List D} {r:D} (h:m7 xs = ok r):∃ f cs vs c x,xs = [.cc f cs vs,.tup (c.map D.int),x] /\ ao anyF vs = false /\ aq anyF x = false /\ r = (aU cs vs c).getD x:=by
 unfold m7 at h
 cases h1:three xs with
 | none=>rw [h1] at h;cases h
 | some z =>
  rw [h1] at h
  have h:(match fS z.1 with | some d=>(match keyOf z.2.1 with | some c=>if ao anyF d.2 = false /\ aq anyF z.2.2 = false then ok ((aU d.1 d.2 c).getD z.2.2) else none | none=>none) | none=>none) = ok r:=h
  cases h2:fS z.1 with
  | none=>rw [h2] at h;cases h
  | some d =>
   rw [h2] at h
   have h:(match keyOf z.2.1 with | some c=>if ao anyF d.2 = false /\ aq anyF z.2.2 = false then ok ((aU d.1 d.2 c).getD z.2.2) else none | none=>none) = ok r:=h
   cases h3:keyOf z.2.1 with
   | none=>rw [h3] at h;cases h
   | some c =>
    rw [h3] at h
    obtain ⟨⟨hf,hx⟩,rfl⟩:=nM (show (if ao anyF d.2 = false /\ aq anyF z.2.2 = false then ok ((aU d.1 d.2 c).getD z.2.2) else none) = ok r from h)
    obtain ⟨f,e1⟩:=jL h2
    exact ⟨f,d.1,d.2,c,z.2.2,by rw [jq h1,e1,mC h3],hf,hx,rfl⟩
noncomputable def iA (_:Scope) (_:List Str) (e:Expr):Option (List Expr):=match kF ("get" : Str) (.Expr e ⟨0,0,0,0⟩) with
 | some z=>match two z.2 with
  | some y=>if isNm z.1 = true then some [z.1,y.1,y.2] else none
  | none=>none
 | none=>none
theorem nq {sc:Scope} {bl:List Str} {e:Expr} {args:List Expr} (h:iA sc bl e = some args):∃ x p p1 p2 a b,e = .Call (.Attribute (.Name x p) ("get" : Str) p1) [a,b] [] p2 /\ args = [.Name x p,a,b] /\ (p1.endLine == p2.line) = true:=by
 unfold iA at h
 cases h1:kF ("get" : Str) (.Expr e ⟨0,0,0,0⟩) with
 | none=>rw [h1] at h;cases h
 | some z =>
  obtain ⟨o,as⟩:=z
  rw [h1] at h
  have h2:(match two as with | some y=>if isNm o = true then some [o,y.1,y.2] else none | none=>none) = some args:=h
  clear h
  cases h3:two as with
  | none=>rw [h3] at h2;cases h2
  | some y =>
   rw [h3] at h2
   have h4:(if isNm o = true then some [o,y.1,y.2] else none) = some args:=h2
   clear h2
   by_cases hn:isNm o = true
   ·rw [if_pos hn] at h4
    cases h4
    obtain ⟨p1,p2,pos,e1,hl⟩:=lT h1
    cases e1
    cases o <;> first | (cases hn;done) | skip
    rw [gH h3]
    exact ⟨_,_,_,_,_,_,rfl,rfl,hl⟩
   ·rw [if_neg hn] at h4;cases h4
theorem w5 {X:Cx} {x:Str} {p p1 p2:Pos} {a b:Expr} {td:TE} {ta:TA} (hu:X.A.units + 1 < cLine) (ho:PE X (.Name x p) td) (ha:PA X [a,b] ta) (s1:∀ es,starEach (a :: es) X.env = (false,eval a X.env) :: starEach es X.env) (s2:∀ es,starEach (b :: es) X.env = (false,eval b X.env) :: starEach es X.env) (hl:(p1.endLine == p2.line) = true) :
  PE X (.Call (.Attribute (.Name x p) ("get" : Str) p1) [a,b] [] p2) (fun σ H Q=>td σ H fun v H1=>∃ q cs as xs ep,v = .ref q /\ H1 q = some (.ext (DO q cs as xs ep)) /\ ta σ H1 fun ys H2=>∃ k c z,ys = [.ref k,z] /\ H2 q = some (.ext (DO q cs as xs ep)) /\ d6 (aA X.K H2) as cs /\ aA X.K H2 k (c.map V.int) /\ Q ((aU cs xs c).getD z) H2):=by
 intro pins s σ H Q I h
 refine wpAny_Call_method rfl (by rw [s1,s2];rfl) hl PySem.F.plainAttrs_dict PySem.F.slot_dict_get PySem.F.type_dict_get (cI (ho pins s σ H _ I h) fun u Pq ⟨v,H1,I1,rx,q,cs,as,xs,ep,ex,hd,q1⟩=>?_)
 subst ex
 obtain rfl:u = Value.ref q:=rx
 obtain ⟨t1,t2⟩:=dict_cls I1 hd
 refine ⟨t1,t2,?_⟩
 have hA:=ha p2 pins Pq σ H1 _ I1 q1
 rw [s1] at hA ⊢
 refine Calls.callWith_builtin (by show (false || (backTo p2 (starEach [b] X.env)).any (·.1)) = false;rw [s2];rfl) (Calls.evalArgs_plain ?_)
 refine cI hA fun us s3 ⟨ys,H2,I2,r2,k,c,z,ey,hd2,hk,hb,q2⟩=>?_
 subst ey
 obtain ⟨w1,w2,rfl,Pu,Pt⟩:=vals2 r2
 cases Pu
 exact Du hu I2 hd2 hk hb Pt fun w' s4 I4 jw=>⟨_,H2,I4,jw,q2⟩
theorem Dt {Φ:az} {n:Nat} (hΦ:Φ n = m7) {X:Cx} {sc:Scope} {bl:List Str} {k:Nat} (L:PX X sc bl k) {e:Expr} {args:List Expr} (he:iA sc bl e = some args) {F:Addr -> Prop} {cs:List CE} (hs:kP X F Φ cs args):PE X e (tD X F Φ (.cj n cs)) /\ PT X e (fL X F Φ (.cj n cs)):=by
 obtain ⟨x,p,p1,p2,a,b,rfl,rfl,hl⟩:=nq he
 cases cs with
 | nil=>exact hs.elim
 | cons c0 cs =>
  obtain ⟨h0,_,_,Jk⟩:=hs
  obtain ⟨⟨c1,c2,rfl,_,_⟩,pa,s1,s2⟩:=gM Jk
  have this:PE X (.Call (.Attribute (.Name x p) ("get" : Str) p1) [a,b] [] p2) (tD X F Φ (.cj n [c0,c1,c2])):=by
   refine PE.imp (w5 (zT L.room) h0 pa s1 s2 hl) fun σ H Q hq=>?_
   obtain ⟨R,τ,ρ,d,Si,ev,hq⟩:=hq
   obtain ⟨xs,bP,ev⟩:=ae ev
   rw [hΦ] at ev
   obtain ⟨f,cs,vs,c,y,rfl,hf,hy,rfl⟩:=AB ev
   obtain ⟨x0,ex,bP⟩:=ae bP
   obtain ⟨ys,om,bP⟩:=ae bP
   cases bP
   refine tD.intro Si ex fun v H1 e1 r1=>?_
   obtain ⟨τ1,f1,q1⟩:=r1
   cases q1 with
   | cc hn hk hr =>
    refine ⟨_,_,_,_,_,rfl,hn.dat,R,τ,ρ,_,Si.go e1,om,fun us H2 e2 r2=>?_⟩
    obtain ⟨τ2,f2,q2⟩:=r2
    obtain ⟨u1,u2,rfl,Ku,Kt⟩:=q2.two
    cases Ku with
    | tup ht He =>
     cases He.ofInts
     refine ⟨_,c,u2,rfl,e2 _ _ hn.dat,hk.imp fun _ _ h=>aA.same e2 h,ht,?_⟩
     refine hq _ H2 (e1.trans e2) ⟨fun _=>none,fun _ _ h=>by simp at h,?_⟩
     rcases gK hr c with ⟨g1,g2⟩ | ⟨w,d',k',g1,g2,g3,g4⟩
     ·rw [g1,g2]
      exact dO (T:=aA X.K H2) Kt hy
     ·rw [g1,g2]
      exact (dO (N':=nd X.K R (iK (gP X F) τ (fM (.cj n [c0,c1,c2]))) (fun _=>none) H1) (k':=[]) g3 (kf hf _ g4)).imp (fun _ _ h=>aA.same e2 h) fun _ _ _ _ h=>nd.same e2 h
  exact ⟨this,cg this fun _=>rfl⟩
noncomputable def m6 (xs:List D):O D:=match three xs with
 | some z=>match z.1 with
  | .cc f cs vs=>match keyOf z.2.2 with
   | some c=>if cG f = true /\ aq anyF z.2.1 = false /\ cs.length < dU then ok (.cc .ow (cN cs c) (aI cs vs c z.2.1)) else none
   | none=>none
  | _=>none
 | none=>none
theorem sx {d:D} {xs:List D} {r:D} (h:m6 (d :: xs) = ok r):∃ cs vs c x,d = .cc .ow cs vs /\ xs = [x,.tup (c.map D.int)] /\ aq anyF x = false /\ cs.length < dU /\ r = .cc .ow (cN cs c) (aI cs vs c x):=by
 unfold m6 at h
 cases h1:three (d :: xs) with
 | none=>rw [h1] at h;cases h
 | some z =>
  rw [h1] at h
  have e0:=jq h1
  obtain ⟨d',x,y⟩:=z
  obtain ⟨rfl,rfl⟩:d = d' /\ xs = [x,y]:=List.cons.inj e0
  cases d <;> first | (cases h;done) | skip
  rename_i f cs vs
  have h:(match keyOf y with | some c=>if cG f = true /\ aq anyF x = false /\ cs.length < dU then ok (D.cc .ow (cN cs c) (aI cs vs c x)) else none | none=>none) = ok r:=h
  cases h3:keyOf y with
  | none=>rw [h3] at h;cases h
  | some c =>
   rw [h3] at h
   obtain ⟨⟨hf,hx,hl⟩,rfl⟩:=nM (show (if cG f = true /\ aq anyF x = false /\ cs.length < dU then ok (D.cc .ow (cN cs c) (aI cs vs c x)) else none) = ok r from h)
   cases f <;> first | (cases hf;done) | exact ⟨cs,vs,c,x,rfl,by rw [mC h3],hx,hl,rfl⟩
noncomputable def iy (_:Scope) (_:List Str) (st:Stmt):Option (Expr × List Expr):=match wF st with
 | some z=>match one z.1 with
  | some t=>match iU t with
   | some y=>some (y.1,[z.2,y.2])
   | none=>none
  | none=>none
 | none=>none
theorem nk {sc:Scope} {bl:List Str} {st:Stmt} {o:Expr} {args:List Expr} (h:iy sc bl st = some (o,args)):∃ v i pos' pos,st = .Assign [.Subscript o i pos'] v pos /\ args = [v,i]:=by
 unfold iy at h
 cases h1:wF st with
 | none=>rw [h1] at h;cases h
 | some z =>
  obtain ⟨ts,v⟩:=z
  rw [h1] at h
  have h2:(match one ts with | some t=>(match iU t with | some y=>some (y.1,[v,y.2]) | none=>none) | none=>none) = some (o,args):=h
  clear h
  cases h3:one ts with
  | none=>rw [h3] at h2;cases h2
  | some t =>
   rw [h3] at h2
   have h4:(match iU t with | some y=>some (y.1,[v,y.2]) | none=>none) = some (o,args):=h2
   clear h2
   cases h5:iU t with
   | none=>rw [h5] at h4;cases h4
   | some y =>
    rw [h5] at h4
    cases h4
    obtain ⟨pos,rfl⟩:=ll h1
    obtain rfl:=cB h3
    obtain ⟨p,rfl⟩:=fY h5
    exact ⟨_,_,_,_,rfl,rfl⟩
mutual
theorem any_map (g:Fl -> Fl):∀ d:D,aq anyF (aD g d) = aq anyF d
 | .bC=>rfl
 | .bl _=>rfl
 | .int _=>rfl
 | .tup ds=>sR g ds
 | .lst _ ds=>rfl
 | .cc _ _ ds=>rfl
 | .bx _ _ ds=>rfl
theorem sR (g:Fl -> Fl):∀ ds:List D,ao anyF (ag g ds) = ao anyF ds
 | []=>rfl
 | d :: ds=>by show (aq _ _ || ao _ _) = (aq _ d || ao _ ds);rw [any_map g d,sR g ds]
end
mutual
theorem nv:∀ d:D,aq anyF d = false -> aq bp d = false
 | .bC,_=>rfl
 | .bl _,_=>rfl
 | .int _,_=>rfl
 | .tup ds,h=>wy ds h
 | .lst _ ds,h=>nomatch h
 | .cc _ _ ds,h=>nomatch h
 | .bx _ _ ds,h=>nomatch h
theorem wy:∀ ds:List D,ao anyF ds = false -> ao bp ds = false
 | [],_=>rfl
 | d :: ds,h=>by
  have h:=A4 h
  show (aq _ d || ao _ ds) = false
  rw [nv d h.1,wy ds h.2];rfl
end
theorem any_ints:∀ c:List Int,ao anyF (c.map D.int) = false
 | []=>rfl
 | i :: c=>any_ints c
theorem yr {value o i:Expr} {pos':Pos} {l:Nat} {env:Env}:swapsWith value (some (.Subscript o i pos')) l env = pure false:=by
 unfold swapsWith;cases value <;> rfl
theorem yP {X:Cx} {x:Str} {p0 pos' pos:Pos} {value i:Expr} {tv to ti:TE} (hu:X.A.units + 1 < cLine) (hv:PE X value tv) (ho:PE X (.Name x p0) to) (hi:PE X i ti) :
  PS X (.Assign [.Subscript (.Name x p0) i pos'] value pos) (fun D σ H=>tv σ H fun v H1=>to σ H1 fun o H2=>ti σ H2 fun y H3=>∃ q b cs as xs ep c,o = .ref q /\ y = .ref b /\ H3 q = some (.ext (DO q cs as xs ep)) /\ d6 (aA X.K H3) as cs /\ aA X.K H3 b (c.map V.int) /\ cs.length < sizeLine /\
   ∀ k_,D.nx σ (upd H3 q (.ext (DO q (cN cs c) (sS cs as c b) (aI cs xs c v) k_)))):=by
 intro pins s σ H D I h
 refine wpAny_Assign_Subscript (cI (hv pins s σ H _ I h) fun r s1 ⟨v,H1,I1,rv,q1⟩=>cI (ho pins s1 σ H1 _ I1 q1) fun u s2 ⟨o,H2,I2,rx,q2⟩=>cI (hi pins s2 σ H2 _ I2 q2) fun iv s3 ⟨y,H3,I3,ry,q,b,cs,as,xs,ep,c,eo,ey,hd,hk,hb,hl,q3⟩=>?_) yr
 subst eo ey
 obtain rfl:u = Value.ref q:=rx
 obtain rfl:iv = Value.ref b:=ry
 exact uv hu I3 hd hk hb rv hl fun k_ s4 I4=>⟨σ,_,I4,q3 k_⟩
theorem SI.K1 {X:Cx} {F R:Addr -> Prop} {τ:Addr -> Option aE} {ρ:au} {σ:St} {H:Hp} {i:Nat} {cs:List (List Int)} {ds:List D} (Si:SI X F R τ ρ σ H) (hi:ρ[i]? = some (some (.cc .ow cs ds))) :
  ∃ p as xs ep,σ[i]? = some (some (.ref p)) /\ H p = some (.ext (DO p cs as xs ep)) /\ τ p = some [i] /\ d6 (aA X.K H) as cs /\ af (aA X.K H) (nd X.K R (fun _=>False) τ H) [i] 0 xs ds:=by
 obtain ⟨v,hv,rp⟩:=Si.rep i _ hi
 cases rp with
 | cc h k r=>exact ⟨_,_,_,_,hv,h.1,h.2,k,r⟩
theorem Dm {Φ:az} {n:Nat} (hΦ:Φ n = m6) {X:Cx} {sc:Scope} {bl:List Str} {k:Nat} (L:PX X sc bl k) (hN:X.N.Nodup) (sY:∀ x,X.fn x = true) {st:Stmt} {x:Str} {pos:Pos} {args:List Expr} (he:iy sc bl st = some (.Name x pos,args))
  {i:Nat} (hi:X.N[i]? = some x) (hl:L2.Loc X.env.scope x) (pe:PE X (.Name x pos) (tE i)) {F:Addr -> Prop} {cs:List CE} (hs:kP X F Φ cs args):PS X st (qL X F Φ (.mut n i cs)):=by
 obtain ⟨v,ix,p1,p2,rfl,rfl⟩:=nk he
 obtain ⟨⟨c1,c2,rfl,h1,h2⟩,_⟩:=gM hs
 refine PS.imp (yP (zT L.room) h1 pe h2) fun D σ H hq=>?_
 obtain ⟨R,τ,ρ,r,Si,ev,hq⟩:=hq
 obtain ⟨xs,bP,ev⟩:=ae ev
 obtain ⟨y,ey,bP⟩:=ae bP
 obtain ⟨ys,om,bP⟩:=ae bP
 cases bP
 obtain ⟨kd,ek,Ih⟩:=ae om
 cases Ih
 have key:∃ cs vs c,kd = .tup (c.map DI.D.int) /\ ρ[i]? = some (some (.cc .ow cs vs)) /\ aq anyF y = false /\ cs.length < dU /\ r = (.nx,ρ.set i (some (.cc .ow (cN cs c) (aI cs vs c y)))):=by
  cases hz:ao bp [y,kd] with
  | true =>
   obtain ⟨d,d',h⟩:=tR ev hz
   rw [hΦ] at h
   obtain ⟨cs,vs,c,x',_,e1,e2,_⟩:=sx h
   have e3:aD aK y = x' /\ aD aK kd = .tup (c.map DI.D.int):=by
    have:=List.cons.inj e1
    exact ⟨this.1,(List.cons.inj this.2).1⟩
   have a1:aq bp y = false:=nv y (by rw [<- any_map aK y,e3.1];exact e2)
   have a2:aq bp kd = false:=nv kd (by rw [<- any_map aK kd,e3.2];exact any_ints c)
   have:ao bp [y,kd] = false:=by show (aq bp y || (aq bp kd || false)) = false;rw [a1,a2];rfl
   rw [this] at hz;cases hz
  | false =>
   obtain ⟨d,d',h,h',rfl⟩:=lB ev hz
   rw [hΦ] at h'
   obtain ⟨cs,vs,c,x',rfl,e1,e2,e3,rfl⟩:=sx h'
   cases e1
   exact ⟨cs,vs,c,rfl,h,e2,e3,rfl⟩
 obtain ⟨cs,vs,c,rfl,ho,hf,hc,rfl⟩:=key
 obtain ⟨p,as,zs,ep,hv,hd,ht,hk,rs⟩:=Si.K1 ho
 refine tD.intro Si ey fun u H1 e1 ru=>⟨.ref p,hv,tD.intro (Si.go e1) ek fun w H2 e2 jw=>?_⟩
 obtain ⟨τ1,f1,q1⟩:=ru
 obtain ⟨τ2,f2,q2⟩:=jw
 cases q2 with
 | @tup _ b _ _ hb He =>
  cases He.ofInts
  have es:=e1.trans e2
  have pB:=Si.go es
  have hd2:=es _ _ hd
  have mL:dU = 1000000:=rfl
  have hz:sizeLine = 16777216:=sizeLine_eq
  refine ⟨p,b,cs,as,zs,ep,c,rfl,rfl,hd2,hk.imp fun _ _ h=>aA.same es h,hb,by omega,fun k_=>?_⟩
  have hn:d5 H2 p (.d cs as zs ep):=hd2
  have rk:gB X R τ H2 u y:=jx ((dO (N':=nd X.K R (fun _=>False) τ H1) (k':=[]) q1 hf).imp (fun _ _ h=>aA.same e2 h) fun _ _ _ _ h=>nd.same e2 h) hf
  obtain ⟨p',Ou,DT,ZA,LK,Hn,ht',VU,tN⟩:=pB.K1 ho
  rw [hv] at LK
  cases LK
  rw [hd2] at Hn
  obtain ⟨τ3,sT⟩:=pB.FT (m:=0) (n':=.d (cN cs c) (sS cs as c b) (aI cs zs c u) k_) (o:=.ext (DO p (cN cs c) (sS cs as c b) (aI cs zs c u) k_)) (d1:=.cc .ow (cN cs c) (aI cs vs c y)) (xs':=aI cs zs c u) (ds':=aI cs vs c y) ho hv hn ht (rs.imp (fun _ _ h=>aA.same es h) fun _ _ _ _ h=>nd.same es h) rk aB
   (fun hN r=>.cc hN (zH ((hk.imp fun _ _ h=>aA.same es h).imp fun _ _ h=>yv hn h) (yv hn hb)) r) (fun rs r=>rE (fun k=>dO r hf) rs)
  exact hq σ _ R τ3 sT (iX pB es (fun _ h=>h) hn ht)
end DI
end
section
namespace DI
open PySem PySem.Spec PyProof.Rows L2
theorem GC {P:Program} {w:World} {H:Hp} {h:Heap} {a:Addr} {o:HO} (x:bV P w H h a o):∃ u,h.get? a = some u:=by
 cases o with
 | lst xs=>obtain ⟨_,_,_,_,e⟩:=x;exact ⟨_,e⟩
 | tup xs=>obtain ⟨_,_,_,o,e,_⟩:=x;exact ⟨_,e⟩
 | dK dc=>obtain ⟨_,_,_,_,o,_,_,e,_⟩:=x;exact ⟨_,e⟩
 | dT dc=>obtain ⟨_,_,_,_,o,_,_,e,_⟩:=x;exact ⟨_,e⟩
 | set S n=>obtain ⟨o,_,_,_,e,_⟩:=x;exact ⟨_,e⟩
 | ins C dx fs=>obtain ⟨_,_,_,e,_⟩:=x;exact ⟨_,e⟩
 | own y=>exact x
 | xd fs=>obtain ⟨_,⟨o,_,_,e,_⟩,_⟩:=x;exact ⟨_,e⟩
 | ji lo hi=>obtain ⟨_,_,_,e⟩:=x;exact ⟨_,e⟩
 | gZ o u=>exact ⟨_,x.1⟩
 | DY ps=>exact ⟨_,x⟩
 | met f y=>exact ⟨_,x⟩
 | ext φ=>exact x.2.1
theorem Inv.El {X:Cx} {pins:List (Addr × Obj)} {σ:St} {H:Hp} {s:Shared} {h':Heap} {t':Nat} {a:Addr} {o:HO} (I:Inv X pins σ H s) (k:∀ b u,s.heap.get? b = some u -> h'.get? b = some u) (ha:s.heap.get? a = none) (new:bV X.prog X.w (upd H a o) h' a o) :
  H a = none /\ Inv X pins σ (upd H a o) { s with heap:=h',toks:=t' }:=by
 have hn:H a = none:=by
  cases q:H a with
  | none=>rfl
  | some u =>
   obtain ⟨z,hz⟩:=GC (I.cQ a u q)
   rw [ha] at hz;cases hz
 have up:∀ b u,H b = some u -> upd H a o b = some u:=fun b u e=>by rw [av (bT e hn)];exact e
 refine ⟨hn,I.step (g':=s.gens) (d':=s.drawn) (ch:=[]) (fun b hb=>nomatch hb) (fun b o _ _ _ e _=>k b o e) (fun b o _ _ _ e _=>⟨o.slots,k b o e⟩) (fun b u _ e n=>?_)
  (fun b o _ e=>⟨o,k b o e⟩) (fun _ _ e=>up _ _ e) (fun _ _ _ e=>up _ _ e) (fun b ps e=>⟨#[],by rw [up _ _ e];simp⟩) (fun m hm=>?_) (fun b u e=>?_) I.bare⟩
 ·rw [av fun z=>by rw [z,ha] at e;cases e];exact n
 ·obtain ⟨o,es,ep,ho,r⟩:=hm
  exact ⟨o,es,ep,k _ o ho,r⟩
 ·by_cases z:b = a
  ·subst z;rw [aB] at e;cases e;exact new
  ·rw [av z] at e
   exact (I.cQ b u e).ju (fun c v _ q=>k c v q) (fun _ q=>up _ _ q) fun _ _ q=>up _ _ q
section
variable {X:Cx} {pins:List (Addr × Obj)} {σ:St} {H:Hp} {s:Shared} {d:Addr} {cs:List (List Int)} {as:List Addr} {xs:List V} {ep:Nat}
theorem pU (I:Inv X pins σ H s) (h:H d = some (.ext (DO d cs as xs ep))):∃ es:Array DictEntry,nE s.heap d es ep /\ es.size = as.length /\ es.toList.map (·.key) = as.map Value.ref /\ cs.Nodup /\ as.length = cs.length /\ (d == sysModules) = false:=by
 obtain ⟨⟨zs,o,es,e1,e2,e3,ho,hx,hd,he,hn,hl,hs⟩,_⟩:=(show bV X.prog X.w H s.heap d (.ext (DO d cs as xs ep)) from I.cQ d _ h)
 refine ⟨es,⟨o,ho,hx,hd⟩,?_,?_,hn,?_,hs⟩
 ·rw [<- Array.length_toList,he,<- e2,List.length_map,List.length_map]
 ·rw [he,<- e2,List.map_map,List.map_map];rfl
 ·rw [<- e1,<- e2,List.length_map,List.length_map]
noncomputable def WK (d:Addr) (cs:List (List Int)) (as:List Addr) (xs:List V) (ep:Nat):It :=
 ⟨fun i H=>H d = some (.ext (DO d cs as xs ep)) /\ i < as.length,fun i H v H'=>H' = H /\ ∃ a,as[i]? = some a /\ v = .ref a,fun i H=>H d = some (.ext (DO d cs as xs ep)) /\ as.length <= i⟩
theorem wH {P:Program} {w:World} {K:PySem.W.Frag} {tg:Expr} (d it:Addr) (cs:List (List Int)) (as:List Addr) (xs:List V) (ep:Nat):Turn P w K tg (WK d cs as xs ep) [it] it (fun i h=>h.IsKeyIter it d i as.length ep) where
 mem:=by simp
 obj:=fun i h st b hb=>by
  have e:b = it:=by simpa using hb
  subst e
  obtain ⟨o,e,c,d⟩:=st
  exact ⟨o,e,fun v z=>by rw [d] at z;cases z⟩
 keep:=fun i h h' st k=>st.at fun o e=>k it (by simp) o e
 item:=by
  intro X hP hw hK hc i pins s σ H E I hf st hg
  subst hP hw hK
  obtain ⟨hd,hi⟩:=hg
  obtain ⟨es,hr,hz,kL,_⟩:=pU I hd
  obtain ⟨f0,f1,f2,f3,f4,f5⟩:=hf it (by simp)
  have lF:i < es.size:=by rw [hz];exact hi
  have Sb:es[i].key = .ref as[i]:=by
   have:=congrArg (fun l=>l[i]?) kL
   simp only [List.getElem?_map,Array.getElem?_toList] at this
   rw [Array.getElem?_eq_getElem lF,List.getElem?_eq_getElem hi] at this
   exact Option.some.inj this
  rw [<- hz] at st
  refine vZ st hr lF fun h' kS sb=>?_
  have I1:Inv X pins σ H { s with heap:=h' }:=I.turned (t':=s.toks) (fun b o hb e=>(sb.2 b hb).trans e) f0 f1 f3 f4 f5
  obtain ⟨o,e,c,d'⟩:=id kS
  refine ⟨_,rfl,vQ (s:={ s with heap:=h' }) e c d' (by decide) ⟨.ref as[i],H,I1,by rw [Sb];rfl,⟨rfl,as[i],List.getElem?_eq_getElem hi,rfl⟩,?_,fun b hb=>(hf b hb).1⟩⟩
  rw [hz] at kS
  exact kS
 done:=by
  intro X hP hw hK hc i pins s σ H E I hf st hg
  subst hP hw hK
  obtain ⟨hd,hi⟩:=hg
  obtain ⟨es,hr,hz,kL,_⟩:=pU I hd
  obtain ⟨f0,f1,f2,f3,f4,f5⟩:=hf it (by simp)
  rw [<- hz] at st
  exact Az (I.ok.hd hc) st hr (by rw [hz];exact hi) fun h' eb=>⟨rfl,I.turned (t':=s.toks) (fun b o hb e=>eb b o hb e) f0 f1 f3 f4 f5⟩
 self:=fun _ _ _ _ _ st h=>wpAny_pyIter_keyiter st h
end
end DI
end
section
namespace DI
open PySem PySem.Spec PyProof.Rows L2
noncomputable def i6 (xs:List D):O D:=match one xs with
 | some d=>match fS d with
  | some z=>ok (.lst .ow (z.1.map fq))
  | none=>none
 | none=>none
theorem xH {xs:List D} {r:D} (h:i6 xs = ok r):∃ f cs vs,xs = [.cc f cs vs] /\ r = .lst .ow (cs.map fq):=by
 unfold i6 at h
 cases h1:one xs with
 | none=>rw [h1] at h;cases h
 | some d =>
  rw [h1] at h
  have h:(match fS d with | some z=>ok (D.lst .ow (z.1.map fq)) | none=>none) = ok r:=h
  cases h2:fS d with
  | none=>rw [h2] at h;cases h
  | some z =>
   rw [h2] at h
   cases h
   obtain ⟨f,e⟩:=jL h2
   exact ⟨f,z.1,z.2,by rw [cB h1,e],rfl⟩
theorem fe (g:Fl -> Fl):∀ cs:List (List Int),ag g (cs.map fq) = cs.map fq
 | []=>rfl
 | c :: cs=>by
  show aD g (fq c) :: ag g (cs.map fq) = _
  rw [fe g cs]
  have:∀ c:List Int,ag g (c.map D.int) = c.map D.int:=fun c=>by
   induction c with
   | nil=>rfl
   | cons i c ih=>show D.int i :: ag g (c.map D.int) = _;rw [ih];rfl
  show D.tup (ag g (c.map D.int)) :: _ = _
  rw [this];rfl
theorem uW {T:iL} {N:gC} {k:aE} {a:Addr} {c:List Int} (h:T a (c.map V.int)):Rep T N k (.ref a) (fq c):=.tup h (af.ints c)
noncomputable def AJ (_:Scope) (_:List Str) (e:Expr):Option (List Expr):=if isNm e = true then some [e] else none
theorem Aw {Φ:az} {n:Nat} (hΦ:Φ n = i6) {X:Cx} {sc:Scope} {bl:List Str} {k:Nat} (L:PX X sc bl k) {e:Expr} {args:List Expr} (he:AJ sc bl e = some args) {F:Addr -> Prop} {cs:List CE} {tg:Expr} (ht:(decide (1100 <= n) || gg tg) = true) (hs:kP X F Φ cs args)
  {pins:List (Addr × Obj)} {s:Shared} {σ:St} {H:Hp} {R:Addr -> Prop} {τ:Addr -> Option aE} {ρ:au} {xs:List D} {d:D} {items:List D} (I:Inv X pins σ H s) (Si:SI X F R τ ρ σ H) (bP:cD Φ cs ρ = ok xs) (ed:Φ n xs = ok d) (ei:nY d = ok items) (Rr:It -> Hp -> Prop)
  (hR:∀ J H2 vs,aj H H2 -> bU X.K (gP X F) R τ (dk cs) H H2 vs xs -> JG X.K J H2 vs xs items -> Rr J H2) :
  wpAny (model X.prog X.w) X.A (eval e X.env) (fun v s1=>wpAny (model X.prog X.w) X.A (pyIter v) (AY X pins σ tg Rr) X.xe s1) X.xe s:=by
 unfold AJ at he
 by_cases hn:isNm e = true
 ·rw [if_pos hn] at he
  cases he
  cases cs with
  | nil=>exact hs.elim
  | cons c cs=>cases cs with
   | cons _ _=>exact hs.2.2.2.elim
   | nil =>
    rw [hΦ] at ed
    obtain ⟨f,ks,vs,rfl,rfl⟩:=xH ed
    cases ei
    obtain ⟨x,ex,bP⟩:=ae bP
    cases bP
    refine cI (hs.1 pins s σ H _ I (tD.intro Si ex (Q:=fun v H1=>aj H H1 /\ bt X.K (gP X F) R τ (fM c) H H1 v (.cc f ks vs)) fun v H1 e1 r1=>⟨e1,r1⟩)) fun u s1 ⟨v,H1,I1,rv,e1,r1⟩=>?_
    obtain ⟨τt,fr,q1⟩:=id r1
    cases q1 with
    | @cc _ p _ as ys ep _ _ A6 hk hr =>
     cases rv
     have hd:=A6.dat
     obtain ⟨es,zV,hz,kL,LX,hlen,ua⟩:=pU I1 hd
     refine v5 ua zV ?_
     have hb:s1.heap.objs.size <= s1.heap.objs.size:=Nat.le_refl _
     refine ⟨s1.heap.objs.size,[s1.heap.objs.size],_,WK p ks as ys ep,H1,rfl,I1.kept (t':=s1.toks) (fun b o e=>Heap.get?_push_of_some _ e),wH p s1.heap.objs.size ks as ys ep,⟨_,Heap.get?_push_size _ rfl,rfl,by rw [hz];rfl⟩,fun b hb=>?_,hR _ H1 [.ref p] e1 (bU.cons e1 (aj.refl _) (r1.mono fun j hj=>List.mem_append_left _ hj) ⟨fun _=>none,fun _ _ h=>by simp at h,.nil⟩) ?_⟩
     ·have:b = s1.heap.objs.size:=by simpa using hb
      subst this
      exact I1.An (Nat.le_refl _) (I1.cQ.fresh (Nat.le_refl _))
     ·rw [fe]
      have ju:∀ H',pA X.K H1 [.ref p] [.cc f ks vs] H' -> H' p = some (.ext (DO p ks as ys ep)):=fun H' st=>by
       obtain ⟨R0,XM,hl⟩:=st.n0
       cases XM with
       | cons h0 _=>cases h0 with
        | cc h1 _ _ =>
         cases f with
         | sc=>exact h1.elim
         | ow=>exact hl p _ h1.2 hd
         | fz=>exact hl p _ h1.2 hd
         | al=>exact hl p _ h1.2 hd
      refine ⟨fun i H' R' st rs hi=>⟨ju H' st,by rw [List.length_map] at hi;omega⟩,fun i H' R' x lj st rs hi hy=>?_,fun i H' R' st rs hi=>⟨ju H' st,by rw [List.length_map] at hi;omega⟩⟩
      obtain ⟨rfl,a,ha,rfl⟩:=hy
      rw [List.length_map] at hi
      refine ⟨aj.refl _,fq ks[i],by rw [List.getElem?_map,List.getElem?_eq_getElem hi];rfl,uW (st.tp _ _ (hk.tup i a _ ha (List.getElem?_eq_getElem hi)))⟩
 ·rw [if_neg hn] at he;cases he
theorem uD {X:Cx} (hc:X.calm = true) (hu:X.A.units + 2 < cLine):e_ X (.builtin "sorted") (fun xs H Q=>∃ (d:Addr) (cs:List (List Int)) (as:List Addr) (ys:List V) (ep:Nat),xs = [.ref d] /\ H d = some (.ext (DO d cs as ys ep)) /\ d6 (aA X.K H) as cs /\ cs.length < 64 /\
  ∀ (l:Addr) (bs:List Addr),H l = none -> d6 (aA X.K H) bs (bG cs) -> Q (.ref l) (upd H l (.lst (bs.map V.ref)))):=by
 intro pins s σ H xs us Q I r h
 obtain ⟨d,cs,as,ys,ep,rfl,hd,hk,o5,q⟩:=h
 obtain ⟨u,rfl,ru⟩:=r.one
 cases ru
 obtain ⟨es,zV,hz,kL,LX,hlen,ua⟩:=pU I hd
 have ht:oD s.heap (es.toList.map (·.key)) cs:=by
  rw [kL]
  refine ⟨by rw [List.length_map,hlen],fun i ns e=>?_⟩
  have hi:i < as.length:=by rw [hlen];exact (List.getElem?_eq_some_iff.mp e).1
  obtain ⟨Cw,rj,ij,_⟩:=I.tuple (hk.tup i as[i] ns (List.getElem?_eq_getElem hi) e)
  exact ⟨as[i],Cw,by rw [List.getElem?_map,List.getElem?_eq_getElem hi];rfl,ij,dC rj⟩
 refine qY (I.ok.hd hc) hu ua zV (by rw [hz,hlen];exact o5) LX ht fun S h' tk e p hS Ew hp hs hl=>?_
 rw [kL] at hl
 have RX:(p.toList.map fun i=>(as.map Value.ref).getD i Value.none) = (p.toList.map fun i=>as.getD i 0).map Value.ref:=by
  rw [List.map_map]
  refine List.map_congr_left fun i hi=>?_
  have lF:i < as.length:=by
   have:=List.mem_range.mp (hp.pm.mem_iff.mp hi)
   omega
  simp [lF]
 rw [RX] at hl
 have Sn:d6 (aA X.K H) (p.toList.map fun i=>as.getD i 0) (bG cs):=by
  rw [<- hs]
  refine ⟨by simp,fun j a c h1 h2=>?_⟩
  rw [List.getElem?_map] at h1 h2
  cases hj:p.toList[j]? with
  | none=>rw [hj] at h1;cases h1
  | some i =>
   rw [hj] at h1 h2
   have lF:i < as.length:=by
    have:=List.mem_range.mp (hp.pm.mem_iff.mp (List.mem_of_getElem? hj))
    omega
   cases h1
   cases h2
   exact hk.tup i _ _ (by simp [lF]) (by simp [show i < cs.length by omega])
 have LJ:∀ l:List Addr,Vals (l.map V.ref) (l.map Value.ref):=fun l=>by
  induction l with
  | nil=>exact .nil
  | cons a l ih=>exact .cons rfl ih
 have hsz:sizeLine = 16777216:=sizeLine_eq
 obtain ⟨hn,I'⟩:=Inv.El (t':=tk) (o:=.lst ((p.toList.map fun i=>as.getD i 0).map V.ref)) I Ew hS ⟨by rw [List.length_map,List.length_map,Array.length_toList,hp.sz];omega,_,e,LJ _,hl⟩
 exact ⟨.ref S,_,I',rfl,q S _ hn Sn⟩
noncomputable def i5 (xs:List D):O D:=match one xs with
 | some d=>match fS d with
  | some z=>if z.1.length < 64 then ok (.lst .ow ((bG z.1).map fq)) else none
  | none=>none
 | none=>none
theorem xG {xs:List D} {r:D} (h:i5 xs = ok r):∃ f cs vs,xs = [.cc f cs vs] /\ cs.length < 64 /\ r = .lst .ow ((bG cs).map fq):=by
 unfold i5 at h
 cases h1:one xs with
 | none=>rw [h1] at h;cases h
 | some d =>
  rw [h1] at h
  have h:(match fS d with | some z=>if z.1.length < 64 then ok (D.lst .ow ((bG z.1).map fq)) else none | none=>none) = ok r:=h
  cases h2:fS d with
  | none=>rw [h2] at h;cases h
  | some z =>
   rw [h2] at h
   obtain ⟨hl,rfl⟩:=nM (show (if z.1.length < 64 then ok (D.lst .ow ((bG z.1).map fq)) else none) = ok r from h)
   obtain ⟨f,e⟩:=jL h2
   exact ⟨f,z.1,z.2,by rw [cB h1,e],hl,rfl⟩
theorem oT {T:iL} {N:gC}:∀ {bs:List Addr} {cs:List (List Int)} {k:aE} {n:Nat},d6 T bs cs -> af T N k n (bs.map V.ref) (cs.map fq)
 | [],[],_,_,_=>.nil
 | [],_ :: _,_,_,h=>by have:=h.len;simp at this
 | _ :: _,[],_,_,h=>by have:=h.len;simp at this
 | b :: bs,c :: cs,_,_,h=>.cons (uW (h.tup 0 b c rfl rfl)) (oT ⟨by have:=h.len;simpa using this,fun j a c' h1 h2=>h.tup (j + 1) a c' h1 h2⟩)
theorem Av {Φ:az} {n:Nat} (hΦ:Φ n = i5) {X:Cx} {sc:Scope} {bl:List Str} {k:Nat} (L:PX X sc bl k) {e:Expr} {args:List Expr} (he:ko ("sorted" : Str) sc bl e = some args) {F:Addr -> Prop} {cs:List CE} (hs:kP X F Φ cs args):PE X e (tD X F Φ (.cj n cs)) /\ PT X e (fL X F Φ (.cj n cs)):=by
 obtain ⟨p,pos,a,rfl,rfl,h1,h2⟩:=pj he
 cases cs with
 | nil=>exact hs.elim
 | cons c cs=>cases cs with
  | cons _ _=>exact hs.2.2.2.elim
  | nil =>
   have pa:PA X [a] (qV X F Φ [c]):=PA.imp (dQ hs.1 (PA.imp gN fun _ _ _ h=>js h) (hs.2.1 _)) fun _ _ _ h=>fO h
   have hu:X.A.units + 2 < cLine:=Nat.lt_of_le_of_lt (Nat.add_le_add_left (by decide:2 <= 64) _) L.room.units
   have this:PE X (.Call (.Name ("sorted" : Str) p) [a] [] pos) (tD X F Φ (.cj n [c])):=by
    refine PE.imp (d3 (uD L.calm hu) (L.gl h1) (L.bl _ h2) (by decide +kernel) pa (he:=hs.2.1 _)) fun σ H Q hq=>?_
    obtain ⟨R,τ,ρ,d,Si,ev,hq⟩:=hq
    obtain ⟨xs,bP,ev⟩:=ae ev
    rw [hΦ] at ev
    obtain ⟨f,ks,vs,rfl,hl,rfl⟩:=xG ev
    refine ⟨R,τ,ρ,_,Si,bP,fun us H1 e1 r1=>?_⟩
    obtain ⟨τt,fr,rs⟩:=r1
    obtain ⟨v,rfl,rv⟩:=rs.one
    cases rv with
    | cc hn hk hr =>
     refine ⟨_,ks,_,_,_,rfl,hn.dat,hk,hl,fun l bs o4 Sn=>hq _ _ (e1.trans (aj.upd o4)) (bt.p3 (e1.free o4) (e1.trans (aj.upd o4)) aB ?_)⟩
     exact oT (Sn.imp fun _ _ h=>aA.same (aj.upd o4) h)
   exact ⟨this,cg this fun _=>rfl⟩
end DI
end
section
namespace DI
open PySem PySem.Spec PyProof.Rows L2
noncomputable def sg (ks:List Int):List (List Int):=ks.map fun k=>[k]
noncomputable def aY (ks:List Int) (k:Int):List Int:=if k ∈ ks then ks else ks ++ [k]
theorem pO {ks:List Int} {k:Int}:[k] ∈ sg ks ↔ k ∈ ks:=by unfold sg;simp
noncomputable abbrev Vu (z:Int × Tok × Value):DictEntry:=⟨hashInt z.1,.int z.1 z.2.1,z.2.2⟩
section
variable {P:Program} {w:World}
theorem yR:∀ zs:List (Int × Tok × Value),Pairs (intKind P w) (zs.map Vu) (zs.map fun z=>(z.1,z.2.2))
 | []=>.nil
 | z :: zs=>.cons (by simp [intKind,Value.isInt]) rfl (yR zs)
theorem JK {es:List DictEntry} {dc:List (Int × Value)} (h:Pairs (intKind P w) es dc):(∀ e ∈ es,∃ k,(intKind P w).is k e.key = true /\ e.hash = hashInt k) -> ∃ zs:List (Int × Tok × Value),(zs.map fun z=>(z.1,z.2.2)) = dc /\ es = zs.map Vu:=by
 induction h with
 | nil=>exact fun _=>⟨[],rfl,rfl⟩
 | @cons e kv es dc h1 h2 _ ih =>
  intro hk
  obtain ⟨zs,e1,e2⟩:=ih fun x hx=>hk x (List.mem_cons_of_mem _ hx)
  obtain ⟨t,ht⟩:=Value.isInt_shape (show Value.isInt kv.1 e.key = true from h1)
  obtain ⟨k,k1,k2⟩:=hk e List.mem_cons_self
  have Y3:k = kv.1:=Value.isInt_inj _ _ _ k1 h1
  subst Y3
  refine ⟨(kv.1,t,kv.2) :: zs,by rw [List.map_cons,e1],?_⟩
  rw [List.map_cons,e2]
  congr 1
  obtain ⟨a,b,c⟩:=e
  simp only at ht h2 k2
  rw [ht,h2,k2]
end
theorem gE:∀ (dc:List (Int × Value)) (k:Int),valueAt dc k = aU (sg (dc.map (·.1))) (dc.map (·.2)) [k]
 | [],_=>rfl
 | kv :: dc,k=>by
  have ih:=gE dc k
  unfold valueAt at ih ⊢
  rw [List.find?_cons]
  show _ = if [kv.1] = [k] then some kv.2 else aU (sg (dc.map (·.1))) (dc.map (·.2)) [k]
  by_cases e:kv.1 = k
  ·rw [decide_eq_true e,if_pos (by rw [e])];rfl
  ·rw [decide_eq_false e,if_neg (by simpa using e)];exact ih
theorem any_keys {dc:List (Int × Value)} {k:Int}:(dc.any fun kv=>decide (kv.1 = k)) = true ↔ k ∈ dc.map (·.1):=by
 rw [List.any_eq_true,List.mem_map]
 constructor
 ·rintro ⟨x,h1,h2⟩;exact ⟨x,h1,by simpa using h2⟩
 ·rintro ⟨x,h1,h2⟩;exact ⟨x,h1,by simpa using h2⟩
theorem pI (dc:List (Int × Value)) (k:Int) (v:Value):(stored dc k v).map (·.1) = aY (dc.map (·.1)) k:=by
 unfold stored aY
 by_cases h:k ∈ dc.map (·.1)
 ·rw [if_pos (any_keys.mpr h),if_pos h,List.map_map]
  refine List.map_congr_left fun z _=>?_
  show (if z.1 = k then (z.1,v) else z).1 = z.1
  split <;> rfl
 ·rw [if_neg (fun z=>h (any_keys.mp z)),if_neg h,List.map_append];rfl
theorem pH (dc:List (Int × Value)) (k:Int) (v:Value):(stored dc k v).map (·.2) = aI (sg (dc.map (·.1))) (dc.map (·.2)) [k] v:=by
 unfold stored aI
 by_cases h:k ∈ dc.map (·.1)
 ·rw [if_pos (any_keys.mpr h),if_pos (pO.mpr h)]
  clear h
  induction dc with
  | nil=>rfl
  | cons z dc ih =>
   rw [List.map_cons,List.map_cons,ih]
   show _ = (if [z.1] = [k] then v else z.2) :: setC (sg (dc.map (·.1))) (dc.map (·.2)) [k] v
   by_cases e:z.1 = k
   ·rw [if_pos e,if_pos (by rw [e])]
   ·rw [if_neg e,if_neg (by simpa using e)]
 ·rw [if_neg (fun z=>h (any_keys.mp z)),if_neg (fun z=>h (pO.mp z)),List.map_append];rfl
section
variable {X:Cx} {pins:List (Addr × Obj)} {σ:St} {H:Hp} {s:Shared} {p:Addr} {ks:List Int} {xs:List V} {ep:Nat} {A:Around} {E:Value -> Shared -> Prop}
theorem mH (I:Inv X pins σ H s) (h:H p = some (.ext (IO p ks xs ep))) :
  ∃ dc:List (Int × Value),s.heap.DictOf (intKind X.prog X.w) p dc /\ dc.map (·.1) = ks /\ Vals xs (dc.map (·.2)) /\ ks.length <= sizeLine /\ (p == sysModules) = false:=by
 obtain ⟨⟨zs,o,es,e1,e2,ho,hx,hd,he,hn,hl,hs⟩,_⟩:=(show bV X.prog X.w H s.heap p (.ext (IO p ks xs ep)) from I.cQ p _ h)
 refine ⟨zs.map fun z=>(z.1,z.2.2),⟨o,es,ep,ho,hx,hd,fun e hm=>?_,?_,?_⟩,?_,?_,hl,hs⟩
 ·have:e ∈ es.toList:=by simpa using hm
  rw [he] at this
  obtain ⟨z,_,rfl⟩:=List.mem_map.mp this
  exact ⟨z.1,by simp [intKind,Value.isInt],rfl⟩
 ·rw [he];exact yR zs
 ·rw [List.map_map];exact e1 ▸ hn
 ·rw [List.map_map];exact e1
 ·rw [List.map_map];exact e2
theorem xn (I:Inv X pins σ H s) (h:H p = some (.ext (IO p ks xs ep))):s.TypeIs (.ref p) "dict" /\ ∀ b,Value.ref p = .ref b -> ∃ ob,s.heap.get? b = some ob /\ ob.dict = none:=by
 obtain ⟨⟨zs,o,es,e1,e2,ho,hx,_⟩,_⟩:=(show bV X.prog X.w H s.heap p (.ext (IO p ks xs ep)) from I.cQ p _ h)
 exact ⟨⟨o,ho,hx.1⟩,fun b q=>by cases q;exact ⟨o,ho,hx.2.1⟩⟩
theorem RF (k:Int) (t:Tok):(intKind X.prog X.w).is k (.int k t) = true:=by simp [intKind,Value.isInt]
theorem CK {k:Int} {t:Tok} {d:V} {r:Value} {Q:Value -> Shared -> Prop} (I:Inv X pins σ H s) (h:H p = some (.ext (IO p ks xs ep))) (rd:RelV d r) (hQ:∀ w' s',Inv X pins σ H s' -> RelV ((aU (sg ks) xs [k]).getD d) w' -> Q w' s') :
  wpAny (model X.prog X.w) A (call (.builtin "dict.get") [.ref p,.int k t,r]) Q E s:=by
 obtain ⟨dc,dd,e1,e3,hl,hs⟩:=mH I h
 refine call_meetsIn PySem.F.slot_dict_get dd.typeIs PySem.F.entry_dict_get (PySem.F.args_dict_get_3 _ _ _) (meets_dict_get_default (intKind X.prog X.w) (k:=k) p (RF k t) hs r) ⟨valueAt dc,dd.mapOf,hQ _ _ (I.tok _) ?_⟩
 rw [gE,e1]
 have hg:=gF (cs:=sg ks) e3 [k]
 cases q:aU (sg ks) xs [k] with
 | none =>
  rw [q] at hg
  rw [jX.none_of hg]
  exact rd
 | some v =>
  rw [q] at hg
  obtain ⟨u,CN,ru⟩:=jX.some_of hg
  rw [CN]
  exact ru
theorem t_ {k:Int} {t:Tok} {v:V} {r:Value} {Q:Unit -> Shared -> Prop} (I:Inv X pins σ H s) (h:H p = some (.ext (IO p ks xs ep))) (rv:RelV v r) (fQ:ks.length < sizeLine)
  (hQ:∀ k_ s',Inv X pins σ (upd H p (.ext (IO p (aY ks k) (aI (sg ks) xs [k] v) k_))) s' -> Q () s') :
  wpAny (model X.prog X.w) A (setItem (.ref p) (.int k t) r) Q E s:=by
 obtain ⟨dc,dd,e1,e3,hl,hs⟩:=mH I h
 have hz:dc.length <= sizeLine:=by rw [<- e1,List.length_map] at hl;exact hl
 refine wpAny_setItem_pairs (hsz:=hz) (RF k t) dd fun h' TN xo=>?_
 obtain ⟨q,Ii,k_,hq,h2,h3,h4,h5,h6⟩:=TN
 obtain ⟨zs,z1,z2⟩:=JK h5 fun e he=>h4 e (by simpa using he)
 have k1:zs.map (·.1) = aY ks k:=by
  rw [<- e1,<- pI dc k r,<- z1,List.map_map];rfl
 have k2:zs.map (·.2.2) = aI (sg ks) (dc.map (·.2)) [k] r:=by
  rw [<- e1,<- pH dc k r,<- z1,List.map_map];rfl
 refine hQ k_ _ (I.write (x:=p) (e:=p) (by rw [h];exact True.intro) (.inl rfl) (fun b q hb z=>(xo.2 b hb).trans z) ⟨q,hq⟩ ⟨⟨zs,q,Ii,k1,?_,hq,h2,h3,z2,?_,?_,hs⟩,⟨q,hq⟩,?_⟩)
 ·rw [k2];exact qP e3 rv
 ·rw [<- k1]
  have:zs.map (·.1) = (stored dc k r).map (·.1):=by rw [<- z1,List.map_map];rfl
  rw [this];exact h6
 ·unfold aY;split
  ·exact hl
  ·rw [List.length_append,List.length_singleton];omega
 ·rintro h1 SS ⟨DT,o',es'',f1,f2,f4,f5⟩ kk
  exact ⟨DT,o',es'',f1,f2,kk _ f4,f5⟩
theorem B8 {pos:Pos}:PE X (.Dict [] [] pos) (fun _ H Q=>∀ p,H p = none -> Q (.ref p) (upd H p (.ext (IO p [] [] 0)))):=fun pins s σ H Q I h=>by
 have Hr:sysModules < s.heap.objs.size:=Nat.lt_trans (by decide) (show mainGlobals < s.heap.objs.size from (I.mod.glob.keeps I.bk).lt)
 refine wpAny_Dict_empty ⟨.ref s.heap.objs.size,_,I.laid (a:=s.heap.objs.size) (o:=.ext (IO s.heap.objs.size [] [] 0)) (t':=s.toks) (fun _ _ q=>Heap.get?_push_of_some _ q) (Nat.le_refl _) ?_,rfl,h _ (I.cQ.fresh (Nat.le_refl _))⟩
 have hg:(s.heap.push { cls:=.type "dict",data:=.dict #[] }).get? s.heap.objs.size = some { cls:=.type "dict",data:=.dict #[] }:=Heap.get?_push_size _ rfl
 refine ⟨⟨[],_,#[],rfl,.nil,hg,⟨rfl,rfl,rfl⟩,rfl,rfl,List.nodup_nil,Nat.zero_le _,beq_eq_false_iff_ne.mpr (Ne.symm (Nat.ne_of_lt Hr))⟩,⟨_,hg⟩,?_⟩
 rintro h1 SS ⟨DT,o',es'',f1,f2,f4,f5⟩ kk
 exact ⟨DT,o',es'',f1,f2,kk _ f4,f5⟩
theorem B1 (I:Inv X pins σ H s) (h:H p = some (.ext (IO p ks xs ep))):∃ es:Array DictEntry,nE s.heap p es ep /\ es.size = ks.length /\ IntsAre (es.toList.map (·.key)) ks /\ (p == sysModules) = false:=by
 obtain ⟨⟨zs,o,es,e1,e3,ho,hx,hd,he,hn,hl,hs⟩,_⟩:=(show bV X.prog X.w H s.heap p (.ext (IO p ks xs ep)) from I.cQ p _ h)
 refine ⟨es,⟨o,ho,hx,hd⟩,?_,?_,hs⟩
 ·rw [<- Array.length_toList,he,<- e1,List.length_map,List.length_map]
 ·rw [he,<- e1,List.map_map]
  clear he e1 e3
  induction zs with
  | nil=>exact .nil
  | cons z zs ih=>exact .cons z.1 z.2.1 ih
end
section
variable {prog:Program} {w:World} {A:Around} {E:Value -> Shared -> Prop} {s:Shared}
theorem pL {d:Addr} {es:Array DictEntry} {ep:Nat} {ns:List Int} {Q:Value -> Shared -> Prop} (hh:A.handled = none) (lo:(d == sysModules) = false) (hm:nE s.heap d es ep) (o5:es.size < 64) (hi:IntsAre (es.toList.map (·.key)) ns)
  (h:∀ (S:Addr) (h':Heap) (tk e:Nat) (out:Array Value) (gD:List Int),s.heap.get? S = none -> (∀ b o,s.heap.get? b = some o -> h'.get? b = some o) -> IntsAre out.toList gD -> gD.Perm ns -> gD.Pairwise (· <= ·) ->
   h'.get? S = some (seqObj "list" out e) -> Q (.ref S) { s with heap:=h',toks:=tk }) :
  wpAny (model prog w) A (call (.builtin "sorted") [.ref d]) Q E s:=by
 refine Calls.call_function_entry kind_sorted plain_sorted entry_sorted (args_sorted1 _) ?_
 unfold Builtin.«sorted»
 have hz:es.size <= sizeLine:=by rw [sizeLine_eq];omega
 refine wpAny_bind (m:=checkCount "sorted" 1 1 _) (wpAny_pure (wpAny_bind (PySem.W.kdu_collect (A:=A.in1) (Ay lo) hh hm hz fun h1 tk acc hk eV=>?_)))
 have Af:acc.toList = es.toList.map (·.key):=by
  refine List.ext_getElem? fun i=>?_
  rw [List.getElem?_map,Array.getElem?_toList,Array.getElem?_toList]
  by_cases hi:i < es.size
  ·have L5:i < acc.size:=by rw [eV.1];exact hi
   obtain ⟨e,he,hv⟩:=eV.2 i acc[i] (Array.getElem?_eq_getElem L5)
   rw [Array.getElem?_eq_getElem L5,he,hv];rfl
  ·rw [Array.getElem?_eq_none (by rw [eV.1];omega),Array.getElem?_eq_none (by omega)];rfl
 rw [Af]
 generalize LI:es.toList.map (·.key) = vs at *
 have CM:vs.length = es.size:=by rw [<- LI];simp
 refine wpAny_bind (wpAny_newList ?_ (by rw [CM];exact hz))
 show wpAny _ _ _ _ _ ({ s with heap:=h1.push (seqObj "list" vs.toArray 0),toks:=tk }:Shared)
 have CP:(h1.push (seqObj "list" vs.toArray 0)).get? h1.objs.size = some (seqObj "list" vs.toArray 0):=Heap.get?_push_size _ rfl
 have hle:s.heap.get? h1.objs.size = none:=by
  cases q:s.heap.get? h1.objs.size with
  | none=>rfl
  | some o=>exact absurd (Heap.lt_size (hk _ o q)) (Nat.lt_irrefl _)
 refine wpAny_bind (wpAny_holding (wpAny_call_entry slot_list_sort ⟨_,CP,rfl⟩ entry_list_sort (list_sort_tree (s:={ s with heap:=h1.push (seqObj "list" vs.toArray 0),toks:=tk }) CP hi (by rw [CM];exact o5) fun out gD a1 a2 a3=>⟨_,rfl,?_⟩) (args_list_sort _)))
 obtain ⟨e,he⟩:=sortedHeap_at (out:=out) CP
 refine wpAny_pure ⟨_,rfl,h h1.objs.size _ tk e out gD hle (fun b o e=>?_) a1 a2 a3 he⟩
 have fQ:=Heap.lt_size (hk b o e)
 rw [sortedHeap_old (Nat.ne_of_lt fQ) (by rw [size_push'];exact Nat.lt_succ_of_lt fQ)]
 exact Heap.get?_push_of_some _ (hk b o e)
end
theorem uC {X:Cx} (hc:X.calm = true):e_ X (.builtin "sorted") (fun xs H Q=>∃ (d:Addr) (ks:List Int) (ys:List V) (ep:Nat),xs = [.ref d] /\ H d = some (.ext (IO d ks ys ep)) /\ ks.length < 64 /\
  ∀ (l:Addr),H l = none -> Q (.ref l) (upd H l (.lst ((sortI ks).map V.int)))):=by
 intro pins s σ H xs us Q I r h
 obtain ⟨d,ks,ys,ep,rfl,hd,o5,q⟩:=h
 obtain ⟨u,rfl,ru⟩:=r.one
 cases ru
 obtain ⟨es,zV,hz,hi,ua⟩:=B1 I hd
 refine pL (I.ok.hd hc) ua zV (by rw [hz];exact o5) hi fun S h' tk e out gD hS Ew h1 h2 h3 hl=>?_
 obtain rfl:gD = sortI ks:=PySem.W.ksm_same (h2.trans (sortI_perm ks).symm) h3 (qZ ks)
 have hsz:sizeLine = 16777216:=sizeLine_eq
 obtain ⟨hn,I'⟩:=Inv.El (t':=tk) (o:=.lst ((sortI ks).map V.int)) I Ew hS ⟨by rw [List.length_map,(sortI_perm ks).length_eq];omega,out.toList,e,ip h1,by simpa using hl⟩
 exact ⟨.ref S,_,I',rfl,q S hn⟩
end DI
end
section
namespace DI
open PySem PySem.Spec PyProof.Rows L2
noncomputable def vA:D -> Option (List Int × List D)
 | .bx _ ks vs=>some (ks,vs)
 | _=>none
theorem mI {d:D} {z:List Int × List D} (h:vA d = some z):∃ f,d = .bx f z.1 z.2:=by
 cases d <;> first | (cases h;done) | (cases h;exact ⟨_,rfl⟩)
noncomputable def intOf:D -> Option Int
 | .int k=>some k
 | _=>none
theorem mG {d:D} {k:Int} (h:intOf d = some k):d = .int k:=by
 cases d <;> first | (cases h;done) | (cases h;rfl)
noncomputable def iW {α:Type} (o:Option α) (f:α -> O D):O D:=match o with
 | some a=>f a
 | none=>none
theorem c_ {α:Type} {o:Option α} {f:α -> O D} {r:D} (h:iW o f = ok r):∃ a,o = some a /\ f a = ok r:=by
 cases o with
 | none=>cases h
 | some a=>exact ⟨a,rfl,h⟩
theorem bt.QZ {K:PySem.W.Frag} {G R:Addr -> Prop} {τ:Addr -> Option aE} {fv:List Nat} {H H':Hp} {p:Addr} (hp:H p = none) (hl:H' p = some (.ext (IO p [] [] 0))):bt K G R τ fv H H' (.ref p) (.bx .ow [] []):=by
 refine ⟨fun q=>if q = p then some [] else none,fun q k hq=>?_,.bx (ep:=0) (xs:=[]) ⟨hl,by simp⟩ .nil⟩
 by_cases qM:q = p
 ·subst qM;exact hp
 ·simp [qM] at hq
noncomputable def oZ (xs:List D):O D:=match xs with
 | []=>ok (.bx .ow [] [])
 | _ :: _=>none
theorem CF {Φ:az} {n:Nat} (hΦ:Φ n = oZ) {X:Cx} {sc:Scope} {bl:List Str} {k:Nat} (L:PX X sc bl k) {e:Expr} {args:List Expr} (he:iz sc bl e = some args) {F:Addr -> Prop} {cs:List CE} (hs:kP X F Φ cs args):PE X e (tD X F Φ (.cj n cs)) /\ PT X e (fL X F Φ (.cj n cs)):=by
 have h1:∃ pos,e = .Dict [] [] pos /\ args = []:=by
  unfold iz at he
  split at he
  ·cases he;exact ⟨_,rfl,rfl⟩
  ·cases he
 obtain ⟨pos,rfl,rfl⟩:=h1
 cases cs with
 | cons _ _=>exact hs.elim
 | nil =>
  have this:PE X (.Dict [] [] pos) (tD X F Φ (.cj n [])):=by
   refine PE.imp (B8 (X:=X) (pos:=pos)) fun σ H Q hq p hp=>?_
   obtain ⟨R,τ,ρ,d,Si,ev,hq⟩:=hq
   have ev:Φ n [] = ok d:=ev
   rw [hΦ] at ev
   cases ev
   exact hq _ _ (aj.upd hp) (bt.QZ hp aB)
  exact ⟨this,cg this fun _=>rfl⟩
noncomputable def t8 (xs:List D):O D:=iW (two xs) fun z=>iW (vA z.1) fun d=>iW (intOf z.2) fun k=>iW (aU (sg d.1) d.2 [k]) fun v=>if aq anyF v = false then ok v else none
theorem CG {xs:List D} {r:D} (h:t8 xs = ok r):∃ f ks vs k,xs = [.bx f ks vs,.int k] /\ aU (sg ks) vs [k] = some r /\ aq anyF r = false:=by
 obtain ⟨z,h1,h⟩:=c_ h
 obtain ⟨d,h2,h⟩:=c_ h
 obtain ⟨k,h3,h⟩:=c_ h
 obtain ⟨v,h4,h⟩:=c_ h
 obtain ⟨hf,rfl⟩:=nM h
 obtain ⟨f,e1⟩:=mI h2
 exact ⟨f,d.1,d.2,k,by rw [gH h1,e1,mG h3],h4,hf⟩
noncomputable def PF:R2:=fun x y H Q=>∃ p ks xs ep k v,x = .ref p /\ y = .int k /\ H p = some (.ext (IO p ks xs ep)) /\ aU (sg ks) xs [k] = some v /\ Q v H
theorem zJ {X:Cx}:DQ X PF:=by
 intro value slice pins s σ H x y v u Q I rx ry h hs
 obtain ⟨p,ks,xs,ep,k,w,rfl,rfl,hp,hg,q⟩:=h
 cases rx
 obtain ⟨t,rfl⟩:=ry
 obtain ⟨dc,dd,e1,e3,hl,ua⟩:=mH I hp
 have L6:=gF (cs:=sg ks) e3 [k]
 rw [hg] at L6
 obtain ⟨u,CN,ru⟩:=jX.some_of L6
 exact subscriptTail_builtinR (x:=u) dd.typeIs PySem.F.slot_dict_getitem.lookup
  (wpAny_getItem_of (Q:=fun r s'=>r = u /\ EP X pins σ Q r s') (RF k t) dd.mapOf (by rw [gE,e1];exact CN) ⟨rfl,w,H,I.tok _,ru,q⟩) hs
theorem Hc {Φ:az} {n:Nat} (hΦ:Φ n = t8) {X:Cx} {sc:Scope} {bl:List Str} {k:Nat} (L:PX X sc bl k) {e:Expr} {args:List Expr} (he:kr sc bl e = some args) {F:Addr -> Prop} {cs:List CE} (hs:kP X F Φ cs args):PE X e (tD X F Φ (.cj n cs)) /\ PT X e (fL X F Φ (.cj n cs)):=by
 unfold kr at he
 cases h1:iU e with
 | none=>rw [h1] at he;cases he
 | some z =>
  rw [h1] at he
  cases he
  obtain ⟨pos,rfl⟩:=fY h1
  obtain ⟨⟨c1,c2,rfl,p1,p2⟩,_⟩:=gM hs
  have this:PE X (.Subscript z.1 z.2 pos) (tD X F Φ (.cj n [c1,c2])):=by
   refine PE.imp (ve zJ p1 p2 hs.2.2.2.2.2.1) fun σ H Q hq=>?_
   obtain ⟨R,τ,ρ,d,Si,ev,hq⟩:=hq
   obtain ⟨xs,bP,ev⟩:=ae ev
   rw [hΦ] at ev
   obtain ⟨f,ks,vs,c,rfl,hg,hf⟩:=CG ev
   obtain ⟨x,ex,bP⟩:=ae bP
   obtain ⟨ys,om,bP⟩:=ae bP
   obtain ⟨y,ey,Ih⟩:=ae om
   cases Ih
   cases bP
   refine tD.intro Si ex fun v H1 e1 r1=>tD.intro (Si.go e1) ey fun u H2 e2 r2=>?_
   obtain ⟨τ1,f1,q1⟩:=r1
   obtain ⟨τ2,f2,q2⟩:=r2
   cases q1 with
   | bx hn hr =>
    cases q2
    rcases gK hr [c] with ⟨_,hz⟩ | ⟨w,d',k',g1,g2,g3,_⟩
    ·rw [hg] at hz;cases hz
    ·rw [hg] at g2
     cases g2
     refine ⟨_,_,_,_,c,w,rfl,rfl,e2 _ _ hn.LC,g1,hq w H2 (e1.trans e2) ⟨fun _=>none,fun _ _ h=>by simp at h,?_⟩⟩
     exact (dO (N':=nd X.K R (iK (gP X F) τ (fM (.cj n [c1,c2]))) (fun _=>none) H1) (k':=[]) g3 hf).imp (fun _ _ h=>aA.same e2 h) fun _ _ _ _ h=>nd.same e2 h
  exact ⟨this,cg this fun _=>rfl⟩
noncomputable def jE (xs:List D):O D:=iW (three xs) fun z=>iW (vA z.1) fun d=>iW (intOf z.2.1) fun k=>if ao anyF d.2 = false /\ aq anyF z.2.2 = false then ok ((aU (sg d.1) d.2 [k]).getD z.2.2) else none
theorem zS {xs:List D} {r:D} (h:jE xs = ok r):∃ f ks vs k x,xs = [.bx f ks vs,.int k,x] /\ ao anyF vs = false /\ aq anyF x = false /\ r = (aU (sg ks) vs [k]).getD x:=by
 obtain ⟨z,h1,h⟩:=c_ h
 obtain ⟨d,h2,h⟩:=c_ h
 obtain ⟨k,h3,h⟩:=c_ h
 obtain ⟨⟨hf,hx⟩,rfl⟩:=nM h
 obtain ⟨f,e1⟩:=mI h2
 exact ⟨f,d.1,d.2,k,z.2.2,by rw [jq h1,e1,mG h3],hf,hx,rfl⟩
theorem w4 {X:Cx} {x:Str} {p p1 p2:Pos} {a b:Expr} {td:TE} {ta:TA} (ho:PE X (.Name x p) td) (ha:PA X [a,b] ta) (s1:∀ es,starEach (a :: es) X.env = (false,eval a X.env) :: starEach es X.env) (s2:∀ es,starEach (b :: es) X.env = (false,eval b X.env) :: starEach es X.env) (hl:(p1.endLine == p2.line) = true) :
  PE X (.Call (.Attribute (.Name x p) ("get" : Str) p1) [a,b] [] p2) (fun σ H Q=>td σ H fun v H1=>∃ q ks xs ep,v = .ref q /\ H1 q = some (.ext (IO q ks xs ep)) /\ ta σ H1 fun ys H2=>∃ k z,ys = [.int k,z] /\ H2 q = some (.ext (IO q ks xs ep)) /\ Q ((aU (sg ks) xs [k]).getD z) H2):=by
 intro pins s σ H Q I h
 refine wpAny_Call_method rfl (by rw [s1,s2];rfl) hl PySem.F.plainAttrs_dict PySem.F.slot_dict_get PySem.F.type_dict_get (cI (ho pins s σ H _ I h) fun u Pq ⟨v,H1,I1,rx,q,ks,xs,ep,ex,hd,q1⟩=>?_)
 subst ex
 obtain rfl:u = Value.ref q:=rx
 obtain ⟨t1,t2⟩:=xn I1 hd
 refine ⟨t1,t2,?_⟩
 have hA:=ha p2 pins Pq σ H1 _ I1 q1
 rw [s1] at hA ⊢
 refine Calls.callWith_builtin (by show (false || (backTo p2 (starEach [b] X.env)).any (·.1)) = false;rw [s2];rfl) (Calls.evalArgs_plain ?_)
 refine cI hA fun us s3 ⟨ys,H2,I2,r2,k,z,ey,hd2,q2⟩=>?_
 subst ey
 obtain ⟨w1,w2,rfl,Pu,Pt⟩:=vals2 r2
 obtain ⟨t,rfl⟩:=Pu
 exact CK I2 hd2 Pt fun w' s4 I4 jw=>⟨_,H2,I4,jw,q2⟩
theorem CH {Φ:az} {n:Nat} (hΦ:Φ n = jE) {X:Cx} {sc:Scope} {bl:List Str} {k:Nat} (L:PX X sc bl k) {e:Expr} {args:List Expr} (he:iA sc bl e = some args) {F:Addr -> Prop} {cs:List CE} (hs:kP X F Φ cs args):PE X e (tD X F Φ (.cj n cs)) /\ PT X e (fL X F Φ (.cj n cs)):=by
 obtain ⟨x,p,p1,p2,a,b,rfl,rfl,hl⟩:=nq he
 cases cs with
 | nil=>exact hs.elim
 | cons c0 cs =>
  obtain ⟨h0,_,_,Jk⟩:=hs
  obtain ⟨⟨c1,c2,rfl,_,_⟩,pa,s1,s2⟩:=gM Jk
  have this:PE X (.Call (.Attribute (.Name x p) ("get" : Str) p1) [a,b] [] p2) (tD X F Φ (.cj n [c0,c1,c2])):=by
   refine PE.imp (w4 h0 pa s1 s2 hl) fun σ H Q hq=>?_
   obtain ⟨R,τ,ρ,d,Si,ev,hq⟩:=hq
   obtain ⟨xs,bP,ev⟩:=ae ev
   rw [hΦ] at ev
   obtain ⟨f,ks,vs,c,y,rfl,hf,hy,rfl⟩:=zS ev
   obtain ⟨x0,ex,bP⟩:=ae bP
   obtain ⟨ys,om,bP⟩:=ae bP
   cases bP
   refine tD.intro Si ex fun v H1 e1 r1=>?_
   obtain ⟨τ1,f1,q1⟩:=r1
   cases q1 with
   | bx hn hr =>
    refine ⟨_,_,_,_,rfl,hn.LC,R,τ,ρ,_,Si.go e1,om,fun us H2 e2 r2=>?_⟩
    obtain ⟨τ2,f2,q2⟩:=r2
    obtain ⟨u1,u2,rfl,Ku,Kt⟩:=q2.two
    cases Ku
    refine ⟨c,u2,rfl,e2 _ _ hn.LC,?_⟩
    refine hq _ H2 (e1.trans e2) ⟨fun _=>none,fun _ _ h=>by simp at h,?_⟩
    rcases gK hr [c] with ⟨g1,g2⟩ | ⟨w,d',k',g1,g2,g3,g4⟩
    ·rw [g1,g2]
     exact dO (T:=aA X.K H2) Kt hy
    ·rw [g1,g2]
     exact (dO (N':=nd X.K R (iK (gP X F) τ (fM (.cj n [c0,c1,c2]))) (fun _=>none) H1) (k':=[]) g3 (kf hf _ g4)).imp (fun _ _ h=>aA.same e2 h) fun _ _ _ _ h=>nd.same e2 h
  exact ⟨this,cg this fun _=>rfl⟩
noncomputable def Vn:D -> Option (List Int × List D)
 | .bx f ks vs=>if cG f then some (ks,vs) else none
 | _=>none
theorem Gp {d:D} {z:List Int × List D} (h:Vn d = some z):d = .bx .ow z.1 z.2:=by
 cases d <;> first | (cases h;done) | skip
 rename_i f ks vs
 have h:(if cG f then some (ks,vs) else none) = some z:=h
 cases f <;> first | (cases h;rfl) | (cases h;done)
noncomputable def jD (xs:List D):O D:=iW (three xs) fun z=>iW (Vn z.1) fun d=>iW (intOf z.2.2) fun k=>if aq anyF z.2.1 = false /\ d.1.length < dU then ok (.bx .ow (aY d.1 k) (aI (sg d.1) d.2 [k] z.2.1)) else none
theorem rX {d:D} {xs:List D} {r:D} (h:jD (d :: xs) = ok r):∃ ks vs k x,d = .bx .ow ks vs /\ xs = [x,.int k] /\ aq anyF x = false /\ ks.length < dU /\ r = .bx .ow (aY ks k) (aI (sg ks) vs [k] x):=by
 obtain ⟨z,h1,h⟩:=c_ h
 obtain ⟨e,h2,h⟩:=c_ h
 obtain ⟨k,h3,h⟩:=c_ h
 obtain ⟨⟨hx,hl⟩,rfl⟩:=nM h
 have e0:=jq h1
 obtain ⟨e1,e2⟩:=List.cons.inj e0
 exact ⟨e.1,e.2,k,z.2.1,by rw [e1,Gp h2],by rw [e2,mG h3],hx,hl,rfl⟩
theorem yO {X:Cx} {x:Str} {p0 pos' pos:Pos} {value i:Expr} {tv to ti:TE} (hv:PE X value tv) (ho:PE X (.Name x p0) to) (hi:PE X i ti) :
  PS X (.Assign [.Subscript (.Name x p0) i pos'] value pos) (fun D σ H=>tv σ H fun v H1=>to σ H1 fun o H2=>ti σ H2 fun y H3=>∃ q ks xs ep k,o = .ref q /\ y = .int k /\ H3 q = some (.ext (IO q ks xs ep)) /\ ks.length < sizeLine /\
   ∀ k_,D.nx σ (upd H3 q (.ext (IO q (aY ks k) (aI (sg ks) xs [k] v) k_)))):=by
 intro pins s σ H D I h
 refine wpAny_Assign_Subscript (cI (hv pins s σ H _ I h) fun r s1 ⟨v,H1,I1,rv,q1⟩=>cI (ho pins s1 σ H1 _ I1 q1) fun u s2 ⟨o,H2,I2,rx,q2⟩=>cI (hi pins s2 σ H2 _ I2 q2) fun iv s3 ⟨y,H3,I3,ry,q,ks,xs,ep,k,eo,ey,hd,hl,q3⟩=>?_) yr
 subst eo ey
 obtain rfl:u = Value.ref q:=rx
 obtain ⟨t,rfl⟩:=ry
 exact t_ I3 hd rv hl fun k_ s4 I4=>⟨σ,_,I4,q3 k_⟩
theorem SI.Qd {X:Cx} {F R:Addr -> Prop} {τ:Addr -> Option aE} {ρ:au} {σ:St} {H:Hp} {i:Nat} {ks:List Int} {ds:List D} (Si:SI X F R τ ρ σ H) (hi:ρ[i]? = some (some (.bx .ow ks ds))) :
  ∃ p xs ep,σ[i]? = some (some (.ref p)) /\ H p = some (.ext (IO p ks xs ep)) /\ τ p = some [i] /\ af (aA X.K H) (nd X.K R (fun _=>False) τ H) [i] 0 xs ds:=by
 obtain ⟨v,hv,rp⟩:=Si.rep i _ hi
 cases rp with
 | bx h r=>exact ⟨_,_,_,hv,h.1,h.2,r⟩
theorem CC {Φ:az} {n:Nat} (hΦ:Φ n = jD) {X:Cx} {sc:Scope} {bl:List Str} {k:Nat} (L:PX X sc bl k) (hN:X.N.Nodup) (sY:∀ x,X.fn x = true) {st:Stmt} {x:Str} {pos:Pos} {args:List Expr} (he:iy sc bl st = some (.Name x pos,args))
  {i:Nat} (hi:X.N[i]? = some x) (hl:L2.Loc X.env.scope x) (pe:PE X (.Name x pos) (tE i)) {F:Addr -> Prop} {cs:List CE} (hs:kP X F Φ cs args):PS X st (qL X F Φ (.mut n i cs)):=by
 obtain ⟨v,ix,p1,p2,rfl,rfl⟩:=nk he
 obtain ⟨⟨c1,c2,rfl,h1,h2⟩,_⟩:=gM hs
 refine PS.imp (yO h1 pe h2) fun D σ H hq=>?_
 obtain ⟨R,τ,ρ,r,Si,ev,hq⟩:=hq
 obtain ⟨xs,bP,ev⟩:=ae ev
 obtain ⟨y,ey,bP⟩:=ae bP
 obtain ⟨ys,om,bP⟩:=ae bP
 cases bP
 obtain ⟨kd,ek,Ih⟩:=ae om
 cases Ih
 have key:∃ ks vs c,kd = .int c /\ ρ[i]? = some (some (.bx .ow ks vs)) /\ aq anyF y = false /\ ks.length < dU /\ r = (.nx,ρ.set i (some (.bx .ow (aY ks c) (aI (sg ks) vs [c] y)))):=by
  cases hz:ao bp [y,kd] with
  | true =>
   obtain ⟨d,d',h⟩:=tR ev hz
   rw [hΦ] at h
   obtain ⟨ks,vs,c,x',_,e1,e2,_⟩:=rX h
   have e3:aD aK y = x' /\ aD aK kd = .int c:=by
    have:=List.cons.inj e1
    exact ⟨this.1,(List.cons.inj this.2).1⟩
   have a1:aq bp y = false:=nv y (by rw [<- any_map aK y,e3.1];exact e2)
   have a2:aq bp kd = false:=nv kd (by rw [<- any_map aK kd,e3.2];rfl)
   have:ao bp [y,kd] = false:=by show (aq bp y || (aq bp kd || false)) = false;rw [a1,a2];rfl
   rw [this] at hz;cases hz
  | false =>
   obtain ⟨d,d',h,h',rfl⟩:=lB ev hz
   rw [hΦ] at h'
   obtain ⟨ks,vs,c,x',rfl,e1,e2,e3,rfl⟩:=rX h'
   cases e1
   exact ⟨ks,vs,c,rfl,h,e2,e3,rfl⟩
 obtain ⟨ks,vs,c,rfl,ho,hf,hc,rfl⟩:=key
 obtain ⟨p,zs,ep,hv,hd,ht,rs⟩:=Si.Qd ho
 refine tD.intro Si ey fun u H1 e1 ru=>⟨.ref p,hv,tD.intro (Si.go e1) ek fun w H2 e2 jw=>?_⟩
 obtain ⟨τ1,f1,q1⟩:=ru
 obtain ⟨τ2,f2,q2⟩:=jw
 cases q2
 have es:=e1.trans e2
 have pB:=Si.go es
 have hd2:=es _ _ hd
 have mL:dU = 1000000:=rfl
 have hz:sizeLine = 16777216:=sizeLine_eq
 refine ⟨p,ks,zs,ep,c,rfl,rfl,hd2,by omega,fun k_=>?_⟩
 have hn:d5 H2 p (.ei ks zs ep):=hd2
 have rk:gB X R τ H2 u y:=jx ((dO (N':=nd X.K R (fun _=>False) τ H1) (k':=[]) q1 hf).imp (fun _ _ h=>aA.same e2 h) fun _ _ _ _ h=>nd.same e2 h) hf
 obtain ⟨τ3,sT⟩:=pB.FT (m:=0) (n':=.ei (aY ks c) (aI (sg ks) zs [c] u) k_) (o:=.ext (IO p (aY ks c) (aI (sg ks) zs [c] u) k_)) (d1:=.bx .ow (aY ks c) (aI (sg ks) vs [c] y)) (xs':=aI (sg ks) zs [c] u) (ds':=aI (sg ks) vs [c] y) ho hv hn ht (rs.imp (fun _ _ h=>aA.same es h) fun _ _ _ _ h=>nd.same es h) rk aB
  (fun hN r=>.bx hN r) (fun rs r=>rE (fun k=>dO r hf) rs)
 exact hq σ _ R τ3 sT (iX pB es (fun _ h=>h) hn ht)
noncomputable def iY (xs:List D):O D:=iW (one xs) fun d=>iW (vA d) fun z=>if z.1.length < 64 then ok (.lst .ow ((sortI z.1).map D.int)) else none
theorem xf {xs:List D} {r:D} (h:iY xs = ok r):∃ f ks vs,xs = [.bx f ks vs] /\ ks.length < 64 /\ r = .lst .ow ((sortI ks).map D.int):=by
 obtain ⟨d,h1,h⟩:=c_ h
 obtain ⟨z,h2,h⟩:=c_ h
 obtain ⟨hl,rfl⟩:=nM h
 obtain ⟨f,e⟩:=mI h2
 exact ⟨f,z.1,z.2,by rw [cB h1,e],hl,rfl⟩
theorem zM {Φ:az} {n:Nat} (hΦ:Φ n = iY) {X:Cx} {sc:Scope} {bl:List Str} {k:Nat} (L:PX X sc bl k) {e:Expr} {args:List Expr} (he:ko ("sorted" : Str) sc bl e = some args) {F:Addr -> Prop} {cs:List CE} (hs:kP X F Φ cs args):PE X e (tD X F Φ (.cj n cs)) /\ PT X e (fL X F Φ (.cj n cs)):=by
 obtain ⟨p,pos,a,rfl,rfl,h1,h2⟩:=pj he
 cases cs with
 | nil=>exact hs.elim
 | cons c cs=>cases cs with
  | cons _ _=>exact hs.2.2.2.elim
  | nil =>
   have pa:PA X [a] (qV X F Φ [c]):=PA.imp (dQ hs.1 (PA.imp gN fun _ _ _ h=>js h) (hs.2.1 _)) fun _ _ _ h=>fO h
   have this:PE X (.Call (.Name ("sorted" : Str) p) [a] [] pos) (tD X F Φ (.cj n [c])):=by
    refine PE.imp (d3 (uC L.calm) (L.gl h1) (L.bl _ h2) (by decide +kernel) pa (he:=hs.2.1 _)) fun σ H Q hq=>?_
    obtain ⟨R,τ,ρ,d,Si,ev,hq⟩:=hq
    obtain ⟨xs,bP,ev⟩:=ae ev
    rw [hΦ] at ev
    obtain ⟨f,ks,vs,rfl,hl,rfl⟩:=xf ev
    refine ⟨R,τ,ρ,_,Si,bP,fun us H1 e1 r1=>?_⟩
    obtain ⟨τt,fr,rs⟩:=r1
    obtain ⟨v,rfl,rv⟩:=rs.one
    cases rv with
    | bx hn hr =>
     exact ⟨_,ks,_,_,rfl,hn.LC,hl,fun l o4=>hq _ _ (e1.trans (aj.upd o4)) (bt.p3 (e1.free o4) (e1.trans (aj.upd o4)) aB (iw _))⟩
   exact ⟨this,cg this fun _=>rfl⟩
end DI
end
section
namespace DI
open PySem (Str)
section
variable {α β:Type}
@[simp] theorem dJ (a:α) (f:α -> O β):bd (ok a) f = f a:=rfl
@[simp] theorem Om (c:Nat) (f:α -> O β):bd (some (.error c)) f = some (.error c):=rfl
noncomputable def EU (f:α -> O β) (x:O α):O β:=bd x f
@[simp] theorem UC (f:α -> O β) (a:α):EU f (ok a) = f a:=rfl
@[simp] theorem Ow (f:α -> O β) (c:Nat):EU f (some (.error c)) = some (.error c):=rfl
end
noncomputable def M_ (op:DS) (x y:O D):O D:=bd x fun x=>bd y fun y=>cX op x y
@[simp] theorem Ol (op:DS) (x y:D):M_ op (ok x) (ok y) = cX op x y:=rfl
noncomputable def MJ (op:x_) (x y:O D):O D:=bd x fun x=>bd y fun y=>dI op x y
@[simp] theorem Oj (op:x_) (x y:D):MJ op (ok x) (ok y) = dI op x y:=rfl
noncomputable def VI (x y:O D):O D:=bd x fun x=>bd y fun y=>tZ x y
@[simp] theorem Rx (x y:D):VI (ok x) (ok y) = tZ x y:=rfl
noncomputable def K_ (x:O D):O D:=bd (bd x fZ) fun b=>ok (.bl (!b))
@[simp] theorem NR (b:Bool):K_ (ok (.bl b)) = ok (.bl (!b)):=rfl
@[simp] theorem JZ (b:Bool):fZ (.bl b) = ok b:=rfl
noncomputable def qT (x:O D):O Bool:=bd x fZ
@[simp] theorem Nr (b:Bool):qT (ok (.bl b)) = ok b:=rfl
@[simp] theorem JY (c:Nat):qT (some (.error c)) = some (.error c):=rfl
noncomputable def VJ (t:Ty) (x:O D):O D:=bd x fun x=>ok (.bl (dB t x))
@[simp] theorem RE (t:Ty) (x:D):VJ t (ok x) = ok (.bl (dB t x)):=rfl
noncomputable def AL (m:List D -> O D) (xs:O (List D)):O D:=bd xs fun xs=>bd (m (ag aK xs)) fun r=>ok (aD iZ r)
noncomputable def SY (x:O D):O D:=bd x fun r=>ok (aD iZ r)
@[simp] theorem SX (r:D):SY (ok r) = ok (aD iZ r):=rfl
@[simp] theorem Ob (c:Nat):SY (some (.error c)) = some (.error c):=rfl
@[simp] theorem M6 (m:List D -> O D) (xs:List D):AL m (ok xs) = SY (m (ag aK xs)):=rfl
@[simp] theorem JF (m:List D -> O D) (c:Nat):AL m (some (.error c)) = some (.error c):=rfl
noncomputable def wa (x:O D) (xs:O (List D)):O (List D):=bd x fun x=>bd xs fun xs=>ok (x :: xs)
@[simp] theorem MI (x:D) (xs:List D):wa (ok x) (ok xs) = ok (x :: xs):=rfl
@[simp] theorem JC (c:Nat) (xs:O (List D)):wa (some (.error c)) xs = some (.error c):=rfl
@[simp] theorem Iz (x:D) (c:Nat):wa (ok x) (some (.error c)) = some (.error c):=rfl
noncomputable def G4 (x:O Bool) (a b:O D):O D:=bd x fun k=>if k then a else b
@[simp] theorem RC (a b:O D):G4 (ok true) a b = a:=rfl
@[simp] theorem RD (a b:O D):G4 (ok false) a b = b:=rfl
noncomputable def DH (x y:O D):O D:=bd (bd x fZ) fun c=>if c then y else ok (.bl false)
@[simp] theorem UD (y:O D):DH (ok (.bl true)) y = y:=rfl
@[simp] theorem UE (y:O D):DH (ok (.bl false)) y = ok (.bl false):=rfl
@[simp] theorem UG (a b:Bool):DH (ok (.bl a)) (ok (.bl b)) = ok (.bl (a && b)):=by cases a <;> rfl
noncomputable def NO (x y:O D):O D:=bd (bd x fZ) fun c=>if c then ok (.bl true) else y
@[simp] theorem Vo (y:O D):NO (ok (.bl true)) y = ok (.bl true):=rfl
@[simp] theorem Vp (y:O D):NO (ok (.bl false)) y = y:=rfl
@[simp] theorem Vq (a b:Bool):NO (ok (.bl a)) (ok (.bl b)) = ok (.bl (a || b)):=by cases a <;> rfl
noncomputable def zG (x:O D):O D:=bd (bd x fZ) fun c=>ok (.bl c)
@[simp] theorem Ls (c:Bool):zG (ok (.bl c)) = ok (.bl c):=rfl
@[simp] theorem Kl (d:D):uR (some (some d)) = ok (aD bc d):=rfl
section
variable (Φ:az) (ρ:au)
@[simp] theorem Wi:aL Φ .bC ρ = ok .bC:=rfl
@[simp] theorem ZK (b:Bool):aL Φ (.bl b) ρ = ok (.bl b):=rfl
@[simp] theorem EI (i:Int):aL Φ (.int i) ρ = ok (.int i):=rfl
@[simp] theorem Wq (x:Str) (i:Int):aL Φ (.glo x i) ρ = ok (.int i):=rfl
@[simp] theorem Wo (x:Str) (zs:List Int):aL Φ (.glt x zs) ρ = ok (.tup (zs.map D.int)):=rfl
@[simp] theorem e_v (i:Nat):aL Φ (.v i) ρ = uR ρ[i]?:=rfl
@[simp] theorem Ws (op:DS) (a b:CE):aL Φ (.bin op a b) ρ = M_ op (aL Φ a ρ) (aL Φ b ρ):=rfl
@[simp] theorem Wr (op:x_) (a b:CE):aL Φ (.cmp op a b) ρ = MJ op (aL Φ a ρ) (aL Φ b ρ):=rfl
@[simp] theorem Wk (a:CE):aL Φ (.neg a) ρ = EU Co (aL Φ a ρ):=rfl
@[simp] theorem Wh (a:CE):aL Φ (.not a) ρ = K_ (aL Φ a ρ):=rfl
@[simp] theorem Wn (a:CE) (t:Ty):aL Φ (.lE a t) ρ = VJ t (aL Φ a ρ):=rfl
@[simp] theorem Wm (c a b:CE):aL Φ (.ite c a b) ρ = G4 (qT (aL Φ c ρ)) (aL Φ a ρ) (aL Φ b ρ):=rfl
@[simp] theorem TC (f:Nat) (es:List CE):aL Φ (.call f es) ρ = AL (Φ f) (cD Φ es ρ):=rfl
@[simp] theorem ZL (f:Bf) (es:List CE):aL Φ (.bf f es) ρ = EU (qC f) (cD Φ es ρ):=rfl
@[simp] theorem We (f:Nat) (es:List CE):aL Φ (.cj f es) ρ = EU (Φ f) (cD Φ es ρ):=rfl
@[simp] theorem ZJ (a b:CE):aL Φ (.ix a b) ρ = VI (aL Φ a ρ) (aL Φ b ρ):=rfl
@[simp] theorem Tz (a:CE):aL Φ (.kc a) ρ = EU vo (aL Φ a ρ):=rfl
@[simp] theorem Wd (es:List CE):aL Φ (.tup es) ρ = EU (fun xs=>ok (.tup xs)) (cD Φ es ρ):=rfl
@[simp] theorem Wl (es:List CE):aL Φ (.lst es) ρ = EU (fun xs=>ok (.lst .ow xs)) (cD Φ es ρ):=rfl
@[simp] theorem Wt (es:List CE):aL Φ (.and es) ρ = o9 Φ es ρ:=rfl
@[simp] theorem ZI (es:List CE):aL Φ (.or es) ρ = xE Φ es ρ:=rfl
@[simp] theorem TH (e:CE):o9 Φ [e] ρ = zG (aL Φ e ρ):=rfl
@[simp] theorem TF (e e':CE) (es:List CE):o9 Φ (e :: e' :: es) ρ = DH (aL Φ e ρ) (o9 Φ (e' :: es) ρ):=rfl
@[simp] theorem Wg (e:CE):xE Φ [e] ρ = zG (aL Φ e ρ):=rfl
@[simp] theorem Wf (e e':CE) (es:List CE):xE Φ (e :: e' :: es) ρ = NO (aL Φ e ρ) (xE Φ (e' :: es) ρ):=rfl
@[simp] theorem Wj:cD Φ [] ρ = ok []:=rfl
@[simp] theorem TB (e:CE) (es:List CE):cD Φ (e :: es) ρ = wa (aL Φ e ρ) (cD Φ es ρ):=rfl
@[simp] theorem e_T (e:CE):sZ Φ e ρ = qT (aL Φ e ρ):=rfl
theorem TL (e:CE):bd (aL Φ e ρ) fZ = qT (aL Φ e ρ):=rfl
@[simp] theorem TK:gz Φ [] ρ = ok true:=rfl
@[simp] theorem TJ (e:CE):gz Φ [e] ρ = qT (aL Φ e ρ):=by
 rw [gz,TL]
 cases h:qT (aL Φ e ρ) with
 | none=>rfl
 | some r=>cases r with
  | error c=>rfl
  | ok b=>cases b <;> simp [gz,bd,ok]
end
noncomputable def qh (is:List Nat):Nat -> au -> au
 | _,[]=>[]
 | n,d :: ρ=>(if n ∈ is then d.map (aD aK) else d) :: qh is (n + 1) ρ
theorem EH (is:List Nat):∀ (ρ:au) (n:Nat),ρ.mapIdx (fun i d=>if i + n ∈ is then d.map (aD aK) else d) = qh is n ρ
 | [],_=>rfl
 | d :: ρ,n=>by
  rw [List.mapIdx_cons,qh,<- EH is ρ (n + 1)]
  simp only [Nat.zero_add,Nat.add_assoc,Nat.add_comm 1 n]
theorem Al (is:List Nat) (ρ:au):gZ is ρ = qh is 0 ρ:=by rw [<- EH];rfl
@[simp] theorem Mv (is:List Nat) (n:Nat):qh is n [] = []:=rfl
@[simp] theorem Jy (is:List Nat) (n:Nat) (d:Option D) (ρ:au):qh is n (d :: ρ) = (if n ∈ is then d.map (aD aK) else d) :: qh is (n + 1) ρ:=rfl
noncomputable def cO (e:CE) (ρ:au) (x:O D):O (D × au):=bd x fun d=>ok (keep e d ρ)
@[simp] theorem rV {e:CE} {ρ:au} {d:D} (h:aq bp d = false):cO e ρ (ok d) = ok (d,ρ):=by
 show ok (keep e d ρ) = _
 rw [keep,h];rfl
@[simp] theorem Lv {e:CE} {ρ:au} {d:D} (h:aq bp d = true):cO e ρ (ok d) = ok (aD aK d,qh (fM e) 0 ρ):=by
 show ok (keep e d ρ) = _
 rw [keep,h,<- Al];rfl
@[simp] theorem Jc (e:CE) (ρ:au) (c:Nat):cO e ρ (some (.error c)) = some (.error c):=rfl
noncomputable def zu (i:Nat) (ρ:au) (o:Option (Option D)):O (D × au):=match o with
 | some (some d)=>if aq cG d then ok (d,ρ.set i none) else ok (d,ρ)
 | _=>none
@[simp] theorem Lg {i:Nat} {ρ:au} {d:D} (h:aq cG d = true):zu i ρ (some (some d)) = ok (d,ρ.set i none):=if_pos h
@[simp] theorem Lh {i:Nat} {ρ:au} {d:D} (h:aq cG d = false):zu i ρ (some (some d)) = ok (d,ρ):=if_neg (by rw [h];exact Bool.false_ne_true)
@[simp] theorem k_v (Φ:az) (i:Nat) (ρ:au):iJ Φ (.v i) ρ = zu i ρ ρ[i]?:=rfl
noncomputable def YI:CE -> Bool
 | .v _=>true
 | _=>false
@[simp] theorem VE (Φ:az) (ρ:au) (op:DS) (a b:CE):iJ Φ (.bin op a b) ρ = cO (.bin op a b) ρ (aL Φ (.bin op a b) ρ):=rfl
@[simp] theorem VD (Φ:az) (ρ:au) (op:x_) (a b:CE):iJ Φ (.cmp op a b) ρ = cO (.cmp op a b) ρ (aL Φ (.cmp op a b) ρ):=rfl
@[simp] theorem Q9 (Φ:az) (ρ:au) (f:Nat) (es:List CE):iJ Φ (.call f es) ρ = cO (.call f es) ρ (aL Φ (.call f es) ρ):=rfl
@[simp] theorem Yx (Φ:az) (ρ:au) (f:Bf) (es:List CE):iJ Φ (.bf f es) ρ = cO (.bf f es) ρ (aL Φ (.bf f es) ρ):=rfl
@[simp] theorem Vw (Φ:az) (ρ:au) (f:Nat) (es:List CE):iJ Φ (.cj f es) ρ = cO (.cj f es) ρ (aL Φ (.cj f es) ρ):=rfl
@[simp] theorem Yv (Φ:az) (ρ:au) (a b:CE):iJ Φ (.ix a b) ρ = cO (.ix a b) ρ (aL Φ (.ix a b) ρ):=rfl
@[simp] theorem Vv (Φ:az) (ρ:au) (es:List CE):iJ Φ (.tup es) ρ = cO (.tup es) ρ (aL Φ (.tup es) ρ):=rfl
@[simp] theorem VA (Φ:az) (ρ:au) (es:List CE):iJ Φ (.lst es) ρ = cO (.lst es) ρ (aL Φ (.lst es) ρ):=rfl
@[simp] theorem Eo (Φ:az) (ρ:au) (i:Int):iJ Φ (.int i) ρ = cO (.int i) ρ (aL Φ (.int i) ρ):=rfl
@[simp] theorem Yw (Φ:az) (ρ:au) (i:Bool):iJ Φ (.bl i) ρ = cO (.bl i) ρ (aL Φ (.bl i) ρ):=rfl
@[simp] theorem Vy (Φ:az) (ρ:au)  : iJ Φ (.bC) ρ = cO (.bC) ρ (aL Φ (.bC) ρ):=rfl
@[simp] theorem Vz (Φ:az) (ρ:au) (a:CE):iJ Φ (.neg a) ρ = cO (.neg a) ρ (aL Φ (.neg a) ρ):=rfl
@[simp] theorem Vx (Φ:az) (ρ:au) (a:CE):iJ Φ (.not a) ρ = cO (.not a) ρ (aL Φ (.not a) ρ):=rfl
@[simp] theorem VF (Φ:az) (ρ:au) (es:List CE):iJ Φ (.and es) ρ = cO (.and es) ρ (aL Φ (.and es) ρ):=rfl
@[simp] theorem Yu (Φ:az) (ρ:au) (es:List CE):iJ Φ (.or es) ρ = cO (.or es) ρ (aL Φ (.or es) ρ):=rfl
@[simp] theorem VB (Φ:az) (ρ:au) (a b c:CE):iJ Φ (.ite a b c) ρ = cO (.ite a b c) ρ (aL Φ (.ite a b c) ρ):=rfl
@[simp] theorem Q8 (Φ:az) (ρ:au) (n:Nat) (t:Tg) (caps:List Nat) (ik:IK) (es aS:List CE) (elt:CE):iJ Φ (.comp n t caps ik es aS elt) ρ = cO (.comp n t caps ik es aS elt) ρ (aL Φ (.comp n t caps ik es aS elt) ρ):=rfl
@[simp] theorem VC (Φ:az) (ρ:au) (a:CE) (t:Ty):iJ Φ (.lE a t) ρ = cO (.lE a t) ρ (aL Φ (.lE a t) ρ):=rfl
@[simp] theorem Q7 (Φ:az) (ρ:au) (a:CE):iJ Φ (.kc a) ρ = cO (.kc a) ρ (aL Φ (.kc a) ρ):=rfl
theorem G0 (Φ:az) (e:CE) (ρ:au) (h:YI e = false):iJ Φ e ρ = cO e ρ (aL Φ e ρ):=by cases e <;> first | rfl | cases h
@[simp] theorem IU (ρ:au):gx [] [] ρ = ok ρ:=rfl
@[simp] theorem FA {i:Nat} {is:List Nat} {d:D} {ds:List D} {ρ:au} (h:i < ρ.length):gx (i :: is) (d :: ds) ρ = gx is ds (ρ.set i (some d)):=if_pos h
@[simp] theorem uT {i:Nat} {d:D} {ρ:au} (h:i < ρ.length):ck (.nm i) d ρ = ok (ρ.set i (some d)):=if_pos h
@[simp] theorem NC {is:List Nat} {ds:List D} {ρ:au} (h:ao cG ds = false):ck (.tp is) (.tup ds) ρ = gx is ds ρ:=if_neg (by rw [h];exact Bool.false_ne_true)
noncomputable def II (i:Nat) (r:O (D × au)):O (Fo × au):=bd r fun r=>bd (ck (.nm i) r.1 r.2) fun ρ'=>ok (.nx,ρ')
@[simp] theorem wx {i:Nat} {d:D} {ρ:au} (h:i < ρ.length):II i (ok (d,ρ)) = ok (.nx,ρ.set i (some d)):=by
 show bd (ck (.nm i) d ρ) _ = _
 rw [ck,if_pos h];rfl
@[simp] theorem Nh (i:Nat) (c:Nat):II i (some (.error c)) = some (.error c):=rfl
noncomputable def Ng (is:List Nat) (r:O (D × au)):O (Fo × au):=bd r fun r=>bd (ck (.tp is) r.1 r.2) fun ρ'=>ok (.nx,ρ')
@[simp] theorem Ot {is:List Nat} {ds:List D} {ρ:au} (h:ao cG ds = false):Ng is (ok (.tup ds,ρ)) = bd (gx is ds ρ) fun ρ'=>ok (.nx,ρ'):=by
 show bd (ck (.tp is) (.tup ds) ρ) _ = _
 rw [ck,h];rfl
noncomputable def retS (r:O (D × au)):O (Fo × au):=bd r fun r=>ok (.rt r.1,r.2)
@[simp] theorem NF (d:D) (ρ:au):retS (ok (d,ρ)) = ok (.rt d,ρ):=rfl
@[simp] theorem Kw (c:Nat):retS (some (.error c)) = some (.error c):=rfl
noncomputable def Tt (ρ:au) (x:O D):O (Fo × au):=bd x fun _=>ok (.nx,ρ)
@[simp] theorem Ts (ρ:au) (d:D):Tt ρ (ok d) = ok (.nx,ρ):=rfl
@[simp] theorem Og (ρ:au) (c:Nat):Tt ρ (some (.error c)) = some (.error c):=rfl
noncomputable def oM (Φ:az) (ss:List CS) (r:O (Fo × au)):O (Fo × au):=bd r fun r=>match r with
 | (.nx,ρ')=>bq Φ ss ρ'
 | r=>ok r
@[simp] theorem jr (Φ:az) (ss:List CS) (ρ:au):oM Φ ss (ok (.nx,ρ)) = bq Φ ss ρ:=rfl
@[simp] theorem J0 (Φ:az) (ss:List CS) (d:D) (ρ:au):oM Φ ss (ok (.rt d,ρ)) = ok (.rt d,ρ):=rfl
@[simp] theorem J2 (Φ:az) (ss:List CS) (ρ:au):oM Φ ss (ok (.bk,ρ)) = ok (.bk,ρ):=rfl
@[simp] theorem J1 (Φ:az) (ss:List CS) (ρ:au):oM Φ ss (ok (.ct,ρ)) = ok (.ct,ρ):=rfl
@[simp] theorem IT (Φ:az) (ss:List CS) (c:Nat):oM Φ ss (some (.error c)) = some (.error c):=rfl
noncomputable def Cz (Φ:az) (a b:List CS) (ρ:au) (x:O Bool):O (Fo × au):=bd x fun k=>if k then bq Φ a ρ else bq Φ b ρ
@[simp] theorem RA (Φ:az) (a b:List CS) (ρ:au):Cz Φ a b ρ (ok true) = bq Φ a ρ:=rfl
@[simp] theorem RB (Φ:az) (a b:List CS) (ρ:au):Cz Φ a b ρ (ok false) = bq Φ b ρ:=rfl
@[simp] theorem Lx (Φ:az) (a b:List CS) (ρ:au) (c:Nat):Cz Φ a b ρ (some (.error c)) = some (.error c):=rfl
noncomputable def Ni (i:Nat) (r:O (D × au)):O (Fo × au):=bd r fun r=>match w6 r.2[i]? with
  | some ds=>if ds.length < dU then ok (.nx,r.2.set i (some (.lst .ow (ds ++ [r.1])))) else none
  | none=>none
@[simp] theorem Ov {i:Nat} {d:D} {ρ:au} {ds:List D} (h:ρ[i]? = some (some (.lst .ow ds))) (hl:ds.length < dU):Ni i (ok (d,ρ)) = ok (.nx,ρ.set i (some (.lst .ow (ds ++ [d])))):=by
 show (match w6 ρ[i]? with | some ds=>_ | none=>_) = _
 rw [h]
 exact if_pos hl
section
variable (Φ:az) (ρ:au)
@[simp] theorem Vc:bq Φ [] ρ = ok (.nx,ρ):=rfl
@[simp] theorem df (s:CS) (ss:List CS):bq Φ (s :: ss) ρ = oM Φ ss (qk Φ s ρ):=rfl
@[simp] theorem DU (i:Nat) (e:CE):qk Φ (.asg (.nm i) e) ρ = II i (iJ Φ e ρ):=rfl
@[simp] theorem OE (is:List Nat) (e:CE):qk Φ (.asg (.tp is) e) ρ = Ng is (iJ Φ e ρ):=rfl
@[simp] theorem Vb (e:CE):qk Φ (.ret e) ρ = retS (iJ Φ e ρ):=rfl
theorem oF (c:CE) (b:List CS):qk Φ (.Fb c b) ρ = eN (fun ρ=>bd (sZ Φ c ρ) fun k=>if k then bd (bq Φ b ρ) fun r=>match r with
   | (.nx,ρ')=>ok (.inl ρ')
   | (.ct,ρ')=>ok (.inl ρ')
   | (.bk,ρ')=>ok (.inr (.nx,ρ'))
   | (.rt d,ρ')=>ok (.inr (.rt d,ρ'))
  else ok (.inr (.nx,ρ))) ρ:=rfl
theorem JN (i j:Nat) (a b:CE):qk Φ (.par i j a b) ρ = bd (aL Φ a ρ) fun x=>bd (aL Φ b ρ) fun y=>if aq anyF x = false /\ aq anyF y = false /\ i < ρ.length /\ j < ρ.length then ok (.nx,(ρ.set i (some x)).set j (some y)) else none:=rfl
@[simp] theorem Xa (c:Nat):qk Φ (.rs c) ρ = some (.error c):=rfl
@[simp] theorem Xb (e:CE):qk Φ (.ex e) ρ = Tt ρ (aL Φ e ρ):=rfl
@[simp] theorem Bl (c:CE) (a b:List CS):qk Φ (.ifs c a b) ρ = Cz Φ a b ρ (qT (aL Φ c ρ)):=rfl
@[simp] theorem Vd (i:Nat) (e:CE):qk Φ (.app i e) ρ = Ni i (iJ Φ e ρ):=rfl
end
noncomputable def mk (Φ:az) (ar n:Nat) (b:List CS):List D -> O D:=fun ds=>if ds.length = ar then tM Φ n b ds else none
noncomputable def oo (r:O (Fo × au)):O D:=bd r fun r=>match r.1 with
 | .nx=>ok .bC
 | .rt d=>ok d
 | _=>none
@[simp] theorem Oi (ρ:au):oo (ok (.nx,ρ)) = ok .bC:=rfl
@[simp] theorem Oh (d:D) (ρ:au):oo (ok (.rt d,ρ)) = ok d:=rfl
@[simp] theorem MD (c:Nat):oo (some (.error c)) = some (.error c):=rfl
theorem mk_eq {Φ:az} {ar n:Nat} {b:List CS} {ds:List D} (h:ds.length = ar):mk Φ ar n b ds = oo (bq Φ b (ds.map some ++ List.replicate (n - ds.length) none)):=if_pos h
theorem aV {Φ:az} {ar n:Nat} {b:List CS} (ds:List D) (r:D) (h:mk Φ ar n b ds = ok r):ds.length = ar /\ tM Φ n b ds = ok r:=by
 unfold mk at h
 split at h
 ·rename_i hl;exact ⟨hl,h⟩
 ·cases h
end DI
end
section
namespace DI
open PySem (Str)
theorem Int.beq_eq_decide_eq (i j:Int):(i == j) = decide (i = j):=rfl
section
variable (g:Fl -> Fl) (p:Fl -> Bool)
@[simp] theorem Cs (b:Bool):aD g (.bl b) = .bl b:=rfl
@[simp] theorem zz (b:Int):aD g (.int b) = .int b:=rfl
@[simp] theorem Lj:aD g .bC = .bC:=rfl
@[simp] theorem zy (ds:List D):aD g (.tup ds) = .tup (ag g ds):=rfl
@[simp] theorem Ll (f:Fl) (ds:List D):aD g (.lst f ds) = .lst (g f) (ag g ds):=rfl
@[simp] theorem Lm (f:Fl) (ks:List Int) (vs:List D):aD g (.bx f ks vs) = .bx (g f) ks (ag g vs):=rfl
@[simp] theorem Ln (f:Fl) (ks:List (List Int)) (vs:List D):aD g (.cc f ks vs) = .cc (g f) ks (ag g vs):=rfl
@[simp] theorem I_:ag g [] = []:=rfl
@[simp] theorem GI (d:D) (ds:List D):ag g (d :: ds) = aD g d :: ag g ds:=rfl
@[simp] theorem Jb (a b:List D):ag g (a ++ b) = ag g a ++ ag g b:=by simp only [aC,List.map_append]
@[simp] theorem Ja (ds:List D):(ag g ds).length = ds.length:=by rw [aC,List.length_map]
theorem aZ {α:Type} {e:α -> D} (h:∀ x,aD g (e x) = e x) (xs:List α):ag g (xs.map e) = xs.map e:=by
 rw [aC,List.map_map];exact List.map_congr_left fun x _=>h x
theorem bo {α:Type} {e:α -> D} (h:∀ x,aq p (e x) = false):∀ xs:List α,ao p (xs.map e) = false
 | []=>by rw [List.map_nil,ao]
 | x :: xs=>by rw [List.map_cons,ao,h x,bo h xs];rfl
@[simp] theorem CZ (b:Bool):aq p (.bl b) = false:=Eq.symm rfl
@[simp] theorem mN (b:Int):aq p (.int b) = false:=Eq.symm rfl
@[simp] theorem Mj:aq p .bC = false:=Eq.symm rfl
@[simp] theorem Mi (ds:List D):aq p (.tup ds) = ao p ds:=Eq.symm rfl
@[simp] theorem Ad (f:Fl) (ds:List D):aq p (.lst f ds) = (p f || ao p ds):=Eq.symm rfl
@[simp] theorem Ml (f:Fl) (ks:List Int) (vs:List D):aq p (.bx f ks vs) = (p f || ao p vs):=Eq.symm rfl
@[simp] theorem Mm (f:Fl) (ks:List (List Int)) (vs:List D):aq p (.cc f ks vs) = (p f || ao p vs):=Eq.symm rfl
@[simp] theorem Jt:ao p [] = false:=Eq.symm rfl
@[simp] theorem Hu (d:D) (ds:List D):ao p (d :: ds) = (aq p d || ao p ds):=Eq.symm rfl
@[simp] theorem xu:∀ a b:List D,ao p (a ++ b) = (ao p a || ao p b)
 | [],b=>by simp
 | d :: a,b=>by simp [xu a b,Bool.or_assoc]
@[simp] theorem tT (ns:List Int):ag g (ns.map D.int) = ns.map D.int:=aZ g (zz g) ns
@[simp] theorem ue (ns:List Int):ao p (ns.map D.int) = false:=bo p (mN p) ns
@[simp] theorem w_ (ns:List Bool):ag g (ns.map D.bl) = ns.map D.bl:=aZ g (Cs g) ns
@[simp] theorem xt (ns:List Bool):ao p (ns.map D.bl) = false:=bo p (CZ p) ns
@[simp] theorem Jd (t:Ty) (d:D):dB t (aD g d) = dB t d:=by cases d <;> cases t <;> rfl
end
@[simp] theorem HM:bc .ow = .al:=rfl
@[simp] theorem HN:bc .fz = .fz:=rfl
@[simp] theorem HP:bc .al = .al:=rfl
@[simp] theorem HL:bc .sc = .sc:=rfl
@[simp] theorem HI:aK .ow = .fz:=rfl
@[simp] theorem HJ:aK .fz = .fz:=rfl
@[simp] theorem HK:aK .al = .fz:=rfl
@[simp] theorem HH:aK .sc = .sc:=rfl
@[simp] theorem Ib:iZ .ow = .ow:=rfl
@[simp] theorem Ic:iZ .fz = .al:=rfl
@[simp] theorem Ie:iZ .al = .al:=rfl
@[simp] theorem Ia:iZ .sc = .sc:=rfl
@[simp] theorem HZ:bp .ow = false:=rfl
@[simp] theorem H9:bp .fz = false:=rfl
@[simp] theorem H_:bp .al = true:=rfl
@[simp] theorem HY:bp .sc = false:=rfl
@[simp] theorem HV:cG .ow = true:=rfl
@[simp] theorem HW:cG .fz = false:=rfl
@[simp] theorem HX:cG .al = false:=rfl
@[simp] theorem HU:cG .sc = false:=rfl
@[simp] theorem HQ:t6 .ow = false:=rfl
@[simp] theorem HR:t6 .fz = false:=rfl
@[simp] theorem HS:t6 .al = false:=rfl
noncomputable def aa (ns:List Int):List D:=ns.map D.int
noncomputable def lh (ns:List Bool):List D:=ns.map D.bl
@[simp] theorem Jh (ns:List Int):(aa ns).length = ns.length:=List.length_map ..
@[simp] theorem M9 (ns:List Bool):(lh ns).length = ns.length:=List.length_map ..
@[simp] theorem Jg:aa [] = []:=rfl
@[simp] theorem Hb (n:Int) (ns:List Int):aa (n :: ns) = .int n :: aa ns:=rfl
@[simp] theorem Ha (ns:List Int) (n:Int):aa ns ++ [.int n] = aa (ns ++ [n]):=by simp [aa]
@[simp] theorem xl (ns:List Int) (i:Nat):(aa ns)[i]? = ns[i]?.map D.int:=List.getElem?_map ..
@[simp] theorem fg (g:Fl -> Fl) (ns:List Int):ag g (aa ns) = aa ns:=tT g ns
@[simp] theorem se (p:Fl -> Bool) (ns:List Int):ao p (aa ns) = false:=ue p ns
@[simp] theorem GJ (g:Fl -> Fl) (ns:List Bool):ag g (lh ns) = lh ns:=w_ g ns
@[simp] theorem Hv (p:Fl -> Bool) (ns:List Bool):ao p (lh ns) = false:=xt p ns
@[simp] theorem WH (i j:Int):cX .add (.int i) (.int j) = ok (.int (i + j)):=rfl
@[simp] theorem WG (i j:Int):cX .sub (.int i) (.int j) = ok (.int (i - j)):=rfl
theorem iS {i j:Int} (h:gQ i j = true):cX .mul (.int i) (.int j) = ok (.int (i * j)):=if_pos h
theorem nr {i j:Int} (h:pb j = true):cX .fdiv (.int i) (.int j) = ok (.int (i.fdiv j)):=if_pos h
@[simp] theorem Nb {i j:Int} (h:j ≠ 0):cX .mod (.int i) (.int j) = ok (.int (i.fmod j)):=if_pos h
@[simp] theorem Na {i j:Int} (h:0 <= j):cX .shr (.int i) (.int j) = ok (.int (i / 2 ^ j.toNat)):=if_pos h
theorem ES {i j:Int} (h:uZ i j = true):cX .pow (.int i) (.int j) = ok (.int (i ^ j.toNat)):=if_pos h
@[simp] theorem Vt (i:Int):Co (.int i) = ok (.int (-i)):=rfl
theorem mulOk_of {i j:Int} (h:i.natAbs < 2 ^ 9000) (h':j.natAbs < 2 ^ 9000):gQ i j = true:=by
 simp only [gQ,big,h,h',decide_true,Bool.and_self,Bool.or_true]
theorem tW {n:Nat} (h:n < 2 ^ 64):n < 2 ^ 9000:=Nat.lt_of_lt_of_le h (Nat.pow_le_pow_right (by decide) (by decide))
theorem p4 {i:Int} (j:Int) (h:i.natAbs < 2 ^ 64):gQ i j = true:=by simp only [gQ,h,decide_true,Bool.true_or]
theorem Cp {j:Int} (i:Int) (h:j.natAbs < 2 ^ 64):gQ i j = true:=by simp only [gQ,h,decide_true,Bool.true_or,Bool.or_true]
theorem g_ {j:Int} (h0:j ≠ 0) (h:j.natAbs < 2 ^ 9000):pb j = true:=by
 simp only [pb,big,h,decide_true,Bool.and_true,decide_eq_true_eq];exact h0
@[simp] theorem Oo {i j:Int} (h:j.natAbs < 2 ^ 64):cX .mul (.int i) (.int j) = ok (.int (i * j)):=iS (Cp i h)
@[simp] theorem Oq {i j:Int} (h:i.natAbs < 2 ^ 64):cX .mul (.int i) (.int j) = ok (.int (i * j)):=iS (p4 j h)
@[simp] theorem Nc {i j:Int} (h0:j ≠ 0) (h:j.natAbs < 2 ^ 64):cX .fdiv (.int i) (.int j) = ok (.int (i.fdiv j)):=nr (g_ h0 (tW h))
theorem IE {a b:D} (ha:cC 40 a = true) (hb:cC 40 b = true):dI .eq a b = ok (.bl (i3 a b)):=by
 show (if cC 40 a && cC 40 b then _ else _) = _
 rw [ha,hb];rfl
theorem DD {a b:D} (ha:cC 40 a = true) (hb:cC 40 b = true):dI .ne a b = ok (.bl (!i3 a b)):=by
 show (if cC 40 a && cC 40 b then _ else _) = _
 rw [ha,hb];rfl
@[simp] theorem fc (n:Nat) (i:Int):cC n (.int i) = true:=by cases n <;> rfl
@[simp] theorem Qk (n:Nat) (i:Bool):cC n (.bl i) = true:=by cases n <;> rfl
@[simp] theorem NP (n:Nat):cC n .bC = true:=by cases n <;> rfl
@[simp] theorem jz (n:Nat) (ds:List D):cC (n + 1) (.tup ds) = ds.all (cC n):=rfl
@[simp] theorem vk (n:Nat) (f:Fl) (ds:List D):cC (n + 1) (.lst f ds) = ds.all (cC n):=rfl
@[simp] theorem PM (i j:Int):dI .eq (.int i) (.int j) = ok (.bl (decide (i = j))):=by rw [IE (fc _ _) (fc _ _)];show ok (D.bl (i == j)) = _;rw [Int.beq_eq_decide_eq]
@[simp] theorem PL (i j:Int):dI .ne (.int i) (.int j) = ok (.bl (!decide (i = j))):=by rw [DD (fc _ _) (fc _ _)];show ok (D.bl (!(i == j))) = _;rw [Int.beq_eq_decide_eq]
@[simp] theorem XO (i j:Int):dI .lt (.int i) (.int j) = ok (.bl (decide (i < j))):=rfl
@[simp] theorem XQ (i j:Int):dI .le (.int i) (.int j) = ok (.bl (decide (i <= j))):=rfl
@[simp] theorem XR (i j:Int):dI .gt (.int i) (.int j) = ok (.bl (decide (j < i))):=rfl
@[simp] theorem XS (i j:Int):dI .ge (.int i) (.int j) = ok (.bl (decide (j <= i))):=rfl
@[simp] theorem VM (ds:List D) (i:Int):tZ (.tup ds) (.int i) = s9 ds i:=rfl
@[simp] theorem VN (f:Fl) (ds:List D) (i:Int):tZ (.lst f ds) (.int i) = s9 ds i:=rfl
theorem qF {ds:List D} {n:Nat} {d:D} (h:ds[n]? = some d):s9 ds (n:Int) = ok (aD bc d):=by
 have hn:n < ds.length:=(List.getElem?_eq_some_iff.mp h).1
 have e:vy ds.length (n:Int) = some n:=by unfold vy;rw [if_pos (by omega),if_pos (by omega)];rfl
 unfold s9
 rw [e,Option.bind_some,h]
theorem at_of {ds:List D} {i:Int} {d:D} (h0:0 <= i) (h:ds[i.toNat]? = some d):s9 ds i = ok (aD bc d):=by
 have:=qF h
 rwa [show ((i.toNat:Nat):Int) = i by omega] at this
@[simp] theorem aau (d:D) (ds:List D):s9 (d :: ds) 0 = ok (aD bc d):=qF (n:=0) rfl
@[simp] theorem aat (a d:D) (ds:List D):s9 (a :: d :: ds) 1 = ok (aD bc d):=qF (n:=1) rfl
@[simp] theorem aas (a b d:D) (ds:List D):s9 (a :: b :: d :: ds) 2 = ok (aD bc d):=qF (n:=2) rfl
@[simp] theorem Oe (ds:List D):qC .len [.tup ds] = ok (.int ds.length):=rfl
@[simp] theorem Of (f:Fl) (ds:List D):qC .len [.lst f ds] = ok (.int ds.length):=rfl
@[simp] theorem Wa (i:Int):qC .abs [.int i] = ok (.int i.natAbs):=by
 show ok (D.int (if i < 0 then -i else i)) = _
 congr 2
 split <;> omega
@[simp] theorem MA (f:Fl) (ds:List D):qC .list1 [.lst f ds] = ok (.lst .ow (ag bc ds)):=rfl
@[simp] theorem Mz (ds:List D):qC .list1 [.tup ds] = ok (.lst .ow (ag bc ds)):=rfl
@[simp] theorem Od (f:Fl) (ds:List D):qC .tuple1 [.lst f ds] = ok (.tup (ag bc ds)):=rfl
@[simp] theorem Oc (ds:List D):qC .tuple1 [.tup ds] = ok (.tup (ag bc ds)):=rfl
@[simp] theorem V9 (f:Fl) (ns:List Int):qC .j4 [.lst f (aa ns)] = ok (.int ns.sum):=by
 show (match intsOf (ns.map D.int) with | some ns=>_ | none=>_) = _
 rw [a_]
@[simp] theorem V_ (f:Fl) (bs:List Bool):qC .all1 [.lst f (lh bs)] = ok (.bl (bs.all id)):=by
 show (match hU (bs.map D.bl) with | some ns=>_ | none=>_) = _
 rw [ku]
@[simp] theorem C8 {ns:List Int} (h:ns.length < 64):qC .f_ [.tup (aa ns)] = ok (.lst .ow (aa (sortI ns))):=by
 show oP _ = _
 unfold oP aa
 rw [a_]
 exact if_pos h
@[simp] theorem Ig {ns:List Int} (h:ns.length < 4000):vo (.tup (aa ns)) = ok (.int (sA ns).length):=by
 show (match intsOf (ns.map D.int) with | some ns=>_ | none=>_) = _
 rw [a_]
 exact if_pos h
@[simp] theorem lI (i j:Int):i3 (.int i) (.int j) = decide (i = j):=by show (i == j) = _;rw [Int.beq_eq_decide_eq]
@[simp] theorem Tw (i j:Bool):i3 (.bl i) (.bl j) = (i == j):=rfl
@[simp] theorem Dd (a b:List D):i3 (.tup a) (.tup b) = cZ a b:=rfl
@[simp] theorem De (f g:Fl) (a b:List D):i3 (.lst f a) (.lst g b) = cZ a b:=rfl
@[simp] theorem Aq:cZ [] [] = true:=rfl
@[simp] theorem kl (a b:D) (as bs:List D):cZ (a :: as) (b :: bs) = (i3 a b && cZ as bs):=rfl
theorem m3:∀ {as bs:List D},cZ as bs = true -> as.length = bs.length
 | [],[],_=>rfl
 | [],_ :: _,h=>(Bool.false_ne_true h).elim
 | _ :: _,[],h=>(Bool.false_ne_true h).elim
 | a :: as,b :: bs,h=>by
  replace h:(_ && _) = true:=h
  rw [Bool.and_eq_true] at h
  rw [List.length_cons,List.length_cons,m3 h.2]
theorem g9 {α:Type} {e:α -> D} [DecidableEq α] (h:∀ x y,i3 (e x) (e y) = decide (x = y)):∀ xs ys:List α,cZ (xs.map e) (ys.map e) = decide (xs = ys)
 | [],[]=>by simp
 | [],y :: ys=>by
  cases z:cZ ([].map e) ((y :: ys).map e) with
  | true=>have:=m3 z;simp at this
  | false=>simp
 | x :: xs,[]=>by
  cases z:cZ ((x :: xs).map e) ([].map e) with
  | true=>have:=m3 z;simp at this
  | false=>simp
 | x :: xs,y :: ys=>by
  rw [List.map_cons,List.map_cons,kl,h,g9 h xs ys]
  by_cases e1:x = y <;> by_cases e2:xs = ys <;> simp [e1,e2]
theorem jA {α:Type} {e:α -> D} {n:Nat} (h:∀ x,cC n (e x) = true) (xs:List α):(xs.map e).all (cC n) = true:=by
 rw [List.all_map];exact List.all_eq_true.mpr fun x _=>h x
theorem bN {bind:D -> O au} {test:au -> O Bool} {el:au -> O D} {α:Type} {e:α -> D} {g:α -> D}:∀ {xs:List α},(∀ x ∈ xs,∃ ρ,bind (e x) = ok ρ /\ test ρ = ok true /\ el ρ = ok (g x)) -> fT bind test el (xs.map e) = ok (xs.map g)
 | [],_=>rfl
 | x :: xs,h=>by
  obtain ⟨ρ,h1,h2,h3⟩:=h x (List.mem_cons_self ..)
  have ih:=bN (xs:=xs) fun y hy=>h y (List.mem_cons_of_mem _ hy)
  rw [List.map_cons,fT,h1,dJ,h2,dJ,if_pos rfl,h3,dJ,ih];rfl
theorem fi {bind:D -> O au} {test:au -> O Bool} {el:au -> O D} {α:Type} {e:α -> D} {g:α -> D} {t:α -> Bool}:∀ {xs:List α},(∀ x ∈ xs,∃ ρ,bind (e x) = ok ρ /\ test ρ = ok (t x) /\ (t x = true -> el ρ = ok (g x))) -> fT bind test el (xs.map e) = ok ((xs.filter t).map g)
 | [],_=>rfl
 | x :: xs,h=>by
  obtain ⟨ρ,h1,h2,h3⟩:=h x (List.mem_cons_self ..)
  have ih:=fi (xs:=xs) fun y hy=>h y (List.mem_cons_of_mem _ hy)
  rw [List.map_cons,fT,h1,dJ,h2,dJ,List.filter_cons]
  cases ht:t x with
  | true=>rw [if_pos rfl,h3 ht,dJ,ih,if_pos rfl];rfl
  | false=>rw [if_neg Bool.false_ne_true,ih,if_neg Bool.false_ne_true]
section
variable {Φ:az} {n:Nat} {t:Tg} {caps:List Nat} {ik:IK} {es aS:List CE} {elt:CE} {ρ:au} {xs items ds:List D}
theorem cR (h1:cD Φ es ρ = ok xs) (h2:dF Φ ik xs = ok items)
  (h3:fT (fun d=>ck t d (aT n caps ρ)) (fun ρ'=>gz Φ aS ρ') (fun ρ'=>aL Φ elt ρ') items = ok ds) (hl:ds.length <= dU):aL Φ (.comp n t caps ik es aS elt) ρ = ok (.lst .ow (ag iZ ds)):=by
 show bd (cD Φ es ρ) _ = _
 rw [h1,dJ,h2,dJ,h3,dJ,if_pos hl]
end
theorem vz (Φ:az) (ds:List D):dF Φ .seq [.tup ds] = ok (ag aK ds):=rfl
theorem dS (Φ:az) (f:Fl) (ds:List D):dF Φ .seq [.lst f ds] = ok (ag aK ds):=rfl
theorem lD (Φ:az) {n:Int} (h0:0 <= n) (h:n <= 1000000):dF Φ .ji [.int n] = ok ((List.range n.toNat).map fun (k:Nat)=>D.int (k:Int)):=by
 show (if n <= (dU:Int) /\ -(dU:Int) <= n then _ else _) = _
 have:(dU:Int) = 1000000:=rfl
 rw [if_pos (by omega)]
theorem cv {n:Nat} (h:n <= 1000000):n <= dU:=h
theorem fN {Φ:az} {t:Tg} {it:CI} {b:List CS} {ρ ρ1:au} {items:List D} {r:O (Fo × au)} (h:d8 Φ it ρ = ok (items,ρ1)) (h':eh (fun d ρ=>ck t d ρ) (fun ρ=>bq Φ b ρ) items ρ1 = r):qk Φ (.fr t it b) ρ = r:=by
 show bd (d8 Φ it ρ) _ = _
 rw [h];exact h'
theorem jJ (bind:D -> au -> O au) (body:au -> O (Fo × au)) (ρ:au):eh bind body [] ρ = ok (.nx,ρ):=rfl
theorem dD {bind:D -> au -> O au} {body:au -> O (Fo × au)} {x:D} {xs:List D} {ρ ρ1 ρ2:au} {r:O (Fo × au)} (h1:bind x ρ = ok ρ1) (h2:body ρ1 = ok (.nx,ρ2)) (h3:eh bind body xs ρ2 = r):eh bind body (x :: xs) ρ = r:=by
 rw [eh,h1,dJ,h2];exact h3
theorem xc {Φ:az} {a:CE} {ρ:au} {n:Int} (h:aL Φ a ρ = ok (.int n)) (h0:0 <= n) (h1:n <= 1000000):d8 Φ (.ji a) ρ = ok ((List.range n.toNat).map fun (k:Nat)=>D.int (k:Int),ρ):=by
 show bd (aL Φ a ρ) _ = _
 rw [h]
 show (if n <= (dU:Int) /\ -(dU:Int) <= n then _ else _) = _
 have:(dU:Int) = 1000000:=rfl
 rw [if_pos (by omega)]
theorem zK {Φ:az} {a:CE} {ρ:au} {f:Fl} {ds:List D} (h:aL Φ a ρ = ok (.lst f ds)):d8 Φ (.seq a) ρ = ok (ag aK ds,if (bp f || ao bp ds) then qh (fM a) 0 ρ else ρ):=by
 show bd (aL Φ a ρ) _ = _
 rw [h,<- Al]
 show ok (_,if aq bp (.lst f ds) then _ else _) = _
 rw [Ad]
end DI
end
section
namespace DI
open PySem (Str)
noncomputable def eX (t b:Int):Int:=if b < 0 then -(Int.gcd t b:Int) else (Int.gcd t b:Int)
noncomputable def GD (t b:Int):Int:=t.fdiv (eX t b)
noncomputable def GF (t b:Int):Int:=b.fdiv (eX t b)
theorem vR {t b:Int} (h:b ≠ 0):0 < Int.gcd t b:=Int.gcd_pos_of_ne_zero_right t h
theorem i4 {t b:Int} (h:b ≠ 0):eX t b ≠ 0:=by
 have:=vR (t:=t) h
 unfold eX;split <;> omega
theorem HD {t b:Int} (h:b ≠ 0):Int.gcd t b <= b.natAbs:=Nat.le_of_dvd (by omega) (Nat.gcd_dvd_right _ _)
theorem Dl {t b:Int} (h:b ≠ 0):(eX t b).natAbs <= b.natAbs:=by
 have:=HD (t:=t) h
 unfold eX;split <;> omega
theorem mj {t b:Int} (h:b ≠ 0):∃ t' b':Int,t = eX t b * t' /\ b = eX t b * b' /\ GD t b = t' /\ GF t b = b' /\ 1 <= b' /\ Int.gcd t' b' = 1:=by
 have hg:=vR (t:=t) h
 obtain ⟨t1,ht⟩:(Int.gcd t b:Int) ∣ t:=Int.gcd_dvd_left ..
 obtain ⟨b1,hb⟩:(Int.gcd t b:Int) ∣ b:=Int.gcd_dvd_right ..
 have hc:Int.gcd t1 b1 = 1:=by
  have e:Int.gcd ((Int.gcd t b:Int) * t1) ((Int.gcd t b:Int) * b1) = Int.gcd t b * Int.gcd t1 b1:=by
   rw [Int.gcd_mul_left];simp
  rw [<- ht,<- hb] at e
  have:Int.gcd t b * 1 = Int.gcd t b * Int.gcd t1 b1:=by rw [Nat.mul_one];exact e
  exact (Nat.eq_of_mul_eq_mul_left hg this).symm
 by_cases hn:b < 0
 ·have ed:eX t b = -(Int.gcd t b:Int):=by simp [eX,hn]
  have e1:t = eX t b * (-t1):=by rw [ed,Int.neg_mul_neg];exact ht
  have e2:b = eX t b * (-b1):=by rw [ed,Int.neg_mul_neg];exact hb
  refine ⟨-t1,-b1,e1,e2,?_,?_,?_,by rw [Int.gcd_neg,Int.neg_gcd];exact hc⟩
  ·unfold GD
   conv=>lhs;arg 1;rw [e1]
   exact Int.mul_fdiv_cancel_left _ (i4 h)
  ·unfold GF
   conv=>lhs;arg 1;rw [e2]
   exact Int.mul_fdiv_cancel_left _ (i4 h)
  ·have:b1 < 0:=by
    by_cases Sq:b1 < 0
    ·exact Sq
    ·have:0 <= (Int.gcd t b:Int) * b1:=Int.mul_nonneg (by omega) (by omega)
     omega
   omega
 ·have ed:eX t b = (Int.gcd t b:Int):=by simp [eX,hn]
  have e1:t = eX t b * t1:=by rw [ed];exact ht
  have e2:b = eX t b * b1:=by rw [ed];exact hb
  refine ⟨t1,b1,e1,e2,?_,?_,?_,hc⟩
  ·unfold GD
   conv=>lhs;arg 1;rw [e1]
   exact Int.mul_fdiv_cancel_left _ (i4 h)
  ·unfold GF
   conv=>lhs;arg 1;rw [e2]
   exact Int.mul_fdiv_cancel_left _ (i4 h)
  ·have:0 < b1:=by
    by_cases Sq:0 < b1
    ·exact Sq
    ·have:(Int.gcd t b:Int) * b1 <= 0:=Int.mul_nonpos_of_nonneg_of_nonpos (by omega) (by omega)
     omega
   omega
noncomputable def qD (q:Rat):D:=.tup [.int q.num,.int q.den]
@[simp] theorem tU (g:Fl -> Fl) (q:Rat):aD g (qD q) = qD q:=by unfold qD;simp
@[simp] theorem mM (g:Fl -> Bool) (q:Rat):aq g (qD q) = false:=by unfold qD;simp
noncomputable def bW (qs:List Rat):List D:=qs.map qD
@[simp] theorem NJ (qs:List Rat):(bW qs).length = qs.length:=List.length_map ..
@[simp] theorem NI:bW [] = []:=rfl
@[simp] theorem KD (q:Rat) (qs:List Rat):bW (q :: qs) = qD q :: bW qs:=rfl
@[simp] theorem KC (qs:List Rat) (q:Rat):bW qs ++ [qD q] = bW (qs ++ [q]):=by simp [bW]
@[simp] theorem B3 (qs:List Rat) (i:Nat):(bW qs)[i]? = qs[i]?.map qD:=List.getElem?_map ..
@[simp] theorem NH (qs:List Rat) (i:Nat) (q:Rat):(bW qs).set i (qD q) = bW (qs.set i q):=by unfold bW;rw [List.map_set]
@[simp] theorem zx (g:Fl -> Fl) (qs:List Rat):ag g (bW qs) = bW qs:=aZ g (tU g) qs
@[simp] theorem Mh (g:Fl -> Bool) (qs:List Rat):ao g (bW qs) = false:=bo g (mM g) qs
theorem zi (n:Nat) (q:Rat):cC (n + 1) (qD q) = true:=by
 unfold qD
 rw [jz,List.all_cons,List.all_cons,fc,fc];rfl
theorem Ar (p q:Rat):i3 (qD p) (qD q) = decide (p = q):=by
 unfold qD
 rw [Dd,kl,kl,Aq,lI,lI,Bool.and_true]
 by_cases h:p = q
 ·subst h;simp
 ·rw [decide_eq_false h]
  cases e1:decide (p.num = q.num) with
  | false=>rfl
  | true =>
   cases e2:decide ((p.den:Int) = (q.den:Int)) with
   | false=>rfl
   | true =>
    refine absurd (Rat.ext (by simpa using e1) ?_) h
    have:(p.den:Int) = q.den:=by simpa using e2
    omega
@[simp] theorem VH (q:Rat):tZ (qD q) (.int 0) = ok (.int q.num):=by unfold qD;simp
@[simp] theorem VG (q:Rat):tZ (qD q) (.int 1) = ok (.int q.den):=by unfold qD;simp
theorem qj {t b:Int} (hb:b ≠ 0):t.fdiv (eX t b) = (Rat.divInt t b).num /\ b.fdiv (eX t b) = ((Rat.divInt t b).den:Int):=by
 obtain ⟨t',b',e1,e2,h1,h2,h3,h4⟩:=mj (t:=t) hb
 have hd:=i4 (t:=t) hb
 have e:Rat.divInt t b = Rat.divInt t' b':=by
  generalize eX t b = d at *
  rw [e1,e2]
  exact Rat.divInt_mul_left hd
 obtain ⟨n,rfl⟩:∃ n:Nat,b' = (n:Int):=⟨b'.toNat,by omega⟩
 have hc:t'.natAbs.Coprime n:=by
  have:Nat.gcd t'.natAbs n = 1:=by simpa [Int.gcd] using h4
  exact this
 have hn:n ≠ 0:=by omega
 have e3:Rat.divInt t' (n:Int) = ⟨t',n,hn,hc⟩:=Rat.mk_eq_divInt.symm
 rw [e,e3]
 exact ⟨h1,h2⟩
theorem jy (q:Rat):(q.den:Int) ≠ 0:=by have:=q.den_pos;omega
theorem KH (q:Rat):(1:Int) <= q.den:=by have:=q.den_pos;omega
theorem iV (q:Rat):Rat.divInt q.num q.den = q:=Rat.num_divInt_den q
theorem lz {t b:Int} (hb:b ≠ 0):(Rat.divInt t b).num.natAbs <= t.natAbs /\ (Rat.divInt t b).den <= b.natAbs:=by
 obtain ⟨t',b',e1,e2,h1,h2,h3,h4⟩:=mj (t:=t) hb
 obtain ⟨g1,g2⟩:=qj (t:=t) hb
 have hd:1 <= (eX t b).natAbs:=by have:=i4 (t:=t) hb;omega
 rw [show t.fdiv (eX t b) = t' from h1] at g1
 rw [show b.fdiv (eX t b) = b' from h2] at g2
 refine ⟨?_,?_⟩
 ·rw [<- g1]
  have:t.natAbs = (eX t b).natAbs * t'.natAbs:=by rw [<- Int.natAbs_mul,<- e1]
  rw [this];exact Nat.le_mul_of_pos_left _ hd
 ·have hz:(Rat.divInt t b).den = b'.natAbs:=by omega
  rw [hz]
  have:b.natAbs = (eX t b).natAbs * b'.natAbs:=by rw [<- Int.natAbs_mul,<- e2]
  rw [this];exact Nat.le_mul_of_pos_left _ hd
theorem Ec (p q:Rat):p + q = Rat.divInt (p.num * q.den + q.num * p.den) (p.den * q.den):=by
 conv=>lhs;rw [<- iV p,<- iV q]
 exact Rat.divInt_add_divInt _ _ (jy p) (jy q)
theorem KG (p q:Rat):p - q = Rat.divInt (p.num * q.den - q.num * p.den) (p.den * q.den):=by
 conv=>lhs;rw [<- iV p,<- iV q]
 exact Rat.divInt_sub_divInt _ _ (jy p) (jy q)
theorem KJ (p q:Rat):p * q = Rat.divInt (p.num * q.num) (p.den * q.den):=by
 conv=>lhs;rw [<- iV p,<- iV q]
 exact Rat.divInt_mul_divInt _ _
noncomputable def Sm (k:Nat) (q:Rat):Prop:=q.num.natAbs < 2 ^ k /\ q.den < 2 ^ k
theorem Sm.mono {k l:Nat} {q:Rat} (h:Sm k q) (hl:k <= l):Sm l q :=
 ⟨Nat.lt_of_lt_of_le h.1 (Nat.pow_le_pow_right (by decide) hl),Nat.lt_of_lt_of_le h.2 (Nat.pow_le_pow_right (by decide) hl)⟩
theorem bL {a b k l:Nat} (h:a < 2 ^ k) (h':b < 2 ^ l):a * b < 2 ^ (k + l):=by
 rw [Nat.pow_add]
 exact Nat.mul_lt_mul'' h h'
theorem DL (a b:Int):(a + b).natAbs <= a.natAbs + b.natAbs:=by omega
theorem DK (a b:Int):(a - b).natAbs <= a.natAbs + b.natAbs:=by omega
section
variable {k l:Nat} {p q:Rat}
theorem Sm.den (h:Sm k p) (h':Sm l q):((p.den:Int) * q.den).natAbs < 2 ^ (k + l):=by
 rw [Int.natAbs_mul];exact bL (by simpa using h.2) (by simpa using h'.2)
theorem Sm.add (h:Sm k p) (h':Sm l q):Sm (k + l + 1) (p + q):=by
 have hb:(p.den:Int) * q.den ≠ 0:=Int.mul_ne_zero (jy p) (jy q)
 obtain ⟨g1,g2⟩:=lz (t:=p.num * q.den + q.num * p.den) hb
 rw [<- Ec] at g1 g2
 have n1:(p.num * q.den).natAbs < 2 ^ (k + l):=by rw [Int.natAbs_mul];exact bL h.1 (by simpa using h'.2)
 have n2:(q.num * p.den).natAbs < 2 ^ (k + l):=by rw [Int.natAbs_mul,Nat.add_comm];exact bL h'.1 (by simpa using h.2)
 have:=DL (p.num * q.den) (q.num * p.den)
 have e:2 ^ (k + l + 1) = 2 ^ (k + l) * 2:=Nat.pow_succ ..
 have d:=h.den h'
 exact ⟨by omega,by omega⟩
theorem Sm.sub (h:Sm k p) (h':Sm l q):Sm (k + l + 1) (p - q):=by
 have hb:(p.den:Int) * q.den ≠ 0:=Int.mul_ne_zero (jy p) (jy q)
 obtain ⟨g1,g2⟩:=lz (t:=p.num * q.den - q.num * p.den) hb
 rw [<- KG] at g1 g2
 have n1:(p.num * q.den).natAbs < 2 ^ (k + l):=by rw [Int.natAbs_mul];exact bL h.1 (by simpa using h'.2)
 have n2:(q.num * p.den).natAbs < 2 ^ (k + l):=by rw [Int.natAbs_mul,Nat.add_comm];exact bL h'.1 (by simpa using h.2)
 have:=DK (p.num * q.den) (q.num * p.den)
 have e:2 ^ (k + l + 1) = 2 ^ (k + l) * 2:=Nat.pow_succ ..
 have d:=h.den h'
 exact ⟨by omega,by omega⟩
theorem Sm.mul (h:Sm k p) (h':Sm l q):Sm (k + l) (p * q):=by
 have hb:(p.den:Int) * q.den ≠ 0:=Int.mul_ne_zero (jy p) (jy q)
 obtain ⟨g1,g2⟩:=lz (t:=p.num * q.num) hb
 rw [<- KJ] at g1 g2
 have n1:(p.num * q.num).natAbs < 2 ^ (k + l):=by rw [Int.natAbs_mul];exact bL h.1 h'.1
 have d:=h.den h'
 exact ⟨by omega,by omega⟩
theorem Sm.big (h:Sm k p) (hk:k <= 9000):p.num.natAbs < 2 ^ 9000 /\ (p.den:Int).natAbs < 2 ^ 9000:=by
 have:=h.mono hk
 exact ⟨this.1,by simpa using this.2⟩
end
theorem wL {t b:Int} {k:Nat} (hb:b ≠ 0) (h1:t.natAbs < 2 ^ k) (h2:b.natAbs < 2 ^ k):Sm k (Rat.divInt t b):=by
 obtain ⟨g1,g2⟩:=lz (t:=t) hb
 exact ⟨by omega,by omega⟩
end DI
end
section
namespace DI
open PySem (Str)
noncomputable def dv (d:D):Bool:=dB .int d && !dB .bool d
noncomputable def dq (m:List D -> O D):Prop:=∀ d,m [d] = ok (.bl (dv d))
noncomputable def gj:List CS:=[.ret (.and [(.lE (.v 0) .int),(.not (.lE (.v 0) .bool))])]
theorem cq (Φ:az):dq (mk Φ 1 1 gj):=by
 intro d
 simp [mk_eq,gj,dv]
theorem mX (a:Int) {b:Int} (h:b ≠ 0):(a.fmod b).natAbs < b.natAbs:=by
 rcases Int.lt_or_gt_of_ne h with hb | hb
 ·have e:=Int.neg_fmod_neg a b
  have h1:=Int.fmod_nonneg_of_pos (-a) (show 0 < -b by omega)
  have h2:=Int.fmod_lt_of_pos (-a) (show 0 < -b by omega)
  omega
 ·have h1:=Int.fmod_nonneg_of_pos a hb
  have h2:=Int.fmod_lt_of_pos a hb
  omega
theorem Ai (a b:Int):Int.gcd b (a.fmod b) = Int.gcd a b:=by
 rw [Int.fmod_def,Int.gcd_sub_mul_left_right,Int.gcd_comm]
noncomputable def aN (m:List D -> O D):Prop:=∀ a b:Int,m [.int a,.int b] = ok (.int (Int.gcd a b))
noncomputable def yc:CS:=.Fb (.cmp .ne (.v 1) (.int 0)) [.asg (.nm 2) (.bin .mod (.v 0) (.v 1)),.asg (.nm 0) (.v 1),.asg (.nm 1) (.v 2)]
noncomputable def cT:List CS:=[yc,.ret (.bf .abs [(.v 0)])]
theorem DB (Φ:az):∀ (n:Nat) (a b:Int) (r:Option D),b.natAbs <= n -> ∃ (g:Int) (r':Option D),qk Φ yc [some (.int a),some (.int b),r] = ok (.nx,[some (.int g),some (.int 0),r']) /\ g.natAbs = Int.gcd a b:=by
 intro n
 induction n with
 | zero =>
  intro a b r h
  have hb:b = 0:=by omega
  subst hb
  refine ⟨a,r,?_,by simp⟩
  rw [yc,oF]
  exact fX (by simp)
 | succ n ih =>
  intro a b r h
  by_cases hb:b = 0
  ·subst hb
   refine ⟨a,r,?_,by simp⟩
   rw [yc,oF]
   exact fX (by simp)
  ·have fQ:=mX a hb
   obtain ⟨g,r',e,hg⟩:=ih b (a.fmod b) (some (.int (a.fmod b))) (by omega)
   refine ⟨g,r',?_,by rw [hg,Ai]⟩
   rw [yc,oF] at e ⊢
   rw [<- e]
   exact lS (by simp [hb])
theorem aM (Φ:az):aN (mk Φ 2 3 cT):=by
 intro a b
 obtain ⟨g,r',e,hg⟩:=DB Φ b.natAbs a b none (Nat.le_refl _)
 have e1:(g.natAbs:Int) = (Int.gcd a b:Int):=by omega
 simp [mk_eq,cT,e,e1]
noncomputable def jW (m:List D -> O D):Prop:=∀ t b:Int,b ≠ 0 -> b.natAbs < 2 ^ 9000 -> m [.int t,.int b] = ok (qD (Rat.divInt t b))
noncomputable def dX (m:List D -> O D):Prop:=jW m /\ ∀ t:Int,m [.int t,.int 0] = some (.error 0)
noncomputable def cA:List CS:=[.ifs (.cmp .eq (.v 1) (.int 0)) [.rs 0] [],.asg (.nm 2) (.call 1 [(.v 0),(.v 1)]),.ifs (.cmp .lt (.v 1) (.int 0)) [.asg (.nm 2) (.neg (.v 2))] [],.ret (.tup [(.bin .fdiv (.v 0) (.v 2)),(.bin .fdiv (.v 1) (.v 2))])]
theorem lJ {t b:Int} (hb:b ≠ 0) (h:b.natAbs < 2 ^ 9000) (x:Int):cX .fdiv (.int x) (.int (eX t b)) = ok (.int (x.fdiv (eX t b))) :=
 nr (g_ (i4 hb) (Nat.lt_of_le_of_lt (Dl hb) h))
theorem bj (Φ:az) (h1:aN (Φ 1)):dX (mk Φ 2 3 cA):=by
 refine ⟨fun t b hb h=>?_,fun t=>by simp [mk_eq,cA]⟩
 obtain ⟨e1,e2⟩:=qj (t:=t) hb
 unfold aN at h1
 have d1:=lJ (t:=t) hb h t
 have d2:=lJ (t:=t) hb h b
 rw [qD,<- e1,<- e2]
 by_cases hn:b < 0
 ·have ed:-(Int.gcd t b:Int) = eX t b:=by simp [eX,hn]
  simp [mk_eq,cA,hb,h1,hn,ed,d1,d2]
 ·have ed:(Int.gcd t b:Int) = eX t b:=by simp [eX,hn]
  simp [mk_eq,cA,hb,h1,hn,ed,d1,d2]
noncomputable def kM:D -> Bool
 | .tup [.int a,.int b]=>decide (1 <= b) && decide (Int.gcd a b = 1)
 | _=>false
theorem C5 (q:Rat):kM (qD q) = true:=by
 have h1:=KH q
 have h2:Int.gcd q.num q.den = 1:=by
  have:=q.reduced
  simpa [Int.gcd] using this
 simp [qD,kM,h1,h2]
noncomputable def fA (m:List D -> O D):Prop:=∀ d,m [d] = ok (.bl (kM d))
noncomputable def bz:List CS:=[.ifs (.or [(.not (.lE (.v 0) .tuple)),(.cmp .ne (.bf .len [(.v 0)]) (.int 2))]) [.ret (.bl false)] [],.ifs (.or [(.not (.call 0 [(.ix (.v 0) (.int 0))])),(.not (.call 0 [(.ix (.v 0) (.int 1))]))]) [.ret (.bl false)] [],.ret (.and [(.cmp .ge (.ix (.v 0) (.int 1)) (.int 1)),(.cmp .eq (.call 1 [(.ix (.v 0) (.int 0)),(.ix (.v 0) (.int 1))]) (.int 1))])]
theorem kE (g:Fl -> Fl) (d:D):dv (aD g d) = dv d:=by simp [dv]
theorem lR {d:D} (h:dv d = true):∃ i,d = .int i:=by
 cases d <;> simp [dv,dB] at h ⊢
theorem o7 {x y:D} (h:dv x = false \/ dv y = false):kM (.tup [x,y]) = false:=by
 cases x <;> cases y <;> simp [dv,dB] at h <;> rfl
theorem xC {ds:List D} (h:ds.length ≠ 2):kM (.tup ds) = false:=by
 unfold kM
 split
 ·rename_i e;cases e;simp at h
 ·rfl
theorem bh (Φ:az) (h0:dq (Φ 0)) (h1:aN (Φ 1)):fA (mk Φ 1 1 bz):=by
 intro d
 unfold dq at h0
 unfold aN at h1
 cases d with
 | tup ds =>
  by_cases hl:ds.length = 2
  ·match ds,hl with
   | [x,y],_ =>
    by_cases hx:dv x = true
    ·by_cases hy:dv y = true
     ·obtain ⟨a,rfl⟩:=lR hx
      obtain ⟨b,rfl⟩:=lR hy
      simp [mk_eq,bz,h0,h1,hx,hy,dB,kM]
      by_cases hg:a.gcd b = 1
      ·simp [hg]
      ·simp [hg];omega
     ·simp [mk_eq,bz,h0,hx,hy,dB,kE,o7 (.inr (by simpa using hy))]
    ·simp [mk_eq,bz,h0,hx,dB,kE,o7 (.inl (by simpa using hx))]
  ·have o4:¬ (ds.length:Int) = 2:=by omega
   simp [mk_eq,bz,dB,o4,xC hl]
 | _=>simp [mk_eq,bz,dB,kM]
noncomputable def kO (m:List D -> O D):Prop:=∀ p q,Sm 4000 p -> Sm 4000 q -> m [qD p,qD q] = ok (qD (p + q))
noncomputable def wm (f:Nat):List CS:=[.ret (.call f [(.bin .add (.bin .mul (.ix (.v 0) (.int 0)) (.ix (.v 1) (.int 1))) (.bin .mul (.ix (.v 1) (.int 0)) (.ix (.v 0) (.int 1)))),(.bin .mul (.ix (.v 0) (.int 1)) (.ix (.v 1) (.int 1)))])]
section
variable (Φ:az) {f:Nat} (h2:jW (Φ f))
theorem TM {p q:Rat} (hp:Sm 4000 p) (hq:Sm 4000 q):(p.den:Int) * q.den ≠ 0 /\ ((p.den:Int) * q.den).natAbs < 2 ^ 9000 :=
 ⟨Int.mul_ne_zero (jy p) (jy q),Nat.lt_of_lt_of_le (hp.den hq) (Nat.pow_le_pow_right (by decide) (by decide))⟩
theorem Lf {p q:Rat} (hp:Sm 4000 p) (hq:Sm 4000 q):cX .mul (.int p.num) (.int q.den) = ok (.int (p.num * q.den)) /\ cX .mul (.int p.num) (.int q.num) = ok (.int (p.num * q.num)) /\ cX .mul (.int p.den) (.int q.den) = ok (.int (p.den * q.den)) /\ cX .mul (.int p.den) (.int q.num) = ok (.int (p.den * q.num)):=by
 obtain ⟨a,b⟩:=hp.big (by decide)
 obtain ⟨c,d⟩:=hq.big (by decide)
 exact ⟨iS (mulOk_of a d),iS (mulOk_of a c),iS (mulOk_of b d),iS (mulOk_of b c)⟩
include h2
theorem Kq:kO (mk Φ 2 2 (wm f)):=by
 intro p q hp hq
 obtain ⟨a,b,c,d⟩:=Lf hp hq
 obtain ⟨a',b',c',d'⟩:=Lf hq hp
 obtain ⟨n,k⟩:=TM hp hq
 have e:=h2 (p.num * q.den + q.num * p.den) _ n k
 rw [<- Ec] at e
 simp [mk_eq,wm,a,a',c,e]
end
end DI
end
section
namespace DI
open PySem (Str)
theorem AE {bind:D -> O au} {test:au -> O Bool} {el:au -> O D} {g:D -> D} {xs:List D} (h:∀ x ∈ xs,∃ ρ,bind x = ok ρ /\ test ρ = ok true /\ el ρ = ok (g x)):fT bind test el xs = ok (xs.map g):=by
 have:=bN (bind:=bind) (test:=test) (el:=el) (e:=fun d=>d) (g:=g) (xs:=xs) h
 rwa [List.map_id'] at this
noncomputable def xQ (d:D):Prop:=match d with
 | .lst _ ds=>ds.length <= 1000000
 | .tup ds=>ds.length < 64
 | _=>True
noncomputable def cf (qs:List Rat):Nat:=qs.foldl (fun b q=>Nat.lcm b q.den) 1
theorem zE (b:Nat) (q:Rat):(b:Int).fdiv (Int.gcd b q.den) * q.den = (Nat.lcm b q.den:Nat):=by
 have hg:0 < Nat.gcd b q.den:=Nat.gcd_pos_of_pos_right _ q.den_pos
 have e:Int.gcd (b:Int) (q.den:Int) = Nat.gcd b q.den:=by simp [Int.gcd]
 rw [e,Int.fdiv_eq_ediv_of_nonneg _ (by omega)]
 have:((b:Int) / (Nat.gcd b q.den:Nat)) = ((b / Nat.gcd b q.den:Nat):Int):=(Int.natCast_ediv ..).symm
 rw [this,Nat.lcm]
 have hd:Nat.gcd b q.den ∣ b:=Nat.gcd_dvd_left ..
 rw [Nat.mul_comm b,Nat.mul_div_assoc _ hd,Nat.mul_comm]
 exact (Int.natCast_mul ..).symm
theorem lcm_pos {b:Nat} (hb:0 < b) (q:Rat):0 < Nat.lcm b q.den:=Nat.lcm_pos hb q.den_pos
theorem vt:∀ (qs:List Rat) (b k j:Nat),0 < b -> b < 2 ^ j -> (∀ q ∈ qs,Sm k q) -> 0 < qs.foldl (fun b q=>Nat.lcm b q.den) b /\ qs.foldl (fun b q=>Nat.lcm b q.den) b < 2 ^ (j + k * qs.length) /\ b ∣ qs.foldl (fun b q=>Nat.lcm b q.den) b /\ ∀ q ∈ qs,q.den ∣ qs.foldl (fun b q=>Nat.lcm b q.den) b
 | [],b,k,j,h0,h1,_=>⟨h0,by simpa using h1,Nat.dvd_refl _,fun q hq=>nomatch hq⟩
 | q :: qs,b,k,j,h0,h1,hs=>by
  have hq:=hs q List.mem_cons_self
  have h2:Nat.lcm b q.den < 2 ^ (j + k):=Nat.lt_of_le_of_lt (Nat.lcm_le_mul h0 q.den_pos) (bL h1 hq.2)
  obtain ⟨g1,g2,g3,g4⟩:=vt qs (Nat.lcm b q.den) k (j + k) (lcm_pos h0 q) h2 fun p hp=>hs p (List.mem_cons_of_mem _ hp)
  have e:j + k * (q :: qs).length = j + k + k * qs.length:=by rw [List.length_cons,Nat.mul_succ];omega
  refine ⟨g1,by rw [e];exact g2,Nat.dvd_trans (Nat.dvd_lcm_left ..) g3,fun p hp=>?_⟩
  rcases List.mem_cons.mp hp with rfl | hp
  ·exact Nat.dvd_trans (Nat.dvd_lcm_right ..) g3
  ·exact g4 p hp
structure AV (k:Nat) (qs:List Rat):Prop where
 sm:∀ q ∈ qs,Sm k q
 ui:k * qs.length <= 3000
 len:qs.length <= 1000
theorem AV.lcm {k:Nat} {qs:List Rat} (h:AV k qs):0 < cf qs /\ cf qs < 2 ^ (1 + k * qs.length) /\ ∀ q ∈ qs,q.den ∣ cf qs:=by
 obtain ⟨g1,g2,_,g4⟩:=vt qs 1 k 1 (by decide) (by decide) h.sm
 exact ⟨g1,g2,g4⟩
theorem zB {n j:Nat} (h:n < 2 ^ j) (hj:j <= 9000):n < 2 ^ 9000:=Nat.lt_of_lt_of_le h (Nat.pow_le_pow_right (by decide) hj)
noncomputable def eu (m:List D -> O D):Prop:=∀ f qs k,AV k qs -> m [.lst f (bW qs)] = ok (.int (cf qs))
noncomputable def bI:List CS:=[.asg (.nm 1) (.bin .mul (.bin .fdiv (.v 1) (.call 1 [(.v 1),(.ix (.v 2) (.int 1))])) (.ix (.v 2) (.int 1)))]
noncomputable def cx:List CS:=[.asg (.nm 1) (.int 1),.fr (.nm 2) (.seq (.v 0)) bI,.ret (.v 1)]
theorem wj (Φ:az) (h1:aN (Φ 1)) (x:Option D):∀ (qs:List Rat) (b k j:Nat) (z:Option D),0 < b -> b < 2 ^ j -> j + k * qs.length <= 8000 -> (∀ q ∈ qs,Sm k q) ->
  ∃ z',eh (fun d ρ=>ck (.nm 2) d ρ) (fun ρ=>bq Φ bI ρ) (bW qs) [x,some (.int b),z] = ok (.nx,[x,some (.int (qs.foldl (fun b q=>Nat.lcm b q.den) b:Nat)),z'])
 | [],b,k,j,z,_,_,_,_=>⟨z,rfl⟩
 | q :: qs,b,k,j,z,h0,hb,hj,hs=>by
  have hq:=hs q List.mem_cons_self
  have h2:Nat.lcm b q.den < 2 ^ (j + k):=Nat.lt_of_le_of_lt (Nat.lcm_le_mul h0 q.den_pos) (bL hb hq.2)
  have e:j + k * (q :: qs).length = j + k + k * qs.length:=by rw [List.length_cons,Nat.mul_succ];omega
  obtain ⟨z',ih⟩:=wj Φ h1 x qs (Nat.lcm b q.den) k (j + k) (some (qD q)) (lcm_pos h0 q) h2 (by omega) fun p hp=>hs p (List.mem_cons_of_mem _ hp)
  have hg:0 < Nat.gcd b q.den:=Nat.gcd_pos_of_pos_right _ q.den_pos
  have eg:Int.gcd (b:Int) (q.den:Int) = Nat.gcd b q.den:=by simp [Int.gcd]
  have Se:Nat.gcd b q.den <= b:=Nat.le_of_dvd h0 (Nat.gcd_dvd_left ..)
  have V2:b < 2 ^ 9000:=zB hb (by omega)
  have d1:cX .fdiv (.int b) (.int (Nat.gcd b q.den:Nat)) = ok (.int ((b:Int).fdiv (Nat.gcd b q.den:Nat))):=nr (g_ (by omega) (by simpa using Nat.lt_of_le_of_lt Se V2))
  have hm:((b:Int).fdiv (Nat.gcd b q.den:Nat)).natAbs <= b:=by
   rw [Int.fdiv_eq_ediv_of_nonneg _ (by omega),<- Int.natCast_ediv]
   simp;exact Nat.div_le_self ..
  have d2:cX .mul (.int ((b:Int).fdiv (Nat.gcd b q.den:Nat))) (.int q.den) = ok (.int (Nat.lcm b q.den:Nat)):=by
   have:=zE b q
   rw [eg] at this
   rw [iS (mulOk_of (Nat.lt_of_le_of_lt hm V2) (hq.big (by
    rw [e] at hj
    have:k <= j + k + k * qs.length:=by omega
    omega)).2),this]
  unfold aN at h1
  refine ⟨z',dD (ρ1:=[x,some (.int b),some (qD q)]) (by simp) (ρ2:=[x,some (.int (Nat.lcm b q.den:Nat)),some (qD q)]) ?_ ih⟩
  simp [bI,h1,d1,d2]
theorem aQ (Φ:az) (h1:aN (Φ 1)):eu (mk Φ 1 3 cx):=by
 intro f qs k hs
 have hit:d8 Φ (.seq (.v 0)) [some (.lst f (bW qs)),some (.int 1),none] = ok (bW qs,if (bp (bc f) || false) then [some (.lst (aK f) (bW qs)),some (.int 1),none] else [some (.lst f (bW qs)),some (.int 1),none]):=by
  rw [zK (f:=bc f) (ds:=bW qs) (by simp)]
  simp [show fM (.v 0) = [0] from rfl]
 have hk:=hs.ui
 have hx:∀ x:Option D,∃ z',eh (fun d ρ=>ck (.nm 2) d ρ) (fun ρ=>bq Φ bI ρ) (bW qs) [x,some (.int (1:Nat)),none] = ok (.nx,[x,some (.int (cf qs)),z']):=fun x=>wj Φ h1 x qs 1 k 1 none (by decide) (by decide) (by omega) hs.sm
 cases hf:(bp (bc f) || false) with
 | true =>
  rw [hf] at hit
  obtain ⟨z',e⟩:=hx (some (.lst (aK f) (bW qs)))
  have:=fN (t:=.nm 2) (b:=bI) hit e
  simp [mk_eq,cx,this]
 | false =>
  rw [hf] at hit
  obtain ⟨z',e⟩:=hx (some (.lst f (bW qs)))
  have:=fN (t:=.nm 2) (b:=bI) hit e
  simp [mk_eq,cx,this]
noncomputable def bA (b:Nat) (q:Rat):Int:=q.num * (b:Int).fdiv q.den
theorem KI (q:Rat):(q.num:Rat) = q * (q.den:Rat):=by
 have h:(q.den:Rat) ≠ 0:=by
  have:=q.den_pos
  intro z
  have:((q.den:Int):Rat) = 0:=by rw [Rat.intCast_natCast];exact z
  rw [Rat.intCast_eq_zero_iff] at this
  omega
 have e:q = (q.num:Rat) / (q.den:Rat):=by
  conv=>lhs;rw [<- iV q,Rat.divInt_eq_div,Rat.intCast_natCast]
 grind
theorem qU {b:Nat} {q:Rat} (h:q.den ∣ b):((bA b q:Int):Rat) = q * (b:Rat):=by
 obtain ⟨c,rfl⟩:=h
 have hd:(q.den:Int) ≠ 0:=jy q
 unfold bA
 rw [Int.natCast_mul,Int.mul_fdiv_cancel_left _ hd,Rat.intCast_mul,KI,Rat.natCast_mul,Rat.intCast_natCast]
 grind
theorem lU {b:Nat}:∀ {qs:List Rat},(∀ q ∈ qs,q.den ∣ b) -> (((qs.map (bA b)).sum:Int):Rat) = qs.sum * (b:Rat)
 | [],_=>by simp
 | q :: qs,h=>by
  rw [List.map_cons,List.sum_cons,List.sum_cons,Rat.intCast_add,qU (h q List.mem_cons_self),lU fun p hp=>h p (List.mem_cons_of_mem _ hp)]
  grind
noncomputable def hV (m:List D -> O D):Prop:=∀ f qs k (b:Nat),AV k qs -> b < 2 ^ 8000 -> m [.lst f (bW qs),.int b] = ok (.lst .ow (aa (qs.map (bA b))))
noncomputable def fj:List CS:=[.ret (.comp 1 (.nm 0) [1] .seq [(.v 0)] [] (.bin .mul (.ix (.v 0) (.int 0)) (.bin .fdiv (.v 1) (.ix (.v 0) (.int 1)))))]
theorem BR {k:Nat} {qs:List Rat} (h:AV k qs) {q:Rat} (hq:q ∈ qs):Sm 3000 q:=by
 refine (h.sm q hq).mono ?_
 have h1:=h.ui
 have h2:0 < qs.length:=List.length_pos_of_mem hq
 have:k * 1 <= k * qs.length:=Nat.mul_le_mul_left _ h2
 omega
theorem bJ (Φ:az):hV (mk Φ 2 2 fj):=by
 intro f qs k b hs hb
 have vE:aL Φ (.comp 1 (.nm 0) [1] .seq [(.v 0)] [] (.bin .mul (.ix (.v 0) (.int 0)) (.bin .fdiv (.v 1) (.ix (.v 0) (.int 1))))) [some (.lst f (bW qs)),some (.int b)] = ok (.lst .ow (aa (qs.map (bA b)))):=by
  rw [cR (xs:=[.lst (bc f) (bW qs)]) (items:=bW qs) (ds:=qs.map fun q=>.int (bA b q)) (by simp) (by rw [dS];simp) (bN fun q hq=>?_) (by have:=hs.len;simp;exact cv (by omega))]
  ·have:(qs.map fun q=>D.int (bA b q)) = aa (qs.map (bA b)):=by simp [aa]
   rw [this,fg]
  ·refine ⟨[some (qD q),some (.int b)],by simp [aT],by simp,?_⟩
   have h3:=BR hs hq
   obtain ⟨g1,g2⟩:=h3.big (by decide)
   have d1:cX .fdiv (.int b) (.int q.den) = ok (.int ((b:Int).fdiv q.den)):=nr (g_ (jy q) g2)
   have d2:cX .mul (.int q.num) (.int ((b:Int).fdiv q.den)) = ok (.int (q.num * (b:Int).fdiv q.den)):=by
    refine iS (mulOk_of g1 ?_)
    rw [Int.fdiv_eq_ediv_of_nonneg _ (by omega),<- Int.natCast_ediv]
    have:=Nat.div_le_self b q.den
    have h9:=zB hb (by decide)
    rw [Int.natAbs_natCast];exact Nat.lt_of_le_of_lt this h9
   simp [d1,d2,bA]
 simp [mk_eq,fj,vE]
theorem AV.Q4 {k:Nat} {qs:List Rat} (h:AV k qs):cf qs < 2 ^ 8000:=Nat.lt_of_lt_of_le h.lcm.2.1 (Nat.pow_le_pow_right (by decide) (by have:=h.ui;omega))
theorem BE {b:Nat} {qs:List Rat} (h0:0 < b) (h:∀ q ∈ qs,q.den ∣ b):Rat.divInt (qs.map (bA b)).sum b = qs.sum:=by
 have hb:((b:Nat):Rat) ≠ 0:=by
  intro z
  have:((b:Int):Rat) = 0:=by rw [Rat.intCast_natCast];exact z
  rw [Rat.intCast_eq_zero_iff] at this
  omega
 rw [Rat.divInt_eq_div,lU h,Rat.intCast_natCast]
 grind
end DI
end
section
namespace DI
open PySem (Str)
noncomputable def cw (n:Int):D -> Bool
 | .int i=>decide (0 <= i) && decide (i < n)
 | _=>false
theorem kK (g:Fl -> Fl) (n:Int) (d:D):cw n (aD g d) = cw n d:=by
 cases d <;> simp [cw]
theorem fh {n:Int}:∀ {ds:List D},ds.all (cw n) = true -> ∃ ns:List Int,ds = aa ns
 | [],_=>⟨[],rfl⟩
 | d :: ds,h=>by
  simp only [List.all_cons,Bool.and_eq_true] at h
  obtain ⟨ns,rfl⟩:=fh h.2
  cases d with
  | int i=>exact ⟨i :: ns,rfl⟩
  | _=>simp [cw] at h
noncomputable def numsOf (ds:List D):List Int:=(intsOf ds).getD []
theorem gO (ns:List Int):numsOf (aa ns) = ns:=by unfold numsOf aa;rw [a_];rfl
noncomputable def cF (d:D) (n:Int):Bool:=match d with
 | .tup ds=>ds.all (cw n) && decide ((sA (numsOf ds)).length = ds.length)
 | _=>false
noncomputable def n8 (d:D) (n:Int):Bool:=cF d n && (match d with
 | .tup ds=>decide (numsOf ds = sortI (numsOf ds))
 | _=>false)
noncomputable def eH (m:List D -> O D):Prop:=∀ d n,xQ d -> m [d,.int n] = ok (.bl (cF d n))
noncomputable def cU:List CS:=[.ifs (.not (.lE (.v 0) .tuple)) [.ret (.bl false)] [],.ifs (.not (.bf .all1 [(.comp 1 (.nm 0) [1] .seq [(.v 0)] [] (.and [(.call 0 [(.v 0)]),(.cmp .ge (.v 0) (.int 0)),(.cmp .lt (.v 0) (.v 1))]))])) [.ret (.bl false)] [],.ret (.cmp .eq (.kc (.v 0)) (.bf .len [(.v 0)]))]
theorem bw (Φ:az) (h0:dq (Φ 0)):eH (mk Φ 2 2 cU):=by
 intro d n hc
 unfold dq at h0
 cases d with
 | tup ds =>
  have hl:ds.length < 64:=hc
  have vE:aL Φ (.comp 1 (.nm 0) [1] .seq [(.v 0)] [] (.and [(.call 0 [(.v 0)]),(.cmp .ge (.v 0) (.int 0)),(.cmp .lt (.v 0) (.v 1))])) [some (.tup ds),some (.int n)] = ok (.lst .ow (lh (ds.map (cw n)))):=by
   rw [cR (xs:=[.tup (ag bc ds)]) (by simp) (vz ..) (AE (g:=fun d=>.bl (cw n d)) fun x _=>⟨[some x,some (.int n)],by simp [aT],by simp,?_⟩) (by simp;exact cv (by omega))]
   ·simp [aC,Function.comp_def,kK,lh]
   ·cases x with
    | int i =>
     simp [h0,dv,dB,cw]
    | _=>simp [h0,dv,dB,cw]
  cases ha:ds.all (cw n) with
  | true =>
   obtain ⟨ns,rfl⟩:=fh ha
   have o4:ns.length < 4000:=by simp at hl;omega
   have e:(List.all (List.map (cw n) (aa ns)) id) = true:=by rw [List.all_map];exact ha
   simp [mk_eq,cU,dB,vE,e,Ig o4,cF,ha,gO]
   simp [Int.natCast_inj]
  | false =>
   have e:(List.all (List.map (cw n) ds) id) = false:=by rw [List.all_map];exact ha
   simp only [mk_eq,cU,List.length_cons,List.length_nil]
   simp [dB,vE,e,cF,ha]
 | _=>simp [mk_eq,cU,dB,cF]
noncomputable def nC (m:List D -> O D):Prop:=∀ d n,xQ d -> m [d,.int n] = ok (.bl (n8 d n))
noncomputable def fU:List CS:=[.ret (.and [(.call 43 [(.v 0),(.v 1)]),(.cmp .eq (.bf .list1 [(.v 0)]) (.bf .f_ [(.v 0)]))])]
theorem rK (n:Nat) (f:Fl) (ns:List Int):cC (n + 1) (.lst f (aa ns)) = true:=jA (fc n) ns
theorem xF (ns ms:List Int):cZ (aa ns) (aa ms) = decide (ns = ms):=g9 (fun x y=>lI x y) ns ms
theorem jF (g:Fl -> Fl) (d:D) (n:Int):cF (aD g d) n = cF d n:=by
 cases d with
 | tup ds =>
  cases h:ds.all (cw n) with
  | true =>
   obtain ⟨ns,rfl⟩:=fh h
   simp
  | false =>
   have h2:(ag g ds).all (cw n) = false:=by
    rw [aC,List.all_map,show (cw n ∘ aD g) = cw n from funext fun d=>kK g n d];exact h
   simp [cF,h,h2]
 | _=>simp [cF]
theorem pk {g:Fl -> Fl} {d:D} (h:xQ d):xQ (aD g d):=by
 cases d <;> simp_all [xQ]
theorem dz (Φ:az) (SJ:eH (Φ 43)):nC (mk Φ 2 2 fU):=by
 intro d n hc
 have e1:=SJ (aD aK (aD bc d)) n (pk (pk hc))
 rw [jF,jF] at e1
 cases d with
 | tup ds =>
  have hl:ds.length < 64:=hc
  simp only [zy] at e1
  cases ha:cF (.tup ds) n with
  | true =>
   have N6:=ha
   simp only [cF,Bool.and_eq_true] at N6
   obtain ⟨ns,rfl⟩:=fh N6.1
   have o4:ns.length < 64:=by simpa using hl
   have e2:dI .eq (.lst .ow (aa ns)) (.lst .ow (aa (sortI ns))) = ok (.bl (decide (ns = sortI ns))):=by
    rw [IE (rK 39 _ _) (rK 39 _ _),De,xF]
   rw [ha] at e1
   simp at e1
   simp [mk_eq,fU,e1,C8 o4,e2,n8,ha,gO]
  | false =>
   rw [ha] at e1
   simp [mk_eq,fU,e1,n8,ha]
 | _=>(simp at e1;simp [mk_eq,fU,e1,n8,cF])
noncomputable def sV (n:Nat) (l:List Int):Prop:=l.Pairwise (· < ·) /\ ∀ h ∈ l,0 <= h /\ h < (n:Int)
theorem v9:∀ (l m:List Int),(∀ x ∈ l,x ∉ m) -> l.Nodup -> l.foldl (fun (m:List Int) (k:Int)=>if m.any (· == k) then m else m ++ [k]) m = m ++ l
 | [],m,_,_=>by simp
 | x :: l,m,h,hn=>by
  have hx:m.any (· == x) = false:=by
   rw [List.any_eq_false]
   intro y hy z
   have:y = x:=by simpa using z
   exact h x List.mem_cons_self (this ▸ hy)
  rw [List.foldl_cons,hx,if_neg Bool.false_ne_true,v9 l (m ++ [x])]
  ·simp
  ·intro y hy z
   rcases List.mem_append.mp z with z | z
   ·exact h y (List.mem_cons_of_mem _ hy) z
   ·have:y = x:=by simpa using z
    subst this
    exact (List.nodup_cons.mp hn).1 hy
  ·exact (List.nodup_cons.mp hn).2
theorem sV.nodup {n:Nat} {l:List Int} (h:sV n l):l.Nodup:=h.1.imp fun z=>by omega
theorem yy {l:List Int} (h:l.Pairwise (· < ·)):sortI l = l:=by
 unfold sortI
 apply List.mergeSort_of_pairwise
 exact h.imp fun z=>by simp;omega
theorem sV.n8 {n:Nat} {l:List Int} (h:sV n l):n8 (.tup (aa l)) n = true:=by
 have h1:(aa l).all (cw n) = true:=by
  unfold aa
  rw [List.all_map,List.all_eq_true]
  intro x hx
  have:=h.2 x hx
  simp [cw,this.1,this.2]
 have h2:sA l = l:=by
  have:=v9 l [] (by simp) h.nodup
  rw [List.nil_append] at this
  exact this
 simp [DI.n8,cF,h1,gO,h2,yy h.1]
end DI
end
section
namespace DI
open PySem (Str)
noncomputable def bF (ns:List Int) (k:Int):Int :=
 let c:=if k < ns.length then ns.getD k.toNat 0 else 0
 if (10:Int) ^ 18 <= c then (c - 10 ^ 18).fmod (10 ^ 60) else
  let n:=(c * 48271 + k * 69621 + 11).fmod 2147483629
  let n:=(n * n).fmod 2147483587
  n * 2147483563 + (n * n).fmod 2147483563
noncomputable def qK (m:List D -> O D):Prop:=∀ (ns:List Int) (k:Int),0 <= k -> m [.lst .sc (aa ns),.int k] = ok (.int (bF ns k))
noncomputable def ej:List CS:=[.asg (.nm 2) (.int 0),.ifs (.cmp .lt (.v 1) (.bf .len [(.v 0)])) [.asg (.nm 2) (.ix (.v 0) (.v 1))] [],.ifs (.cmp .ge (.v 2) (.bin .pow (.int 10) (.int 18))) [.ret (.bin .mod (.bin .sub (.v 2) (.bin .pow (.int 10) (.int 18))) (.bin .pow (.int 10) (.int 60)))] [],.asg (.nm 3) (.bin .mod (.bin .add (.bin .add (.bin .mul (.v 2) (.int 48271)) (.bin .mul (.v 1) (.int 69621))) (.int 11)) (.int 2147483629)),.asg (.nm 3) (.bin .mod (.bin .mul (.v 3) (.v 3)) (.int 2147483587)),.ret (.bin .add (.bin .mul (.v 3) (.int 2147483563)) (.bin .mod (.bin .mul (.v 3) (.v 3)) (.int 2147483563)))]
theorem jK (a:Int) {b:Int} (h:0 < b):0 <= a.fmod b /\ a.fmod b < b:=⟨Int.fmod_nonneg_of_pos a h,Int.fmod_lt_of_pos a h⟩
theorem xP (Φ:az) (x:D) (k c:Int) (hx:dB .list x = true) (o:Option D):oo (bq Φ (ej.drop 2) [some x,some (.int k),some (.int c),o]) = ok (.int (if (10:Int) ^ 18 <= c then (c - 10 ^ 18).fmod (10 ^ 60) else
  let n:=(c * 48271 + k * 69621 + 11).fmod 2147483629
  let n:=(n * n).fmod 2147483587
  n * 2147483563 + (n * n).fmod 2147483563)):=by
 have p1:cX .pow (.int 10) (.int 18) = ok (.int (10 ^ 18)):=ES (by decide)
 have p2:cX .pow (.int 10) (.int 60) = ok (.int (10 ^ 60)):=ES (by decide)
 by_cases h:(10:Int) ^ 18 <= c
 ·have h':(1000000000000000000:Int) <= c:=h
  simp [ej,p1,p2,h']
 ·have h':¬ (1000000000000000000:Int) <= c:=h
  obtain ⟨a1,a2⟩:=jK (c * 48271 + k * 69621 + 11) (b:=2147483629) (by decide)
  generalize hn:(c * 48271 + k * 69621 + 11).fmod 2147483629 = n at *
  obtain ⟨a3,a4⟩:=jK (n * n) (b:=2147483587) (by decide)
  have m1:cX .mul (.int n) (.int n) = ok (.int (n * n)):=iS (p4 _ (by omega))
  generalize hm:(n * n).fmod 2147483587 = m at *
  have m2:cX .mul (.int m) (.int m) = ok (.int (m * m)):=iS (p4 _ (by omega))
  simp [ej,p1,h',hn,m1,hm,m2]
theorem FK (Φ:az):qK (mk Φ 2 4 ej):=by
 intro ns k hk
 have:=fun c=>xP Φ (.lst .sc (aa ns)) k c rfl none
 by_cases h:k < ns.length
 ·have hg:s9 (aa ns) k = ok (.int (ns.getD k.toNat 0)):=by
   have hl:k.toNat < ns.length:=by omega
   rw [at_of hk (d:=.int (ns.getD k.toNat 0)) (by rw [xl,List.getElem?_eq_getElem hl,Option.map_some,List.getD_eq_getElem?_getD,List.getElem?_eq_getElem hl];rfl)]
   simp
  have e:oo (bq Φ ej ([some (D.lst Fl.sc (aa ns)),some (D.int k)] ++ [none,none])) = oo (bq Φ (ej.drop 2) [some (.lst .sc (aa ns)),some (.int k),some (.int (ns.getD k.toNat 0)),none]):=by
   rw [ej,df,DU]
   simp only [Eo,EI,rV,mN]
   simp only [List.cons_append,List.nil_append,wx,List.length_cons,List.length_nil,Nat.reduceAdd,Nat.reduceLT,jr,List.set_cons_succ,List.set_cons_zero]
   rw [df,Bl]
   simp [h,hg]
  rw [mk_eq (ar:=2) (ds:=[_,_]) rfl]
  refine (show _ = _ from e).trans ?_
  rw [this,bF,if_pos h]
 ·have e:oo (bq Φ ej ([some (D.lst Fl.sc (aa ns)),some (D.int k)] ++ [none,none])) = oo (bq Φ (ej.drop 2) [some (.lst .sc (aa ns)),some (.int k),some (.int 0),none]):=by
   rw [ej,df,DU]
   simp only [Eo,EI,rV,mN]
   simp only [List.cons_append,List.nil_append,wx,List.length_cons,List.length_nil,Nat.reduceAdd,Nat.reduceLT,jr,List.set_cons_succ,List.set_cons_zero]
   rw [df,Bl]
   simp [h]
  rw [mk_eq (ar:=2) (ds:=[_,_]) rfl]
  refine (show _ = _ from e).trans ?_
  rw [this,bF,if_neg h]
noncomputable def jm:CS:=.Fb (.cmp .gt (.v 3) (.int 0)) [.par 2 3 (.v 3) (.bin .mod (.v 2) (.v 3))]
noncomputable def jP:List CS:=[.asg (.nm 2) (.bf .abs [(.v 0)]),.asg (.nm 3) (.bf .abs [(.v 1)]),jm,.ifs (.cmp .lt (.v 1) (.int 0)) [.asg (.nm 2) (.bin .sub (.int 0) (.v 2))] [],.ret (.tup [(.bin .fdiv (.v 0) (.v 2)),(.bin .fdiv (.v 1) (.v 2))])]
theorem tX (Φ:az) (x y:Option D):∀ (n:Nat) (a b:Nat),b <= n -> qk Φ jm [x,y,some (.int a),some (.int b)] = ok (.nx,[x,y,some (.int (Nat.gcd a b)),some (.int 0)]):=by
 intro n
 induction n with
 | zero =>
  intro a b h
  have hb:b = 0:=by omega
  subst hb
  rw [jm,oF]
  exact fX (by simp)
 | succ n ih =>
  intro a b h
  by_cases hb:b = 0
  ·subst hb
   rw [jm,oF]
   exact fX (by simp)
  ·have fQ:=Nat.mod_lt a (show 0 < b by omega)
   have e:=ih b (a % b) (by omega)
   have eg:Nat.gcd b (a % b) = Nat.gcd a b:=by rw [Nat.gcd_comm a b,Nat.gcd_rec b a,Nat.gcd_comm]
   rw [eg] at e
   rw [jm,oF] at e ⊢
   rw [<- e]
   have vF:0 < b:=by omega
   have em:((a:Int)).fmod (b:Int) = ((a % b:Nat):Int):=by
    rw [Int.fmod_eq_emod_of_nonneg _ (by omega)];exact (Int.natCast_emod a b).symm
   have ep:qk Φ (.par 2 3 (.v 3) (.bin .mod (.v 2) (.v 3))) [x,y,some (.int a),some (.int b)] = ok (.nx,[x,y,some (.int b),some (.int ((a % b:Nat):Int))]):=by
    rw [JN]
    simp [hb,em]
   exact lS (by simp [vF,ep])
theorem BW (Φ:az):jW (mk Φ 2 4 jP):=by
 intro t b hb h
 obtain ⟨e1,e2⟩:=qj (t:=t) hb
 have d1:=lJ (t:=t) hb h t
 have d2:=lJ (t:=t) hb h b
 have hl:=tX Φ (some (.int t)) (some (.int b)) b.natAbs t.natAbs b.natAbs (Nat.le_refl _)
 rw [qD,<- e1,<- e2]
 by_cases hn:b < 0
 ·have ed:0 - (Nat.gcd t.natAbs b.natAbs:Int) = eX t b:=by simp [eX,hn,Int.gcd]
  have ZG:-(Nat.gcd t.natAbs b.natAbs:Int) = eX t b:=by simp [eX,hn,Int.gcd]
  simp [mk_eq,jP,hl,hn,ZG,d1,d2]
 ·have ed:(Nat.gcd t.natAbs b.natAbs:Int) = eX t b:=by simp [eX,hn,Int.gcd]
  simp [mk_eq,jP,hl,hn,ed,d1,d2]
noncomputable def AW (m:List D -> O D):Prop:=∀ q,m [qD q] = ok (.bl true)
noncomputable def wq:List CS:=[.ifs (.or [(.not (.lE (.v 0) .tuple)),(.cmp .ne (.bf .len [(.v 0)]) (.int 2))]) [.ret (.bl false)] [],.ret (.cmp .eq (.bf .len [(.comp 1 (.nm 0) [] .seq [(.v 0)] [(.or [(.not (.lE (.v 0) .int)),(.lE (.v 0) .bool)])] (.v 0))]) (.int 0))]
theorem Ks (Φ:az):AW (mk Φ 1 1 wq):=by
 intro q
 have hc:aL Φ (.comp 1 (.nm 0) [] .seq [(.v 0)] [(.or [(.not (.lE (.v 0) .int)),(.lE (.v 0) .bool)])] (.v 0)) [some (qD q)] = ok (.lst .ow []):=by
  rw [cR (xs:=[qD q]) (items:=[.int q.num,.int q.den]) (ds:=[]) (by simp) (by unfold qD;rw [vz];simp) (by simp [fT,aT,dB]) (by simp)]
  simp
 have h2:dB .tuple (qD q) = true:=rfl
 have h3:qC .len [qD q] = ok (.int 2):=rfl
 simp [mk_eq,wq,hc,h2,h3]
end DI
end
section
namespace DI
open PySem (Str)
noncomputable def x8 (qs:List Rat) (h:Int):Rat:=qs.getD h.toNat 0
theorem qG {qs:List Rat} {h:Int} (h0:0 <= h) (h1:h < qs.length):qs[h.toNat]? = some (x8 qs h) /\ x8 qs h ∈ qs:=by
 have hl:h.toNat < qs.length:=by omega
 have e:qs[h.toNat]? = some (x8 qs h):=by
  unfold x8
  rw [List.getD_eq_getElem?_getD,List.getElem?_eq_getElem hl];rfl
 exact ⟨e,List.mem_of_getElem? e⟩
theorem Nf {qs:List Rat} {h:Int} (h0:0 <= h) (h1:h < qs.length):s9 (bW qs) h = ok (qD (x8 qs h)):=by
 rw [at_of h0 (d:=qD (x8 qs h)) (by rw [B3,(qG h0 h1).1];rfl)]
 simp
theorem Dc (ps qs:List Rat):cZ (bW ps) (bW qs) = decide (ps = qs):=g9 Ar ps qs
theorem zh (n:Nat) (f:Fl) (qs:List Rat):cC (n + 2) (.lst f (bW qs)) = true:=jA (zi n) qs
theorem wY {q:Rat} (h:0 < q):0 < q.num:=by
 have:=(Rat.lt_iff 0 q).mp h
 simpa using this
theorem sV.len {n:Nat} {l:List Int} (h:sV n l):l.length <= n:=by
 have hn:(l.map Int.toNat).Nodup:=by
  unfold List.Nodup
  rw [List.pairwise_map]
  refine h.1.imp_of_mem fun ha hb z e=>?_
  have:=h.2 _ ha
  have:=h.2 _ hb
  omega
 have hs:(l.map Int.toNat) ⊆ List.range n:=fun x hx=>by
  obtain ⟨y,hy,rfl⟩:=List.mem_map.mp hx
  have:=h.2 y hy
  rw [List.mem_range];omega
 have:=hn.length_le_of_subset hs
 simpa using this
theorem sV.dU {n:Nat} {l:List Int} (h:sV n l) (hn:n <= 12):xQ (.tup (aa l)):=by
 have:=h.len
 show (aa l).length < 64
 simp;omega
end DI
end
section
namespace DI
open PySem (Str)
theorem Kk {t b:Int} {k:Nat} (h0:b ≠ 0) (h1:t.natAbs < 2 ^ k) (h2:b.natAbs < 2 ^ k):Sm k (Rat.divInt t b):=wL h0 h1 h2
theorem ur {t b:Int} (ht:0 < t) (hb:0 < b):0 < Rat.divInt t b:=by
 rw [Rat.divInt_eq_div]
 have h1:(0:Rat) < (t:Rat):=by
  have:=Rat.intCast_lt_intCast (a:=0) (b:=t);simpa using this.mpr ht
 have h2:(0:Rat) < (b:Rat):=by
  have:=Rat.intCast_lt_intCast (a:=0) (b:=b);simpa using this.mpr hb
 rw [Rat.div_def]
 exact Rat.mul_pos h1 (Rat.inv_pos.mpr h2)
end DI
end
section
namespace DI
open PySem (Str)
theorem Sm.neg {k:Nat} {q:Rat} (h:Sm k q):Sm k (-q):=⟨by simpa using h.1,h.2⟩
theorem Sm.zero (k:Nat) (h:1 <= k):Sm k 0:=by
 have:Sm 1 (0:Rat):=by constructor <;> decide
 exact this.mono h
theorem Sm.sum {k:Nat}:∀ {qs:List Rat},(∀ q ∈ qs,Sm k q) -> Sm (1 + (k + 1) * qs.length) qs.sum
 | [],_=>Sm.zero _ (by simp)
 | q :: qs,h=>by
  have h1:=h q List.mem_cons_self
  have h2:=Sm.sum (qs:=qs) fun p hp=>h p (List.mem_cons_of_mem _ hp)
  rw [List.sum_cons]
  refine (h1.add h2).mono ?_
  rw [List.length_cons,Nat.mul_succ];omega
noncomputable def O5 (l:List Int) (f:Int -> Rat):Rat:=(l.map f).sum
@[simp] theorem Ke (f:Int -> Rat):O5 [] f = 0:=rfl
end DI
end
section
namespace DI
open PySem (Str)
noncomputable abbrev Row:=Rat × List Int
noncomputable def rD (r:Row):D:=.tup [qD r.1,.tup (aa r.2)]
@[simp] theorem GL (g:Fl -> Fl) (r:Row):aD g (rD r) = rD r:=by unfold rD;simp
@[simp] theorem Hw (g:Fl -> Bool) (r:Row):aq g (rD r) = false:=by unfold rD;simp
noncomputable def cz (rs:List Row):List D:=rs.map rD
@[simp] theorem ND (rs:List Row):(cz rs).length = rs.length:=List.length_map ..
@[simp] theorem mv (g:Fl -> Fl) (rs:List Row):ag g (cz rs) = cz rs:=aZ g (GL g) rs
@[simp] theorem Mg (g:Fl -> Bool) (rs:List Row):ao g (cz rs) = false:=bo g (Hw g) rs
theorem K7 (n:Nat) (r:Row):cC (n + 2) (rD r) = true:=by
 unfold rD
 rw [jz,List.all_cons,List.all_cons,zi n]
 have:cC (n + 1) (.tup (aa r.2)) = true:=by
  rw [jz];exact jA (fun _=>by cases n <;> rfl) r.2
 rw [this];rfl
theorem As (a b:List Int):cZ (aa a) (aa b) = decide (a = b):=g9 (fun x y=>by show (x == y) = _;rfl) a b
theorem MC (r s:Row):i3 (rD r) (rD s) = decide (r = s):=by
 unfold rD
 show (i3 (qD r.1) (qD s.1) && (cZ (aa r.2) (aa s.2) && true)) = _
 rw [Ar,As,Bool.and_true]
 have:decide (r = s) = decide (r.1 = s.1 /\ r.2 = s.2):=by
  congr 1
  exact propext ⟨fun h=>by rw [h];exact ⟨rfl,rfl⟩,fun h=>Prod.ext h.1 h.2⟩
 rw [this,<- Bool.decide_and]
theorem C_ (r s:List Row):cZ (cz r) (cz s) = decide (r = s):=g9 MC r s
noncomputable def bD (n:Nat) (rs:List Row):D:=.tup [.int n,.lst .fz (cz rs)]
structure Dr (k n:Nat) (rs:List Row):Prop where
 n1:1 <= n
 n2:n <= 12
 ui:k * (rs.length + 1) <= 60
 len:rs.length <= 1000
 lot:∀ r ∈ rs,sV n r.2
 pos:∀ r ∈ rs,0 < r.1
 sm:∀ r ∈ rs,Sm k r.1
 one:(rs.map (·.1)).sum = 1
 rise:uG (rs.map (·.2))
noncomputable def cJ (rs:List Row):List Rat:=rs.map (·.1)
section
variable {k n:Nat} {rs:List Row} (I:Dr k n rs)
include I
theorem Dr.Fz:AV k (cJ rs):=⟨fun q hq=>by
 obtain ⟨r,hr,rfl⟩:=List.mem_map.mp hq
 exact I.sm r hr,by
  have:=I.ui
  have h:k * (cJ rs).length <= k * (rs.length + 1):=Nat.mul_le_mul_left _ (by simp [cJ])
  omega,by simp [cJ];exact I.len⟩
theorem Dr.bot:0 < cf (cJ rs) /\ cf (cJ rs) < 2 ^ 61 /\ ∀ q ∈ cJ rs,q.den ∣ cf (cJ rs):=by
 obtain ⟨a,b,c⟩:=I.Fz.lcm
 refine ⟨a,Nat.lt_of_lt_of_le b (Nat.pow_le_pow_right (by decide) ?_),c⟩
 have:=I.ui
 have h:k * (cJ rs).length <= k * (rs.length + 1):=Nat.mul_le_mul_left _ (by simp [cJ])
 omega
theorem Dr.top {r:Row} (hr:r ∈ rs):(bA (cf (cJ rs)) r.1).natAbs < 2 ^ 64:=by
 obtain ⟨a,b,c⟩:=I.Fz.lcm
 have s:=I.sm r hr
 unfold bA
 rw [Int.natAbs_mul,Int.fdiv_eq_ediv_of_nonneg _ (by omega),<- Int.natCast_ediv,Int.natAbs_natCast]
 have h1:cf (cJ rs) / r.1.den < 2 ^ (1 + k * (cJ rs).length):=Nat.lt_of_le_of_lt (Nat.div_le_self _ _) b
 have h2:=bL s.1 h1
 refine Nat.lt_of_lt_of_le h2 (Nat.pow_le_pow_right (by decide) ?_)
 have h3:=I.ui
 have h4:(cJ rs).length = rs.length:=by simp [cJ]
 rw [h4]
 rw [Nat.mul_succ] at h3
 omega
end
noncomputable def jV (m:List D -> O D):Prop:=∀ (r:Row) (n:Nat),n <= 12 -> sV n r.2 -> 0 < r.1 -> m [rD r,.int n] = ok (.bl true)
noncomputable def jR:List CS:=[.ifs (.or [(.not (.lE (.v 0) .tuple)),(.cmp .ne (.bf .len [(.v 0)]) (.int 2))]) [.ret (.bl false)] [],.ifs (.not (.call 43 [(.ix (.v 0) (.int 1)),(.v 1)])) [.ret (.bl false)] [],.ret (.and [(.call 3 [(.ix (.v 0) (.int 0))]),(.cmp .gt (.ix (.ix (.v 0) (.int 0)) (.int 0)) (.int 0))])]
theorem sV.Hh {n:Nat} {l:List Int} (h:sV n l):cF (.tup (aa l)) n = true:=by
 have:=h.n8
 unfold DI.n8 at this
 exact (Bool.and_eq_true _ _ |>.mp this).1
theorem dy (Φ:az) (h3:fA (Φ 3)) (SJ:eH (Φ 43)):jV (mk Φ 2 2 jR):=by
 intro r n hn hl hp
 have e1:=SJ (.tup (aa r.2)) n (hl.dU hn)
 rw [hl.Hh] at e1
 have e2:=h3 (qD r.1)
 rw [C5] at e2
 have R7:=wY hp
 have e3:rD r = .tup [qD r.1,.tup (aa r.2)]:=rfl
 have e4:qD r.1 = .tup [.int r.1.num,.int r.1.den]:=rfl
 simp [mk_eq,jR,e3,dB,e1,e2]
 simp [e4,R7]
theorem B0 {Φ:az} (jG:Φ 1022 = EG) {a b:List Int} (h:HT.lexLt a b = true):Φ 1022 [.tup (aa a),.tup (aa b)] = ok (.bl false):=by
 rw [jG]
 show (match intsOf (aa a) with | some ns=>(match intsOf (aa b) with | some ms=>ok (D.bl (!HT.lexLt ns ms)) | none=>none) | none=>none) = _
 unfold aa
 rw [a_,a_]
 show ok (D.bl (!HT.lexLt a b)) = _
 rw [h];rfl
noncomputable def hX (m:List D -> O D):Prop:=∀ (rs:List Row),1 <= rs.length -> uG (rs.map (·.2)) -> m [.lst .fz (cz rs)] = ok (.bl true)
noncomputable def BF:List CS:=[.ifs (.cj 1022 [(.ix (.v 1) (.int 1)),(.ix (.v 2) (.int 1))]) [.ret (.bl false)] []]
noncomputable def fm:List CS:=[.fr (.tp [1,2]) (.Gb 1000 [(.v 0),(.cj 1020 [(.v 0),(.int 1)])]) BF,.ret (.bl true)]
theorem uU (Φ:az) (jG:Φ 1022 = EG) (c0:Option D):∀ (rs:List Row) (r:Row) (c1 c2:Option D),uG ((r :: rs).map (·.2)) ->
  ∃ Ux IF,eh (fun d ρ=>ck (.tp [1,2]) d ρ) (fun ρ=>bq Φ BF ρ) (List.zipWith (fun x y=>D.tup [x,y]) (cz (r :: rs)) (cz rs)) [c0,c1,c2] = ok (.nx,[c0,Ux,IF])
 | [],r,c1,c2,_=>⟨c1,c2,rfl⟩
 | s :: rs,r,c1,c2,h=>by
  have h':=List.pairwise_cons.mp h
  obtain ⟨Ux,IF,ih⟩:=uU Φ jG c0 rs s (some (rD r)) (some (rD s)) h'.2
  have hl:=h'.1 s.2 (by simp)
  have e:=B0 jG hl
  refine ⟨Ux,IF,dD (ρ1:=[c0,some (rD r),some (rD s)]) (by simp) (ρ2:=[c0,some (rD r),some (rD s)]) ?_ ih⟩
  have e1:∀ r:Row,rD r = .tup [qD r.1,.tup (aa r.2)]:=fun _=>rfl
  simp [BF,e1,e]
theorem bK (Φ:az) (vP:Φ 1000 = wB) (vO:Φ 1020 = cutD true) (jG:Φ 1022 = EG):hX (mk Φ 1 3 fm):=by
 intro rs h1 hr
 obtain ⟨r,rs,rfl⟩:∃ r tN,rs = r :: tN:=by
  cases rs with
  | nil=>simp at h1
  | cons r rs=>exact ⟨r,rs,rfl⟩
 obtain ⟨c1,c2,e⟩:=uU Φ jG (some (.lst .fz (cz (r :: rs)))) rs r none none hr
 have e1:Φ 1020 [.lst .fz (cz (r :: rs)),.int 1] = ok (.lst .ow (cz rs)):=by
  rw [vO]
  show (if (0:Int) <= 1 /\ (1:Int) <= ((cz (r :: rs)).length:Nat) then ok (D.lst .ow (ag bc (oq true (1:Int).toNat (cz (r :: rs))))) else none) = _
  rw [if_pos ⟨by decide,by simp;omega⟩]
  show ok (D.lst .ow (ag bc (cz rs))) = _
  simp
 have e2:Φ 1000 [.lst .fz (cz (r :: rs)),.lst .ow (cz rs)] = ok (.lst .ow (List.zipWith (fun x y=>D.tup [x,y]) (cz (r :: rs)) (cz rs))):=by rw [vP];rfl
 have e3:ag aK (List.zipWith (fun x y=>D.tup [x,y]) (cz (r :: rs)) (cz rs)) = List.zipWith (fun x y=>D.tup [x,y]) (cz (r :: rs)) (cz rs):=by
  have:=ff aK (cz (r :: rs)) (cz rs)
  rw [mv,mv] at this
  exact this
 have hit:d8 Φ (.Gb 1000 [(.v 0),(.cj 1020 [(.v 0),(.int 1)])]) [some (.lst .fz (cz (r :: rs))),none,none] = ok (List.zipWith (fun x y=>D.tup [x,y]) (cz (r :: rs)) (cz rs),[some (.lst .fz (cz (r :: rs))),none,none]):=by
  show bd (cD Φ [(.v 0),(.cj 1020 [(.v 0),(.int 1)])] [some (.lst .fz (cz (r :: rs))),none,none]) _ = _
  have:cD Φ [(.v 0),(.cj 1020 [(.v 0),(.int 1)])] [some (.lst .fz (cz (r :: rs))),none,none] = ok [.lst .fz (cz (r :: rs)),.lst .ow (cz rs)]:=by simp [e1]
  rw [this,dJ,e2,dJ]
  show ok (ag aK (List.zipWith (fun x y=>D.tup [x,y]) (cz (r :: rs)) (cz rs)),if ao bp [D.lst .fz (cz (r :: rs)),.lst .ow (cz rs)] then _ else _) = _
  rw [e3]
  simp
 have hf:=fN (Φ:=Φ) (t:=.tp [1,2]) (b:=BF) hit e
 simp [mk_eq,fm,hf]
end DI
end
section
namespace DI
open PySem (Str)
noncomputable def mx (rs:List Row):List D:=rs.map fun r=>.tup (aa r.2)
@[simp] theorem mw (g:Fl -> Fl) (rs:List Row):ag g (mx rs) = mx rs:=aZ g (fun r=>by simp) rs
@[simp] theorem Ht (g:Fl -> Bool) (rs:List Row):ao g (mx rs) = false:=bo g (fun r=>by simp) rs
noncomputable def iT (b:Nat) (rs:List Row):List D:=rs.map fun r=>.tup [.int (bA b r.1),.tup (aa r.2)]
@[simp] theorem zw (g:Fl -> Fl) (b:Nat) (rs:List Row):ag g (iT b rs) = iT b rs:=aZ g (fun r=>by simp) rs
@[simp] theorem Mf (g:Fl -> Bool) (b:Nat) (rs:List Row):ao g (iT b rs) = false:=bo g (fun r=>by simp) rs
noncomputable def Dj:CE:=.comp 2 (.tp [0,1]) [] .seq [(.v 0)] [] (.v 0)
noncomputable def Dh:CE:=.comp 2 (.tp [0,1]) [] .seq [(.v 0)] [] (.v 1)
theorem MN (Φ:az) {rs:List Row} (h:rs.length <= 1000) (r:au):aL Φ Dj (some (.lst .fz (cz rs)) :: r) = ok (.lst .ow (bW (cJ rs))):=by
 unfold Dj
 rw [cR (xs:=[.lst .fz (cz rs)]) (items:=cz rs) (ds:=rs.map fun r=>qD r.1) (by simp) (by rw [dS];simp) (bN fun r hr=>?_) (by simp;exact cv (by omega))]
 ·simp [bW,cJ,aC]
 ·exact ⟨[some (qD r.1),some (.tup (aa r.2))],by simp [aT,rD],by simp,by simp⟩
theorem Lp (Φ:az) {rs:List Row} (h:rs.length <= 1000) (r:au):aL Φ Dh (some (.lst .fz (cz rs)) :: r) = ok (.lst .ow (mx rs)):=by
 unfold Dh
 rw [cR (xs:=[.lst .fz (cz rs)]) (items:=cz rs) (ds:=rs.map fun r=>.tup (aa r.2)) (by simp) (by rw [dS];simp) (bN fun r hr=>?_) (by simp;exact cv (by omega))]
 ·exact congrArg (fun x=>ok (D.lst .ow x)) (mw iZ rs)
 ·exact ⟨[some (qD r.1),some (.tup (aa r.2))],by simp [aT,rD],by simp,by simp⟩
noncomputable def eM (m:List D -> O D):Prop:=∀ (rs:List Row) k,AV k (cJ rs) -> m [.lst .fz (cz rs)] = ok (.tup [.int (cf (cJ rs)),.lst .ow (iT (cf (cJ rs)) rs)])
noncomputable def iC:List CS:=[.asg (.nm 1) Dj,.asg (.nm 2) Dh,.asg (.nm 3) (.call 9 [(.v 1)]),.ret (.tup [(.v 3),(.cj 1040 [(.call 10 [(.v 1),(.v 3)]),(.v 2)])])]
theorem wU (Φ:az) (h9:eu (Φ 9)) (Mt:hV (Φ 10)) (vI:Φ 1040 = GO):eM (mk Φ 1 4 iC):=by
 intro rs k hs
 have hl:rs.length <= 1000:=by have:=hs.len;simpa [cJ] using this
 have e1:=MN Φ hl
 have e2:=Lp Φ hl
 have e3:=fun f=>h9 f (cJ rs) k hs
 have e4:=fun f=>Mt f (cJ rs) k (cf (cJ rs)) hs hs.Q4
 generalize cf (cJ rs) = b at *
 have e5:Φ 1040 [.lst .ow (aa ((cJ rs).map (bA b))),.lst .al (mx rs)] = ok (.lst .ow (iT b rs)):=by
  rw [vI]
  show ok (D.lst .ow (ag bc (List.zipWith pairD (aa ((cJ rs).map (bA b))) (mx rs)))) = _
  rw [ff,fg,mw]
  unfold cJ aa mx iT
  rw [List.map_map,List.map_map,List.zipWith_map,List.zipWith_self]
  rfl
 simp [mk_eq,iC,G0 Φ Dj _ rfl,G0 Φ Dh _ rfl,e1,e2,e3,e4,e5]
noncomputable def Im:CE:=.comp 2 (.tp [0,1]) [] .seq [(.ix (.v 1) (.int 1))] [] (.v 0)
noncomputable def fw (m:List D -> O D):Prop:=∀ (rs:List Row) k,AV k (cJ rs) -> (cJ rs).sum = 1 -> m [.lst .fz (cz rs)] = ok (.bl true)
noncomputable def dW:List CS:=[.asg (.nm 1) (.call 14 [(.v 0)]),.ret (.cmp .eq (.bf .j4 [Im]) (.ix (.v 1) (.int 0)))]
theorem ym {b:Nat} {qs:List Rat} (h:∀ q ∈ qs,q.den ∣ b) (h1:qs.sum = 1):(qs.map (bA b)).sum = (b:Int):=by
 have:=lU h
 rw [h1,Rat.one_mul,<- Rat.intCast_natCast] at this
 exact Rat.intCast_inj.mp this
theorem bg (Φ:az) (HB:eM (Φ 14)):fw (mk Φ 1 2 dW):=by
 intro rs k hs h1
 have hl:rs.length <= 1000:=by have:=hs.len;simpa [cJ] using this
 have e1:=HB rs k hs
 have hb:=hs.lcm
 have e2:=ym hb.2.2 h1
 generalize cf (cJ rs) = b at *
 have e3:∀ c0,aL Φ Im [c0,some (.tup [.int b,.lst .ow (iT b rs)])] = ok (.lst .ow (aa ((cJ rs).map (bA b)))):=fun c0=>by
  unfold Im
  rw [cR (xs:=[.lst .al (iT b rs)]) (items:=iT b rs) (ds:=rs.map fun r=>.int (bA b r.1)) (by simp) (by rw [dS];simp) (bN fun r hr=>?_) (by simp;exact cv (by omega))]
  ·simp [aa,cJ,aC]
  ·exact ⟨[some (.int (bA b r.1)),some (.tup (aa r.2))],by simp [aT],by simp,by simp⟩
 have e4:qC .j4 [.lst .ow (aa ((cJ rs).map (bA b)))] = ok (.int b):=by
  show (match intsOf (aa ((cJ rs).map (bA b))) with | some ns=>ok (D.int ns.sum) | none=>none) = _
  unfold aa
  rw [a_]
  show ok (D.int ((cJ rs).map (bA b)).sum) = _
  rw [e2]
 have e5:dI .eq (.int (b:Int)) (.int (b:Int)) = ok (.bl true):=by
  show (if cC 40 (.int (b:Int)) && cC 40 (.int (b:Int)) then ok (D.bl ((b:Int) == (b:Int))) else none) = _
  simp [cC]
 simp [mk_eq,dW,e1,e3,e4,e5]
noncomputable def lq:List CS:=[.ifs (.not (.call 12 [(.v 3),(.v 1)])) [.ret (.bl false)] []]
noncomputable def gk:List CS:=[.ifs (.or [(.not (.lE (.v 0) .tuple)),(.cmp .ne (.bf .len [(.v 0)]) (.int 2))]) [.ret (.bl false)] [],.asg (.nm 1) (.ix (.v 0) (.int 0)),.asg (.nm 2) (.ix (.v 0) (.int 1)),.ifs (.or [(.not (.call 0 [(.v 1)])),(.cmp .lt (.v 1) (.int 1)),(.cmp .gt (.v 1) (.glo "MOST_HOUSES" 12))]) [.ret (.bl false)] [],.ifs (.not (.lE (.v 2) .list)) [.ret (.bl false)] [],.fr (.nm 3) (.seq (.v 2)) lq,.ret (.and [(.call 44 [(.v 2)]),(.call 15 [(.v 2)])])]
noncomputable def sU (m:List D -> O D):Prop:=∀ k n rs,Dr k n rs -> m [bD n rs] = ok (.bl true)
theorem m5 (Φ:az) (Jx:jV (Φ 12)) {n:Nat} (hn:n <= 12) (c0 c2:Option D):∀ (rs:List Row) (c3:Option D),(∀ r ∈ rs,sV n r.2 /\ 0 < r.1) -> ∃ uF,eh (fun d ρ=>ck (.nm 3) d ρ) (fun ρ=>bq Φ lq ρ) (cz rs) [c0,some (.int n),c2,c3] = ok (.nx,[c0,some (.int n),c2,uF])
 | [],c3,_=>⟨c3,rfl⟩
 | r :: rs,c3,h=>by
  obtain ⟨uF,ih⟩:=m5 Φ Jx hn c0 c2 rs (some (rD r)) fun s hs=>h s (List.mem_cons_of_mem _ hs)
  have h1:=h r List.mem_cons_self
  have e:=Jx r n hn h1.1 h1.2
  refine ⟨uF,dD (ρ1:=[c0,some (.int n),c2,some (rD r)]) (by simp) (ρ2:=[c0,some (.int n),c2,some (rD r)]) ?_ ih⟩
  simp [lq,e]
theorem Dr.some {k n:Nat} {rs:List Row} (I:Dr k n rs):1 <= rs.length:=by
 cases rs with
 | nil=>have:=I.one;simp at this
 | cons r rs=>simp
theorem cu (Φ:az) (h0:dq (Φ 0)) (Jx:jV (Φ 12)) (Zt:fw (Φ 15)) (Zs:hX (Φ 44)):sU (mk Φ 1 4 gk):=by
 intro k n rs I
 have n1:=I.n1
 have n2:=I.n2
 have e1:=Zt rs k I.Fz I.one
 have e2:=Zs rs I.some I.rise
 have e3:Φ 0 [.int (n:Int)] = ok (.bl true):=by rw [h0];rfl
 obtain ⟨c3,e4⟩:=m5 Φ Jx n2 (some (bD n rs)) (some (.lst .fz (cz rs))) rs none fun r hr=>⟨I.lot r hr,I.pos r hr⟩
 have hit:d8 Φ (.seq (.v 2)) [some (bD n rs),some (.int n),some (.lst .fz (cz rs)),none] = ok (cz rs,[some (bD n rs),some (.int n),some (.lst .fz (cz rs)),none]):=by
  rw [zK (f:=.fz) (ds:=cz rs) (by simp)]
  simp
 have hf:=fN (Φ:=Φ) (t:=.nm 3) (b:=lq) hit e4
 have c1:dI .lt (.int (n:Int)) (.int 1) = ok (.bl false):=by
  show ok (D.bl (decide ((n:Int) < 1))) = _
  rw [decide_eq_false (by omega)]
 have c2:dI .gt (.int (n:Int)) (.int 12) = ok (.bl false):=by
  show ok (D.bl (decide ((12:Int) < n))) = _
  rw [decide_eq_false (by omega)]
 have Xf:∀ ds,dB .tuple (.tup ds) = true:=fun _=>rfl
 have Xe:∀ f ds,dB .list (.lst f ds) = true:=fun _ _=>rfl
 unfold bD at hf ⊢
 simp [mk_eq,gk,Xf,Xe,e3,c1,c2,hf,e2,e1]
noncomputable def Iq:CE:=.comp 2 (.tp [0,1]) [0] .seq [(.ix (.v 0) (.int 1))] [] (.call 11 [(.v 1),(.ix (.v 2) (.int 0))])
noncomputable def eG:List CS:=[.ret (.and [(.call 45 [(.v 0)]),(.bf .all1 [Iq])])]
theorem bu (Φ:az) (Zu:nC (Φ 11)) (Zr:sU (Φ 45)):sU (mk Φ 1 1 eG):=by
 intro k n rs I
 have e1:=Zr k n rs I
 have e2:aL Φ Iq [some (bD n rs)] = ok (.lst .ow (lh (rs.map fun _=>true))):=by
  unfold Iq
  rw [cR (xs:=[.lst .fz (cz rs)]) (items:=cz rs) (ds:=rs.map fun _=>.bl true) (by simp [bD]) (by rw [dS];simp) (bN fun r hr=>?_) (by simp;exact cv (by have:=I.len;omega))]
  ·simp [lh,aC]
  ·have hl:=I.lot r hr
   have e:=Zu (.tup (aa r.2)) n (hl.dU I.n2)
   rw [hl.n8] at e
   exact ⟨[some (qD r.1),some (.tup (aa r.2)),some (bD n rs)],by simp [aT,rD,bD],by simp,by simp [bD,e]⟩
 have e3:qC .all1 [.lst .ow (lh (rs.map fun _=>true))] = ok (.bl true):=by
  show (match hU (lh (rs.map fun _=>true)) with | some bs=>ok (D.bl (bs.all id)) | none=>none) = _
  unfold lh
  rw [ku]
  show ok (D.bl ((rs.map fun _=>true).all id)) = _
  congr 2
  simp
 have m1:aD aK (bD n rs) = bD n rs:=by simp [bD]
 have m2:aD bc (bD n rs) = bD n rs:=by simp [bD]
 simp [mk_eq,eG,m1,m2,e1,e2,e3]
noncomputable def eY (m:List D -> O D):Prop:=∀ k n rs,Dr k n rs -> m [bD n rs] = ok .bC
noncomputable def de:List CS:=[.ifs (.not (.call 16 [(.v 0)])) [.rs 1] []]
theorem aR (Φ:az) (Jw:sU (Φ 16)):eY (mk Φ 1 1 de):=by
 intro k n rs I
 have e1:=Jw k n rs I
 have m1:aD aK (bD n rs) = bD n rs:=by simp [bD]
 have m2:aD bc (bD n rs) = bD n rs:=by simp [bD]
 simp [mk_eq,de,m1,m2,e1]
end DI
end
section
namespace DI
open PySem (Str)
noncomputable def KQ (ws xs:List Rat):List Rat:=(ws.zip xs).map fun p=>p.1 * p.2
structure Gs (j n:Nat) (ws xs:List Rat):Prop where
 l1:ws.length = n
 l2:xs.length = n
 s1:∀ q ∈ ws,Sm j q
 s2:∀ q ∈ xs,Sm j q
 jj:j <= 100
theorem Gs.Fz {j n:Nat} {ws xs:List Rat} (G:Gs j n ws xs) (hn:n <= 12):AV (j + j) (KQ ws xs):=by
 have hl:(KQ ws xs).length = n:=by unfold KQ;rw [List.length_map,List.length_zip,G.l1,G.l2,Nat.min_self]
 have hj:=G.jj
 refine ⟨fun q hq=>?_,?_,by omega⟩
 ·obtain ⟨p,hp,rfl⟩:=List.mem_map.mp hq
  have m:=List.of_mem_zip hp
  exact (G.s1 _ m.1).mul (G.s2 _ m.2)
 ·rw [hl]
  have:(j + j) * n <= 200 * 12:=Nat.mul_le_mul (by omega) hn
  omega
theorem Gs.at {j n:Nat} {ws xs:List Rat} (G:Gs j n ws xs) {h:Int} (h0:0 <= h) (h1:h < n):x8 (KQ ws xs) h = x8 ws h * x8 xs h:=by
 obtain ⟨g1,_⟩:=qG (qs:=ws) h0 (by rw [G.l1];exact h1)
 obtain ⟨g2,_⟩:=qG (qs:=xs) h0 (by rw [G.l2];exact h1)
 unfold x8 at *
 unfold KQ
 rw [List.getD_eq_getElem?_getD,List.getElem?_map,List.zip,List.getElem?_zipWith,g1,g2]
 rfl
end DI
end
section
namespace DI
open PySem (Str)
theorem lQ {Φ:az} {p i:Nat} {es:List CE} {ρ:au} {xs:List D} {d d':D} (h1:cD Φ es ρ = ok xs) (h2:ao bp xs = false) (h3:ρ[i]? = some (some d)) (h4:Φ p (d :: xs) = ok d'):qk Φ (.mut p i es) ρ = ok (.nx,ρ.set i (some d')):=by
 show bd (cD Φ es ρ) (fun xs=>rN Φ p i (kI es xs ρ)) = _
 rw [h1,dJ]
 unfold kI
 rw [h2,if_neg Bool.false_ne_true]
 unfold rN
 rw [h3]
 show bd (Φ p (d :: xs)) _ = _
 rw [h4];rfl
theorem IH (i:Int):cX .band (.int i) (.int 1) = ok (.int (i % 2)):=rfl
theorem kh (c:List Int):∀ (cs:List (List Int)) (ws:List Int),aU cs (aa ws) c = (aU cs ws c).map D.int
 | [],_=>by cases ‹List Int› <;> rfl
 | _ :: _,[]=>rfl
 | c' :: cs,w :: ws=>by
  show (if c' = c then some (D.int w) else aU cs (aa ws) c) = Option.map D.int (if c' = c then some w else aU cs ws c)
  by_cases e:c' = c
  ·rw [if_pos e,if_pos e];rfl
  ·rw [if_neg e,if_neg e];exact kh c cs ws
theorem oQ (c:List Int) (v:Int):∀ (cs:List (List Int)) (ws:List Int),setC cs (aa ws) c (.int v) = aa (setC cs ws c v)
 | [],_=>by cases ‹List Int› <;> rfl
 | _ :: _,[]=>rfl
 | c' :: cs,w :: ws=>by
  show (if c' = c then D.int v else D.int w) :: setC cs (aa ws) c (.int v) = D.int (if c' = c then v else w) :: aa (setC cs ws c v)
  rw [oQ c v cs ws]
  by_cases e:c' = c
  ·rw [if_pos e,if_pos e]
  ·rw [if_neg e,if_neg e]
theorem tf (cs:List (List Int)) (ws:List Int) (c:List Int) (v:Int):aI cs (aa ws) c (.int v) = aa (aI cs ws c v):=by
 unfold aI
 by_cases e:c ∈ cs
 ·rw [if_pos e,if_pos e];exact oQ c v cs ws
 ·rw [if_neg e,if_neg e];simp
noncomputable def bX (cs:List (List Int)) (ws:List Int) (c:List Int):Int:=(aU cs ws c).getD 0
theorem mO {α:Type} {c:List Int}:∀ {cs:List (List Int)} (ws:List α),c ∉ cs -> aU cs ws c = none
 | [],_,_=>by cases ‹List α› <;> rfl
 | _ :: _,[],_=>rfl
 | c' :: cs,w :: ws,h=>by
  show (if c' = c then some w else aU cs ws c) = none
  rw [if_neg fun e=>h (by rw [e];exact List.mem_cons_self)]
  exact mO ws fun z=>h (List.mem_cons_of_mem _ z)
theorem jH {α:Type} {c:List Int}:∀ {cs:List (List Int)} {ws:List α},cs.length = ws.length -> c ∈ cs -> ∃ w,aU cs ws c = some w /\ w ∈ ws
 | [],_,_,h=>nomatch h
 | _ :: _,[],hl,_=>by simp at hl
 | c' :: cs,w :: ws,hl,h=>by
  by_cases e:c' = c
  ·exact ⟨w,if_pos e,List.mem_cons_self⟩
  ·have h':c ∈ cs:=(List.mem_cons.mp h).resolve_left fun z=>e z.symm
   obtain ⟨w',e1,e2⟩:=jH (cs:=cs) (ws:=ws) (by simpa using hl) h'
   exact ⟨w',(if_neg e).trans e1,List.mem_cons_of_mem _ e2⟩
theorem mr:∀ {cs:List (List Int)} {ws:List Int},cs.Nodup -> cs.length = ws.length -> cs.map (bX cs ws) = ws
 | [],[],_,_=>rfl
 | [],_ :: _,_,h=>by simp at h
 | _ :: _,[],_,h=>by simp at h
 | c :: cs,w :: ws,hn,hl=>by
  have x4:=List.nodup_cons.mp hn
  have ih:=mr (cs:=cs) (ws:=ws) x4.2 (by simpa using hl)
  rw [List.map_cons]
  have e1:bX (c :: cs) (w :: ws) c = w:=by
   show (if c = c then some w else aU cs ws c).getD 0 = w
   rw [if_pos rfl];rfl
  have e2:cs.map (bX (c :: cs) (w :: ws)) = cs.map (bX cs ws):=List.map_congr_left fun x hx=>by
   show (if c = x then some w else aU cs ws x).getD 0 = _
   rw [if_neg (show ¬ c = x from fun z=>x4.1 (by rw [z];exact hx))];rfl
  rw [e1,e2,ih]
theorem rg {c:List Int} {v:Int}:∀ {cs:List (List Int)} {ws:List Int},cs.Nodup -> cs.length = ws.length -> c ∈ cs -> (setC cs ws c v).sum = ws.sum - bX cs ws c + v /\ (setC cs ws c v).length = ws.length
 | [],_,_,_,h=>nomatch h
 | _ :: _,[],_,h,_=>by simp at h
 | c' :: cs,w :: ws,hn,hl,h=>by
  have x4:=List.nodup_cons.mp hn
  have o4:cs.length = ws.length:=by simpa using hl
  have es:setC (c' :: cs) (w :: ws) c v = (if c' = c then v else w) :: setC cs ws c v:=rfl
  by_cases e:c' = c
  ·have LO:∀ {cs:List (List Int)} {ws:List Int},cs.length = ws.length -> c ∉ cs -> setC cs ws c v = ws:=fun {cs}=>by
    induction cs with
    | nil=>intro ws hl _;cases ws with | nil=>rfl | cons _ _=>simp at hl
    | cons d cs ih =>
     intro ws hl hc
     cases ws with
     | nil=>simp at hl
     | cons w ws =>
      show (if d = c then v else w) :: setC cs ws c v = _
      rw [if_neg fun z=>hc (by rw [z];exact List.mem_cons_self),ih (by simpa using hl) fun z=>hc (List.mem_cons_of_mem _ z)]
   have Jq:c ∉ cs:=e ▸ x4.1
   rw [es,if_pos e,LO o4 Jq]
   have eg:bX (c' :: cs) (w :: ws) c = w:=by
    show (if c' = c then some w else aU cs ws c).getD 0 = w
    rw [if_pos e];rfl
   rw [eg]
   refine ⟨?_,rfl⟩
   rw [List.sum_cons,List.sum_cons]
   omega
  ·have h':c ∈ cs:=(List.mem_cons.mp h).resolve_left fun z=>e z.symm
   obtain ⟨i1,i2⟩:=rg (v:=v) x4.2 o4 h'
   have eg:bX (c' :: cs) (w :: ws) c = bX cs ws c:=by
    show (if c' = c then some w else aU cs ws c).getD 0 = _
    rw [if_neg e];rfl
   rw [es,if_neg e,eg]
   refine ⟨?_,by rw [List.length_cons,List.length_cons,i2]⟩
   rw [List.sum_cons,List.sum_cons,i1]
   omega
theorem rl {c:List Int} {v:Int}:∀ {cs:List (List Int)} {ws:List Int} {x:Int},x ∈ setC cs ws c v -> x ∈ ws \/ x = v
 | [],_,_,h=>by cases ‹List Int› <;> exact nomatch h
 | _ :: _,[],_,h=>nomatch h
 | c' :: cs,w :: ws,x,h=>by
  have h:x ∈ (if c' = c then v else w) :: setC cs ws c v:=h
  rcases List.mem_cons.mp h with e | h
  ·by_cases q:c' = c
   ·rw [if_pos q] at e;exact .inr e
   ·rw [if_neg q] at e;rw [e];exact .inl List.mem_cons_self
  ·rcases rl h with h | h
   ·exact .inl (List.mem_cons_of_mem _ h)
   ·exact .inr h
structure Tab (n j:Nat) (cs:List (List Int)) (ws:List Int):Prop where
 nd:cs.Nodup
 ln:cs.length = ws.length
 ui:cs.length <= j
 lot:∀ c ∈ cs,sV n c
 pos:∀ w ∈ ws,1 <= w
 sum:ws.sum <= 7 * j
 ne:1 <= j -> cs ≠ []
theorem Tab.get {n j:Nat} {cs:List (List Int)} {ws:List Int} (T:Tab n j cs ws) (c:List Int):0 <= bX cs ws c:=by
 by_cases h:c ∈ cs
 ·obtain ⟨w,e,m⟩:=jH T.ln h
  unfold bX
  rw [e]
  have:=T.pos w m
  show 0 <= w
  omega
 ·unfold bX
  rw [mO ws h];exact Int.le_refl _
theorem Tab.put {n j:Nat} {cs:List (List Int)} {ws:List Int} (T:Tab n j cs ws) {c:List Int} (hc:sV n c) {i:Int} (h1:1 <= i) (h7:i <= 7):Tab n (j + 1) (cN cs c) (aI cs ws c (bX cs ws c + i)):=by
 have hg:=T.get c
 have hf:=T.ui
 have hs:=T.sum
 by_cases h:c ∈ cs
 ·obtain ⟨s1,s2⟩:=rg (v:=bX cs ws c + i) T.nd T.ln h
  unfold cN aI
  rw [if_pos h,if_pos h]
  refine ⟨T.nd,by rw [s2];exact T.ln,by omega,T.lot,fun w hw=>?_,by rw [s1];omega,fun _ z=>by rw [z] at h;cases h⟩
  rcases rl hw with hw | rfl
  ·exact T.pos w hw
  ·omega
 ·have hz:bX cs ws c = 0:=by unfold bX;rw [mO ws h];rfl
  unfold cN aI
  rw [if_neg h,if_neg h,hz]
  refine ⟨?_,by rw [List.length_append,List.length_append,T.ln];rfl,by rw [List.length_append,List.length_singleton];omega,fun d hd=>?_,fun w hw=>?_,by rw [List.sum_append];simp;omega,fun _ z=>by simp at z⟩
  ·refine List.nodup_append.mpr ⟨T.nd,List.nodup_cons.mpr ⟨List.not_mem_nil,List.nodup_nil⟩,fun a ha b hb e=>?_⟩
   rw [List.mem_singleton.mp hb] at e
   exact h (e ▸ ha)
  ·rcases List.mem_append.mp hd with hd | hd
   ·exact T.lot d hd
   ·rw [List.mem_singleton.mp hd];exact hc
  ·rcases List.mem_append.mp hw with hw | hw
   ·exact T.pos w hw
   ·rw [List.mem_singleton.mp hw];omega
noncomputable def kR (cs:List (List Int)) (ws:List Int):List Row:=(bG cs).map fun c=>(Rat.divInt (bX cs ws c) ws.sum,c)
theorem Tab.vn {n j:Nat} {cs:List (List Int)} {ws:List Int} (T:Tab n j cs ws):∀ w ∈ ws,w <= ws.sum:=fun w hw=>by
 have:∀ l:List Int,(∀ x ∈ l,1 <= x) -> 0 <= l.sum /\ ∀ x ∈ l,x <= l.sum:=fun l=>by
  induction l with
  | nil=>intro _;exact ⟨Int.le_refl _,fun _ h=>nomatch h⟩
  | cons a l ih =>
   intro h
   obtain ⟨i1,i2⟩:=ih fun x hx=>h x (List.mem_cons_of_mem _ hx)
   have ha:=h a List.mem_cons_self
   rw [List.sum_cons]
   refine ⟨by omega,fun x hx=>?_⟩
   rcases List.mem_cons.mp hx with rfl | hx
   ·omega
   ·have:=i2 x hx;omega
 exact (this ws T.pos).2 w hw
theorem uO (W:Int) (hW:W ≠ 0):∀ ls:List Int,(ls.map fun x=>Rat.divInt x W).sum = Rat.divInt ls.sum W
 | []=>by simp
 | x :: ls=>by
  rw [List.map_cons,List.sum_cons,uO W hW ls,List.sum_cons,Rat.divInt_eq_div,Rat.divInt_eq_div,Rat.divInt_eq_div,Rat.intCast_add]
  grind
theorem yW {a b:List Rat} (h:a.Perm b):a.sum = b.sum:=by
 induction h with
 | nil=>rfl
 | cons x _ ih=>rw [List.sum_cons,List.sum_cons,ih]
 | swap x y l=>rw [List.sum_cons,List.sum_cons,List.sum_cons,List.sum_cons];grind
 | trans _ _ i1 i2=>rw [i1,i2]
theorem Tab.dr {n j:Nat} {cs:List (List Int)} {ws:List Int} (T:Tab n j cs ws) (h1:1 <= j) (h6:j <= 6) (n1:1 <= n) (n2:n <= 12):Dr 6 n (kR cs ws):=by
 have hp:(bG cs).Perm cs:=List.mergeSort_perm _ _
 have hl:(kR cs ws).length = cs.length:=by unfold kR;rw [List.length_map];exact hp.length_eq
 have hf:=T.ui
 have hs:=T.sum
 have val:∀ c ∈ bG cs,1 <= bX cs ws c /\ bX cs ws c <= ws.sum:=fun c hc=>by
  obtain ⟨w,e,m⟩:=jH T.ln (hp.mem_iff.mp hc)
  unfold bX
  rw [e]
  exact ⟨T.pos w m,T.vn w m⟩
 have hW:1 <= ws.sum:=by
  obtain ⟨c,hc⟩:=List.exists_mem_of_ne_nil cs (T.ne h1)
  have:=val c (hp.mem_iff.mpr hc)
  omega
 refine ⟨n1,n2,by rw [hl];omega,by rw [hl];omega,fun r hr=>?_,fun r hr=>?_,fun r hr=>?_,?_,?_⟩
 ·obtain ⟨c,hc,rfl⟩:=List.mem_map.mp hr
  exact T.lot c (hp.mem_iff.mp hc)
 ·obtain ⟨c,hc,rfl⟩:=List.mem_map.mp hr
  exact ur (by have:=val c hc;omega) (by omega)
 ·obtain ⟨c,hc,rfl⟩:=List.mem_map.mp hr
  have:=val c hc
  exact Kk (by omega) (by show _ < 64;omega) (by show _ < 64;omega)
 ·have e:(kR cs ws).map (·.1) = (bG cs).map fun c=>Rat.divInt (bX cs ws c) ws.sum:=by
   unfold kR;rw [List.map_map];rfl
  rw [e]
  have e2:((bG cs).map fun c=>Rat.divInt (bX cs ws c) ws.sum).sum = (cs.map fun c=>Rat.divInt (bX cs ws c) ws.sum).sum:=yW (hp.map _)
  have e3:(cs.map fun c=>Rat.divInt (bX cs ws c) ws.sum) = (cs.map (bX cs ws)).map fun x=>Rat.divInt x ws.sum:=by rw [List.map_map];rfl
  rw [e2,e3,mr T.nd T.ln,uO _ (by omega),Rat.divInt_eq_div]
  have z:((ws.sum:Int):Rat) ≠ 0:=fun z=>by rw [Rat.intCast_eq_zero_iff] at z;omega
  grind
 ·have e:(kR cs ws).map (·.2) = bG cs:=by
   unfold kR;rw [List.map_map]
   exact (List.map_congr_left fun _ _=>rfl).trans (List.map_id _)
  rw [e];exact lY T.nd
end DI
end
section
namespace DI
open PySem (Str)
theorem Q2 (n:Nat) (t:Nat -> Bool):sV n (((List.range n).filter t).map fun (k:Nat)=>(k:Int)):=by
 refine ⟨?_,fun h hh=>?_⟩
 ·rw [List.pairwise_map]
  refine (List.Pairwise.filter _ List.pairwise_lt_range).imp fun z=>?_
  omega
 ·obtain ⟨k,hk,rfl⟩:=List.mem_map.mp hh
  have:=List.mem_range.mp (List.mem_filter.mp hk).1
  omega
noncomputable def uo:CE:=.comp 1 (.nm 0) [7] .ji [(.v 4)] [(.cmp .eq (.bin .band (.bin .shr (.v 1) (.v 0)) (.int 1)) (.int 1))] (.v 0)
noncomputable def uE:CS:=.mut 1033 5 [(.bin .add (.bin .add (.cj 1031 [(.v 5),(.v 8),(.int 0)]) (.int 1)) (.bin .mod (.bin .fdiv (.v 7) (.int 4096)) (.int 7))),(.v 8)]
noncomputable def BJ:List CS:=[.asg (.nm 7) (.call 200 [(.v 0),(.bin .add (.bin .add (.v 1) (.int 1)) (.v 6))]),.asg (.nm 8) (.bf .tuple1 [uo]),uE]
noncomputable def Io:CE:=.comp 1 (.nm 0) [5] (.cj 1100) [(.v 5)] [] (.cj 1032 [(.v 1),(.v 0)])
noncomputable def Ip:CE:=.comp 1 (.nm 0) [9,5] .seq [(.cj 1035 [(.v 5)])] [] (.tup [(.call 201 [(.cj 1032 [(.v 2),(.v 0)]),(.v 1)]),(.v 0)])
noncomputable def iF:List CS:=[.asg (.nm 3) (.call 200 [(.v 0),(.v 1)]),.asg (.nm 4) (.bin .add (.int 1) (.bin .mod (.v 3) (.v 2))),.asg (.nm 3) (.bin .fdiv (.v 3) (.v 2)),.asg (.nm 5) (.cj 1030 []),.fr (.nm 6) (.ji (.bin .add (.int 1) (.bin .mod (.v 3) (.int 6)))) BJ,.asg (.nm 9) (.bf .j4 [Io]),.ret (.tup [(.v 4),Ip])]
structure A0 (Φ:az):Prop where
 vN:Φ 1030 = sy
 vM:Φ 1031 = m7
 vL:Φ 1032 = uq
 vK:Φ 1033 = m6
 vJ:Φ 1035 = i5
 vH:Φ 1100 = i6
theorem Dq (Φ:az) {n:Nat} (hn:n <= 12) (N:Int) (a b c d e f:Option D) (r:au):∃ lot,sV n lot /\ aL Φ uo (a :: b :: c :: d :: some (.int n) :: e :: f :: some (.int N) :: r) = ok (.lst .ow (aa lot)):=by
 refine ⟨_,Q2 n fun (k:Nat)=>decide (N / 2 ^ k % 2 = 1),?_⟩
 unfold uo
 rw [cR (xs:=[.int n]) (ds:=((List.range n).filter fun (k:Nat)=>decide (N / 2 ^ k % 2 = 1)).map fun (k:Nat)=>D.int (k:Int)) (by simp) (lD Φ (by omega) (by omega)) ?_ ?_]
 ·simp [aC,aa]
 ·rw [Int.toNat_natCast]
  refine fi fun k hk=>⟨[some (.int k),some (.int N)],by simp [aT],?_,fun _=>by simp⟩
  have e1:cX .shr (.int N) (.int k) = ok (.int (N / 2 ^ k)):=by rw [Na (by omega)];simp
  simp [e1,IH]
 ·have:=List.length_filter_le (fun (k:Nat)=>decide (N / 2 ^ k % 2 = 1)) (List.range n)
  simp at this ⊢
  exact cv (by omega)
theorem Iw {Φ:az} (P:A0 Φ) (f:Fl) (cs:List (List Int)) (ws:List Int) (c:List Int):Φ 1031 [.cc f cs (aa ws),.tup (aa c),.int 0] = ok (.int (bX cs ws c)):=by
 rw [P.vM]
 show (match intsOf (aa c) with | some c=>if ao anyF (aa ws) = false /\ aq anyF (.int 0) = false then ok ((aU cs (aa ws) c).getD (.int 0)) else none | none=>none) = _
 unfold aa
 rw [a_]
 show (if ao anyF (aa ws) = false /\ aq anyF (.int 0) = false then ok ((aU cs (aa ws) c).getD (.int 0)) else none) = _
 rw [if_pos ⟨se _ _,rfl⟩,kh]
 unfold bX
 cases aU cs ws c <;> rfl
theorem Iu {Φ:az} (P:A0 Φ) {cs:List (List Int)} (hl:cs.length < 1000) (ws:List Int) (c:List Int) (v:Int):Φ 1033 [.cc .ow cs (aa ws),.int v,.tup (aa c)] = ok (.cc .ow (cN cs c) (aa (aI cs ws c v))):=by
 rw [P.vK]
 show (match intsOf (aa c) with | some c=>if cG .ow = true /\ aq anyF (.int v) = false /\ cs.length < dU then ok (D.cc .ow (cN cs c) (aI cs (aa ws) c (.int v))) else none | none=>none) = _
 unfold aa
 rw [a_]
 show (if cG .ow = true /\ aq anyF (.int v) = false /\ cs.length < dU then ok (D.cc .ow (cN cs c) (aI cs (aa ws) c (.int v))) else none) = _
 rw [if_pos ⟨rfl,rfl,by show _ < 1000000;omega⟩,tf];rfl
theorem EK {Φ:az} (P:A0 Φ) (f:Fl) {cs:List (List Int)} {ws:List Int} (hl:cs.length = ws.length) {c:List Int} (h:c ∈ cs):Φ 1032 [.cc f cs (aa ws),.tup (aa c)] = ok (.int (bX cs ws c)):=by
 obtain ⟨w,e,_⟩:=jH hl h
 rw [P.vL]
 show (match intsOf (aa c) with | some c=>(match aU cs (aa ws) c with | some v=>if aq anyF v = false then ok v else none | none=>none) | none=>none) = _
 unfold aa
 rw [a_]
 show (match aU cs (aa ws) c with | some v=>if aq anyF v = false then ok v else none | none=>none) = _
 rw [kh,e]
 unfold bX
 rw [e]
 rfl
theorem vY (Φ:az) (P:A0 Φ) (Ah:qK (Φ 200)) (ns:List Int) {a:Int} (ha:0 <= a) {n:Nat} (hn:n <= 12) (c2 c3:Option D):∀ (k j:Nat) (cs:List (List Int)) (ws:List Int) (c6 c7 c8:Option D),Tab n j cs ws -> j + k <= 6 ->
  ∃ EL Nn oB sO Uu,eh (fun d ρ=>ck (.nm 6) d ρ) (fun ρ=>bq Φ BJ ρ) ((List.range' j k).map fun (i:Nat)=>D.int (i:Int)) [some (.lst .sc (aa ns)),some (.int a),c2,c3,some (.int n),some (.cc .ow cs (aa ws)),c6,c7,c8,none] =
   ok (.nx,[some (.lst .sc (aa ns)),some (.int a),c2,c3,some (.int n),some (.cc .ow EL (aa Nn)),oB,sO,Uu,none]) /\ Tab n (j + k) EL Nn
 | 0,j,cs,ws,c6,c7,c8,T,_=>⟨cs,ws,c6,c7,c8,rfl,T⟩
 | k + 1,j,cs,ws,c6,c7,c8,T,hj=>by
  have e1:=Ah ns (a + 1 + j) (by omega)
  obtain ⟨lot,hl,e2⟩:=Dq Φ hn (bF ns (a + 1 + j)) (some (.lst .sc (aa ns))) (some (.int a)) c2 c3 (some (.cc .ow cs (aa ws))) (some (.int j)) [c8,none]
  obtain ⟨f1,f2⟩:=jK ((bF ns (a + 1 + j)).fdiv 4096) (b:=7) (by decide)
  have hw:bX cs ws lot + 1 + ((bF ns (a + 1 + j)).fdiv 4096).fmod 7 = bX cs ws lot + (1 + ((bF ns (a + 1 + j)).fdiv 4096).fmod 7):=by omega
  have T':=T.put hl (i:=1 + ((bF ns (a + 1 + j)).fdiv 4096).fmod 7) (by omega) (by omega)
  obtain ⟨EL,Nn,oB,sO,Uu,ih,T''⟩:=vY Φ P Ah ns ha hn c2 c3 k (j + 1) _ _ (some (.int j)) (some (.int (bF ns (a + 1 + j)))) (some (.tup (aa lot))) T' (by omega)
  have g1:=fun f=>Iw P f cs ws lot
  have hf:=T.ui
  have g2:=Iu P (cs:=cs) (by omega) ws lot (bX cs ws lot + (1 + ((bF ns (a + 1 + j)).fdiv 4096).fmod 7))
  have x1:qk Φ uE [some (.lst .sc (aa ns)),some (.int a),c2,c3,some (.int n),some (.cc .ow cs (aa ws)),some (.int j),some (.int (bF ns (a + 1 + j))),some (.tup (aa lot)),none] = ok (.nx,[some (.lst .sc (aa ns)),some (.int a),c2,c3,some (.int n),some (.cc .ow (cN cs lot) (aa (aI cs ws lot (bX cs ws lot + (1 + ((bF ns (a + 1 + j)).fdiv 4096).fmod 7))))),some (.int j),some (.int (bF ns (a + 1 + j))),some (.tup (aa lot)),none]):=by
   unfold uE
   refine (lQ (xs:=[.int (bX cs ws lot + (1 + ((bF ns (a + 1 + j)).fdiv 4096).fmod 7)),.tup (aa lot)]) (d:=.cc .ow cs (aa ws)) ?_ (by simp) rfl g2).trans rfl
   simp [g1,hw]
  refine ⟨EL,Nn,oB,sO,Uu,?_,by rw [show j + (k + 1) = j + 1 + k by omega];exact T''⟩
  rw [List.range'_succ,List.map_cons]
  refine dD (ρ1:=[some (.lst .sc (aa ns)),some (.int a),c2,c3,some (.int n),some (.cc .ow cs (aa ws)),some (.int j),c7,c8,none]) (by simp) (ρ2:=[some (.lst .sc (aa ns)),some (.int a),c2,c3,some (.int n),some (.cc .ow (cN cs lot) (aa (aI cs ws lot (bX cs ws lot + (1 + ((bF ns (a + 1 + j)).fdiv 4096).fmod 7))))),some (.int j),some (.int (bF ns (a + 1 + j))),some (.tup (aa lot)),none]) ?_ ih
  simp [BJ,e1,e2,x1]
theorem uu {t b:Int} (hb:b ≠ 0):(Rat.divInt t b).den ∣ b.natAbs:=by
 obtain ⟨t',b',e1,e2,h1,h2,h3,h4⟩:=mj (t:=t) hb
 obtain ⟨g1,g2⟩:=qj (t:=t) hb
 rw [show b.fdiv (eX t b) = b' from h2] at g2
 have hz:(Rat.divInt t b).den = b'.natAbs:=by omega
 have:b.natAbs = (eX t b).natAbs * b'.natAbs:=by rw [<- Int.natAbs_mul,<- e2]
 rw [hz,this]
 exact Nat.dvd_mul_left ..
noncomputable def U8 (rs:List Row):Prop:=∃ W:Nat,0 < W /\ W < 64 /\ ∀ r ∈ rs,r.1.den ∣ W
noncomputable def kB (m:List D -> O D):Prop:=∀ (ns:List Int) (a:Int) (p:Nat),0 <= a -> 1 <= p -> p <= 12 -> ∃ n rs,n <= p /\ Dr 6 n rs /\ U8 rs /\ m [.lst .sc (aa ns),.int a,.int p] = ok (.tup [.int n,.lst .ow (cz rs)])
theorem wX (Φ:az) (P:A0 Φ) (Ah:qK (Φ 200)) (SR:jW (Φ 201)):kB (mk Φ 3 10 iF):=by
 intro ns a p ha p1 p2
 have e1:=Ah ns a ha
 obtain ⟨f1,f2⟩:=jK (bF ns a) (b:=(p:Int)) (by omega)
 obtain ⟨n,hn⟩:∃ n:Nat,1 + (bF ns a).fmod p = (n:Int):=⟨(1 + (bF ns a).fmod p).toNat,by omega⟩
 obtain ⟨g1,g2⟩:=jK ((bF ns a).fdiv p) (b:=6) (by decide)
 obtain ⟨k,hk⟩:∃ k:Nat,1 + ((bF ns a).fdiv p).fmod 6 = (k:Int):=⟨(1 + ((bF ns a).fdiv p).fmod 6).toNat,by omega⟩
 have T0:Tab n 0 [] []:=⟨List.nodup_nil,rfl,Nat.le_refl _,(fun _ h=>nomatch h),(fun _ h=>nomatch h),by simp,fun h=>by omega⟩
 obtain ⟨cs,ws,c6,c7,c8,el,T⟩:=vY Φ P Ah ns ha (n:=n) (by omega) (some (.int p)) (some (.int ((bF ns a).fdiv p))) k 0 [] [] none none none T0 (by omega)
 rw [Nat.zero_add] at T
 have D6:=T.dr (by omega) (by omega) (by omega) (by omega)
 have hm:cX .mod (.int (bF ns a)) (.int p) = ok (.int ((bF ns a).fmod p)):=Nb (by omega)
 have hd:cX .fdiv (.int (bF ns a)) (.int p) = ok (.int ((bF ns a).fdiv p)):=nr (g_ (by omega) (tW (by omega)))
 have Hj:Φ 1030 [] = ok (.cc .ow [] []):=by rw [P.vN];rfl
 have hit:d8 Φ (.ji (.bin .add (.int 1) (.bin .mod (.v 3) (.int 6)))) [some (.lst .sc (aa ns)),some (.int a),some (.int p),some (.int ((bF ns a).fdiv p)),some (.int n),some (.cc .ow [] []),none,none,none,none] = ok ((List.range' 0 k).map fun (i:Nat)=>D.int (i:Int),[some (.lst .sc (aa ns)),some (.int a),some (.int p),some (.int ((bF ns a).fdiv p)),some (.int n),some (.cc .ow [] []),none,none,none,none]):=by
  rw [xc (n:=k) (by simp [hk]) (by omega) (by omega),Int.toNat_natCast,List.range_eq_range']
 have hf:=fN (Φ:=Φ) (t:=.nm 6) (b:=BJ) hit el
 have hp:(bG cs).Perm cs:=List.mergeSort_perm _ _
 have kL:∀ f,dF Φ (.cj 1100) [.cc f cs (aa ws)] = ok (cs.map fq):=fun f=>by
  show bd (Φ 1100 _) nY = _
  rw [P.vH]
  show ok (ag aK (cs.map fq)) = _
  rw [fe]
 have hfew:=T.ui
 have LP:∀ c,fq c = .tup (aa c):=fun _=>rfl
 have s1:∀ r,aL Φ Io [some (.lst .sc (aa ns)),some (.int a),some (.int p),some (.int ((bF ns a).fdiv p)),some (.int n),some (.cc .ow cs (aa ws)),c6,c7,c8,r] = ok (.lst .ow (aa (cs.map (bX cs ws)))):=fun r=>by
  unfold Io
  rw [cR (xs:=[.cc .al cs (aa ws)]) (by simp) (kL _) (ds:=cs.map fun c=>.int (bX cs ws c)) (bN fun c hc=>?_) (by simp;exact cv (by omega))]
  ·simp [aa,aC]
  ·have e:=EK P .fz T.ln hc
   exact ⟨[some (.tup (aa c)),some (.cc .fz cs (aa ws))],by simp [aT,LP],by simp,by simp [e]⟩
 rw [mr T.nd T.ln] at s1
 have s2:qC .j4 [.lst .ow (aa ws)] = ok (.int ws.sum):=by
  show (match intsOf (aa ws) with | some ns=>ok (D.int ns.sum) | none=>none) = _
  unfold aa
  rw [a_]
 have hW:1 <= ws.sum /\ ws.sum <= 42:=by
  have hs:=T.sum
  refine ⟨?_,by omega⟩
  obtain ⟨c,hc⟩:=List.exists_mem_of_ne_nil cs (T.ne (by omega))
  obtain ⟨w,e,m⟩:=jH T.ln hc
  have:=T.pos w m
  have:=T.vn w m
  omega
 refine ⟨n,kR cs ws,by omega,D6,⟨ws.sum.toNat,by omega,by omega,fun r hr=>?_⟩,?_⟩
 ·unfold kR at hr
  obtain ⟨c,_,rfl⟩:=List.mem_map.mp hr
  have h:ws.sum = ((ws.sum.toNat:Nat):Int):=by omega
  show (Rat.divInt (bX cs ws c) ws.sum).den ∣ _
  have d:=uu (t:=bX cs ws c) (b:=ws.sum) (by omega)
  rwa [show ws.sum.natAbs = ws.sum.toNat by omega] at d
 have LN:∀ f,Φ 1035 [.cc f cs (aa ws)] = ok (.lst .ow ((bG cs).map fq)):=fun f=>by
  rw [P.vJ]
  show (if cs.length < 64 then ok (D.lst .ow ((bG cs).map fq)) else none) = _
  rw [if_pos (by omega)]
 have s3:aL Φ Ip [some (.lst .sc (aa ns)),some (.int a),some (.int p),some (.int ((bF ns a).fdiv p)),some (.int n),some (.cc .ow cs (aa ws)),c6,c7,c8,some (.int ws.sum)] = ok (.lst .ow (cz (kR cs ws))):=by
  unfold Ip
  rw [cR (xs:=[.lst .ow ((bG cs).map fq)]) (by simp [LN]) (items:=(bG cs).map fq) (by rw [dS,fe]) (ds:=(bG cs).map fun c=>rD (Rat.divInt (bX cs ws c) ws.sum,c)) (bN fun c hc=>?_) (by rw [List.length_map];exact cv (by rw [hp.length_eq];omega))]
  ·have:((bG cs).map fun c=>rD (Rat.divInt (bX cs ws c) ws.sum,c)) = cz (kR cs ws):=by unfold cz kR;rw [List.map_map];rfl
   rw [this,mv]
  ·have e:=EK P .fz T.ln (hp.mem_iff.mp hc)
   have e':=SR (bX cs ws c) ws.sum (by omega) (tW (by omega))
   exact ⟨[some (.tup (aa c)),some (.int ws.sum),some (.cc .fz cs (aa ws))],by simp [aT,LP],by simp,by simp [e,e',rD]⟩
 simp [mk_eq,iF,e1,hm,hd,hn,Hj]
 rw [hf]
 simp [s1,s2,s3]
end DI
end
section
namespace DI
open PySem (Str)
structure Gs2 (i j n:Nat) (ws xs:List Rat):Prop where
 l1:ws.length = n
 l2:xs.length = n
 s1:∀ q ∈ ws,Sm i q
 s2:∀ q ∈ xs,Sm j q
 jj:i + j <= 20
theorem Gs.two {j n:Nat} {ws xs:List Rat} (G:Gs j n ws xs) (hj:j <= 10):Gs2 j j n ws xs:=⟨G.l1,G.l2,G.s1,G.s2,by omega⟩
noncomputable def kA (m:List D -> O D):Prop:=∀ n rs,m [bD n rs] = ok (.tup [.int n,.lst .ow (cz rs)])
noncomputable def iE:List CS:=[.ret (.tup [(.ix (.v 0) (.int 0)),(.bf .list1 [(.ix (.v 0) (.int 1))])])]
theorem wW (Φ:az):kA (mk Φ 1 1 iE):=by
 intro n rs
 simp [mk_eq,iE,bD]
noncomputable def cE (f:Fl) (n:Nat) (rs:List Row):D:=.tup [.int n,.lst f (cz rs)]
@[simp] theorem NU (g:Fl -> Fl) (f:Fl) (n:Nat) (rs:List Row):aD g (cE f n rs) = cE (g f) n rs:=by simp [cE]
theorem Au (n:Nat) (rs:List Row):cE .fz n rs = bD n rs:=rfl
@[simp] theorem N5 (p:Fl -> Bool) (f:Fl) (n:Nat) (rs:List Row):aq p (cE f n rs) = p f:=by simp [cE]
@[simp] theorem Rw (f:Fl) (n:Nat) (rs:List Row):tZ (cE f n rs) (.int 0) = ok (.int n):=by simp [cE]
end DI
end
section
namespace DI
open PySem (Str)
noncomputable def d4 (g h:Int) (r:Row):Bool:=decide (g ∈ r.2) && decide (h ∈ r.2)
noncomputable def br (rs:List Row) (g h:Int):Rat:=(cJ (rs.filter (d4 g h))).sum
theorem rY (h:Int):∀ ns:List Int,inD (.int h) (aa ns) = decide (h ∈ ns)
 | []=>rfl
 | x :: xs=>by
  show (i3 (.int x) (.int h) || inD (.int h) (aa xs)) = _
  rw [lI,rY h xs]
  by_cases e:h = x <;> simp [e,eq_comm]
theorem o8:∀ ns:List Int,(aa ns).all gy = true
 | []=>rfl
 | x :: xs=>by show (gy (.int x) && (aa xs).all gy) = true;rw [o8 xs];rfl
theorem EM (h:Int) (ns:List Int):dI .xZ (.int h) (.tup (aa ns)) = ok (.bl (decide (h ∈ ns))):=by
 show (if gy (.int h) && (aa ns).all gy then ok (D.bl (inD (.int h) (aa ns))) else none) = _
 rw [o8,rY];rfl
noncomputable def Di:CE:=.comp 2 (.tp [0,1]) [1,2] .seq [(.ix (.v 0) (.int 1))] [(.and [(.cmp .xZ (.v 2) (.v 1)),(.cmp .xZ (.v 3) (.v 1))])] (.v 0)
noncomputable def lL:List CS:=[.asg (.nm 3) Di,.ret (.call 2 [(.bf .j4 [(.v 3)]),(.ix (.v 0) (.int 0))])]
noncomputable def jU (m:List D -> O D):Prop:=∀ k n rs (g h:Int),Dr k n rs -> m [.tup [.int (cf (cJ rs)),.lst .fz (iT (cf (cJ rs)) rs)],.int g,.int h] = ok (qD (br rs g h))
theorem BX (Φ:az) (h2:dX (Φ 2)):jU (mk Φ 3 4 lL):=by
 intro k n rs g h I
 obtain ⟨b0,b1,b2⟩:=I.bot
 have key:=BE (b:=cf (cJ rs)) (qs:=cJ (rs.filter (d4 g h))) b0 fun q hq=>by
  obtain ⟨r,hr,rfl⟩:=List.mem_map.mp hq
  exact b2 _ (List.mem_map_of_mem ((List.mem_filter.mp hr).1))
 generalize cf (cJ rs) = b at *
 have k1:∀ a,aL Φ Di [some (.tup [.int b,.lst .fz (iT b rs)]),some (.int g),some (.int h),a] = ok (.lst .ow (aa ((cJ (rs.filter (d4 g h))).map (bA b)))):=fun a=>by
  unfold Di
  rw [cR (xs:=[.lst .fz (iT b rs)]) (items:=rs.map fun r=>.tup [.int (bA b r.1),.tup (aa r.2)]) (ds:=(rs.filter (d4 g h)).map fun r=>.int (bA b r.1)) (by simp) (by rw [dS,zw];rfl) (fi fun r hr=>⟨[some (.int (bA b r.1)),some (.tup (aa r.2)),some (.int g),some (.int h)],by simp [aT],by
   by_cases hg:g ∈ r.2 <;> by_cases hh:h ∈ r.2 <;> simp [EM,d4,hg,hh],fun _=>by simp⟩) ?_]
  ·simp [aa,aC,cJ]
  ·have:=List.length_filter_le (d4 g h) rs
   have:=I.len
   rw [List.length_map]
   exact cv (by omega)
 have k2:qC .j4 [.lst .ow (aa ((cJ (rs.filter (d4 g h))).map (bA b)))] = ok (.int ((cJ (rs.filter (d4 g h))).map (bA b)).sum):=by
  show (match intsOf (aa ((cJ (rs.filter (d4 g h))).map (bA b))) with | some ns=>ok (D.int ns.sum) | none=>none) = _
  unfold aa
  rw [a_]
 have k3:=h2.1 ((cJ (rs.filter (d4 g h))).map (bA b)).sum b (by omega) (by
  rw [Int.natAbs_natCast]
  exact Nat.lt_of_lt_of_le b1 (Nat.pow_le_pow_right (by decide) (by decide)))
 rw [key] at k3
 have k4:∀ f,qC .j4 [.lst f (aa ((cJ (rs.filter (d4 g h))).map (bA b)))] = ok (.int ((cJ (rs.filter (d4 g h))).map (bA b)).sum):=fun f=>k2
 simp [mk_eq,lL,G0 Φ Di _ rfl,k1,k4,k3]
 rfl
noncomputable def nX (n:Nat) (rs:List Row):List Rat:=(List.range n).map fun (k:Nat)=>br rs k k
noncomputable def Dg:CE:=.comp 1 (.nm 0) [1] .ji [(.ix (.v 0) (.int 0))] [] (.call 19 [(.v 1),(.v 0),(.v 0)])
noncomputable def jN:List CS:=[.ex (.call 17 [(.v 0)]),.asg (.nm 1) (.call 14 [(.ix (.v 0) (.int 1))]),.ret Dg]
noncomputable def jT (m:List D -> O D):Prop:=∀ k n rs,Dr k n rs -> m [bD n rs] = ok (.lst .ow (bW (nX n rs)))
theorem yG (Φ:az) (HB:eM (Φ 14)) (Ms:eY (Φ 17)) (Jv:jU (Φ 19)):jT (mk Φ 1 2 jN):=by
 intro k n rs I
 have e1:=Ms k n rs I
 have e2:=HB rs k I.Fz
 have hn:=I.n2
 have m2:aD bc (bD n rs) = bD n rs:=by simp [bD]
 have m1:aD aK (bD n rs) = bD n rs:=by simp [bD]
 have hd:bD n rs = .tup [.int n,.lst .fz (cz rs)]:=rfl
 have x0:tZ (bD n rs) (.int 0) = ok (.int n):=by rw [hd];simp
 have x1:tZ (bD n rs) (.int 1) = ok (.lst .fz (cz rs)):=by rw [hd];simp
 have k1:aL Φ Dg [some (bD n rs),some (.tup [.int (cf (cJ rs)),.lst .ow (iT (cf (cJ rs)) rs)])] = ok (.lst .ow (bW (nX n rs))):=by
  unfold Dg
  rw [cR (xs:=[.int n]) (ds:=(List.range n).map fun (k:Nat)=>qD (br rs k k)) (by simp [m2,x0]) (lD Φ (by omega) (by omega)) (bN fun k' hk=>?_) (by simp;exact cv (by omega))]
  ·simp [bW,nX,aC]
  ·have e:=Jv k n rs k' k' I
   exact ⟨[some (.int k'),some (.tup [.int (cf (cJ rs)),.lst .fz (iT (cf (cJ rs)) rs)])],by simp [aT],by simp,by simp [e]⟩
 simp [mk_eq,jN,G0 Φ Dg _ rfl,m1,m2,x1,e1,e2,k1]
@[simp] theorem NB (n:Nat) (rs:List Row):(nX n rs).length = n:=by simp [nX]
noncomputable def Eb (q:Rat):D:=if 0 < q then qD (1 / q) else .bC
@[simp] theorem Cr (g:Fl -> Fl) (q:Rat):aD g (Eb q) = Eb q:=by
 unfold Eb
 split
 ·simp
 ·rfl
@[simp] theorem CY (g:Fl -> Bool) (q:Rat):aq g (Eb q) = false:=by
 unfold Eb
 split
 ·simp
 ·rfl
@[simp] theorem I9 (g:Fl -> Fl) (qs:List Rat):ag g (qs.map Eb) = qs.map Eb:=aZ g (fun q=>Cr g q) qs
@[simp] theorem Js (g:Fl -> Bool) (qs:List Rat):ao g (qs.map Eb) = false:=bo g (fun q=>CY g q) qs
end DI
end
section
namespace DI
open PySem (Str)
noncomputable def DW (n:Nat) (h:Nat):List Rat:=(List.range n).map fun (k:Nat)=>if k = h then 1 else 0
noncomputable def yp:List CS:=[.ifs (.and [(.cmp .xZ (.v 2) (.v 7)),(.cmp .xZ (.v 4) (.v 7))]) [.asg (.nm 5) (.call 202 [(.v 5),(.v 6)])] []]
noncomputable def BH:List CS:=[.asg (.nm 5) (.tup [(.int 0),(.int 1)]),.fr (.tp [6,7]) (.seq (.ix (.v 0) (.int 1))) yp,.app 3 (.v 5)]
noncomputable def BI:List CS:=[.asg (.nm 3) (.lst []),.fr (.nm 4) (.ji (.ix (.v 0) (.int 0))) BH,.app 1 (.v 3)]
noncomputable def jO:List CS:=[.asg (.nm 1) (.lst []),.fr (.nm 2) (.ji (.ix (.v 0) (.int 0))) BI,.ret (.v 1)]
theorem tP (r:Row) (rs:List Row) (g h:Int):br (r :: rs) g h = if d4 g h r then r.1 + br rs g h else br rs g h:=by
 unfold br
 cases e:d4 g h r with
 | true=>rw [List.filter_cons_of_pos e];rfl
 | false=>rw [List.filter_cons_of_neg (by simp [e])];rfl
theorem pY (Φ:az) (iI:kO (Φ 202)) (g h:Int) (c0 c1 c3:Option D):∀ (rs:List Row) (acc:Rat) (i:Nat) (c6 c7:Option D),(∀ r ∈ rs,Sm 6 r.1) -> Sm (1 + 7 * i) acc -> i + rs.length <= 12 ->
  ∃ oB sO,eh (fun d ρ=>ck (.tp [6,7]) d ρ) (fun ρ=>bq Φ yp ρ) (cz rs) [c0,c1,some (.int g),c3,some (.int h),some (qD acc),c6,c7] = ok (.nx,[c0,c1,some (.int g),c3,some (.int h),some (qD (acc + br rs g h)),oB,sO])
 | [],acc,i,c6,c7,_,_,_=>⟨c6,c7,by simp [br,cJ,cz,jJ,Rat.add_zero]⟩
 | r :: rs,acc,i,c6,c7,hm,hs,hi=>by
  rw [List.length_cons] at hi
  have s1:=hm r List.mem_cons_self
  have e1:=iI acc r.1 (hs.mono (by omega)) (s1.mono (by decide))
  have s3:=(hs.add s1).mono (l:=1 + 7 * (i + 1)) (by omega)
  have s4:=hs.mono (l:=1 + 7 * (i + 1)) (by omega)
  have hr:=fun x hx=>hm x (List.mem_cons_of_mem r hx)
  have hc:∀ (a:Option D),aL Φ (.and [(.cmp .xZ (.v 2) (.v 7)),(.cmp .xZ (.v 4) (.v 7))]) [c0,c1,some (.int g),c3,some (.int h),a,some (qD r.1),some (.tup (aa r.2))] = ok (.bl (d4 g h r)):=fun a=>by
   by_cases hg:g ∈ r.2 <;> by_cases hh:h ∈ r.2 <;> simp [EM,d4,hg,hh]
  rw [tP]
  cases hb:d4 g h r with
  | true =>
   obtain ⟨oB,sO,ih⟩:=pY Φ iI g h c0 c1 c3 rs (acc + r.1) (i + 1) (some (qD r.1)) (some (.tup (aa r.2))) hr s3 (by omega)
   refine ⟨oB,sO,dD (ρ1:=[c0,c1,some (.int g),c3,some (.int h),some (qD acc),some (qD r.1),some (.tup (aa r.2))]) (by simp [rD]) (ρ2:=[c0,c1,some (.int g),c3,some (.int h),some (qD (acc + r.1)),some (qD r.1),some (.tup (aa r.2))]) ?_ ?_⟩
   ·rw [yp,df,Bl,hc,hb];simp [e1]
   ·exact ih.trans (by simp [Rat.add_assoc])
  | false =>
   obtain ⟨oB,sO,ih⟩:=pY Φ iI g h c0 c1 c3 rs acc (i + 1) (some (qD r.1)) (some (.tup (aa r.2))) hr s4 (by omega)
   refine ⟨oB,sO,dD (ρ1:=[c0,c1,some (.int g),c3,some (.int h),some (qD acc),some (qD r.1),some (.tup (aa r.2))]) (by simp [rD]) (ρ2:=[c0,c1,some (.int g),c3,some (.int h),some (qD acc),some (qD r.1),some (.tup (aa r.2))]) ?_ ?_⟩
   ·rw [yp,df,Bl,hc,hb];simp
   ·exact ih.trans (by simp)
theorem vh (Φ:az) (iI:kO (Φ 202)) {n:Nat} {rs:List Row} (I:Dr 6 n rs) (g:Int) (c1:Option D):∀ (k j:Nat) (qs:List Rat) (c4 c5 c6 c7:Option D),j + k <= 12 -> qs.length = j ->
  ∃ AN AM oB sO,eh (fun d ρ=>ck (.nm 4) d ρ) (fun ρ=>bq Φ BH ρ) ((List.range' j k).map fun (i:Nat)=>D.int (i:Int)) [some (bD n rs),c1,some (.int g),some (.lst .ow (bW qs)),c4,c5,c6,c7] =
   ok (.nx,[some (bD n rs),c1,some (.int g),some (.lst .ow (bW (qs ++ (List.range' j k).map fun (i:Nat)=>br rs g i))),AN,AM,oB,sO])
 | 0,j,qs,c4,c5,c6,c7,_,_=>⟨c4,c5,c6,c7,by simp [jJ]⟩
 | k + 1,j,qs,c4,c5,c6,c7,hj,hq=>by
  have z0:D.tup [.int 0,.int 1] = qD 0:=rfl
  have hfew:=I.ui
  obtain ⟨a6,a7,el⟩:=pY Φ iI g j (some (bD n rs)) c1 (some (.lst .ow (bW qs))) rs 0 0 c6 c7 I.sm (by constructor <;> decide) (by omega)
  rw [Rat.zero_add] at el
  have x1:aL Φ (.ix (.v 0) (.int 1)) [some (bD n rs),c1,some (.int g),some (.lst .ow (bW qs)),some (.int j),some (qD 0),c6,c7] = ok (.lst .fz (cz rs)):=by simp [bD]
  have hit:d8 Φ (.seq (.ix (.v 0) (.int 1))) [some (bD n rs),c1,some (.int g),some (.lst .ow (bW qs)),some (.int j),some (qD 0),c6,c7] = ok (cz rs,[some (bD n rs),c1,some (.int g),some (.lst .ow (bW qs)),some (.int j),some (qD 0),c6,c7]):=by
   rw [zK x1];simp
  have hf:=fN (Φ:=Φ) (t:=.tp [6,7]) (b:=yp) hit el
  obtain ⟨AN,AM,oB,sO,ih⟩:=vh Φ iI I g c1 k (j + 1) (qs ++ [br rs g j]) (some (.int j)) (some (qD (br rs g j))) a6 a7 (by omega) (by simp [hq])
  rw [List.range'_succ,List.map_cons,List.map_cons]
  refine ⟨AN,AM,oB,sO,dD (ρ1:=[some (bD n rs),c1,some (.int g),some (.lst .ow (bW qs)),some (.int j),c5,c6,c7]) (by simp) (ρ2:=[some (bD n rs),c1,some (.int g),some (.lst .ow (bW (qs ++ [br rs g j]))),some (.int j),some (qD (br rs g j)),a6,a7]) ?_ ?_⟩
  ·have hc:qs.length < dU:=by show _ < 1000000;omega
   simp [BH,z0,hf,hc]
  ·exact ih.trans (by simp)
noncomputable def aJ (n:Nat) (rs:List Row) (f:Fl) (j k:Nat):List D:=(List.range' j k).map fun (g:Nat)=>.lst f (bW ((List.range' 0 n).map fun (h:Nat)=>br rs g h))
theorem vi (Φ:az) (iI:kO (Φ 202)) {n:Nat} {rs:List Row} (I:Dr 6 n rs):∀ (k j:Nat) (ds:List D) (c2 c3 c4 c5 c6 c7:Option D),j + k <= 12 -> ds.length = j ->
  ∃ IF uF AN AM oB sO,eh (fun d ρ=>ck (.nm 2) d ρ) (fun ρ=>bq Φ BI ρ) ((List.range' j k).map fun (i:Nat)=>D.int (i:Int)) [some (bD n rs),some (.lst .ow ds),c2,c3,c4,c5,c6,c7] =
   ok (.nx,[some (bD n rs),some (.lst .ow (ds ++ aJ n rs .ow j k)),IF,uF,AN,AM,oB,sO])
 | 0,j,ds,c2,c3,c4,c5,c6,c7,_,_=>⟨c2,c3,c4,c5,c6,c7,by simp [jJ,aJ]⟩
 | k + 1,j,ds,c2,c3,c4,c5,c6,c7,hj,hq=>by
  have hn:=I.n2
  obtain ⟨a4,a5,a6,a7,el⟩:=vh Φ iI I j (some (.lst .ow ds)) n 0 [] c4 c5 c6 c7 (by omega) rfl
  have x0:∀ r:au,aL Φ (.ix (.v 0) (.int 0)) (some (bD n rs) :: r) = ok (.int n):=fun r=>by simp [bD]
  have hit:=xc (Φ:=Φ) (a:=.ix (.v 0) (.int 0)) (ρ:=[some (bD n rs),some (.lst .ow ds),some (.int j),some (.lst .ow (bW [])),c4,c5,c6,c7]) (n:=n) (x0 _) (by omega) (by omega)
  rw [Int.toNat_natCast,List.range_eq_range'] at hit
  have hf:=fN (Φ:=Φ) (t:=.nm 4) (b:=BH) hit el
  rw [List.nil_append] at hf
  obtain ⟨IF,uF,AN,AM,oB,sO,ih⟩:=vi Φ iI I k (j + 1) (ds ++ [.lst .ow (bW ((List.range' 0 n).map fun (h:Nat)=>br rs j h))]) (some (.int j)) none a4 a5 a6 a7 (by omega) (by simp [hq])
  have ep:aJ n rs .ow j (k + 1) = .lst .ow (bW ((List.range' 0 n).map fun (h:Nat)=>br rs j h)) :: aJ n rs .ow (j + 1) k:=by unfold aJ;rw [List.range'_succ,List.map_cons]
  rw [List.range'_succ,List.map_cons,ep]
  have hc:ds.length < dU:=by show _ < 1000000;omega
  have q0:bW [] = []:=rfl
  refine ⟨IF,uF,AN,AM,oB,sO,dD (ρ1:=[some (bD n rs),some (.lst .ow ds),some (.int j),c3,c4,c5,c6,c7]) (by simp) (ρ2:=[some (bD n rs),some (.lst .ow (ds ++ [.lst .ow (bW ((List.range' 0 n).map fun (h:Nat)=>br rs j h))])),some (.int j),none,a4,a5,a6,a7]) ?_ ?_⟩
  ·rw [q0] at hf
   simp [BI,hf,hc]
  ·exact ih.trans (by simp)
noncomputable def nB (m:List D -> O D):Prop:=∀ n rs,Dr 6 n rs -> m [bD n rs] = ok (.lst .ow (aJ n rs .ow 0 n))
theorem yH (Φ:az) (iI:kO (Φ 202)):nB (mk Φ 1 8 jO):=by
 intro n rs I
 have hn:=I.n2
 obtain ⟨a2,a3,a4,a5,a6,a7,el⟩:=vi Φ iI I n 0 [] none none none none none none (by omega) rfl
 have x0:∀ r:au,aL Φ (.ix (.v 0) (.int 0)) (some (bD n rs) :: r) = ok (.int n):=fun r=>by simp [bD]
 have hit:=xc (Φ:=Φ) (a:=.ix (.v 0) (.int 0)) (ρ:=[some (bD n rs),some (.lst .ow []),none,none,none,none,none,none]) (n:=n) (x0 _) (by omega) (by omega)
 rw [Int.toNat_natCast,List.range_eq_range'] at hit
 have hf:=fN (Φ:=Φ) (t:=.nm 2) (b:=BI) hit el
 rw [List.nil_append] at hf
 simp [mk_eq,jO,hf]
theorem fP (g:Fl -> Fl) (n:Nat) (rs:List Row) (f:Fl) (j k:Nat):ag g (aJ n rs f j k) = aJ n rs (g f) j k:=by
 unfold aJ
 rw [aC,List.map_map]
 refine List.map_congr_left fun x _=>?_
 show aD g (.lst f (bW _)) = _
 simp
theorem r_ (g:Fl -> Bool) (n:Nat) (rs:List Row) (f:Fl) (j k:Nat) (h:g f = false):ao g (aJ n rs f j k) = false:=bo g (fun x=>by simp [h]) (List.range' j k)
theorem Ee {n:Nat} {rs:List Row} {f:Fl} {k:Nat} (h:k < n):s9 (aJ n rs f 0 n) (k:Int) = ok (aD bc (.lst f (bW ((List.range' 0 n).map fun (h:Nat)=>br rs k h)))):=by
 have:=at_of (ds:=aJ n rs f 0 n) (i:=(k:Int)) (d:=.lst f (bW ((List.range' 0 n).map fun (h:Nat)=>br rs k h))) (by omega) (by
  rw [Int.toNat_natCast,aJ,List.getElem?_map,List.getElem?_range' h]
  simp)
 exact this
end DI
end
section
namespace DI
open PySem (Str)
end DI
end
section
namespace DI
open PySem (Str)
noncomputable def c19:CS:=.setI 4 (.v 10) (.call 202 [(.ix (.v 4) (.v 10)),(.call 201 [(.bin .add (.int 1) (.bin .mul (.bin .mod (.bin .fdiv (.v 8) (.int 15)) (.int 5)) (.bin .add (.v 9) (.int 1)))),(.int 7)])])
theorem Eh (f:Fl) (n:Nat) (rs:List Row):cC 40 (cE f n rs) = true:=by
 unfold cE
 rw [jz]
 simp only [List.all_cons,List.all_nil,fc,Bool.true_and,Bool.and_true]
 rw [vk]
 exact jA (K7 36) rs
theorem Lc (f g:Fl) (n:Nat) (rs:List Row):dI .ne (cE f n rs) (cE g n rs) = ok (.bl false):=by
 rw [DD (Eh f n rs) (Eh g n rs)]
 have k2:i3 (cE f n rs) (cE g n rs) = true:=by
  show (((n:Int) == (n:Int)) && (cZ (cz rs) (cz rs) && true)) = true
  rw [C_];simp
 rw [k2];rfl
theorem fb (Φ:az):∀ (a b:List CS) (ρ ρ':au),bq Φ a ρ = ok (.nx,ρ') -> bq Φ (a ++ b) ρ = bq Φ b ρ'
 | [],b,ρ,ρ',h=>by cases h;rfl
 | s :: a,b,ρ,ρ',h=>by
  rw [df] at h
  rw [List.cons_append,df]
  cases e:qk Φ s ρ with
  | none=>rw [e] at h;cases h
  | some r=>cases r with
   | error c=>rw [e] at h;cases h
   | ok r =>
    obtain ⟨fo,ρ1⟩:=r
    rw [e] at h
    cases fo with
    | nx=>exact fb Φ a b ρ1 ρ' h
    | _=>cases h
end DI
end
section
namespace DI
open PySem PySem.Spec PyProof.Rows L2
section
variable {X:Cx}
end
end DI
end
section
namespace DI
open PySem (Str)
@[simp] theorem JW (n x:Nat):(DW n x).length = n:=by simp [DW]
end DI
end
section
namespace DI
open PySem (Str)
noncomputable def c20:CS:=.setI 8 (.v 9) (.call 202 [(.ix (.v 8) (.v 9)),(.tup [(.int 1),(.bin .add (.int 1) (.bin .mod (.bin .fdiv (.call 200 [(.v 0),(.int 10)]) (.int 5)) (.int 9)))])])
end DI
end
section
namespace DI
open PySem (Str)
end DI
end
section
namespace DI
open PySem (Str)
end DI
end
section
namespace DI
open PySem (Str)
noncomputable def Df:CE:=.comp 1 (.nm 0) [1,3] .ji [(.ix (.v 0) (.int 0))] [] (.call 19 [(.v 1),(.v 2),(.v 0)])
noncomputable def BG:List CS:=[.app 2 Df]
noncomputable def iD:List CS:=[.ex (.call 17 [(.v 0)]),.asg (.nm 1) (.call 14 [(.ix (.v 0) (.int 1))]),.asg (.nm 2) (.lst []),.fr (.nm 3) (.ji (.ix (.v 0) (.int 0))) BG,.ret (.v 2)]
noncomputable def iG (m:List D -> O D):Prop:=∀ k n rs,Dr k n rs -> m [bD n rs] = ok (.lst .ow (aJ n rs .ow 0 n))
theorem uY (Φ:az) (Jv:jU (Φ 19)) {d n:Nat} {rs:List Row} (I:Dr d n rs):∀ (k j:Nat) (ds:List D) (c3:Option D),j + k <= 12 -> ds.length = j ->
  ∃ uF,eh (fun d ρ=>ck (.nm 3) d ρ) (fun ρ=>bq Φ BG ρ) ((List.range' j k).map fun (i:Nat)=>D.int (i:Int)) [some (bD n rs),some (.tup [.int (cf (cJ rs)),.lst .ow (iT (cf (cJ rs)) rs)]),some (.lst .ow ds),c3] =
   ok (.nx,[some (bD n rs),some (.tup [.int (cf (cJ rs)),.lst .ow (iT (cf (cJ rs)) rs)]),some (.lst .ow (ds ++ aJ n rs .ow j k)),uF])
 | 0,j,ds,c3,_,_=>⟨c3,by simp [jJ,aJ]⟩
 | k + 1,j,ds,c3,hj,hq=>by
  have hn:=I.n2
  have m2:aD bc (bD n rs) = bD n rs:=by simp [bD]
  have hd:bD n rs = .tup [.int n,.lst .fz (cz rs)]:=rfl
  have x0:tZ (bD n rs) (.int 0) = ok (.int n):=by rw [hd];simp
  have k1:aL Φ Df [some (bD n rs),some (.tup [.int (cf (cJ rs)),.lst .ow (iT (cf (cJ rs)) rs)]),some (.lst .ow ds),some (.int j)] = ok (.lst .ow (bW ((List.range' 0 n).map fun (h:Nat)=>br rs j h))):=by
   unfold Df
   rw [cR (xs:=[.int n]) (ds:=(List.range n).map fun (h:Nat)=>qD (br rs j h)) (by simp [m2,x0]) (lD Φ (by omega) (by omega)) (bN fun k' hk=>?_) (by simp;exact cv (by omega))]
   ·simp [bW,aC,List.range_eq_range']
   ·have e:=Jv d n rs j k' I
    exact ⟨[some (.int k'),some (.tup [.int (cf (cJ rs)),.lst .fz (iT (cf (cJ rs)) rs)]),some (.int j)],by simp [aT],by simp,by simp [e]⟩
  obtain ⟨uF,ih⟩:=uY Φ Jv I k (j + 1) (ds ++ [.lst .ow (bW ((List.range' 0 n).map fun (h:Nat)=>br rs j h))]) (some (.int j)) (by omega) (by simp [hq])
  have ep:aJ n rs .ow j (k + 1) = .lst .ow (bW ((List.range' 0 n).map fun (h:Nat)=>br rs j h)) :: aJ n rs .ow (j + 1) k:=by unfold aJ;rw [List.range'_succ,List.map_cons]
  rw [List.range'_succ,List.map_cons,ep]
  have hc:ds.length < dU:=by show _ < 1000000;omega
  refine ⟨uF,dD (ρ1:=[some (bD n rs),some (.tup [.int (cf (cJ rs)),.lst .ow (iT (cf (cJ rs)) rs)]),some (.lst .ow ds),some (.int j)]) (by simp) (ρ2:=[some (bD n rs),some (.tup [.int (cf (cJ rs)),.lst .ow (iT (cf (cJ rs)) rs)]),some (.lst .ow (ds ++ [.lst .ow (bW ((List.range' 0 n).map fun (h:Nat)=>br rs j h))])),some (.int j)]) ?_ ?_⟩
  ·simp [BG,G0 Φ Df _ rfl,k1,hc]
  ·exact ih.trans (by simp)
theorem wV (Φ:az) (HB:eM (Φ 14)) (Ms:eY (Φ 17)) (Jv:jU (Φ 19)):iG (mk Φ 1 4 iD):=by
 intro k n rs I
 have hn:=I.n2
 have e1:=Ms k n rs I
 have e2:=HB rs k I.Fz
 have m2:aD bc (bD n rs) = bD n rs:=by simp [bD]
 have m1:aD aK (bD n rs) = bD n rs:=by simp [bD]
 have hd:bD n rs = .tup [.int n,.lst .fz (cz rs)]:=rfl
 have x1:tZ (bD n rs) (.int 1) = ok (.lst .fz (cz rs)):=by rw [hd];simp
 have x0:∀ r:au,aL Φ (.ix (.v 0) (.int 0)) (some (bD n rs) :: r) = ok (.int n):=fun r=>by simp [bD]
 obtain ⟨a3,el⟩:=uY Φ Jv I n 0 [] none (by omega) rfl
 have hit:=xc (Φ:=Φ) (a:=.ix (.v 0) (.int 0)) (ρ:=[some (bD n rs),some (.tup [.int (cf (cJ rs)),.lst .ow (iT (cf (cJ rs)) rs)]),some (.lst .ow []),none]) (n:=n) (x0 _) (by omega) (by omega)
 rw [Int.toNat_natCast,List.range_eq_range'] at hit
 have hf:=fN (Φ:=Φ) (t:=.nm 3) (b:=BG) hit el
 rw [List.nil_append] at hf
 simp [mk_eq,iD,m1,m2,x1,e1,e2,hf]
noncomputable def A2 (p:Int × Int):D:=.tup [.int p.1,.int p.2]
noncomputable def BB (ps:List (Int × Int)):List D:=ps.map A2
@[simp] theorem Cq (g:Fl -> Fl) (p:Int × Int):aD g (A2 p) = A2 p:=by unfold A2;simp
@[simp] theorem CW (g:Fl -> Bool) (p:Int × Int):aq g (A2 p) = false:=by unfold A2;simp
@[simp] theorem I0 (g:Fl -> Fl) (ps:List (Int × Int)):ag g (BB ps) = BB ps:=aZ g (Cq g) ps
@[simp] theorem Jr (g:Fl -> Bool) (ps:List (Int × Int)):ao g (BB ps) = false:=bo g (CW g) ps
@[simp] theorem JX (ps:List (Int × Int)):(BB ps).length = ps.length:=List.length_map ..
theorem FY {n:Nat} {rs:List Row} {g h:Nat} (hh:h < n):s9 (bW ((List.range' 0 n).map fun (h:Nat)=>br rs g h)) (h:Int) = ok (qD (br rs g h)):=by
 have a2:=Nf (qs:=(List.range' 0 n).map fun (h:Nat)=>br rs g h) (h:=(h:Int)) (by omega) (by simp;omega)
 have a3:x8 ((List.range' 0 n).map fun (h:Nat)=>br rs g h) (h:Int) = br rs g h:=by
  unfold x8
  rw [Int.toNat_natCast,List.getD_eq_getElem?_getD,List.getElem?_map,List.getElem?_range' hh]
  simp
 rw [a3] at a2
 exact a2
@[simp] theorem Rv (p:Int × Int):tZ (A2 p) (.int 0) = ok (.int p.1):=by unfold A2;simp
@[simp] theorem Ru (p:Int × Int):tZ (A2 p) (.int 1) = ok (.int p.2):=by unfold A2;simp
end DI
end
section
namespace DI
open PySem (Str)
theorem gY {α:Type} (f:Int -> α) (k:Int):∀ ks:List Int,aU (sg ks) (ks.map f) [k] = if k ∈ ks then some (f k) else none
 | []=>rfl
 | j :: ks=>by
  show (if [j] = [k] then some (f j) else aU (sg ks) (ks.map f) [k]) = _
  rw [gY f k ks]
  by_cases e:j = k
  ·subst e;simp
  ·rw [if_neg (by simpa using e)]
   have:k ∈ j :: ks ↔ k ∈ ks:=by rw [List.mem_cons];exact ⟨fun h=>h.resolve_left fun z=>e z.symm,.inr⟩
   simp only [this]
theorem rb {α:Type} (f:Int -> α) (k:Int) (v:α):∀ ks:List Int,setC (sg ks) (ks.map f) [k] v = ks.map fun j=>if j = k then v else f j
 | []=>rfl
 | j :: ks=>by
  show (if [j] = [k] then v else f j) :: setC (sg ks) (ks.map f) [k] v = _
  rw [rb f k v ks,List.map_cons]
  congr 1
  by_cases e:j = k
  ·rw [if_pos (by rw [e]),if_pos e]
  ·rw [if_neg (by simpa using e),if_neg e]
theorem oH {α:Type} (f:Int -> α) (k:Int) (v:α) (ks:List Int):aI (sg ks) (ks.map f) [k] v = (aY ks k).map fun j=>if j = k then v else f j:=by
 unfold aI aY
 by_cases h:k ∈ ks
 ·rw [if_pos (pO.mpr h),if_pos h,rb]
 ·rw [if_neg (fun z=>h (pO.mp z)),if_neg h,List.map_append]
  congr 1
  ·refine List.map_congr_left fun j hj=>?_
   rw [if_neg (show ¬ j = k from fun z=>h (z ▸ hj))]
  ·simp
noncomputable def aX (r:Row):Int:=(r.2.length:Int)
noncomputable def du:List Row -> List Int -> List Int
 | [],ks=>ks
 | r :: rs,ks=>du rs (aY ks (aX r))
theorem lr:∀ (rs:List Row) (ks:List Int),(du rs ks).length <= ks.length + rs.length
 | [],_=>Nat.le_refl _
 | r :: rs,ks=>by
  have:=lr rs (aY ks (aX r))
  have h:(aY ks (aX r)).length <= ks.length + 1:=by unfold aY;split <;> simp
  show (du rs (aY ks (aX r))).length <= _
  rw [List.length_cons];omega
noncomputable def D7 {α:Type} [Add α] [Zero α] (val:Row -> α) (k:Int):List Row -> α -> α
 | [],a=>a
 | r :: rs,a=>D7 val k rs (if k = aX r then a + val r else a)
theorem oY {ks:List Int} {k j:Int}:j ∈ aY ks k ↔ j ∈ ks \/ j = k:=by
 unfold aY
 by_cases h:k ∈ ks
 ·rw [if_pos h];exact ⟨.inl,fun z=>z.elim id fun e=>e ▸ h⟩
 ·rw [if_neg h];simp
noncomputable def lV (rs:List Row) (k:Int):Rat:=D7 (fun r=>r.1) k rs 0
noncomputable def wJ (b:Nat) (rs:List Row) (k:Int):Int:=D7 (fun r=>bA b r.1) k rs 0
noncomputable def uM:List CS:=[.mut 1053 2 [(.bin .add (.cj 1051 [(.v 2),(.bf .len [(.v 4)]),(.int 0)]) (.v 3)),(.bf .len [(.v 4)])]]
noncomputable def vX:CE:=.comp 1 (.nm 0) [2,1] .seq [(.cj 1055 [(.v 2)])] [] (.tup [(.v 0),(.call 2 [(.cj 1052 [(.v 1),(.v 0)]),(.ix (.v 2) (.int 0))])])
noncomputable def wo:List CS:=[.ex (.call 17 [(.v 0)]),.asg (.nm 1) (.call 14 [(.ix (.v 0) (.int 1))]),.asg (.nm 2) (.cj 1050 []),.fr (.tp [3,4]) (.seq (.ix (.v 1) (.int 1))) uM,.ret vX]
noncomputable def dw (rs:List Row):List D:=(sortI (du rs [])).map fun k=>.tup [.int k,qD (lV rs k)]
noncomputable def wz (m:List D -> O D):Prop:=∀ k n rs,Dr k n rs -> rs.length < 64 -> m [bD n rs] = ok (.lst .ow (dw rs))
theorem nu (f:Int -> Int):∀ ks:List Int,ao anyF (ks.map fun k=>D.int (f k)) = false
 | []=>rfl
 | k :: ks=>nu f ks
theorem rQ (Φ:az) (C3:Φ 1051 = jE) (C2:Φ 1053 = jD) (b:Nat) (c0 c1:Option D):∀ (rs:List Row) (ks:List Int) (S:Int -> Int) (c3 c4:Option D),ks.length + rs.length <= 1000 -> (∀ k,k ∉ ks -> S k = 0) ->
  ∃ uF AN,eh (fun d ρ=>ck (.tp [3,4]) d ρ) (fun ρ=>bq Φ uM ρ) (iT b rs) [c0,c1,some (.bx .ow ks (ks.map fun k=>.int (S k))),c3,c4] = ok (.nx,[c0,c1,some (.bx .ow (du rs ks) ((du rs ks).map fun k=>.int (D7 (fun r=>bA b r.1) k rs (S k)))),uF,AN])
 | [],ks,S,c3,c4,_,_=>⟨c3,c4,rfl⟩
 | r :: rs,ks,S,c3,c4,hl,h0=>by
  rw [List.length_cons] at hl
  have g1:Φ 1051 [.bx .al ks (ks.map fun k=>.int (S k)),.int (aX r),.int 0] = ok (.int (S (aX r))):=by
   rw [C3]
   show (if ao anyF (ks.map fun k=>D.int (S k)) = false /\ aq anyF (.int 0) = false then ok ((aU (sg ks) (ks.map fun k=>D.int (S k)) [aX r]).getD (.int 0)) else none) = _
   rw [if_pos ⟨nu S ks,rfl⟩,gY (fun k=>D.int (S k))]
   by_cases h:aX r ∈ ks
   ·rw [if_pos h];rfl
   ·rw [if_neg h,h0 _ h];rfl
  have g2:Φ 1053 [.bx .ow ks (ks.map fun k=>.int (S k)),.int (S (aX r) + bA b r.1),.int (aX r)] = ok (.bx .ow (aY ks (aX r)) ((aY ks (aX r)).map fun k=>.int (if k = aX r then S k + bA b r.1 else S k))):=by
   rw [C2]
   show (if aq anyF (.int (S (aX r) + bA b r.1)) = false /\ ks.length < dU then ok (D.bx .ow (aY ks (aX r)) (aI (sg ks) (ks.map fun k=>D.int (S k)) [aX r] (.int (S (aX r) + bA b r.1)))) else none) = _
   rw [if_pos ⟨rfl,by show _ < 1000000;omega⟩,oH (fun k=>D.int (S k))]
   congr 2
   refine List.map_congr_left fun j _=>?_
   by_cases e:j = aX r
   ·rw [if_pos e,if_pos e,e]
   ·rw [if_neg e,if_neg e]
  have hlen:(aa r.2).length = r.2.length:=by simp
  have L1:(aY ks (aX r)).length <= ks.length + 1:=by unfold aY;split <;> simp
  obtain ⟨uF,AN,ih⟩:=rQ Φ C3 C2 b c0 c1 rs (aY ks (aX r)) (fun k=>if k = aX r then S k + bA b r.1 else S k) (some (.int (bA b r.1))) (some (.tup (aa r.2))) (by omega) (fun k hk=>by
   have:¬ (k ∈ ks \/ k = aX r):=fun z=>hk (oY.mpr z)
   show (if k = aX r then S k + bA b r.1 else S k) = 0
   rw [if_neg fun z=>this (.inr z)]
   exact h0 k fun z=>this (.inl z))
  have e1:cD Φ [(.bin .add (.cj 1051 [(.v 2),(.bf .len [(.v 4)]),(.int 0)]) (.v 3)),(.bf .len [(.v 4)])] [c0,c1,some (.bx .ow ks (ks.map fun k=>.int (S k))),some (.int (bA b r.1)),some (.tup (aa r.2))] = ok [.int (S (aX r) + bA b r.1),.int (aX r)]:=by
   have ml:ag bc (ks.map fun k=>D.int (S k)) = ks.map fun k=>D.int (S k):=aZ bc (fun k=>rfl) ks
   have Zw:Φ 1051 [.bx .al ks (ks.map fun k=>.int (S k)),.int (r.2.length:Int),.int 0] = ok (.int (S (aX r))):=g1
   simp [ml,Zw]
   rfl
  have hx:=lQ (Φ:=Φ) (p:=1053) (i:=2) e1 (by simp) rfl g2
  refine ⟨uF,AN,dD (ρ1:=[c0,c1,some (.bx .ow ks (ks.map fun k=>.int (S k))),some (.int (bA b r.1)),some (.tup (aa r.2))]) (by simp) (ρ2:=[c0,c1,some (.bx .ow (aY ks (aX r)) ((aY ks (aX r)).map fun k=>.int (if k = aX r then S k + bA b r.1 else S k))),some (.int (bA b r.1)),some (.tup (aa r.2))]) ?_ ?_⟩
  ·rw [uM,df,hx];simp
  ·exact ih
theorem uN {b:Nat} (k:Int):∀ (rs:List Row) (a:Int) (q:Rat),(∀ r ∈ rs,r.1.den ∣ b) -> ((a:Int):Rat) = q * (b:Rat) -> ((D7 (fun r=>bA b r.1) k rs a:Int):Rat) = D7 (fun r=>r.1) k rs q * (b:Rat)
 | [],a,q,_,h=>h
 | r :: rs,a,q,hd,h=>by
  refine uN k rs _ _ (fun s hs=>hd s (List.mem_cons_of_mem _ hs)) ?_
  by_cases e:k = aX r
  ·rw [if_pos e,if_pos e,Rat.intCast_add,h,qU (hd r List.mem_cons_self)];grind
  ·rw [if_neg e,if_neg e];exact h
theorem O3 {b:Nat} {rs:List Row} (h0:0 < b) (hd:∀ r ∈ rs,r.1.den ∣ b) (k:Int):Rat.divInt (wJ b rs k) b = lV rs k:=by
 have h:=uN k rs 0 0 hd (by rw [Rat.zero_mul];rfl)
 have e:((wJ b rs k:Int):Rat) = lV rs k * (b:Rat):=h
 rw [Rat.divInt_eq_div,e,Rat.intCast_natCast]
 have hb:(b:Rat) ≠ 0:=fun z=>by
  have:((b:Int):Rat) = 0:=by rw [Rat.intCast_natCast];exact z
  rw [Rat.intCast_eq_zero_iff] at this;omega
 grind
theorem oO {ks:List Int} {k:Int}:k ∈ sortI ks ↔ k ∈ ks:=(sortI_perm ks).mem_iff
theorem j7 (ks:List Int):(sortI ks).length = ks.length:=(sortI_perm ks).length_eq
theorem Kr (Φ:az) (h2:dX (Φ 2)) (HB:eM (Φ 14)) (Ms:eY (Φ 17)) (SE:Φ 1050 = oZ) (C3:Φ 1051 = jE) (SD:Φ 1052 = t8) (C2:Φ 1053 = jD) (SA:Φ 1055 = iY):wz (mk Φ 1 5 wo):=by
 intro k n rs I hrl
 have e1:=Ms k n rs I
 have e2:=HB rs k I.Fz
 obtain ⟨b0,b1,b2⟩:=I.bot
 have Sk:∀ r ∈ rs,r.1.den ∣ cf (cJ rs):=fun r hr=>b2 _ (List.mem_map_of_mem hr)
 have hlen:=I.len
 have m2:aD bc (bD n rs) = bD n rs:=by simp [bD]
 have m1:aD aK (bD n rs) = bD n rs:=by simp [bD]
 have hd:bD n rs = .tup [.int n,.lst .fz (cz rs)]:=rfl
 have x1:tZ (bD n rs) (.int 1) = ok (.lst .fz (cz rs)):=by rw [hd];simp
 generalize cf (cJ rs) = b at *
 obtain ⟨a3,a4,el⟩:=rQ Φ C3 C2 b (some (bD n rs)) (some (.tup [.int b,.lst .fz (iT b rs)])) rs [] (fun _=>0) none none (by simp;omega) (fun _ _=>rfl)
 have hit:d8 Φ (.seq (.ix (.v 1) (.int 1))) [some (bD n rs),some (.tup [.int b,.lst .ow (iT b rs)]),some (.bx .ow [] []),none,none] = ok (iT b rs,[some (bD n rs),some (.tup [.int b,.lst .fz (iT b rs)]),some (.bx .ow [] []),none,none]):=by
  rw [zK (f:=.al) (ds:=iT b rs) (by simp)]
  simp [fM]
 have hx:=fN (Φ:=Φ) (t:=.tp [3,4]) (b:=uM) hit el
 have e5:Φ 1050 [] = ok (.bx .ow [] []):=by rw [SE];rfl
 have L1:=lr rs []
 rw [List.length_nil,Nat.zero_add] at L1
 have e6:∀ f,Φ 1055 [.bx f (du rs []) ((du rs []).map fun k=>.int (wJ b rs k))] = ok (.lst .ow (aa (sortI (du rs [])))):=fun f=>by
  rw [SA]
  show (if (du rs []).length < 64 then ok (D.lst .ow ((sortI (du rs [])).map D.int)) else none) = _
  rw [if_pos (by omega)];rfl
 have ml:∀ g,ag g ((du rs []).map fun k=>D.int (wJ b rs k)) = (du rs []).map fun k=>D.int (wJ b rs k):=fun g=>aZ g (fun k=>rfl) _
 have k1:aL Φ vX [some (bD n rs),some (.tup [.int b,.lst .fz (iT b rs)]),some (.bx .ow (du rs []) ((du rs []).map fun k=>.int (wJ b rs k))),a3,a4] = ok (.lst .ow (dw rs)):=by
  unfold vX
  rw [cR (xs:=[.lst .ow (aa (sortI (du rs [])))]) (items:=(sortI (du rs [])).map D.int) (ds:=dw rs) (by simp [ml,e6]) (by rw [dS,fg];rfl) (bN fun j hj=>⟨[some (.int j),some (.bx .fz (du rs []) ((du rs []).map fun k=>.int (wJ b rs k))),some (.tup [.int b,.lst .fz (iT b rs)])],by simp [aT,ml],by simp,?_⟩) (by show (dw rs).length <= dU;unfold dw;rw [List.length_map,j7];exact cv (by omega))]
  ·congr 2
   exact aZ iZ (fun k=>by simp) _
  ·have g1:∀ f,Φ 1052 [.bx f (du rs []) ((du rs []).map fun k=>.int (wJ b rs k)),.int j] = ok (.int (wJ b rs j)):=fun f=>by
    rw [SD]
    show iW (aU (sg (du rs [])) ((du rs []).map fun k=>D.int (wJ b rs k)) [j]) (fun v=>if aq anyF v = false then ok v else none) = _
    rw [gY (fun k=>D.int (wJ b rs k)),if_pos (oO.mp hj)]
    rfl
   have g2:=h2.1 (wJ b rs j) b (by omega) (by rw [Int.natAbs_natCast];exact Nat.lt_of_lt_of_le b1 (Nat.pow_le_pow_right (by decide) (by decide)))
   rw [O3 b0 Sk] at g2
   simp [ml,g1,g2]
 have ZC:ok ((Fo.nx,[some (bD n rs),some (.tup [.int b,.lst .fz (iT b rs)]),some (.bx .ow (du rs []) ((du rs []).map fun k=>D.int (D7 (fun r=>bA b r.1) k rs 0))),a3,a4]):Fo × au) = ok (Fo.nx,[some (bD n rs),some (.tup [.int b,.lst .fz (iT b rs)]),some (.bx .ow (du rs []) ((du rs []).map fun k=>D.int (wJ b rs k))),a3,a4]):=rfl
 have CL:=hx.trans ZC
 have C0:ao bp (dw rs) = false:=bo bp (fun k=>by simp) _
 have Y6:D.bx .ow [] (List.map (fun k=>D.int ((fun _=>0) k)) ([]:List Int)) = D.bx .ow [] []:=rfl
 simp [mk_eq,wo,m1,m2,x1,e1,e2,e5,CL,G0 Φ vX _ rfl,k1,C0]
noncomputable def nA (m:List D -> O D):Prop:=∀ f g qs ps,qs.length <= 1000 -> m [.lst f (bW qs),.lst g (bW ps)] = ok (.bl (decide (qs = ps)))
noncomputable def Il:CE:=.comp 1 (.nm 0) [] .seq [(.v 0)] [(.not (.call 204 [(.v 0)]))] (.v 0)
noncomputable def qE:List CS:=[.ifs (.or [(.not (.lE (.v 0) .list)),(.cmp .gt (.bf .len [Il]) (.int 0))]) [.ret (.bl false)] [],.ret (.cmp .eq (.v 0) (.v 1))]
theorem s_same (Φ:az) (SQ:AW (Φ 204)):nA (mk Φ 2 2 qE):=by
 intro f g qs ps hl
 have hn:qs.filter (fun _=>false) = []:=by simp
 have k1:aL Φ Il [some (.lst f (bW qs)),some (.lst g (bW ps))] = ok (.lst .ow []):=by
  unfold Il
  rw [cR (xs:=[.lst (bc f) (bW qs)]) (items:=qs.map qD) (ds:=(qs.filter fun _=>false).map qD) (by simp) (by rw [dS,zx];rfl) (fi fun q hq=>⟨[some (qD q)],by simp [aT],by simp [SQ q],fun h=>nomatch h⟩) (by rw [hn];simp)]
  rw [hn];rfl
 have ty:∀ f ds,dB .list (.lst f ds) = true:=fun _ _=>rfl
 have c1:∀ f g,dI .eq (.lst f (bW qs)) (.lst g (bW ps)) = ok (.bl (decide (qs = ps))):=fun f g=>by
  rw [IE (zh 38 f qs) (zh 38 g ps)]
  show ok (D.bl (cZ (bW qs) (bW ps))) = _
  rw [Dc]
 have c2:dI .gt (.int ((List.length ([]:List D):Nat):Int)) (.int 0) = ok (.bl false):=rfl
 simp [mk_eq,qE,ty,k1,c1]
end DI
end
section
namespace DI
open PySem (Str)
noncomputable def BM:List CS:=[.mut 1053 4 [(.call 202 [(.cj 1051 [(.v 4),(.bf .len [(.v 6)]),(.tup [(.int 0),(.int 1)])]),(.v 5)]),(.bf .len [(.v 6)])]]
noncomputable def Dk:CE:=.comp 1 (.nm 0) [4] .seq [(.cj 1055 [(.v 4)])] [] (.tup [(.v 0),(.cj 1052 [(.v 1),(.v 0)])])
theorem AR (f:Int -> Rat):∀ ks:List Int,ao anyF (ks.map fun k=>qD (f k)) = false:=fun ks=>bo anyF (fun k=>mM anyF _) ks
theorem D0 (Φ:az) (iI:kO (Φ 202)) (C3:Φ 1051 = jE) (C2:Φ 1053 = jD) (c0 c1 c2 c3:Option D) (r7:au):∀ (rs:List Row) (ks:List Int) (S:Int -> Rat) (i:Nat) (c5 c6:Option D),ks.length + rs.length <= 1000 -> (∀ k,k ∉ ks -> S k = 0) -> (∀ r ∈ rs,Sm 6 r.1) -> (∀ k,Sm (1 + 7 * i) (S k)) -> i + rs.length <= 12 ->
  ∃ AM oB,eh (fun d ρ=>ck (.tp [5,6]) d ρ) (fun ρ=>bq Φ BM ρ) (cz rs) (c0 :: c1 :: c2 :: c3 :: some (.bx .ow ks (ks.map fun k=>qD (S k))) :: c5 :: c6 :: r7) = ok (.nx,c0 :: c1 :: c2 :: c3 :: some (.bx .ow (du rs ks) ((du rs ks).map fun k=>qD (D7 (fun r=>r.1) k rs (S k)))) :: AM :: oB :: r7)
 | [],ks,S,i,c5,c6,_,_,_,_,_=>⟨c5,c6,rfl⟩
 | r :: rs,ks,S,i,c5,c6,hl,h0,hm,hs,hi=>by
  rw [List.length_cons] at hl hi
  have s1:=hm r List.mem_cons_self
  have e2:=iI (S (aX r)) r.1 ((hs _).mono (by omega)) (s1.mono (by decide))
  have z0:D.tup [.int 0,.int 1] = qD 0:=rfl
  have g1:Φ 1051 [.bx .al ks (ks.map fun k=>qD (S k)),.int (r.2.length:Int),qD 0] = ok (qD (S (aX r))):=by
   rw [C3]
   show (if ao anyF (ks.map fun k=>qD (S k)) = false /\ aq anyF (qD 0) = false then ok ((aU (sg ks) (ks.map fun k=>qD (S k)) [aX r]).getD (qD 0)) else none) = _
   rw [if_pos ⟨AR S ks,mM _ _⟩,gY (fun k=>qD (S k))]
   by_cases h:aX r ∈ ks
   ·rw [if_pos h];rfl
   ·rw [if_neg h,h0 _ h];rfl
  have g2:Φ 1053 [.bx .ow ks (ks.map fun k=>qD (S k)),qD (S (aX r) + r.1),.int (aX r)] = ok (.bx .ow (aY ks (aX r)) ((aY ks (aX r)).map fun k=>qD (if k = aX r then S k + r.1 else S k))):=by
   rw [C2]
   show (if aq anyF (qD (S (aX r) + r.1)) = false /\ ks.length < dU then ok (D.bx .ow (aY ks (aX r)) (aI (sg ks) (ks.map fun k=>qD (S k)) [aX r] (qD (S (aX r) + r.1)))) else none) = _
   rw [if_pos ⟨mM _ _,by show _ < 1000000;omega⟩,oH (fun k=>qD (S k))]
   congr 2
   refine List.map_congr_left fun j _=>?_
   by_cases e:j = aX r
   ·rw [if_pos e,if_pos e,e]
   ·rw [if_neg e,if_neg e]
  have L1:(aY ks (aX r)).length <= ks.length + 1:=by unfold aY;split <;> simp
  obtain ⟨AM,oB,ih⟩:=D0 Φ iI C3 C2 c0 c1 c2 c3 r7 rs (aY ks (aX r)) (fun k=>if k = aX r then S k + r.1 else S k) (i + 1) (some (qD r.1)) (some (.tup (aa r.2))) (by omega) (fun k hk=>by
   have:¬ (k ∈ ks \/ k = aX r):=fun z=>hk (oY.mpr z)
   show (if k = aX r then S k + r.1 else S k) = 0
   rw [if_neg fun z=>this (.inr z)]
   exact h0 k fun z=>this (.inl z)) (fun s hs=>hm s (List.mem_cons_of_mem _ hs)) (fun k=>by
   show Sm _ (if k = aX r then S k + r.1 else S k)
   split
   ·exact ((hs k).add s1).mono (by omega)
   ·exact (hs k).mono (by omega)) (by omega)
  have ml:ag bc (ks.map fun k=>qD (S k)) = ks.map fun k=>qD (S k):=aZ bc (fun k=>tU _ _) ks
  have e1:cD Φ [(.call 202 [(.cj 1051 [(.v 4),(.bf .len [(.v 6)]),(.tup [(.int 0),(.int 1)])]),(.v 5)]),(.bf .len [(.v 6)])] (c0 :: c1 :: c2 :: c3 :: some (.bx .ow ks (ks.map fun k=>qD (S k))) :: some (qD r.1) :: some (.tup (aa r.2)) :: r7) = ok [qD (S (aX r) + r.1),.int (aX r)]:=by
   simp [ml,z0,g1,e2]
   rfl
  have hx:=lQ (Φ:=Φ) (p:=1053) (i:=4) e1 (by simp) rfl g2
  refine ⟨AM,oB,dD (ρ1:=c0 :: c1 :: c2 :: c3 :: some (.bx .ow ks (ks.map fun k=>qD (S k))) :: some (qD r.1) :: some (.tup (aa r.2)) :: r7) (by simp [rD]) (ρ2:=c0 :: c1 :: c2 :: c3 :: some (.bx .ow (aY ks (aX r)) ((aY ks (aX r)).map fun k=>qD (if k = aX r then S k + r.1 else S k))) :: some (qD r.1) :: some (.tup (aa r.2)) :: r7) ?_ ?_⟩
  ·rw [BM,df,hx];simp
  ·exact ih
noncomputable def Ir:CE:=.comp 1 (.nm 0) [3] .ji [(.ix (.v 1) (.int 0))] [] (.ix (.ix (.v 1) (.v 0)) (.v 0))
noncomputable def BL:List CS:=[.ifs (.not (.call 214 [(.ix (.v 10) (.v 12)),(.ix (.v 3) (.v 12))])) [.ret (.bl false)] []]
noncomputable def BA:List CS:=[.asg (.nm 9) (.call 20 [(.v 2)]),.asg (.nm 10) (.call 21 [(.v 2)]),.asg (.nm 11) (.call 22 [(.v 2)])]
noncomputable def Bz:List CS:=[.ifs (.not (.call 214 [(.v 9),Ir])) [.ret (.bl false)] [],.ifs (.or [(.not (.lE (.v 10) .list)),(.cmp .ne (.bf .len [(.v 10)]) (.ix (.v 1) (.int 0)))]) [.ret (.bl false)] []]
noncomputable def By:List CS:=[.fr (.nm 12) (.ji (.ix (.v 1) (.int 0))) BL]
noncomputable def Bx:List CS:=[.ifs (.or [(.not (.lE (.v 11) .list)),(.cmp .ne (.v 11) (.v 7)),(.cmp (.tQ true) (.call 16 [(.v 2)]) (.bl true)),(.cmp .ne (.v 2) (.v 1))]) [.ret (.bl false)] []]
noncomputable def Fg:List CS:=[.mut 1016 9 [],.mut 1014 10 [(.int 0)],.app 11 (.int 0)]
noncomputable def Nx:List CS:=BA ++ (Bz ++ (By ++ (Bx ++ Fg)))
theorem oR (Φ:az) (sf:nA (Φ 214)) {n:Nat} {rs:List Row} (hn:n <= 12) (f g:Fl) (c0 c1 c2 c4 c5 c6 c7 c8 c9 c11:Option D):∀ (k j:Nat) (c12:Option D),j + k <= n ->
  ∃ AO,eh (fun d ρ=>ck (.nm 12) d ρ) (fun ρ=>bq Φ BL ρ) ((List.range' j k).map fun (i:Nat)=>D.int (i:Int)) [c0,c1,c2,some (.lst f (aJ n rs f 0 n)),c4,c5,c6,c7,c8,c9,some (.lst g (aJ n rs g 0 n)),c11,c12] =
   ok (.nx,[c0,c1,c2,some (.lst f (aJ n rs f 0 n)),c4,c5,c6,c7,c8,c9,some (.lst g (aJ n rs g 0 n)),c11,AO])
 | 0,j,c12,_=>⟨c12,rfl⟩
 | k + 1,j,c12,h=>by
  have hj:j < n:=by omega
  have a1:=fun f=>Ee (rs:=rs) (f:=f) hj
  have e1:=fun f g=>sf f g ((List.range' 0 n).map fun (h:Nat)=>br rs j h) ((List.range' 0 n).map fun (h:Nat)=>br rs j h) (by simp;omega)
  obtain ⟨AO,ih⟩:=oR Φ sf hn f g c0 c1 c2 c4 c5 c6 c7 c8 c9 c11 k (j + 1) (some (.int j)) (by omega)
  rw [List.range'_succ,List.map_cons]
  refine ⟨AO,dD (ρ1:=[c0,c1,c2,some (.lst f (aJ n rs f 0 n)),c4,c5,c6,c7,c8,c9,some (.lst g (aJ n rs g 0 n)),c11,some (.int j)]) (by simp) (ρ2:=[c0,c1,c2,some (.lst f (aJ n rs f 0 n)),c4,c5,c6,c7,c8,c9,some (.lst g (aJ n rs g 0 n)),c11,some (.int j)]) ?_ ih⟩
  simp [BL,fP,a1,e1]
theorem zg (rs:List Row) (f:Fl):cC 40 (.lst f (dw rs)) = true:=by
 rw [vk]
 unfold dw
 refine jA (fun k=>?_) _
 rw [jz,List.all_cons,List.all_cons,zi 37]
 rfl
theorem o_:∀ {ds:List D},(∀ d ∈ ds,i3 d d = true) -> cZ ds ds = true
 | [],_=>rfl
 | d :: ds,h=>by
  show (i3 d d && cZ ds ds) = true
  rw [h d List.mem_cons_self,o_ fun x hx=>h x (List.mem_cons_of_mem _ hx)];rfl
theorem Lb (rs:List Row) (f g:Fl):dI .ne (.lst f (dw rs)) (.lst g (dw rs)) = ok (.bl false):=by
 rw [DD (zg rs f) (zg rs g)]
 have:cZ (dw rs) (dw rs) = true:=o_ fun d hd=>by
  unfold dw at hd
  obtain ⟨k,_,rfl⟩:=List.mem_map.mp hd
  show ((k == k) && (i3 (qD (lV rs k)) (qD (lV rs k)) && true)) = true
  rw [Ar];simp
 show ok (D.bl (!cZ (dw rs) (dw rs))) = _
 rw [this];rfl
theorem yj (Φ:az) (Jw:sU (Φ 16)) (Oa:jT (Φ 20)) (N_:iG (Φ 21)) (N9:wz (Φ 22)) (sf:nA (Φ 214)) (Jq:Φ 1016 = ux) (N4:Φ 1014 = uy) {n:Nat} {rs:List Row} (I:Dr 6 n rs) (g1:Fl) (c0 c4 c5 c6 c8 c9 c10 c11 c12:Option D) :
  ∃ c9' Uw Uv AO,bq Φ Nx [c0,some (cE g1 n rs),some (cE .ow n rs),some (.lst .ow (aJ n rs .ow 0 n)),c4,c5,c6,some (.lst .ow (dw rs)),c8,c9,c10,c11,c12] = ok (.nx,[c0,some (cE g1 n rs),some (cE .ow n rs),some (.lst .ow (aJ n rs .ow 0 n)),c4,c5,c6,some (.lst .ow (dw rs)),c8,c9',Uw,Uv,AO]):=by
 have hn:=I.n2
 have n1:=I.n1
 have hfew:=I.ui
 have ZO:=Oa 6 n rs I
 have ZN:=N_ 6 n rs I
 have ZM:=N9 6 n rs I (by omega)
 have ZQ:=Jw 6 n rs I
 have f1:iZ .ow = .ow:=rfl
 have f2:=r_ bp n rs .ow 0 n rfl
 have mz:∀ g,ag g (dw rs) = dw rs:=fun g=>aZ g (fun k=>by simp) _
 have hz:∀ p,ao p (dw rs) = false:=fun p=>bo p (fun k=>by simp) _
 have ga:bq Φ BA [c0,some (cE g1 n rs),some (cE .ow n rs),some (.lst .ow (aJ n rs .ow 0 n)),c4,c5,c6,some (.lst .ow (dw rs)),c8,c9,c10,c11,c12] = ok (.nx,[c0,some (cE g1 n rs),some (cE .ow n rs),some (.lst .ow (aJ n rs .ow 0 n)),c4,c5,c6,some (.lst .ow (dw rs)),c8,some (.lst .ow (bW (nX n rs))),some (.lst .ow (aJ n rs .ow 0 n)),some (.lst .ow (dw rs)),c12]):=by
  simp [BA,Au,ZO,ZN,ZM,fP,f1,f2,mz,hz]
 have k1:aL Φ Ir [c0,some (cE g1 n rs),some (cE .ow n rs),some (.lst .ow (aJ n rs .ow 0 n)),c4,c5,c6,some (.lst .ow (dw rs)),c8,some (.lst .ow (bW (nX n rs))),some (.lst .ow (aJ n rs .ow 0 n)),some (.lst .ow (dw rs)),c12] = ok (.lst .ow (bW (nX n rs))):=by
  unfold Ir
  rw [cR (xs:=[.int n]) (ds:=(List.range n).map fun (k:Nat)=>qD (br rs k k)) (by simp) (lD Φ (by omega) (by omega)) (bN fun k hk=>⟨[some (.int k),some (.lst .fz (aJ n rs .fz 0 n))],by simp [aT,fP],by simp,?_⟩) (by simp;exact cv (by omega))]
  ·simp [bW,nX,aC]
  ·rw [Int.toNat_natCast,List.mem_range] at hk
   have a1:=Ee (rs:=rs) (f:=.fz) hk
   have a2:=FY (rs:=rs) (g:=k) hk
   simp [fP,a1,a2]
 have s1:=fun f g=>sf f g (nX n rs) (nX n rs) (by simp;omega)
 have ty:∀ f ds,dB .list (.lst f ds) = true:=fun _ _=>rfl
 have lp:∀ f,(aJ n rs f 0 n).length = n:=fun f=>by simp [aJ]
 have cl:dI .ne (.int (n:Int)) (.int (n:Int)) = ok (.bl false):=by
  rw [DD rfl rfl];show ok (D.bl (!((n:Int) == (n:Int)))) = _;simp
 have gb:bq Φ Bz [c0,some (cE g1 n rs),some (cE .ow n rs),some (.lst .ow (aJ n rs .ow 0 n)),c4,c5,c6,some (.lst .ow (dw rs)),c8,some (.lst .ow (bW (nX n rs))),some (.lst .ow (aJ n rs .ow 0 n)),some (.lst .ow (dw rs)),c12] = ok (.nx,[c0,some (cE g1 n rs),some (cE .ow n rs),some (.lst .ow (aJ n rs .ow 0 n)),c4,c5,c6,some (.lst .ow (dw rs)),c8,some (.lst .ow (bW (nX n rs))),some (.lst .ow (aJ n rs .ow 0 n)),some (.lst .ow (dw rs)),c12]):=by
  simp [Bz,k1,s1,ty,fP,lp,cl]
 obtain ⟨a12,el⟩:=oR Φ sf (rs:=rs) hn .ow .ow c0 (some (cE g1 n rs)) (some (cE .ow n rs)) c4 c5 c6 (some (.lst .ow (dw rs))) c8 (some (.lst .ow (bW (nX n rs)))) (some (.lst .ow (dw rs))) n 0 c12 (by omega)
 have hit:=xc (Φ:=Φ) (a:=.ix (.v 1) (.int 0)) (ρ:=[c0,some (cE g1 n rs),some (cE .ow n rs),some (.lst .ow (aJ n rs .ow 0 n)),c4,c5,c6,some (.lst .ow (dw rs)),c8,some (.lst .ow (bW (nX n rs))),some (.lst .ow (aJ n rs .ow 0 n)),some (.lst .ow (dw rs)),c12]) (n:=n) (by simp) (by omega) (by omega)
 rw [Int.toNat_natCast,List.range_eq_range'] at hit
 have hf:=fN (Φ:=Φ) (t:=.nm 12) (b:=BL) hit el
 have gc:bq Φ By [c0,some (cE g1 n rs),some (cE .ow n rs),some (.lst .ow (aJ n rs .ow 0 n)),c4,c5,c6,some (.lst .ow (dw rs)),c8,some (.lst .ow (bW (nX n rs))),some (.lst .ow (aJ n rs .ow 0 n)),some (.lst .ow (dw rs)),c12] = ok (.nx,[c0,some (cE g1 n rs),some (cE .ow n rs),some (.lst .ow (aJ n rs .ow 0 n)),c4,c5,c6,some (.lst .ow (dw rs)),c8,some (.lst .ow (bW (nX n rs))),some (.lst .ow (aJ n rs .ow 0 n)),some (.lst .ow (dw rs)),a12]):=by
  rw [By,df,hf];rfl
 have c1:=fun f g=>Lb rs f g
 have c2:=fun f g=>Lc f g n rs
 have c3:dI (.tQ true) (.bl true) (.bl true) = ok (.bl false):=rfl
 have gd:bq Φ Bx [c0,some (cE g1 n rs),some (cE .ow n rs),some (.lst .ow (aJ n rs .ow 0 n)),c4,c5,c6,some (.lst .ow (dw rs)),c8,some (.lst .ow (bW (nX n rs))),some (.lst .ow (aJ n rs .ow 0 n)),some (.lst .ow (dw rs)),a12] = ok (.nx,[c0,some (cE g1 n rs),some (cE .ow n rs),some (.lst .ow (aJ n rs .ow 0 n)),c4,c5,c6,some (.lst .ow (dw rs)),c8,some (.lst .ow (bW (nX n rs))),some (.lst .ow (aJ n rs .ow 0 n)),some (.lst .ow (dw rs)),a12]):=by
  simp [Bx,ty,mz,c1,c2,c3,Au,ZQ]
 have m1:=lQ (Φ:=Φ) (p:=1016) (i:=9) (es:=[]) (ρ:=[c0,some (cE g1 n rs),some (cE .ow n rs),some (.lst .ow (aJ n rs .ow 0 n)),c4,c5,c6,some (.lst .ow (dw rs)),c8,some (.lst .ow (bW (nX n rs))),some (.lst .ow (aJ n rs .ow 0 n)),some (.lst .ow (dw rs)),a12]) (xs:=[]) (d':=.lst .ow []) rfl rfl rfl (by rw [Jq];rfl)
 obtain ⟨n',rfl⟩:∃ n',n = n' + 1:=⟨n - 1,by omega⟩
 have m2:=lQ (Φ:=Φ) (p:=1014) (i:=10) (es:=[(.int 0)]) (ρ:=[c0,some (cE g1 (n' + 1) rs),some (cE .ow (n' + 1) rs),some (.lst .ow (aJ (n' + 1) rs .ow 0 (n' + 1))),c4,c5,c6,some (.lst .ow (dw rs)),c8,some (.lst .ow []),some (.lst .ow (aJ (n' + 1) rs .ow 0 (n' + 1))),some (.lst .ow (dw rs)),a12]) (xs:=[.int 0]) (d':=.lst .ow (tq 0 (.lst .ow []) 0 (aJ (n' + 1) rs .ow 0 (n' + 1)))) rfl rfl rfl (by rw [N4];rfl)
 have hc:(dw rs).length < dU:=by
  show _ < 1000000
  unfold dw
  rw [List.length_map,j7]
  have:=lr rs []
  simp at this
  omega
 have ge:bq Φ Fg [c0,some (cE g1 (n' + 1) rs),some (cE .ow (n' + 1) rs),some (.lst .ow (aJ (n' + 1) rs .ow 0 (n' + 1))),c4,c5,c6,some (.lst .ow (dw rs)),c8,some (.lst .ow (bW (nX (n' + 1) rs))),some (.lst .ow (aJ (n' + 1) rs .ow 0 (n' + 1))),some (.lst .ow (dw rs)),a12] = ok (.nx,[c0,some (cE g1 (n' + 1) rs),some (cE .ow (n' + 1) rs),some (.lst .ow (aJ (n' + 1) rs .ow 0 (n' + 1))),c4,c5,c6,some (.lst .ow (dw rs)),c8,some (.lst .ow []),some (.lst .ow (tq 0 (.lst .ow []) 0 (aJ (n' + 1) rs .ow 0 (n' + 1)))),some (.lst .ow (dw rs ++ [.int 0])),a12]):=by
  rw [Fg,df,m1,jr]
  simp only [List.set]
  rw [df,m2,jr]
  simp [hc]
 exact ⟨_,_,_,_,(fb Φ BA _ _ _ ga).trans ((fb Φ Bz _ _ _ gb).trans ((fb Φ By _ _ _ gc).trans ((fb Φ Bx _ _ _ gd).trans ge)))⟩
noncomputable def Gm:List CS:=[.asg (.nm 1) (.call 212 [(.v 0),(.int 0),(.int 5)]),.asg (.nm 2) (.call 215 [(.v 1)]),.asg (.nm 3) (.call 213 [(.v 1)]),.asg (.nm 4) (.cj 1050 [])]
noncomputable def Gk:List CS:=[.fr (.tp [5,6]) (.seq (.ix (.v 1) (.int 1))) BM]
noncomputable def Gj:List CS:=[.asg (.nm 7) Dk]
noncomputable def K0:List CS:=[.fr (.nm 8) (.ji (.int 2)) Nx,.ret (.bl true)]
noncomputable def jQ:List CS:=Gm ++ (Gk ++ (Gj ++ K0))
theorem Lr (Φ:az) (Jw:sU (Φ 16)) (Oa:jT (Φ 20)) (N_:iG (Φ 21)) (N9:wz (Φ 22)) (iI:kO (Φ 202)) (SO:kB (Φ 212)) (SN:nB (Φ 213)) (sf:nA (Φ 214)) (SM:kA (Φ 215)) (N4:Φ 1014 = uy) (Jq:Φ 1016 = ux) (SE:Φ 1050 = oZ) (C3:Φ 1051 = jE) (SD:Φ 1052 = t8) (C2:Φ 1053 = jD) (SA:Φ 1055 = iY) (ns:List Int) :
  mk Φ 1 13 jQ [.lst .sc (aa ns)] = ok (.bl true):=by
 obtain ⟨n,rs,hn,I,Fi,e1⟩:=SO ns 0 5 (by decide) (by decide) (by decide)
 have n2:=I.n2
 have hfew:=I.ui
 have JB:Φ 212 [.lst .sc (aa ns),.int 0,.int 5] = ok (cE .ow n rs):=e1
 have e2:Φ 215 [bD n rs] = ok (cE .ow n rs):=SM n rs
 have e3:=SN n rs I
 have e4:Φ 1050 [] = ok (.bx .ow [] []):=by rw [SE];rfl
 have f1:iZ .ow = .ow:=rfl
 have f2:=r_ bp n rs .ow 0 n rfl
 rw [mk_eq (show [D.lst .sc (aa ns)].length = 1 from rfl)]
 show oo (bq Φ jQ [some (.lst .sc (aa ns)),none,none,none,none,none,none,none,none,none,none,none,none]) = _
 have ga:bq Φ Gm [some (.lst .sc (aa ns)),none,none,none,none,none,none,none,none,none,none,none,none] = ok (.nx,[some (.lst .sc (aa ns)),some (cE .ow n rs),some (cE .ow n rs),some (.lst .ow (aJ n rs .ow 0 n)),some (.bx .ow [] []),none,none,none,none,none,none,none,none]):=by
  simp [Gm,JB,Au,e2,e3,e4,fP,f1,f2]
 obtain ⟨a5,a6,el⟩:=D0 Φ iI C3 C2 (some (.lst .sc (aa ns))) (some (cE .fz n rs)) (some (cE .ow n rs)) (some (.lst .ow (aJ n rs .ow 0 n))) [none,none,none,none,none,none] rs [] (fun _=>0) 0 none none (by simp;omega) (fun _ _=>rfl) I.sm (fun _=>by constructor <;> decide) (by omega)
 have x1:aL Φ (.ix (.v 1) (.int 1)) [some (.lst .sc (aa ns)),some (cE .ow n rs),some (cE .ow n rs),some (.lst .ow (aJ n rs .ow 0 n)),some (.bx .ow [] []),none,none,none,none,none,none,none,none] = ok (.lst .al (cz rs)):=by simp [cE]
 have hit:d8 Φ (.seq (.ix (.v 1) (.int 1))) [some (.lst .sc (aa ns)),some (cE .ow n rs),some (cE .ow n rs),some (.lst .ow (aJ n rs .ow 0 n)),some (.bx .ow [] []),none,none,none,none,none,none,none,none] = ok (cz rs,[some (.lst .sc (aa ns)),some (cE .fz n rs),some (cE .ow n rs),some (.lst .ow (aJ n rs .ow 0 n)),some (.bx .ow [] []),none,none,none,none,none,none,none,none]):=by
  rw [zK x1]
  simp [fM,aK]
 have hf:=fN (Φ:=Φ) (t:=.tp [5,6]) (b:=BM) hit el
 have gb:bq Φ Gk [some (.lst .sc (aa ns)),some (cE .ow n rs),some (cE .ow n rs),some (.lst .ow (aJ n rs .ow 0 n)),some (.bx .ow [] []),none,none,none,none,none,none,none,none] = ok (.nx,[some (.lst .sc (aa ns)),some (cE .fz n rs),some (cE .ow n rs),some (.lst .ow (aJ n rs .ow 0 n)),some (.bx .ow (du rs []) ((du rs []).map fun k=>qD (lV rs k))),a5,a6,none,none,none,none,none,none]):=by
  rw [Gk,df,hf];rfl
 have L1:=lr rs []
 rw [List.length_nil,Nat.zero_add] at L1
 have ml:∀ g,ag g ((du rs []).map fun k=>qD (lV rs k)) = (du rs []).map fun k=>qD (lV rs k):=fun g=>aZ g (fun k=>tU _ _) _
 have e6:∀ f,Φ 1055 [.bx f (du rs []) ((du rs []).map fun k=>qD (lV rs k))] = ok (.lst .ow (aa (sortI (du rs [])))):=fun f=>by
  rw [SA]
  show (if (du rs []).length < 64 then ok (D.lst .ow ((sortI (du rs [])).map D.int)) else none) = _
  rw [if_pos (by omega)];rfl
 have k1:aL Φ Dk [some (.lst .sc (aa ns)),some (cE .fz n rs),some (cE .ow n rs),some (.lst .ow (aJ n rs .ow 0 n)),some (.bx .ow (du rs []) ((du rs []).map fun k=>qD (lV rs k))),a5,a6,none,none,none,none,none,none] = ok (.lst .ow (dw rs)):=by
  unfold Dk
  rw [cR (xs:=[.lst .ow (aa (sortI (du rs [])))]) (items:=(sortI (du rs [])).map D.int) (ds:=dw rs) (by simp [ml,e6]) (by rw [dS,fg];rfl) (bN fun j hj=>⟨[some (.int j),some (.bx .fz (du rs []) ((du rs []).map fun k=>qD (lV rs k)))],by simp [aT,ml],by simp,?_⟩) (by show (dw rs).length <= dU;unfold dw;rw [List.length_map,j7];exact cv (by omega))]
  ·congr 2
   exact aZ iZ (fun k=>by simp) _
  ·have g1:∀ f,Φ 1052 [.bx f (du rs []) ((du rs []).map fun k=>qD (lV rs k)),.int j] = ok (qD (lV rs j)):=fun f=>by
    rw [SD]
    show iW (aU (sg (du rs [])) ((du rs []).map fun k=>qD (lV rs k)) [j]) (fun v=>if aq anyF v = false then ok v else none) = _
    rw [gY (fun k=>qD (lV rs k)),if_pos (oO.mp hj)]
    show (if aq anyF (qD (lV rs j)) = false then ok (qD (lV rs j)) else none) = _
    rw [mM];rfl
   simp [ml,g1]
 have C0:ao bp (dw rs) = false:=bo bp (fun k=>by simp) _
 have gc:bq Φ Gj [some (.lst .sc (aa ns)),some (cE .fz n rs),some (cE .ow n rs),some (.lst .ow (aJ n rs .ow 0 n)),some (.bx .ow (du rs []) ((du rs []).map fun k=>qD (lV rs k))),a5,a6,none,none,none,none,none,none] = ok (.nx,[some (.lst .sc (aa ns)),some (cE .fz n rs),some (cE .ow n rs),some (.lst .ow (aJ n rs .ow 0 n)),some (.bx .ow (du rs []) ((du rs []).map fun k=>qD (lV rs k))),a5,a6,some (.lst .ow (dw rs)),none,none,none,none,none]):=by
  simp [Gj,G0 Φ Dk _ rfl,k1,C0]
 obtain ⟨b9,UB,UA,Uz,t1⟩:=yj Φ Jw Oa N_ N9 sf Jq N4 I .fz (some (.lst .sc (aa ns))) (some (.bx .ow (du rs []) ((du rs []).map fun k=>qD (lV rs k)))) a5 a6 (some (.int 0)) none none none none
 obtain ⟨d9,d10,d11,d12,t2⟩:=yj Φ Jw Oa N_ N9 sf Jq N4 I .fz (some (.lst .sc (aa ns))) (some (.bx .ow (du rs []) ((du rs []).map fun k=>qD (lV rs k)))) a5 a6 (some (.int 1)) b9 UB UA Uz
 have VW:=xc (Φ:=Φ) (a:=.int 2) (ρ:=[some (.lst .sc (aa ns)),some (cE .fz n rs),some (cE .ow n rs),some (.lst .ow (aJ n rs .ow 0 n)),some (.bx .ow (du rs []) ((du rs []).map fun k=>qD (lV rs k))),a5,a6,some (.lst .ow (dw rs)),none,none,none,none,none]) (n:=2) rfl (by decide) (by decide)
 have He:((List.range (2:Int).toNat).map fun (k:Nat)=>D.int (k:Int)) = [.int 0,.int 1]:=rfl
 rw [He] at VW
 have key:=dD (bind:=fun d ρ=>ck (.nm 8) d ρ) (body:=fun ρ=>bq Φ Nx ρ) (x:=.int 0) (xs:=[.int 1]) (ρ:=[some (.lst .sc (aa ns)),some (cE .fz n rs),some (cE .ow n rs),some (.lst .ow (aJ n rs .ow 0 n)),some (.bx .ow (du rs []) ((du rs []).map fun k=>qD (lV rs k))),a5,a6,some (.lst .ow (dw rs)),none,none,none,none,none]) (uT (by simp)) t1 (dD (uT (by simp)) t2 (jJ ..))
 have Za:=fN (Φ:=Φ) (t:=.nm 8) (b:=Nx) VW key
 rw [jQ,fb Φ _ _ _ _ ga,fb Φ _ _ _ _ gb,fb Φ _ _ _ _ gc,K0,df,Za]
 simp
end DI
end
noncomputable def PySem.W.Fast.tw7093682082508064196:Nat:=0
noncomputable def PySem.W.Fast.tw2414699264193450721:Nat:=0
noncomputable def PySem.W.Fast.tw15287045187701787548:Nat:=0
noncomputable def PySem.W.Fast.tw13206745710980099560:Nat:=0
noncomputable def PySem.W.Fast.tw6229071864419777634:Nat:=0
noncomputable def PySem.W.Fast.tw14388338227494179453:Nat:=0
noncomputable def PySem.W.Fast.tw17836990456094356707:Nat:=0
noncomputable def PySem.W.Fast.tw3940920206407889376:Nat:=0
noncomputable def PySem.W.Fast.tw2905705646489734750:Nat:=0
noncomputable def PySem.W.Fast.tw15577477865462307856:Nat:=0
noncomputable def PySem.W.Fast.tw14095747290779155404:Nat:=0
noncomputable def PySem.W.Fast.tw18384021666567612801:Nat:=0
noncomputable def PySem.W.Fast.tw13249596062068721978:Nat:=0
noncomputable def PySem.W.Fast.tw6405984626241167908:Nat:=0
noncomputable def PySem.W.Fast.tw2028606726786060236:Nat:=0
noncomputable def PySem.W.Fast.tw11744196832797106615:Nat:=0
noncomputable def PySem.W.Fast.tw13706920698210070679:Nat:=0
noncomputable def PySem.W.Fast.tw14447559698960075938:Nat:=0
noncomputable def PySem.W.Fast.tw436879616914718852:Nat:=0
noncomputable def PySem.W.Fast.tw9215173421935633226:Nat:=0
noncomputable def PySem.W.Fast.tw6103876781819037006:Nat:=0
noncomputable def PySem.W.Fast.tw9876470444741492954:Nat:=0
noncomputable def PySem.W.Fast.tw8423089200814958805:Nat:=0
noncomputable def PySem.W.Fast.tw13656472479213231080:Nat:=0
noncomputable def PySem.W.Fast.tw9599091943221063074:Nat:=0
noncomputable def PySem.W.Fast.tw8615267700663979576:Nat:=0
noncomputable def PySem.W.Fast.tw12611572442122664540:Nat:=0
noncomputable def PySem.W.Fast.tw12148092759143907588:Nat:=0
noncomputable def PySem.W.Fast.tw7960090350493981712:Nat:=0
noncomputable def PySem.W.Fast.tw15258237450728799062:Nat:=0
noncomputable def PySem.W.Fast.tw522471564175221778:Nat:=0
noncomputable def PySem.W.Fast.tw4006646706415262259:Nat:=0
noncomputable def PySem.W.Fast.tw2956192449361178463:Nat:=0
noncomputable def PySem.W.Fast.tw3130174000370740038:Nat:=0
noncomputable def PySem.W.Fast.tw12269742451306442828:Nat:=0
noncomputable def PySem.W.Fast.tw11688891184975350970:Nat:=0
noncomputable def PySem.W.Fast.tw7805778036794005592:Nat:=0
noncomputable def PySem.W.Fast.tw16881168141632447980:Nat:=0
namespace Asm
open PySem PySem.Spec PyProof.Rows L2 DI
noncomputable def top (i:Nat):Stmt:=PySem.Challenge.pw_sharesample_k05_shares_of_drawings.main.body.getD i (.Pass ⟨0,0,0,0⟩)
noncomputable def px:Px:=⟨fun n sc bl e=>if n = 1020 then qu true sc bl e else if n = 1022 then wg sc bl e else if n = 1030 then iz sc bl e else if n = 1031 then iA sc bl e else if n = 1032 then kr sc bl e else if n = 1035 then ko "sorted" sc bl e else if n = 1040 then we sc bl e else if n = 1050 then iz sc bl e else if n = 1051 then iA sc bl e else if n = 1052 then kr sc bl e else if n = 1055 then ko "sorted" sc bl e else none,fun n sc bl e=>if n = 1000 then hJ sc bl e else if n = 1100 then AJ sc bl e else none,fun n sc bl e=>if n = 1014 then qx sc bl e else if n = 1016 then qw sc bl e else if n = 1033 then iy sc bl e else if n = 1053 then iy sc bl e else none⟩
theorem jk {Φ:az} (vP:Φ 1000 = wB) (EF:Φ 1014 = uy) (EE:Φ 1016 = ux) (vO:Φ 1020 = (cutD true)) (jG:Φ 1022 = EG) (vN:Φ 1030 = sy) (vM:Φ 1031 = m7) (vL:Φ 1032 = uq) (vK:Φ 1033 = m6) (vJ:Φ 1035 = i5) (vI:Φ 1040 = GO) (ED:Φ 1050 = oZ) (EC:Φ 1051 = jE) (EB:Φ 1052 = t8) (EA:Φ 1053 = jD) (Ez:Φ 1055 = iY) (vH:Φ 1100 = i6):DN px Φ:=⟨(fun X sc bl k L p e args he F cs hs=>by
  dsimp only [px] at he
  split at he
  ·rename_i hp;subst hp
   exact Iy vO L he hs
  ·split at he
   ·rename_i hp;subst hp
    exact Mu jG L he hs
   ·split at he
    ·rename_i hp;subst hp
     exact Dp vN L he hs
    ·split at he
     ·rename_i hp;subst hp
      exact Dt vM L he hs
     ·split at he
      ·rename_i hp;subst hp
       exact Iv vL L he hs
      ·split at he
       ·rename_i hp;subst hp
        exact Av vJ L he hs
       ·split at he
        ·rename_i hp;subst hp
         exact Lo vI L he hs
        ·split at he
         ·rename_i hp;subst hp
          exact CF ED L he hs
         ·split at he
          ·rename_i hp;subst hp
           exact CH EC L he hs
          ·split at he
           ·rename_i hp;subst hp
            exact Hc EB L he hs
           ·split at he
            ·rename_i hp;subst hp
             exact zM Ez L he hs
            ·cases he),(fun X sc bl k L p e args he F cs tg ht hs pins s σ H R τ ρ xs d items I Si bP ed ei Rr hR=>by
  dsimp only [px] at he
  split at he
  ·rename_i hp;subst hp
   exact EX vP L he ht hs I Si bP ed ei Rr hR
  ·split at he
   ·rename_i hp;subst hp
    exact Aw vH L he ht hs I Si bP ed ei Rr hR
   ·cases he)⟩
theorem jZ {Φ:az} (vP:Φ 1000 = wB) (EF:Φ 1014 = uy) (EE:Φ 1016 = ux) (vO:Φ 1020 = (cutD true)) (jG:Φ 1022 = EG) (vN:Φ 1030 = sy) (vM:Φ 1031 = m7) (vL:Φ 1032 = uq) (vK:Φ 1033 = m6) (vJ:Φ 1035 = i5) (vI:Φ 1040 = GO) (ED:Φ 1050 = oZ) (EC:Φ 1051 = jE) (EB:Φ 1052 = t8) (EA:Φ 1053 = jD) (Ez:Φ 1055 = iY) (vH:Φ 1100 = i6):Oy px Φ:=⟨(fun X sc bl k L hN sY p st x pos args he i hi hl pe F cs hs=>by
  dsimp only [px] at he
  split at he
  ·rename_i hp;subst hp
   exact IB EF L hN sY he hi hl pe hs
  ·split at he
   ·rename_i hp;subst hp
    exact Dz EE L hN sY he hi hl pe hs
   ·split at he
    ·rename_i hp;subst hp
     exact Dm vK L hN sY he hi hl pe hs
    ·split at he
     ·rename_i hp;subst hp
      exact CC EA L hN sY he hi hl pe hs
     ·cases he)⟩
noncomputable def PT:az
 | 1000=>wB
 | 1014=>uy
 | 1016=>ux
 | 1020=>(cutD true)
 | 1022=>EG
 | 1030=>sy
 | 1031=>m7
 | 1032=>uq
 | 1033=>m6
 | 1035=>i5
 | 1040=>GO
 | 1050=>oZ
 | 1051=>jE
 | 1052=>t8
 | 1053=>jD
 | 1055=>iY
 | 1100=>i6
 | _=>fun _=>none
noncomputable def jd:az
 | n=>PT n
noncomputable def gn:List D -> O D:=mk jd 2 4 (jP)
noncomputable def kD:az
 | 201=>gn
 | n=>PT n
noncomputable def iH:List D -> O D:=mk kD 2 2 (wm 201)
noncomputable def gu:az
 | n=>PT n
noncomputable def gp:List D -> O D:=mk gu 1 1 (iE)
noncomputable def je:az
 | n=>PT n
noncomputable def i_:List D -> O D:=mk je 2 4 (ej)
noncomputable def fH:az
 | 200=>i_
 | 201=>gn
 | n=>PT n
noncomputable def fD:List D -> O D:=mk fH 3 10 (iF)
noncomputable def il:az
 | 202=>iH
 | n=>PT n
noncomputable def ib:List D -> O D:=mk il 1 8 (jO)
noncomputable def nJ:az
 | n=>PT n
noncomputable def nF:List D -> O D:=mk nJ 1 1 (wq)
noncomputable def jc:az
 | 204=>nF
 | n=>PT n
noncomputable def i9:List D -> O D:=mk jc 2 2 (qE)
noncomputable def jf:az
 | n=>PT n
noncomputable def eZ:List D -> O D:=mk jf 1 1 (gj)
noncomputable def gw:az
 | 0=>eZ
 | n=>PT n
noncomputable def eJ:List D -> O D:=mk gw 2 2 (cU)
noncomputable def dN:az
 | n=>PT n
noncomputable def b_:List D -> O D:=mk dN 2 3 (cT)
noncomputable def fJ:az
 | 0=>eZ
 | 1=>b_
 | n=>PT n
noncomputable def fE:List D -> O D:=mk fJ 1 1 (bz)
noncomputable def nK:az
 | 3=>fE
 | 43=>eJ
 | n=>PT n
noncomputable def nG:List D -> O D:=mk nK 2 2 (jR)
noncomputable def ie:az
 | n=>PT n
noncomputable def h_:List D -> O D:=mk ie 1 3 (fm)
noncomputable def eA:az
 | 1=>b_
 | n=>PT n
noncomputable def ez:List D -> O D:=mk eA 1 3 (cx)
noncomputable def ic:az
 | n=>PT n
noncomputable def hZ:List D -> O D:=mk ic 2 2 (fj)
noncomputable def e9:az
 | 9=>ez
 | 10=>hZ
 | n=>PT n
noncomputable def bZ:List D -> O D:=mk e9 1 4 (iC)
noncomputable def fF:az
 | 14=>bZ
 | n=>PT n
noncomputable def fB:List D -> O D:=mk fF 1 2 (dW)
noncomputable def jg:az
 | 0=>eZ
 | 12=>nG
 | 15=>fB
 | 44=>h_
 | n=>PT n
noncomputable def ja:List D -> O D:=mk jg 1 4 (gk)
noncomputable def nL:az
 | 43=>eJ
 | n=>PT n
noncomputable def nH:List D -> O D:=mk nL 2 2 (fU)
noncomputable def gv:az
 | 11=>nH
 | 45=>ja
 | n=>PT n
noncomputable def eI:List D -> O D:=mk gv 1 1 (eG)
noncomputable def eB:az
 | 16=>eI
 | n=>PT n
noncomputable def cy:List D -> O D:=mk eB 1 1 (de)
noncomputable def fK:az
 | 1=>b_
 | n=>PT n
noncomputable def dZ:List D -> O D:=mk fK 2 3 (cA)
noncomputable def fI:az
 | 2=>dZ
 | n=>PT n
noncomputable def dY:List D -> O D:=mk fI 3 4 (lL)
noncomputable def gq:az
 | 14=>bZ
 | 17=>cy
 | 19=>dY
 | n=>PT n
noncomputable def gm:List D -> O D:=mk gq 1 2 (jN)
noncomputable def ig:az
 | 2=>dZ
 | 14=>bZ
 | 17=>cy
 | n=>PT n
noncomputable def ia:List D -> O D:=mk ig 1 5 (wo)
noncomputable def fG:az
 | 14=>bZ
 | 17=>cy
 | 19=>dY
 | n=>PT n
noncomputable def fC:List D -> O D:=mk fG 1 4 (iD)
noncomputable def AZ:az
 | 16=>eI
 | 20=>gm
 | 21=>fC
 | 22=>ia
 | 202=>iH
 | 212=>fD
 | 213=>ib
 | 214=>i9
 | 215=>gp
 | n=>PT n
noncomputable def Nm:List D -> O D:=mk AZ 1 13 (jQ)
theorem Kd:jW gn:=BW jd
theorem Kc:kO iH:=Kq kD (f:=201) Kd
theorem OW:kA gp:=wW gu
theorem O1:qK i_:=FK je
theorem OZ:kB fD:=wX fH ⟨rfl,rfl,rfl,rfl,rfl,rfl⟩ O1 Kd
theorem OY:nB ib:=yH il Kc
theorem O0:AW nF:=Ks nJ
theorem OX:nA i9:=s_same jc O0
theorem t0:dq eZ:=cq jf
theorem Vj:eH eJ:=bw gw t0
theorem t1:aN b_:=aM dN
theorem t3:fA fE:=bh fJ t0 t1
theorem Xu:jV nG:=dy nK t3 Vj
theorem Xp:hX h_:=bK ie rfl rfl rfl
theorem t9:eu ez:=aQ eA t1
theorem Xw:hV hZ:=bJ ic
theorem Nw:eM bZ:=wU e9 t9 Xw rfl
theorem Xt:fw fB:=bg fF Nw
theorem Xo:sU ja:=cu jg t0 Xu Xt Xp
theorem Xv:nC nH:=dz nL Vj
theorem Vl:sU eI:=bu gv Xv Xo
theorem O2:eY cy:=aR eB Vl
theorem t2:dX dZ:=bj fK t1
theorem Vk:jU dY:=BX fI t2
theorem Xs:jT gm:=yG gq Nw O2 Vk
theorem Xq:wz ia:=Kr ig t2 Nw O2 rfl rfl rfl rfl rfl
theorem Xr:iG fC:=wV fG Nw O2 Vk
theorem xa:∀ ns:List Int,Nm [.lst .sc (aa ns)] = ok (.bl true):=Lr AZ Vl Xs Xr Xq Kc OZ OY OX OW rfl rfl rfl rfl rfl rfl rfl
noncomputable abbrev dh:Stmt:=top 28
theorem rn:aG ["_law_top","_law_bottom","_law_one","_law_other"] ["_law_top","_law_bottom"] (ab dh):=⟨rfl,rfl,rfl,by decide +kernel,rfl,by decide +kernel,by decide +kernel⟩
noncomputable def si:Nat -> Option Str:=fun n=>List.lookup n []
theorem sH:ba ⟨ab dh,["_law_top","_law_bottom","_law_one","_law_other"],si,["abs"],[],px⟩ (jP) (ah dh) = true:=by decide +kernel
noncomputable abbrev dE:Stmt:=top 29
theorem tJ:aG ["_law_one","_law_other"] ["_law_one","_law_other"] (ab dE):=⟨rfl,rfl,rfl,by decide +kernel,rfl,by decide +kernel,by decide +kernel⟩
noncomputable def ug:Nat -> Option Str:=fun n=>List.lookup n [(201,"_law_frac")]
theorem uA:ba ⟨ab dE,["_law_one","_law_other"],ug,[],[],px⟩ (wm 201) (ah dE) = true:=by decide +kernel
noncomputable abbrev cn:Stmt:=top 34
theorem n4:aG ["_law_drawing_here"] ["_law_drawing_here"] (ab cn):=⟨rfl,rfl,rfl,by decide +kernel,rfl,by decide +kernel,by decide +kernel⟩
noncomputable def og:Nat -> Option Str:=fun n=>List.lookup n []
theorem ox:ba ⟨ab cn,["_law_drawing_here"],og,["list"],[],px⟩ (iE) (ah cn) = true:=by decide +kernel
noncomputable abbrev di:Stmt:=top 27
theorem rq:aG ["_law_script","_law_k","_law_cell_here","_law_number"] ["_law_script","_law_k"] (ab di):=⟨rfl,rfl,rfl,by decide +kernel,rfl,by decide +kernel,by decide +kernel⟩
noncomputable def sj:Nat -> Option Str:=fun n=>List.lookup n []
theorem sI:ba ⟨ab di,["_law_script","_law_k","_law_cell_here","_law_number"],sj,["len"],[],px⟩ (ej) (ah di) = true:=by decide +kernel
noncomputable abbrev bR:Stmt:=top 30
theorem md:aG ["_law_script","_law_at","_law_most","_law_number","_law_many","_law_lots","_law_k","_law_other","_law_lot","_law_whole"] ["_law_script","_law_at","_law_most"] (ab bR):=⟨rfl,rfl,rfl,by decide +kernel,rfl,by decide +kernel,by decide +kernel⟩
noncomputable def mR:Nat -> Option Str:=fun n=>List.lookup n [(200,"_law_cell"),(201,"_law_frac")]
theorem nc:ba ⟨ab bR,["_law_script","_law_at","_law_most","_law_number","_law_many","_law_lots","_law_k","_law_other","_law_lot","_law_whole"],mR,["range","sorted","sum","tuple"],[],px⟩ (iF) (ah bR) = true:=by decide +kernel
noncomputable abbrev cL:Stmt:=top 31
theorem pS:aG ["_law_drawing_here","_law_found","_law_house","_law_row","_law_other","_law_share","_law_chance","_law_lot"] ["_law_drawing_here"] (ab cL):=⟨rfl,rfl,rfl,by decide +kernel,rfl,by decide +kernel,by decide +kernel⟩
noncomputable def qg:Nat -> Option Str:=fun n=>List.lookup n [(202,"_law_add")]
theorem qt:ba ⟨ab cL,["_law_drawing_here","_law_found","_law_house","_law_row","_law_other","_law_share","_law_chance","_law_lot"],qg,["range"],[],px⟩ (jO) (ah cL) = true:=by decide +kernel
noncomputable abbrev eP:Stmt:=top 32
theorem wO:aG ["_law_found"] ["_law_found"] (ab eP):=⟨rfl,rfl,rfl,by decide +kernel,rfl,by decide +kernel,by decide +kernel⟩
noncomputable def xy:Nat -> Option Str:=fun n=>List.lookup n []
theorem xI:ba ⟨ab eP,["_law_found"],xy,["bool","int","isinstance","len","tuple"],[],px⟩ (wq) (ah eP) = true:=by decide +kernel
noncomputable abbrev dg:Stmt:=top 33
theorem rm:aG ["_law_found","_law_due"] ["_law_found","_law_due"] (ab dg):=⟨rfl,rfl,rfl,by decide +kernel,rfl,by decide +kernel,by decide +kernel⟩
noncomputable def sh:Nat -> Option Str:=fun n=>List.lookup n [(204,"_law_is")]
theorem sG:ba ⟨ab dg,["_law_found","_law_due"],sh,["isinstance","len","list"],[],px⟩ (qE) (ah dg) = true:=by decide +kernel
noncomputable abbrev cq:Stmt:=top 5
theorem rz:aG ["thing"] ["thing"] (ab cq):=⟨rfl,rfl,rfl,by decide +kernel,rfl,by decide +kernel,by decide +kernel⟩
noncomputable def sk:Nat -> Option Str:=fun n=>List.lookup n []
theorem sJ:ba ⟨ab cq,["thing"],sk,["bool","int","isinstance"],[],px⟩ (gj) (ah cq) = true:=by decide +kernel
noncomputable abbrev bw:Stmt:=top 13
theorem n6:aG ["thing","many"] ["thing","many"] (ab bw):=⟨rfl,rfl,rfl,by decide +kernel,rfl,by decide +kernel,by decide +kernel⟩
noncomputable def oi:Nat -> Option Str:=fun n=>List.lookup n [(0,"is_whole")]
theorem oz:ba ⟨ab bw,["thing","many"],oi,["all","isinstance","len","set","tuple"],[],px⟩ (cU) (ah bw) = true:=by decide +kernel
noncomputable abbrev aM:Stmt:=top 6
theorem jv:aG ["one","other","rest"] ["one","other"] (ab aM):=⟨rfl,rfl,rfl,by decide +kernel,rfl,by decide +kernel,by decide +kernel⟩
noncomputable def jI:Nat -> Option Str:=fun n=>List.lookup n []
theorem jM:ba ⟨ab aM,["one","other","rest"],jI,["abs"],[],px⟩ (cT) (ah aM) = true:=by decide +kernel
noncomputable abbrev bh:Stmt:=top 8
theorem mf:aG ["thing"] ["thing"] (ab bh):=⟨rfl,rfl,rfl,by decide +kernel,rfl,by decide +kernel,by decide +kernel⟩
noncomputable def mT:Nat -> Option Str:=fun n=>List.lookup n [(0,"is_whole"),(1,"common_divisor")]
theorem nh:ba ⟨ab bh,["thing"],mT,["isinstance","len","tuple"],[],px⟩ (bz) (ah bh) = true:=by decide +kernel
noncomputable abbrev dy:Stmt:=top 15
theorem wQ:aG ["thing","many"] ["thing","many"] (ab dy):=⟨rfl,rfl,rfl,by decide +kernel,rfl,by decide +kernel,by decide +kernel⟩
noncomputable def xA:Nat -> Option Str:=fun n=>List.lookup n [(3,"is_fraction"),(43,"are_houses")]
theorem xJ:ba ⟨ab dy,["thing","many"],xA,["isinstance","len","tuple"],[],px⟩ (jR) (ah dy) = true:=by decide +kernel
noncomputable abbrev bK:Stmt:=top 16
theorem pQ:aG ["rows","ahead","behind"] ["rows"] (ab bK):=⟨rfl,rfl,rfl,by decide +kernel,rfl,by decide +kernel,by decide +kernel⟩
noncomputable def qe:Nat -> Option Str:=fun n=>List.lookup n []
theorem qq:ba ⟨ab bK,["rows","ahead","behind"],qe,["zip"],[],px⟩ (fm) (ah bK) = true:=by decide +kernel
noncomputable abbrev aQ:Stmt:=top 9
theorem j9:aG ["some","bottom","part"] ["some"] (ab aQ):=⟨rfl,rfl,rfl,by decide +kernel,rfl,by decide +kernel,by decide +kernel⟩
noncomputable def ki:Nat -> Option Str:=fun n=>List.lookup n [(1,"common_divisor")]
theorem km:ba ⟨ab aQ,["some","bottom","part"],ki,[],[],px⟩ (cx) (ah aQ) = true:=by decide +kernel
noncomputable abbrev bJ:Stmt:=top 10
theorem pP:aG ["some","bottom"] ["some","bottom"] (ab bJ):=⟨rfl,rfl,rfl,by decide +kernel,rfl,by decide +kernel,by decide +kernel⟩
noncomputable def qd:Nat -> Option Str:=fun n=>List.lookup n []
theorem qp:ba ⟨ab bJ,["some","bottom"],qd,[],[],px⟩ (fj) (ah bJ) = true:=by decide +kernel
noncomputable abbrev bB:Stmt:=top 17
theorem kU:aG ["rows","chances","lots","bottom"] ["rows"] (ab bB):=⟨rfl,rfl,rfl,by decide +kernel,rfl,by decide +kernel,by decide +kernel⟩
noncomputable def kZ:Nat -> Option Str:=fun n=>List.lookup n [(9,"common_bottom"),(10,"tops_over")]
theorem lb:ba ⟨ab bB,["rows","chances","lots","bottom"],kZ,["list","zip"],[],px⟩ (iC) (ah bB) = true:=by decide +kernel
noncomputable abbrev bg:Stmt:=top 18
theorem l_:aG ["rows","weighed"] ["rows"] (ab bg):=⟨rfl,rfl,rfl,by decide +kernel,rfl,by decide +kernel,by decide +kernel⟩
noncomputable def mP:Nat -> Option Str:=fun n=>List.lookup n [(14,"weighed_lots")]
theorem m9:ba ⟨ab bg,["rows","weighed"],mP,["sum"],[],px⟩ (dW) (ah bg) = true:=by decide +kernel
noncomputable abbrev cu:Stmt:=top 19
theorem rA:aG ["thing","many","rows","row"] ["thing"] (ab cu):=⟨rfl,rfl,rfl,by decide +kernel,rfl,by decide +kernel,by decide +kernel⟩
noncomputable def so:Nat -> Option Str:=fun n=>List.lookup n [(0,"is_whole"),(12,"is_row"),(15,"sums_to_one"),(44,"rows_rise")]
theorem sL:ba ⟨ab cu,["thing","many","rows","row"],so,["isinstance","len","list","tuple"],[("MOST_HOUSES",GK.i 12)],px⟩ (gk) (ah cu) = true:=by decide +kernel
noncomputable abbrev dz:Stmt:=top 14
theorem wR:aG ["thing","many"] ["thing","many"] (ab dz):=⟨rfl,rfl,rfl,by decide +kernel,rfl,by decide +kernel,by decide +kernel⟩
noncomputable def xB:Nat -> Option Str:=fun n=>List.lookup n [(43,"are_houses")]
theorem xK:ba ⟨ab dz,["thing","many"],xB,["list","sorted"],[],px⟩ (fU) (ah dz) = true:=by decide +kernel
noncomputable abbrev bu:Stmt:=top 20
theorem n5:aG ["thing"] ["thing"] (ab bu):=⟨rfl,rfl,rfl,by decide +kernel,rfl,by decide +kernel,by decide +kernel⟩
noncomputable def oh:Nat -> Option Str:=fun n=>List.lookup n [(11,"is_lot"),(45,"is_drawn")]
theorem oy:ba ⟨ab bu,["thing"],oh,["all"],[],px⟩ (eG) (ah bu) = true:=by decide +kernel
noncomputable abbrev aR:Stmt:=top 21
theorem j_:aG ["thing"] ["thing"] (ab aR):=⟨rfl,rfl,rfl,by decide +kernel,rfl,by decide +kernel,by decide +kernel⟩
noncomputable def kj:Nat -> Option Str:=fun n=>List.lookup n [(16,"is_drawing")]
theorem kn:ba ⟨ab aR,["thing"],kj,[],[],px⟩ (de) (ah aR) = true:=by decide +kernel
noncomputable abbrev bj:Stmt:=top 7
theorem mh:aG ["top","bottom","divisor"] ["top","bottom"] (ab bj):=⟨rfl,rfl,rfl,by decide +kernel,rfl,by decide +kernel,by decide +kernel⟩
noncomputable def mU:Nat -> Option Str:=fun n=>List.lookup n [(1,"common_divisor")]
theorem ni:ba ⟨ab bj,["top","bottom","divisor"],mU,[],[],px⟩ (cA) (ah bj) = true:=by decide +kernel
noncomputable abbrev bS:Stmt:=top 22
theorem me:aG ["weighed","one","other","having"] ["weighed","one","other"] (ab bS):=⟨rfl,rfl,rfl,by decide +kernel,rfl,by decide +kernel,by decide +kernel⟩
noncomputable def mS:Nat -> Option Str:=fun n=>List.lookup n [(2,"fraction_of")]
theorem ng:ba ⟨ab bS,["weighed","one","other","having"],mS,["sum"],[],px⟩ (lL) (ah bS) = true:=by decide +kernel
noncomputable abbrev cm:Stmt:=top 23
theorem nZ:aG ["drawing","weighed"] ["drawing"] (ab cm):=⟨rfl,rfl,rfl,by decide +kernel,rfl,by decide +kernel,by decide +kernel⟩
noncomputable def oe:Nat -> Option Str:=fun n=>List.lookup n [(14,"weighed_lots"),(17,"check_drawing"),(19,"joint_share")]
theorem ou:ba ⟨ab cm,["drawing","weighed"],oe,["range"],[],px⟩ (jN) (ah cm) = true:=by decide +kernel
noncomputable abbrev cK:Stmt:=top 25
theorem pR:aG ["drawing","weighed","weights","weight","lot"] ["drawing"] (ab cK):=⟨rfl,rfl,rfl,by decide +kernel,rfl,by decide +kernel,by decide +kernel⟩
noncomputable def qf:Nat -> Option Str:=fun n=>List.lookup n [(2,"fraction_of"),(14,"weighed_lots"),(17,"check_drawing")]
theorem qr:ba ⟨ab cK,["drawing","weighed","weights","weight","lot"],qf,["len","sorted"],[],px⟩ (wo) (ah cK) = true:=by decide +kernel
noncomputable abbrev bQ:Stmt:=top 24
theorem ma:aG ["drawing","weighed","pairs","one"] ["drawing"] (ab bQ):=⟨rfl,rfl,rfl,by decide +kernel,rfl,by decide +kernel,by decide +kernel⟩
noncomputable def mQ:Nat -> Option Str:=fun n=>List.lookup n [(14,"weighed_lots"),(17,"check_drawing"),(19,"joint_share")]
theorem m_:ba ⟨ab bQ,["drawing","weighed","pairs","one"],mQ,["range"],[],px⟩ (iD) (ah bQ) = true:=by decide +kernel
noncomputable abbrev iO:Stmt:=top 35
theorem FJ:aG ["_law_script","_law_drawing_here","_law_handed","_law_pairs_here","_law_sizes","_law_chance","_law_lot","_law_due","_law_turn","_law_shares","_law_told","_law_some","_law_k"] ["_law_script"] (ab iO):=⟨rfl,rfl,rfl,by decide +kernel,rfl,by decide +kernel,by decide +kernel⟩
noncomputable def HF:Nat -> Option Str:=fun n=>List.lookup n [(16,"is_drawing"),(20,"lot_shares"),(21,"pair_shares"),(22,"lot_sizes"),(202,"_law_add"),(212,"_law_drawing"),(213,"_law_pairs"),(214,"_law_same"),(215,"_law_copied")]
theorem IC:ba ⟨ab iO,["_law_script","_law_drawing_here","_law_handed","_law_pairs_here","_law_sizes","_law_chance","_law_lot","_law_due","_law_turn","_law_shares","_law_told","_law_some","_law_k"],HF,["isinstance","len","list","range","sorted"],[],px⟩ (jQ) (ah iO) = true:=by decide +kernel
theorem all_mk {l:PySem.W.OpenLaw} {w:World} {K:PySem.W.Frag} {h:Heap} {mg:Str -> Option Value} {fa f0 f1 f2 f3 f4 f5 f6 f7 f8 f9 Tq Tp To Tn Tj Ti Th Tf Te Td Tc Tb Ta S_ S9 S8 S7 S5:Addr} (X:K.In h) (G:h.Ns mainGlobals mg) (Y_:mg "law" = some (.ref fa))
  {Yg an0 Yf an1 Ye an2 Yd an3 Yc an4 Yb an5 Ya an6 X_ an7 X9 an8 X8 an9 QC UY QB UX QA UW Qz UU Qy UT Qx US Qw UR Qv UQ Qu UP Qt UO Qs UN Qr UM Qq UL Qp UK Qo UJ Qn UI Qm UH Ql Nj:Option Addr} {XF XE sX XD XC XB XA Xz Xy Xx Po Pn Pm Pl Pk Pj Ph Pg Pf Pe Pd Pc Pb Pa O_ O9 O8 O7:Array (Option Value)} {Yr YH Z0 X7 WE Z_ Yq YG ZZ X6 WD Z9 Yp YF ZY X5 WC Z8 Yo YE ZX X4 WB Z7 Yn YD ZW X3 WA Z6 Ym YC ZV X2 Wz Z5 Yk YB ZU X1 Wy Z4 Yj YA ZT X0 Wx Z3 Yi Yz ZS XZ Ww Z2 Yh Yy ZR XY Wv Z1 QU Rt T_ Qb M5 Ut QT Rq T9 Qa M4 Us QS Rp T8 P_ M3 Ur QR Ro T7 P9 M1 Uq QQ Rn T6 P8 M0 Uo QP Rm T5 P7 MZ Um QO Rl T4 P6 MY Ul QN Rk T3 P5 MX Uk QM Rj T2 P4 MW Uj QL Ri T1 P2 MV Ui QK Rh TZ P1 MU Uh QJ Rg TY P0 MT Ug QI Rf TX PZ MS Ue QH Rc TV PY MR Ud QG Rb TU PV MQ Uc QF Ra TR PU MP Ub QE Q_ TQ PR MO Ua QD Lw MG KR ID MH u0:Value}
  (a0:PySem.W.nsIn K mainGlobals "_law_frac" = some (some (.ref f0))) (l0:K.lookup f0 = some ⟨Yr,Yg,.func (PySem.W.fnOf "_law_frac" "_law_frac" (aF dh) (ah dh) (ab dh) .none YH Z0 X7 an0 WE Z_),XF⟩) (c0:PySem.W.codeIn K WE "_law_frac" = true) (k0:PySem.W.keepIn K (.ref f0) = true)
  (a1:PySem.W.nsIn K mainGlobals "_law_add" = some (some (.ref f1))) (l1:K.lookup f1 = some ⟨Yq,Yf,.func (PySem.W.fnOf "_law_add" "_law_add" (aF dE) (ah dE) (ab dE) .none YG ZZ X6 an1 WD Z9),XE⟩) (c1:PySem.W.codeIn K WD "_law_add" = true) (k1:PySem.W.keepIn K (.ref f1) = true)
  (a2:PySem.W.nsIn K mainGlobals "_law_copied" = some (some (.ref f2))) (l2:K.lookup f2 = some ⟨Yp,Ye,.func (PySem.W.fnOf "_law_copied" "_law_copied" (aF cn) (ah cn) (ab cn) .none YF ZY X5 an2 WC Z8),sX⟩) (c2:PySem.W.codeIn K WC "_law_copied" = true) (k2:PySem.W.keepIn K (.ref f2) = true)
  (a3:PySem.W.nsIn K mainGlobals "_law_cell" = some (some (.ref f3))) (l3:K.lookup f3 = some ⟨Yo,Yd,.func (PySem.W.fnOf "_law_cell" "_law_cell" (aF di) (ah di) (ab di) .none YE ZX X4 an3 WB Z7),XD⟩) (c3:PySem.W.codeIn K WB "_law_cell" = true) (k3:PySem.W.keepIn K (.ref f3) = true)
  (a4:PySem.W.nsIn K mainGlobals "_law_drawing" = some (some (.ref f4))) (l4:K.lookup f4 = some ⟨Yn,Yc,.func (PySem.W.fnOf "_law_drawing" "_law_drawing" (aF bR) (ah bR) (ab bR) .none YD ZW X3 an4 WA Z6),XC⟩) (c4:PySem.W.codeIn K WA "_law_drawing" = true) (k4:PySem.W.keepIn K (.ref f4) = true)
  (a5:PySem.W.nsIn K mainGlobals "_law_pairs" = some (some (.ref f5))) (l5:K.lookup f5 = some ⟨Ym,Yb,.func (PySem.W.fnOf "_law_pairs" "_law_pairs" (aF cL) (ah cL) (ab cL) .none YC ZV X2 an5 Wz Z5),XB⟩) (c5:PySem.W.codeIn K Wz "_law_pairs" = true) (k5:PySem.W.keepIn K (.ref f5) = true)
  (a6:PySem.W.nsIn K mainGlobals "_law_is" = some (some (.ref f6))) (l6:K.lookup f6 = some ⟨Yk,Ya,.func (PySem.W.fnOf "_law_is" "_law_is" (aF eP) (ah eP) (ab eP) .none YB ZU X1 an6 Wy Z4),XA⟩) (c6:PySem.W.codeIn K Wy "_law_is" = true) (k6:PySem.W.keepIn K (.ref f6) = true)
  (a7:PySem.W.nsIn K mainGlobals "_law_same" = some (some (.ref f7))) (l7:K.lookup f7 = some ⟨Yj,X_,.func (PySem.W.fnOf "_law_same" "_law_same" (aF dg) (ah dg) (ab dg) .none YA ZT X0 an7 Wx Z3),Xz⟩) (c7:PySem.W.codeIn K Wx "_law_same" = true) (k7:PySem.W.keepIn K (.ref f7) = true)
  (a8:PySem.W.nsIn K mainGlobals "is_whole" = some (some (.ref f8))) (l8:K.lookup f8 = some ⟨Yi,X9,.func (PySem.W.fnOf "is_whole" "is_whole" (aF cq) (ah cq) (ab cq) .none Yz ZS XZ an8 Ww Z2),Xy⟩) (c8:PySem.W.codeIn K Ww "is_whole" = true) (k8:PySem.W.keepIn K (.ref f8) = true)
  (a9:PySem.W.nsIn K mainGlobals "are_houses" = some (some (.ref f9))) (l9:K.lookup f9 = some ⟨Yh,X8,.func (PySem.W.fnOf "are_houses" "are_houses" (aF bw) (ah bw) (ab bw) .none Yy ZR XY an9 Wv Z1),Xx⟩) (c9:PySem.W.codeIn K Wv "are_houses" = true) (k9:PySem.W.keepIn K (.ref f9) = true)
  (a10:PySem.W.nsIn K mainGlobals "common_divisor" = some (some (.ref Tq))) (l10:K.lookup Tq = some ⟨QU,QC,.func (PySem.W.fnOf "common_divisor" "common_divisor" (aF aM) (ah aM) (ab aM) .none Rt T_ Qb UY M5 Ut),Po⟩) (c10:PySem.W.codeIn K M5 "common_divisor" = true) (k10:PySem.W.keepIn K (.ref Tq) = true)
  (a11:PySem.W.nsIn K mainGlobals "is_fraction" = some (some (.ref Tp))) (l11:K.lookup Tp = some ⟨QT,QB,.func (PySem.W.fnOf "is_fraction" "is_fraction" (aF bh) (ah bh) (ab bh) .none Rq T9 Qa UX M4 Us),Pn⟩) (c11:PySem.W.codeIn K M4 "is_fraction" = true) (k11:PySem.W.keepIn K (.ref Tp) = true)
  (a12:PySem.W.nsIn K mainGlobals "is_row" = some (some (.ref To))) (l12:K.lookup To = some ⟨QS,QA,.func (PySem.W.fnOf "is_row" "is_row" (aF dy) (ah dy) (ab dy) .none Rp T8 P_ UW M3 Ur),Pm⟩) (c12:PySem.W.codeIn K M3 "is_row" = true) (k12:PySem.W.keepIn K (.ref To) = true)
  (a13:PySem.W.nsIn K mainGlobals "rows_rise" = some (some (.ref Tn))) (l13:K.lookup Tn = some ⟨QR,Qz,.func (PySem.W.fnOf "rows_rise" "rows_rise" (aF bK) (ah bK) (ab bK) .none Ro T7 P9 UU M1 Uq),Pl⟩) (c13:PySem.W.codeIn K M1 "rows_rise" = true) (k13:PySem.W.keepIn K (.ref Tn) = true)
  (a14:PySem.W.nsIn K mainGlobals "common_bottom" = some (some (.ref Tj))) (l14:K.lookup Tj = some ⟨QQ,Qy,.func (PySem.W.fnOf "common_bottom" "common_bottom" (aF aQ) (ah aQ) (ab aQ) .none Rn T6 P8 UT M0 Uo),Pk⟩) (c14:PySem.W.codeIn K M0 "common_bottom" = true) (k14:PySem.W.keepIn K (.ref Tj) = true)
  (a15:PySem.W.nsIn K mainGlobals "tops_over" = some (some (.ref Ti))) (l15:K.lookup Ti = some ⟨QP,Qx,.func (PySem.W.fnOf "tops_over" "tops_over" (aF bJ) (ah bJ) (ab bJ) .none Rm T5 P7 US MZ Um),Pj⟩) (c15:PySem.W.codeIn K MZ "tops_over" = true) (k15:PySem.W.keepIn K (.ref Ti) = true)
  (a16:PySem.W.nsIn K mainGlobals "weighed_lots" = some (some (.ref Th))) (l16:K.lookup Th = some ⟨QO,Qw,.func (PySem.W.fnOf "weighed_lots" "weighed_lots" (aF bB) (ah bB) (ab bB) .none Rl T4 P6 UR MY Ul),Ph⟩) (c16:PySem.W.codeIn K MY "weighed_lots" = true) (k16:PySem.W.keepIn K (.ref Th) = true)
  (a17:PySem.W.nsIn K mainGlobals "sums_to_one" = some (some (.ref Tf))) (l17:K.lookup Tf = some ⟨QN,Qv,.func (PySem.W.fnOf "sums_to_one" "sums_to_one" (aF bg) (ah bg) (ab bg) .none Rk T3 P5 UQ MX Uk),Pg⟩) (c17:PySem.W.codeIn K MX "sums_to_one" = true) (k17:PySem.W.keepIn K (.ref Tf) = true)
  (a18:PySem.W.nsIn K mainGlobals "is_drawn" = some (some (.ref Te))) (l18:K.lookup Te = some ⟨QM,Qu,.func (PySem.W.fnOf "is_drawn" "is_drawn" (aF cu) (ah cu) (ab cu) .none Rj T2 P4 UP MW Uj),Pf⟩) (c18:PySem.W.codeIn K MW "is_drawn" = true) (k18:PySem.W.keepIn K (.ref Te) = true)
  (a19:PySem.W.nsIn K mainGlobals "is_lot" = some (some (.ref Td))) (l19:K.lookup Td = some ⟨QL,Qt,.func (PySem.W.fnOf "is_lot" "is_lot" (aF dz) (ah dz) (ab dz) .none Ri T1 P2 UO MV Ui),Pe⟩) (c19:PySem.W.codeIn K MV "is_lot" = true) (k19:PySem.W.keepIn K (.ref Td) = true)
  (a20:PySem.W.nsIn K mainGlobals "is_drawing" = some (some (.ref Tc))) (l20:K.lookup Tc = some ⟨QK,Qs,.func (PySem.W.fnOf "is_drawing" "is_drawing" (aF bu) (ah bu) (ab bu) .none Rh TZ P1 UN MU Uh),Pd⟩) (c20:PySem.W.codeIn K MU "is_drawing" = true) (k20:PySem.W.keepIn K (.ref Tc) = true)
  (a21:PySem.W.nsIn K mainGlobals "check_drawing" = some (some (.ref Tb))) (l21:K.lookup Tb = some ⟨QJ,Qr,.func (PySem.W.fnOf "check_drawing" "check_drawing" (aF aR) (ah aR) (ab aR) .none Rg TY P0 UM MT Ug),Pc⟩) (c21:PySem.W.codeIn K MT "check_drawing" = true) (k21:PySem.W.keepIn K (.ref Tb) = true)
  (a22:PySem.W.nsIn K mainGlobals "fraction_of" = some (some (.ref Ta))) (l22:K.lookup Ta = some ⟨QI,Qq,.func (PySem.W.fnOf "fraction_of" "fraction_of" (aF bj) (ah bj) (ab bj) .none Rf TX PZ UL MS Ue),Pb⟩) (c22:PySem.W.codeIn K MS "fraction_of" = true) (k22:PySem.W.keepIn K (.ref Ta) = true)
  (a23:PySem.W.nsIn K mainGlobals "joint_share" = some (some (.ref S_))) (l23:K.lookup S_ = some ⟨QH,Qp,.func (PySem.W.fnOf "joint_share" "joint_share" (aF bS) (ah bS) (ab bS) .none Rc TV PY UK MR Ud),Pa⟩) (c23:PySem.W.codeIn K MR "joint_share" = true) (k23:PySem.W.keepIn K (.ref S_) = true)
  (a24:PySem.W.nsIn K mainGlobals "lot_shares" = some (some (.ref S9))) (l24:K.lookup S9 = some ⟨QG,Qo,.func (PySem.W.fnOf "lot_shares" "lot_shares" (aF cm) (ah cm) (ab cm) .none Rb TU PV UJ MQ Uc),O_⟩) (c24:PySem.W.codeIn K MQ "lot_shares" = true) (k24:PySem.W.keepIn K (.ref S9) = true)
  (a25:PySem.W.nsIn K mainGlobals "lot_sizes" = some (some (.ref S8))) (l25:K.lookup S8 = some ⟨QF,Qn,.func (PySem.W.fnOf "lot_sizes" "lot_sizes" (aF cK) (ah cK) (ab cK) .none Ra TR PU UI MP Ub),O9⟩) (c25:PySem.W.codeIn K MP "lot_sizes" = true) (k25:PySem.W.keepIn K (.ref S8) = true)
  (a26:PySem.W.nsIn K mainGlobals "pair_shares" = some (some (.ref S7))) (l26:K.lookup S7 = some ⟨QE,Qm,.func (PySem.W.fnOf "pair_shares" "pair_shares" (aF bQ) (ah bQ) (ab bQ) .none Q_ TQ PR UH MO Ua),O8⟩) (c26:PySem.W.codeIn K MO "pair_shares" = true) (k26:PySem.W.keepIn K (.ref S7) = true)
  (a27:PySem.W.nsIn K mainGlobals "law" = some (some (.ref S5))) (l27:K.lookup S5 = some ⟨QD,Ql,.func (PySem.W.fnOf "law" "law" (aF iO) (ah iO) (ab iO) .none Lw MG KR Nj ID MH),O7⟩) (c27:PySem.W.codeIn K ID "law" = true) (k27:PySem.W.keepIn K (.ref S5) = true)
  (z0:PySem.W.nsIn K mainGlobals "abs" = some none)
  (z1:PySem.W.nsIn K mainGlobals "all" = some none)
  (z2:PySem.W.nsIn K mainGlobals "bool" = some none)
  (z3:PySem.W.nsIn K mainGlobals "int" = some none)
  (z4:PySem.W.nsIn K mainGlobals "isinstance" = some none)
  (z5:PySem.W.nsIn K mainGlobals "len" = some none)
  (z6:PySem.W.nsIn K mainGlobals "list" = some none)
  (z7:PySem.W.nsIn K mainGlobals "range" = some none)
  (z8:PySem.W.nsIn K mainGlobals "set" = some none)
  (z9:PySem.W.nsIn K mainGlobals "sorted" = some none)
  (z10:PySem.W.nsIn K mainGlobals "sum" = some none)
  (z11:PySem.W.nsIn K mainGlobals "tuple" = some none)
  (z12:PySem.W.nsIn K mainGlobals "zip" = some none)
  (q0:PySem.W.nsIn K mainGlobals "MOST_HOUSES" = some (some u0)) (r0:RelV (.int 12) u0) :
  ∃ fd:FuncData,(∀ (s:Shared) (v:Value),BindsTo s fd ⟨[v],[]⟩ [("_law_script",v)]) /\ ∀ base:Heap,K.In base -> base.Ns mainGlobals mg -> jb l.prog w K mg base A1 29 fa fd ["_law_script"] (D9 K 1 rP):=by
 have e:=Y_.symm.trans (PySem.W.mg_of X G a27)
 cases e
 have F0:=aW (st:=dh) l0 c0 k0
 have b0:=F0.binds (ps:=["_law_top","_law_bottom"]) fun _ _ _ _ _ _ us hl=>by obtain ⟨_,_,rfl⟩:=mB hl;rfl
 have F1:=aW (st:=dE) l1 c1 k1
 have b1:=F1.binds (ps:=["_law_one","_law_other"]) fun _ _ _ _ _ _ us hl=>by obtain ⟨_,_,rfl⟩:=mB hl;rfl
 have F2:=aW (st:=cn) l2 c2 k2
 have b2:=F2.binds (ps:=["_law_drawing_here"]) fun _ _ _ _ _ _ us hl=>by obtain ⟨_,rfl⟩:=gT hl;rfl
 have F3:=aW (st:=di) l3 c3 k3
 have b3:=F3.binds (ps:=["_law_script","_law_k"]) fun _ _ _ _ _ _ us hl=>by obtain ⟨_,_,rfl⟩:=mB hl;rfl
 have F4:=aW (st:=bR) l4 c4 k4
 have b4:=F4.binds (ps:=["_law_script","_law_at","_law_most"]) fun _ _ _ _ _ _ us hl=>by obtain ⟨_,_,_,rfl⟩:=Lq hl;rfl
 have F5:=aW (st:=cL) l5 c5 k5
 have b5:=F5.binds (ps:=["_law_drawing_here"]) fun _ _ _ _ _ _ us hl=>by obtain ⟨_,rfl⟩:=gT hl;rfl
 have F6:=aW (st:=eP) l6 c6 k6
 have b6:=F6.binds (ps:=["_law_found"]) fun _ _ _ _ _ _ us hl=>by obtain ⟨_,rfl⟩:=gT hl;rfl
 have F7:=aW (st:=dg) l7 c7 k7
 have b7:=F7.binds (ps:=["_law_found","_law_due"]) fun _ _ _ _ _ _ us hl=>by obtain ⟨_,_,rfl⟩:=mB hl;rfl
 have F8:=aW (st:=cq) l8 c8 k8
 have b8:=F8.binds (ps:=["thing"]) fun _ _ _ _ _ _ us hl=>by obtain ⟨_,rfl⟩:=gT hl;rfl
 have F9:=aW (st:=bw) l9 c9 k9
 have b9:=F9.binds (ps:=["thing","many"]) fun _ _ _ _ _ _ us hl=>by obtain ⟨_,_,rfl⟩:=mB hl;rfl
 have W5:=aW (st:=aM) l10 c10 k10
 have UB:=W5.binds (ps:=["one","other"]) fun _ _ _ _ _ _ us hl=>by obtain ⟨_,_,rfl⟩:=mB hl;rfl
 have W4:=aW (st:=bh) l11 c11 k11
 have UA:=W4.binds (ps:=["thing"]) fun _ _ _ _ _ _ us hl=>by obtain ⟨_,rfl⟩:=gT hl;rfl
 have W3:=aW (st:=dy) l12 c12 k12
 have Uz:=W3.binds (ps:=["thing","many"]) fun _ _ _ _ _ _ us hl=>by obtain ⟨_,_,rfl⟩:=mB hl;rfl
 have W2:=aW (st:=bK) l13 c13 k13
 have b13:=W2.binds (ps:=["rows"]) fun _ _ _ _ _ _ us hl=>by obtain ⟨_,rfl⟩:=gT hl;rfl
 have W0:=aW (st:=aQ) l14 c14 k14
 have b14:=W0.binds (ps:=["some"]) fun _ _ _ _ _ _ us hl=>by obtain ⟨_,rfl⟩:=gT hl;rfl
 have WZ:=aW (st:=bJ) l15 c15 k15
 have b15:=WZ.binds (ps:=["some","bottom"]) fun _ _ _ _ _ _ us hl=>by obtain ⟨_,_,rfl⟩:=mB hl;rfl
 have WY:=aW (st:=bB) l16 c16 k16
 have b16:=WY.binds (ps:=["rows"]) fun _ _ _ _ _ _ us hl=>by obtain ⟨_,rfl⟩:=gT hl;rfl
 have WX:=aW (st:=bg) l17 c17 k17
 have b17:=WX.binds (ps:=["rows"]) fun _ _ _ _ _ _ us hl=>by obtain ⟨_,rfl⟩:=gT hl;rfl
 have WW:=aW (st:=cu) l18 c18 k18
 have b18:=WW.binds (ps:=["thing"]) fun _ _ _ _ _ _ us hl=>by obtain ⟨_,rfl⟩:=gT hl;rfl
 have WV:=aW (st:=dz) l19 c19 k19
 have b19:=WV.binds (ps:=["thing","many"]) fun _ _ _ _ _ _ us hl=>by obtain ⟨_,_,rfl⟩:=mB hl;rfl
 have WU:=aW (st:=bu) l20 c20 k20
 have b20:=WU.binds (ps:=["thing"]) fun _ _ _ _ _ _ us hl=>by obtain ⟨_,rfl⟩:=gT hl;rfl
 have WT:=aW (st:=aR) l21 c21 k21
 have b21:=WT.binds (ps:=["thing"]) fun _ _ _ _ _ _ us hl=>by obtain ⟨_,rfl⟩:=gT hl;rfl
 have WS:=aW (st:=bj) l22 c22 k22
 have b22:=WS.binds (ps:=["top","bottom"]) fun _ _ _ _ _ _ us hl=>by obtain ⟨_,_,rfl⟩:=mB hl;rfl
 have WR:=aW (st:=bS) l23 c23 k23
 have b23:=WR.binds (ps:=["weighed","one","other"]) fun _ _ _ _ _ _ us hl=>by obtain ⟨_,_,_,rfl⟩:=Lq hl;rfl
 have WQ:=aW (st:=cm) l24 c24 k24
 have b24:=WQ.binds (ps:=["drawing"]) fun _ _ _ _ _ _ us hl=>by obtain ⟨_,rfl⟩:=gT hl;rfl
 have WO:=aW (st:=cK) l25 c25 k25
 have b25:=WO.binds (ps:=["drawing"]) fun _ _ _ _ _ _ us hl=>by obtain ⟨_,rfl⟩:=gT hl;rfl
 have WN:=aW (st:=bQ) l26 c26 k26
 have b26:=WN.binds (ps:=["drawing"]) fun _ _ _ _ _ _ us hl=>by obtain ⟨_,rfl⟩:=gT hl;rfl
 have WM:=aW (st:=iO) l27 c27 k27
 have b27:=WM.binds (ps:=["_law_script"]) fun _ _ _ _ _ _ us hl=>by obtain ⟨_,rfl⟩:=gT hl;rfl
 have y0:=PySem.W.mg_none_of X G z0
 have y1:=PySem.W.mg_none_of X G z1
 have y2:=PySem.W.mg_none_of X G z2
 have y3:=PySem.W.mg_none_of X G z3
 have y4:=PySem.W.mg_none_of X G z4
 have y5:=PySem.W.mg_none_of X G z5
 have y6:=PySem.W.mg_none_of X G z6
 have y7:=PySem.W.mg_none_of X G z7
 have y8:=PySem.W.mg_none_of X G z8
 have y9:=PySem.W.mg_none_of X G z9
 have OD:=PySem.W.mg_none_of X G z10
 have IS:=PySem.W.mg_none_of X G z11
 have Va:=PySem.W.mg_none_of X G z12
 have x0:∃ u,mg "MOST_HOUSES" = some u /\ OA K (GK.i 12) u:=⟨_,PySem.W.mg_of X G q0,r0⟩
 refine ⟨PySem.W.fnOf "law" "law" (aF iO) (ah iO) (ab iO) .none Lw MG KR Nj ID MH,fun s v=>.of_eq rfl,fun base _ _=>?_⟩
 have E0:Ent l.prog w K mg base 2 "_law_frac" gn:=ent (Φ:=jd) (k:=1) F0 (PySem.W.mg_of X G a0) b0 rn sH (jk rfl rfl rfl rfl rfl rfl rfl rfl rfl rfl rfl rfl rfl rfl rfl rfl rfl) (jZ rfl rfl rfl rfl rfl rfl rfl rfl rfl rfl rfl rfl rfl rfl rfl rfl rfl) (aw.mem ⟨y0,trivial⟩) (aw.two trivial) (aw.tab trivial) aV
 have E1:Ent l.prog w K mg base 3 "_law_add" iH:=ent (Φ:=kD) (k:=2) F1 (PySem.W.mg_of X G a1) b1 tJ uA (jk rfl rfl rfl rfl rfl rfl rfl rfl rfl rfl rfl rfl rfl rfl rfl rfl rfl) (jZ rfl rfl rfl rfl rfl rfl rfl rfl rfl rfl rfl rfl rfl rfl rfl rfl rfl) (aw.mem trivial) (aw.two trivial) (aw.tab ⟨E0.up (by decide),trivial⟩) aV
 have E2:Ent l.prog w K mg base 4 "_law_copied" gp:=ent (Φ:=gu) (k:=3) F2 (PySem.W.mg_of X G a2) b2 n4 ox (jk rfl rfl rfl rfl rfl rfl rfl rfl rfl rfl rfl rfl rfl rfl rfl rfl rfl) (jZ rfl rfl rfl rfl rfl rfl rfl rfl rfl rfl rfl rfl rfl rfl rfl rfl rfl) (aw.mem ⟨y6,trivial⟩) (aw.two trivial) (aw.tab trivial) aV
 have E3:Ent l.prog w K mg base 5 "_law_cell" i_:=ent (Φ:=je) (k:=4) F3 (PySem.W.mg_of X G a3) b3 rq sI (jk rfl rfl rfl rfl rfl rfl rfl rfl rfl rfl rfl rfl rfl rfl rfl rfl rfl) (jZ rfl rfl rfl rfl rfl rfl rfl rfl rfl rfl rfl rfl rfl rfl rfl rfl rfl) (aw.mem ⟨y5,trivial⟩) (aw.two trivial) (aw.tab trivial) aV
 have E4:Ent l.prog w K mg base 6 "_law_drawing" fD:=ent (Φ:=fH) (k:=5) F4 (PySem.W.mg_of X G a4) b4 md nc (jk rfl rfl rfl rfl rfl rfl rfl rfl rfl rfl rfl rfl rfl rfl rfl rfl rfl) (jZ rfl rfl rfl rfl rfl rfl rfl rfl rfl rfl rfl rfl rfl rfl rfl rfl rfl) (aw.mem ⟨y7,y9,OD,IS,trivial⟩) (aw.two trivial) (aw.tab ⟨E3.up (by decide),E0.up (by decide),trivial⟩) aV
 have E5:Ent l.prog w K mg base 7 "_law_pairs" ib:=ent (Φ:=il) (k:=6) F5 (PySem.W.mg_of X G a5) b5 pS qt (jk rfl rfl rfl rfl rfl rfl rfl rfl rfl rfl rfl rfl rfl rfl rfl rfl rfl) (jZ rfl rfl rfl rfl rfl rfl rfl rfl rfl rfl rfl rfl rfl rfl rfl rfl rfl) (aw.mem ⟨y7,trivial⟩) (aw.two trivial) (aw.tab ⟨E1.up (by decide),trivial⟩) aV
 have E6:Ent l.prog w K mg base 8 "_law_is" nF:=ent (Φ:=nJ) (k:=7) F6 (PySem.W.mg_of X G a6) b6 wO xI (jk rfl rfl rfl rfl rfl rfl rfl rfl rfl rfl rfl rfl rfl rfl rfl rfl rfl) (jZ rfl rfl rfl rfl rfl rfl rfl rfl rfl rfl rfl rfl rfl rfl rfl rfl rfl) (aw.mem ⟨y2,y3,y4,y5,IS,trivial⟩) (aw.two trivial) (aw.tab trivial) aV
 have E7:Ent l.prog w K mg base 9 "_law_same" i9:=ent (Φ:=jc) (k:=8) F7 (PySem.W.mg_of X G a7) b7 rm sG (jk rfl rfl rfl rfl rfl rfl rfl rfl rfl rfl rfl rfl rfl rfl rfl rfl rfl) (jZ rfl rfl rfl rfl rfl rfl rfl rfl rfl rfl rfl rfl rfl rfl rfl rfl rfl) (aw.mem ⟨y4,y5,y6,trivial⟩) (aw.two trivial) (aw.tab ⟨E6.up (by decide),trivial⟩) aV
 have E8:Ent l.prog w K mg base 10 "is_whole" eZ:=ent (Φ:=jf) (k:=9) F8 (PySem.W.mg_of X G a8) b8 rz sJ (jk rfl rfl rfl rfl rfl rfl rfl rfl rfl rfl rfl rfl rfl rfl rfl rfl rfl) (jZ rfl rfl rfl rfl rfl rfl rfl rfl rfl rfl rfl rfl rfl rfl rfl rfl rfl) (aw.mem ⟨y2,y3,y4,trivial⟩) (aw.two trivial) (aw.tab trivial) aV
 have E9:Ent l.prog w K mg base 11 "are_houses" eJ:=ent (Φ:=gw) (k:=10) F9 (PySem.W.mg_of X G a9) b9 n6 oz (jk rfl rfl rfl rfl rfl rfl rfl rfl rfl rfl rfl rfl rfl rfl rfl rfl rfl) (jZ rfl rfl rfl rfl rfl rfl rfl rfl rfl rfl rfl rfl rfl rfl rfl rfl rfl) (aw.mem ⟨y1,y4,y5,y8,IS,trivial⟩) (aw.two trivial) (aw.tab ⟨E8.up (by decide),trivial⟩) aV
 have U_:Ent l.prog w K mg base 12 "common_divisor" b_:=ent (Φ:=dN) (k:=11) W5 (PySem.W.mg_of X G a10) UB jv jM (jk rfl rfl rfl rfl rfl rfl rfl rfl rfl rfl rfl rfl rfl rfl rfl rfl rfl) (jZ rfl rfl rfl rfl rfl rfl rfl rfl rfl rfl rfl rfl rfl rfl rfl rfl rfl) (aw.mem ⟨y0,trivial⟩) (aw.two trivial) (aw.tab trivial) aV
 have E11:Ent l.prog w K mg base 13 "is_fraction" fE:=ent (Φ:=fJ) (k:=12) W4 (PySem.W.mg_of X G a11) UA mf nh (jk rfl rfl rfl rfl rfl rfl rfl rfl rfl rfl rfl rfl rfl rfl rfl rfl rfl) (jZ rfl rfl rfl rfl rfl rfl rfl rfl rfl rfl rfl rfl rfl rfl rfl rfl rfl) (aw.mem ⟨y4,y5,IS,trivial⟩) (aw.two trivial) (aw.tab ⟨E8.up (by decide),U_.up (by decide),trivial⟩) aV
 have E12:Ent l.prog w K mg base 14 "is_row" nG:=ent (Φ:=nK) (k:=13) W3 (PySem.W.mg_of X G a12) Uz wQ xJ (jk rfl rfl rfl rfl rfl rfl rfl rfl rfl rfl rfl rfl rfl rfl rfl rfl rfl) (jZ rfl rfl rfl rfl rfl rfl rfl rfl rfl rfl rfl rfl rfl rfl rfl rfl rfl) (aw.mem ⟨y4,y5,IS,trivial⟩) (aw.two trivial) (aw.tab ⟨E11.up (by decide),E9.up (by decide),trivial⟩) aV
 have E13:Ent l.prog w K mg base 15 "rows_rise" h_:=ent (Φ:=ie) (k:=14) W2 (PySem.W.mg_of X G a13) b13 pQ qq (jk rfl rfl rfl rfl rfl rfl rfl rfl rfl rfl rfl rfl rfl rfl rfl rfl rfl) (jZ rfl rfl rfl rfl rfl rfl rfl rfl rfl rfl rfl rfl rfl rfl rfl rfl rfl) (aw.mem ⟨Va,trivial⟩) (aw.two trivial) (aw.tab trivial) aV
 have E14:Ent l.prog w K mg base 16 "common_bottom" ez:=ent (Φ:=eA) (k:=15) W0 (PySem.W.mg_of X G a14) b14 j9 km (jk rfl rfl rfl rfl rfl rfl rfl rfl rfl rfl rfl rfl rfl rfl rfl rfl rfl) (jZ rfl rfl rfl rfl rfl rfl rfl rfl rfl rfl rfl rfl rfl rfl rfl rfl rfl) (aw.mem trivial) (aw.two trivial) (aw.tab ⟨U_.up (by decide),trivial⟩) aV
 have E15:Ent l.prog w K mg base 17 "tops_over" hZ:=ent (Φ:=ic) (k:=16) WZ (PySem.W.mg_of X G a15) b15 pP qp (jk rfl rfl rfl rfl rfl rfl rfl rfl rfl rfl rfl rfl rfl rfl rfl rfl rfl) (jZ rfl rfl rfl rfl rfl rfl rfl rfl rfl rfl rfl rfl rfl rfl rfl rfl rfl) (aw.mem trivial) (aw.two trivial) (aw.tab trivial) aV
 have OB:Ent l.prog w K mg base 18 "weighed_lots" bZ:=ent (Φ:=e9) (k:=17) WY (PySem.W.mg_of X G a16) b16 kU lb (jk rfl rfl rfl rfl rfl rfl rfl rfl rfl rfl rfl rfl rfl rfl rfl rfl rfl) (jZ rfl rfl rfl rfl rfl rfl rfl rfl rfl rfl rfl rfl rfl rfl rfl rfl rfl) (aw.mem ⟨y6,Va,trivial⟩) (aw.two trivial) (aw.tab ⟨E14.up (by decide),E15.up (by decide),trivial⟩) aV
 have E17:Ent l.prog w K mg base 19 "sums_to_one" fB:=ent (Φ:=fF) (k:=18) WX (PySem.W.mg_of X G a17) b17 l_ m9 (jk rfl rfl rfl rfl rfl rfl rfl rfl rfl rfl rfl rfl rfl rfl rfl rfl rfl) (jZ rfl rfl rfl rfl rfl rfl rfl rfl rfl rfl rfl rfl rfl rfl rfl rfl rfl) (aw.mem ⟨OD,trivial⟩) (aw.two trivial) (aw.tab ⟨OB.up (by decide),trivial⟩) aV
 have E18:Ent l.prog w K mg base 20 "is_drawn" ja:=ent (Φ:=jg) (k:=19) WW (PySem.W.mg_of X G a18) b18 rA sL (jk rfl rfl rfl rfl rfl rfl rfl rfl rfl rfl rfl rfl rfl rfl rfl rfl rfl) (jZ rfl rfl rfl rfl rfl rfl rfl rfl rfl rfl rfl rfl rfl rfl rfl rfl rfl) (aw.mem ⟨y4,y5,y6,IS,trivial⟩) (aw.two ⟨x0,trivial⟩) (aw.tab ⟨E8.up (by decide),E12.up (by decide),E17.up (by decide),E13.up (by decide),trivial⟩) aV
 have E19:Ent l.prog w K mg base 21 "is_lot" nH:=ent (Φ:=nL) (k:=20) WV (PySem.W.mg_of X G a19) b19 wR xK (jk rfl rfl rfl rfl rfl rfl rfl rfl rfl rfl rfl rfl rfl rfl rfl rfl rfl) (jZ rfl rfl rfl rfl rfl rfl rfl rfl rfl rfl rfl rfl rfl rfl rfl rfl rfl) (aw.mem ⟨y6,y9,trivial⟩) (aw.two trivial) (aw.tab ⟨E9.up (by decide),trivial⟩) aV
 have W8:Ent l.prog w K mg base 22 "is_drawing" eI:=ent (Φ:=gv) (k:=21) WU (PySem.W.mg_of X G a20) b20 n5 oy (jk rfl rfl rfl rfl rfl rfl rfl rfl rfl rfl rfl rfl rfl rfl rfl rfl rfl) (jZ rfl rfl rfl rfl rfl rfl rfl rfl rfl rfl rfl rfl rfl rfl rfl rfl rfl) (aw.mem ⟨y1,trivial⟩) (aw.two trivial) (aw.tab ⟨E19.up (by decide),E18.up (by decide),trivial⟩) aV
 have U9:Ent l.prog w K mg base 23 "check_drawing" cy:=ent (Φ:=eB) (k:=22) WT (PySem.W.mg_of X G a21) b21 j_ kn (jk rfl rfl rfl rfl rfl rfl rfl rfl rfl rfl rfl rfl rfl rfl rfl rfl rfl) (jZ rfl rfl rfl rfl rfl rfl rfl rfl rfl rfl rfl rfl rfl rfl rfl rfl rfl) (aw.mem trivial) (aw.two trivial) (aw.tab ⟨W8.up (by decide),trivial⟩) aV
 have W7:Ent l.prog w K mg base 24 "fraction_of" dZ:=ent (Φ:=fK) (k:=23) WS (PySem.W.mg_of X G a22) b22 mh ni (jk rfl rfl rfl rfl rfl rfl rfl rfl rfl rfl rfl rfl rfl rfl rfl rfl rfl) (jZ rfl rfl rfl rfl rfl rfl rfl rfl rfl rfl rfl rfl rfl rfl rfl rfl rfl) (aw.mem trivial) (aw.two trivial) (aw.tab ⟨U_.up (by decide),trivial⟩) aV
 have W6:Ent l.prog w K mg base 25 "joint_share" dY:=ent (Φ:=fI) (k:=24) WR (PySem.W.mg_of X G a23) b23 me ng (jk rfl rfl rfl rfl rfl rfl rfl rfl rfl rfl rfl rfl rfl rfl rfl rfl rfl) (jZ rfl rfl rfl rfl rfl rfl rfl rfl rfl rfl rfl rfl rfl rfl rfl rfl rfl) (aw.mem ⟨OD,trivial⟩) (aw.two trivial) (aw.tab ⟨W7.up (by decide),trivial⟩) aV
 have E24:Ent l.prog w K mg base 26 "lot_shares" gm:=ent (Φ:=gq) (k:=25) WQ (PySem.W.mg_of X G a24) b24 nZ ou (jk rfl rfl rfl rfl rfl rfl rfl rfl rfl rfl rfl rfl rfl rfl rfl rfl rfl) (jZ rfl rfl rfl rfl rfl rfl rfl rfl rfl rfl rfl rfl rfl rfl rfl rfl rfl) (aw.mem ⟨y7,trivial⟩) (aw.two trivial) (aw.tab ⟨OB.up (by decide),U9.up (by decide),W6.up (by decide),trivial⟩) aV
 have E25:Ent l.prog w K mg base 27 "lot_sizes" ia:=ent (Φ:=ig) (k:=26) WO (PySem.W.mg_of X G a25) b25 pR qr (jk rfl rfl rfl rfl rfl rfl rfl rfl rfl rfl rfl rfl rfl rfl rfl rfl rfl) (jZ rfl rfl rfl rfl rfl rfl rfl rfl rfl rfl rfl rfl rfl rfl rfl rfl rfl) (aw.mem ⟨y5,y9,trivial⟩) (aw.two trivial) (aw.tab ⟨W7.up (by decide),OB.up (by decide),U9.up (by decide),trivial⟩) aV
 have E26:Ent l.prog w K mg base 28 "pair_shares" fC:=ent (Φ:=fG) (k:=27) WN (PySem.W.mg_of X G a26) b26 ma m_ (jk rfl rfl rfl rfl rfl rfl rfl rfl rfl rfl rfl rfl rfl rfl rfl rfl rfl) (jZ rfl rfl rfl rfl rfl rfl rfl rfl rfl rfl rfl rfl rfl rfl rfl rfl rfl) (aw.mem ⟨y7,trivial⟩) (aw.two trivial) (aw.tab ⟨OB.up (by decide),U9.up (by decide),W6.up (by decide),trivial⟩) aV
 exact su (Φ:=AZ) (k:=28) WM FJ IC (jk rfl rfl rfl rfl rfl rfl rfl rfl rfl rfl rfl rfl rfl rfl rfl rfl rfl) (jZ rfl rfl rfl rfl rfl rfl rfl rfl rfl rfl rfl rfl rfl rfl rfl rfl rfl) (aw.mem ⟨y4,y5,y6,y7,y9,trivial⟩) (aw.two trivial) (aw.tab ⟨(W8.up (by decide)).ex,(E24.up (by decide)).ex,(E26.up (by decide)).ex,(E25.up (by decide)).ex,(E1.up (by decide)).ex,(E4.up (by decide)).ex,(E5.up (by decide)).ex,(E7.up (by decide)).ex,(E2.up (by decide)).ex,trivial⟩) (zA fun ns _=>(aV _ _ (xa ns)).2)
theorem walk {l:PySem.W.OpenLaw} {q:Program} {loose:List Str} {XP:(Str -> Option Value) -> Heap -> Prop} {YP:World -> Heap -> Prop} {d:DefRec} {K:Params -> PySem.W.Frag} (hn:l.most = some 63) (L9:d.params.defaults = [])
  (hY:∀ (w:World) (h:Heap),YP w h -> (K w.params).In h)
  (F:∀ (w:World) (mg:Str -> Option Value) (fa:Addr) (h:Heap),(K w.params).In h -> h.Ns mainGlobals mg -> mg d.name = some (.ref fa) ->
   ∃ fd:FuncData,(∀ (s:Shared) (u:Value),BindsTo s fd ⟨[u],[]⟩ [("_law_script",u)]) /\ ∀ base:Heap,(K w.params).In base -> base.Ns mainGlobals mg -> jb l.prog w (K w.params) mg base A1 29 fa fd ["_law_script"] (D9 (K w.params) 1 rP)) :
  PySem.W.WalkO q loose XP YP l.row.toRowW d [] (fun f vs=>PySem.call f vs) :=
 L2.Bm (n:=63) (k:=29) (x:="_law_script") (CX:=fun _=>A1) (sp:=fun w=>D9 (K w.params) 1 rP) hn (by decide) L9 ⟨rfl,by decide,by decide⟩ hY F (fun w H a ns hl hO hS=>GU (K w.params) H a ns rP (Ct hl) hO hS) fun _ _ _ _ _ z=>z
end Asm
open PySem PySem.W PyProof.Rows
set_option maxRecDepth 100000 in
set_option maxHeartbeats 0 in
theorem PySem.Challenge.cw_sharesample_k05_shares_of_drawings_holds : PySem.Challenge.rw_sharesample_k05_shares_of_drawings.Holds := by
 w_on;o_law;k_head;(case hw=>w_witness2)
 k_fill
 refine Asm.walk (l:=PySem.Challenge.rw_sharesample_k05_shares_of_drawings) rfl rfl (fun w h Y=>PySem.W.kIn_of Y) ?F
 case F =>
  intro w mg fa h KX G hmg
  refine' Asm.all_mk KX G hmg ?a0 ?l0 ?c0 ?k0 ?a1 ?l1 ?c1 ?k1 ?a2 ?l2 ?c2 ?k2 ?a3 ?l3 ?c3 ?k3 ?a4 ?l4 ?c4 ?k4 ?a5 ?l5 ?c5 ?k5 ?a6 ?l6 ?c6 ?k6 ?a7 ?l7 ?c7 ?k7 ?a8 ?l8 ?c8 ?k8 ?a9 ?l9 ?c9 ?k9 ?a10 ?l10 ?c10 ?k10 ?a11 ?l11 ?c11 ?k11 ?a12 ?l12 ?c12 ?k12 ?a13 ?l13 ?c13 ?k13 ?a14 ?l14 ?c14 ?k14 ?a15 ?l15 ?c15 ?k15 ?a16 ?l16 ?c16 ?k16 ?a17 ?l17 ?c17 ?k17 ?a18 ?l18 ?c18 ?k18 ?a19 ?l19 ?c19 ?k19 ?a20 ?l20 ?c20 ?k20 ?a21 ?l21 ?c21 ?k21 ?a22 ?l22 ?c22 ?k22 ?a23 ?l23 ?c23 ?k23 ?a24 ?l24 ?c24 ?k24 ?a25 ?l25 ?c25 ?k25 ?a26 ?l26 ?c26 ?k26 ?a27 ?l27 ?c27 ?k27 ?z0 ?z1 ?z2 ?z3 ?z4 ?z5 ?z6 ?z7 ?z8 ?z9 ?z10 ?z11 ?z12 ?q0 ?r0
  (case a0=>k_is);(case l0=>k_is);(case c0=>k_is);(case k0=>k_is)
  (case a1=>k_is);(case l1=>k_is);(case c1=>k_is);(case k1=>k_is)
  (case a2=>k_is);(case l2=>k_is);(case c2=>k_is);(case k2=>k_is)
  (case a3=>k_is);(case l3=>k_is);(case c3=>k_is);(case k3=>k_is)
  (case a4=>k_is);(case l4=>k_is);(case c4=>k_is);(case k4=>k_is)
  (case a5=>k_is);(case l5=>k_is);(case c5=>k_is);(case k5=>k_is)
  (case a6=>k_is);(case l6=>k_is);(case c6=>k_is);(case k6=>k_is)
  (case a7=>k_is);(case l7=>k_is);(case c7=>k_is);(case k7=>k_is)
  (case a8=>k_is);(case l8=>k_is);(case c8=>k_is);(case k8=>k_is)
  (case a9=>k_is);(case l9=>k_is);(case c9=>k_is);(case k9=>k_is)
  (case a10=>k_is);(case l10=>k_is);(case c10=>k_is);(case k10=>k_is)
  (case a11=>k_is);(case l11=>k_is);(case c11=>k_is);(case k11=>k_is)
  (case a12=>k_is);(case l12=>k_is);(case c12=>k_is);(case k12=>k_is)
  (case a13=>k_is);(case l13=>k_is);(case c13=>k_is);(case k13=>k_is)
  (case a14=>k_is);(case l14=>k_is);(case c14=>k_is);(case k14=>k_is)
  (case a15=>k_is);(case l15=>k_is);(case c15=>k_is);(case k15=>k_is)
  (case a16=>k_is);(case l16=>k_is);(case c16=>k_is);(case k16=>k_is)
  (case a17=>k_is);(case l17=>k_is);(case c17=>k_is);(case k17=>k_is)
  (case a18=>k_is);(case l18=>k_is);(case c18=>k_is);(case k18=>k_is)
  (case a19=>k_is);(case l19=>k_is);(case c19=>k_is);(case k19=>k_is)
  (case a20=>k_is);(case l20=>k_is);(case c20=>k_is);(case k20=>k_is)
  (case a21=>k_is);(case l21=>k_is);(case c21=>k_is);(case k21=>k_is)
  (case a22=>k_is);(case l22=>k_is);(case c22=>k_is);(case k22=>k_is)
  (case a23=>k_is);(case l23=>k_is);(case c23=>k_is);(case k23=>k_is)
  (case a24=>k_is);(case l24=>k_is);(case c24=>k_is);(case k24=>k_is)
  (case a25=>k_is);(case l25=>k_is);(case c25=>k_is);(case k25=>k_is)
  (case a26=>k_is);(case l26=>k_is);(case c26=>k_is);(case k26=>k_is)
  (case a27=>k_is);(case l27=>k_is);(case c27=>k_is);(case k27=>k_is)
  (case z0=>k_is)
  (case z1=>k_is)
  (case z2=>k_is)
  (case z3=>k_is)
  (case z4=>k_is)
  (case z5=>k_is)
  (case z6=>k_is)
  (case z7=>k_is)
  (case z8=>k_is)
  (case z9=>k_is)
  (case z10=>k_is)
  (case z11=>k_is)
  (case z12=>k_is)
  (case q0=>k_is);(case r0=>exact ⟨_,rfl⟩)
