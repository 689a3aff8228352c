import PyProof.Rows.All
import Wide.All
import OpenK.AllK
import Wide.FinOn
import Lean
import PyProof.EqAt
import PyProof.EqKinds
import PyProof.TupleCall
import PyProof.NeKinds
import KE.BitLaws
import PyProof.SumWalkG
import PyProof.ConsumeWalk
import PyProof.WalksMore
import KE.KSortedM
import PyProof.Rows.SetFrom
import PyProof.CompUse
import PyProof.ZipIter
import PyProof.EnumMake
import KE.KSortTup
import PyProof.ListRange
import PyProof.SliceList
import PyProof.DictIter
import PyProof.Rows.DictUnroll
import KE.KDictSum
import PyProof.DictRoadsH
import PyProof.DictKinds
import PySem.Challenge.RW_sharesample_k23_spreads
set_option Elab.async false
set_option linter.all false
set_option maxRecDepth 100000
namespace L2
open PySem PySem.Spec PyProof.Rows
abbrev Key:=Sum Int Str
def Hb:Key -> Value -> Bool
 | .inl k,v=>Value.isInt k v
 | .inr x,v=>Value.isStrOf x v
def Vh (w:World):Key -> Int
 | .inl k=>hashInt k
 | .inr x=>hashStr w x
theorem bU:∀ {k:Key} {v:Value},Hb k v = true -> (∃ i t,k = Sum.inl i /\ v = Value.int i t) \/ (∃ x t,k = Sum.inr x /\ v = Value.str x t)
 | .inl i,v,h=>by
  obtain ⟨t,e⟩:=Value.isInt_shape (k:=i) (v:=v) h
  exact .inl ⟨i,t,rfl,e⟩
 | .inr x,v,h=>by
  obtain ⟨t,e⟩:=Value.isStrOf_shape (x:=x) (v:=v) h
  exact .inr ⟨x,t,rfl,e⟩
theorem JD (a b:Int):decide ((Sum.inl a:Key) = Sum.inl b) = (a == b):=by
 by_cases e:a = b
 ·subst e;simp
 ·have h:¬ (Sum.inl a:Key) = Sum.inl b:=fun q=>e (Sum.inl.inj q)
  rw [decide_eq_false h]
  exact (beq_eq_false_iff_ne.mpr e).symm
theorem JA (a b:Str):decide ((Sum.inr a:Key) = Sum.inr b) = decide (a = b):=by
 by_cases e:a = b
 ·subst e;simp
 ·have h:¬ (Sum.inr a:Key) = Sum.inr b:=fun q=>e (Sum.inr.inj q)
  rw [decide_eq_false h,decide_eq_false e]
theorem JC (a:Int) (b:Str):decide ((Sum.inl a:Key) = Sum.inr b) = false:=decide_eq_false (fun q=>nomatch q)
theorem JB (a:Str) (b:Int):decide ((Sum.inr a:Key) = Sum.inl b) = false:=decide_eq_false (fun q=>nomatch q)
def yw (prog:Program) (w:World):PySem.KeyKind prog w Key where
 is:=Hb
 hash:=Vh w
 inj:=fun v a b ha hb=>by
  rcases bU ha with ⟨i,t,rfl,rfl⟩ | ⟨x,t,rfl,rfl⟩
  ·rcases bU hb with ⟨j,u,rfl,e⟩ | ⟨y,u,rfl,e⟩
   ·injection e with e1 _;rw [e1]
   ·exact nomatch e
  ·rcases bU hb with ⟨j,u,rfl,e⟩ | ⟨y,u,rfl,e⟩
   ·exact nomatch e
   ·injection e with e1 _;rw [e1]
 byValue:=fun k v h=>by
  rcases bU h with ⟨i,t,rfl,rfl⟩ | ⟨x,t,rfl,rfl⟩ <;> rfl
 pyHash:=fun hv h=>by
  rcases bU hv with ⟨i,t,rfl,rfl⟩ | ⟨x,t,rfl,rfl⟩
  ·exact wpAny_pyHash_int h
  ·exact wpAny_pyHash_str h
 eqBool:=fun hu hv h=>by
  rcases bU hu with ⟨i,t,rfl,rfl⟩ | ⟨x,t,rfl,rfl⟩
  ·rcases bU hv with ⟨j,u,rfl,rfl⟩ | ⟨y,u,rfl,rfl⟩
   ·rw [JD] at h;exact wpAny_eqBool_int h
   ·rw [JC] at h;exact SeqAt.EqAt.int_str i t y u _ _ _ _ h
  ·rcases bU hv with ⟨j,u,rfl,rfl⟩ | ⟨y,u,rfl,rfl⟩
   ·rw [JB] at h;exact SeqAt.EqAt.str_int x t j u _ _ _ _ h
   ·rw [JA] at h;exact wpAny_eqBool_str h
 «strs»:=fun k x t v h=>by
  rcases bU h with ⟨i,u,rfl,e⟩ | ⟨y,u,rfl,e⟩
  ·exact nomatch e
  ·injection e with e1 _
   subst e1
   cases v <;> rfl
end L2
namespace L2
open PySem PySem.Spec PyProof.Rows
inductive V where
 | bC | bl (b:Bool) | int (i:Int) | str (x:Str) | Zf (b:Array UInt8) | OW (b:UInt64) | ref (a:Addr) | ty (n:String)
 deriving DecidableEq
def RelV:V -> Value -> Prop
 | .bC,u=>u = Value.none
 | .bl b,u=>u = Value.bool b
 | .int i,u=>∃ t,u = Value.int i t
 | .str x,u=>∃ t,u = Value.str x t
 | .Zf b,u=>∃ t,u = Value.bytes b t
 | .OW b,u=>∃ t,u = Value.float b t
 | .ref a,u=>u = Value.ref a
 | .ty n,u=>u = Value.type n
abbrev Vals:List V -> List Value -> Prop:=Paired RelV
theorem Vals.length {xs:List V} {us:List Value} (r:Vals xs us):xs.length = us.length:=Paired.length r
theorem Vals.get:∀ {xs:List V} {us:List Value} {i:Nat} {x:V},Vals xs us -> xs[i]? = some x -> ∃ u,us[i]? = some u /\ RelV x u
 | _,_,_,_,.nil,e=>by simp at e
 | _,_,0,_,.cons r _,e=>by simp at e;subst e;exact ⟨_,rfl,r⟩
 | _,_,i + 1,x,.cons _ t,e=>by
  obtain ⟨u,h1,h2⟩:=Vals.get (i:=i) (x:=x) t (by simpa using e)
  exact ⟨u,by simpa using h1,h2⟩
theorem Vals.set {x:V} {u:Value} (r:RelV x u):∀ {xs:List V} {us:List Value} (i:Nat),Vals xs us -> Vals (xs.set i x) (us.set i u)
 | _,_,_,.nil=>.nil
 | _,_,0,.cons _ t=>.cons r t
 | _,_,i + 1,.cons q t=>.cons q (Vals.set r i t)
theorem Vals.append:∀ {xs ys:List V} {us ws:List Value},Vals xs us -> Vals ys ws -> Vals (xs ++ ys) (us ++ ws)
 | _,_,_,_,.nil,s=>s
 | _,_,_,_,.cons r t,s=>.cons r (Vals.append t s)
theorem Vals.take:∀ {xs:List V} {us:List Value} (n:Nat),Vals xs us -> Vals (xs.take n) (us.take n)
 | _,_,0,_=>.nil
 | _,_,_ + 1,.nil=>.nil
 | _,_,n + 1,.cons r t=>.cons r (Vals.take n t)
theorem Vals.drop:∀ {xs:List V} {us:List Value} (n:Nat),Vals xs us -> Vals (xs.drop n) (us.drop n)
 | _,_,0,r=>r
 | _,_,_ + 1,.nil=>.nil
 | _,_,n + 1,.cons _ t=>Vals.drop n t
def p4:Option V -> Option Value -> Prop
 | some v,some u=>RelV v u
 | none,none=>True
 | _,_=>False
def KV {κ:Type}:List (κ × V) -> List (κ × Value) -> Prop:=Paired fun (p:κ × V) (q:κ × Value)=>p.1 = q.1 /\ RelV p.2 q.2
def kV:Key -> V
 | .inl i=>.int i
 | .inr x=>.str x
inductive HO where
 | lst (xs:List V)
 | tup (xs:List V)
 | dK (oU:List (Key × V)) | dT (oU:List (List Key × V))
 | set (S:Int -> Bool) (n:Nat)
 | ins (C dx:Addr) (fs:List (Str × V))
 | own (x:Addr)
 | xd (fs:List (Str × V))
 | met (f x:Addr)
 | mU (lo hi:Int)
 | ji (o:Obj) (u:HO)
 | GH (ps:Array Value)
 | ext (φ:Heap -> Prop)
abbrev Hp:=Addr -> Option HO
def upd (H:Hp) (a:Addr) (o:HO):Hp:=fun b=>if b = a then some o else H b
theorem aK {H:Hp} {a:Addr} {o:HO}:upd H a o a = some o:=by unfold upd;rw [if_pos rfl]
theorem aD {H:Hp} {a b:Addr} {o:HO} (h:b ≠ a):upd H a o b = H b:=by unfold upd;rw [if_neg h]
theorem cc {H:Hp} {a b:Addr} {o:HO} (h:H a = some o) (h':H b = none):a ≠ b:=by
 intro e;subst e;rw [h] at h';cases h'
section
variable (P:Program) (w:World)
def cN (H:Hp) (h:Heap) (a:Addr):HO -> Prop
 | .lst xs=>xs.length <= sizeLine /\ ∃ (aj:List Value) (n:Nat),Vals xs aj /\ h.get? a = some { cls:=.type "list",data:=.seq aj.toArray n }
 | .tup xs=>xs.length <= sizeLine /\ ∃ aj:List Value,Vals xs aj /\ IsTup h a aj.toArray
 | .dK oU=>oU.length <= sizeLine /\ (a == sysModules) = false /\ ∃ vs,KV oU vs /\ h.DictOf (yw P w) a vs
 | .dT oU=>oU.length <= sizeLine /\ (a == sysModules) = false /\ ∃ xs:List (List Key × Addr × Value),
   Paired (fun (p:List Key × V) (q:List Key × Addr × Value)=>p.1 = q.1 /\ H q.2.1 = some (.tup (p.1.map kV)) /\ RelV p.2 q.2.2) oU xs /\
   ∃ o es ep,h.get? a = some o /\ o.ExactDict /\ o.data = .dict es ep /\ es.toList = xs.map (entryOfKey (tupleKind (yw P w))) /\ (xs.map (·.1)).Nodup
 | .set S n=>h.SetOf (intKind P w) a S n
 | .ins C dx fs=>H dx = some (.own a) /\ fs.length <= 1000 /\ dx ≠ a /\ h.get? a = some (PySem.W.instObj C dx) /\
   ∃ mA,h.Ns1 dx mA /\ (∀ f,p4 (fs.lookup f) (mA f)) /\ PySem.Within mA (fs.map (·.1))
 | .own _=>∃ o,h.get? a = some o
 | .xd fs=>∃ mA,h.Ns1 a mA /\ ∀ f,p4 (fs.lookup f) (mA f)
 | .mU lo hi=>∃ t u v,h.get? a = some { cls:=.type "range",data:=.fields #[.int lo t,.int hi u,.int 1 v] }
 | .ji o u=>h.get? a = some o /\ cN H h a u
 | .GH ps=>h.get? a = some { cls:=.none,data:=.fields ps }
 | .met f x=>h.get? a = some (PySem.W.methodObj (.ref f) (.ref x))
 | .ext φ=>φ h /\ (∃ o,h.get? a = some o) /\ ∀ h1 h2:Heap,φ h1 -> (∀ o,h1.get? a = some o -> h2.get? a = some o) -> φ h2
def mv (H:Hp) (h:Heap):Prop:=∀ a o,H a = some o -> cN P w H h a o
end
section
variable {P:Program} {w:World} {H H':Hp} {h h':Heap} {a:Addr} {o:HO}
theorem cN.lt (x:cN P w H h a o):a < h.objs.size:=by
 cases o with
 | lst xs=>obtain ⟨_,_,_,_,e⟩:=x;exact Heap.lt_size e
 | tup xs=>obtain ⟨_,_,_,p⟩:=x;exact p.lt
 | dK oU=>obtain ⟨_,_,_,_,o,_,_,e,_⟩:=x;exact Heap.lt_size e
 | dT oU=>obtain ⟨_,_,_,_,o,_,_,e,_⟩:=x;exact Heap.lt_size e
 | set S n=>obtain ⟨o,_,_,_,e,_⟩:=x;exact Heap.lt_size e
 | ins C dx fs=>obtain ⟨_,_,_,e,_⟩:=x;exact Heap.lt_size e
 | own y=>obtain ⟨_,e⟩:=x;exact Heap.lt_size e
 | xd fs=>obtain ⟨_,⟨_,_,_,e,_⟩,_⟩:=x;exact Heap.lt_size e
 | mU lo hi=>obtain ⟨_,_,_,e⟩:=x;exact Heap.lt_size e
 | ji ob u=>obtain ⟨e,_⟩:=x;exact Heap.lt_size e
 | GH ps=>exact Heap.lt_size (show h.get? a = some _ from x)
 | met f y=>exact Heap.lt_size (show h.get? a = some _ from x)
 | ext φ=>obtain ⟨_,⟨_,e⟩,_⟩:=x;exact Heap.lt_size e
theorem Paired.NG {α β:Type} {F G:α -> β -> Prop}:∀ {l₁:List α} {l₂:List β},Paired F l₁ l₂ -> (∀ a b,F a b -> G a b) -> Paired G l₁ l₂
 | _,_,.nil,_=>.nil
 | _,_,.cons r t,f=>.cons (f _ _ r) (Paired.NG t f)
theorem cN.kP (x:cN P w H h a o) (k:∀ b u,(b = a \/ H b = some (.own a)) -> h.get? b = some u -> h'.get? b = some u)
  (ho:∀ b,H b = some (.own a) -> H' b = some (.own a)) (ht:∀ b xs,H b = some (.tup xs) -> H' b = some (.tup xs)):cN P w H' h' a o:=by
 induction o with
 | lst xs=>obtain ⟨z,aj,n,r,e⟩:=x;exact ⟨z,aj,n,r,k _ _ (.inl rfl) e⟩
 | tup xs=>obtain ⟨z,aj,r,ob,e,c⟩:=x;exact ⟨z,aj,r,ob,k _ _ (.inl rfl) e,c⟩
 | dK oU=>obtain ⟨z,y,vs,r,ob,es,ep,e,c⟩:=x;exact ⟨z,y,vs,r,ob,es,ep,k _ _ (.inl rfl) e,c⟩
 | dT oU =>
  obtain ⟨z,y,xs,r,ob,es,ep,e,c⟩:=x
  exact ⟨z,y,xs,Paired.NG r fun p q z=>⟨z.1,ht _ _ z.2.1,z.2.2⟩,ob,es,ep,k _ _ (.inl rfl) e,c⟩
 | set S n=>obtain ⟨ob,es,ep,t,e,c⟩:=x;exact ⟨ob,es,ep,t,k _ _ (.inl rfl) e,c⟩
 | ins C dx fs =>
  obtain ⟨d,z,ne,e,mA,⟨od,es,ep,e2,c⟩,r⟩:=x
  exact ⟨ho _ d,z,ne,k _ _ (.inl rfl) e,mA,⟨od,es,ep,k _ _ (.inr d) e2,c⟩,r⟩
 | own y=>obtain ⟨ob,e⟩:=x;exact ⟨ob,k _ _ (.inl rfl) e⟩
 | xd fs=>obtain ⟨mA,⟨od,es,ep,e,c⟩,r⟩:=x;exact ⟨mA,⟨od,es,ep,k _ _ (.inl rfl) e,c⟩,r⟩
 | mU lo hi=>obtain ⟨t,u,v,e⟩:=x;exact ⟨t,u,v,k _ _ (.inl rfl) e⟩
 | ji ob u ih=>obtain ⟨e,q⟩:=x;exact ⟨k _ _ (.inl rfl) e,ih q⟩
 | GH ps =>
  have e:h.get? a = some { cls:=.none,data:=.fields ps }:=x
  show h'.get? a = some { cls:=.none,data:=.fields ps }
  exact k a _ (.inl rfl) e
 | met f y =>
  have e:h.get? a = some (PySem.W.methodObj (.ref f) (.ref y)):=x
  show h'.get? a = some (PySem.W.methodObj (.ref f) (.ref y))
  exact k a _ (.inl rfl) e
 | ext φ=>obtain ⟨p,⟨o,e⟩,st⟩:=x;exact ⟨st _ _ p fun o q=>k _ _ (.inl rfl) q,⟨o,k _ _ (.inl rfl) e⟩,st⟩
theorem mv.lt (x:mv P w H h) (e:H a = some o):a < h.objs.size:=(x a o e).lt
theorem mv.fresh (x:mv P w H h) (e:h.objs.size <= a):H a = none:=by
 cases q:H a with
 | none=>rfl
 | some u=>exact absurd (Nat.lt_of_lt_of_le (x.lt q) e) (Nat.lt_irrefl _)
theorem mv.kept (x:mv P w H h) (k:∀ b u,h.get? b = some u -> h'.get? b = some u):mv P w H h':=fun a o e =>
 (x a o e).kP (fun b u _ q=>k b u q) (fun _ q=>q) fun _ _ q=>q
theorem mv.laid (x:mv P w H h) (k:∀ b u,h.get? b = some u -> h'.get? b = some u) (hp:h.objs.size <= a) (new:cN P w (upd H a o) h' a o):mv P w (upd H a o) h':=fun b u e=>by
 have hn:=x.fresh hp
 by_cases hb:b = a
 ·subst hb;rw [aK] at e;cases e;exact new
 ·rw [aD hb] at e
  exact (x b u e).kP (fun c v _ q=>k c v q) (fun c q=>by rw [aD (cc q hn)];exact q) fun c xs q=>by rw [aD (cc q hn)];exact q
end
def Rd (H:Hp) (a:Addr) (u:HO):Prop:=H a = some u \/ ∃ o,H a = some (.ji o u)
theorem Rd.ok {P:Program} {w:World} {H:Hp} {h:Heap} {a:Addr} {u:HO} (r:Rd H a u) (x:mv P w H h):cN P w H h a u:=by
 rcases r with r | ⟨o,r⟩
 ·exact x a u r
 ·obtain ⟨_,q⟩:=x a _ r
  exact q
def Rl:Option HO -> Prop
 | some (.lst _)=>True
 | some (.dK _)=>True
 | some (.dT _)=>True
 | some (.set _ _)=>True
 | some (.ins _ _ _)=>True
 | some (.ext _)=>True
 | _=>False
section
variable {P:Program} {w:World} {H:Hp} {h h':Heap} {x e:Addr} {o':HO}
theorem mv.write (ok:mv P w H h) (mu:Rl (H x)) (he:e = x \/ H e = some (.own x)) (k:∀ b u,b ≠ e -> h.get? b = some u -> h'.get? b = some u) (LZ:∃ u,h'.get? e = some u)
  (new:cN P w (upd H x o') h' x o'):mv P w (upd H x o') h':=fun b u q=>by
 have Nx:∀ c y,H c = some (.own y) -> c ≠ x:=fun c y r z=>by subst z;rw [r] at mu;exact mu
 have U8:∀ c xs,H c = some (.tup xs) -> c ≠ x:=fun c xs r z=>by subst z;rw [r] at mu;exact mu
 by_cases hb:b = x
 ·subst hb;rw [aK] at q;cases q;exact new
 ·rw [aD hb] at q
  by_cases J5:b = e
  ·have q':H b = some (.own x):=by
    rcases he with z | z
    ·exact absurd (J5.trans z) hb
    ·rw [J5];exact z
   rw [q] at q';cases q'
   obtain ⟨v,hv⟩:=LZ
   exact ⟨v,by rw [J5];exact hv⟩
  ·refine (ok b u q).kP (fun c v hc r=>k c v ?_ r) (fun c r=>by rw [aD (Nx c b r)];exact r) fun c xs r=>by rw [aD (U8 c xs r)];exact r
   rcases hc with rfl | hc
   ·exact J5
   ·rintro rfl
    rcases he with z | z
    ·exact Nx c b hc z
    ·rw [hc] at z;cases z;exact hb rfl
end
structure Un (fs ex:List Addr) (H H':Hp) (h h':Heap):Prop where
 keep:∀ b o,h.get? b = some o -> H b = none -> b ∉ fs -> b ∉ ex -> h'.get? b = some o
 slot:∀ b o,h.get? b = some o -> H b = none -> b ∈ fs -> b ∉ ex -> ∃ sl,h'.get? b = some { o with slots:=sl }
 free:∀ b o,h.get? b = some o -> H b = none -> b ∉ ex -> H' b = none
 there:∀ b o,h.get? b = some o -> b ∉ ex -> ∃ o',h'.get? b = some o'
 so:∀ b xs,H b = some (.tup xs) -> H' b = some (.tup xs)
 qH:∀ b o u,H b = some (.ji o u) -> H' b = some (.ji o u)
 su:∀ b ps,H b = some (.GH ps) -> ∃ more,H' b = some (.GH (ps ++ more))
section
variable {fs fs' ex OZ:List Addr} {H H1 H2:Hp} {h h1 h2 h':Heap} {a x e:Addr} {o:HO}
theorem Un.any (u:Un fs ex H H1 h h1) {b:Addr} {ob:Obj} (q:h.get? b = some ob) (n:H b = none) (hx:b ∉ ex):∃ sl,h1.get? b = some { ob with slots:=sl }:=by
 by_cases hb:b ∈ fs
 ·exact u.slot b ob q n hb hx
 ·exact ⟨ob.slots,u.keep b ob q n hb hx⟩
theorem Un.kept (k:∀ b u,h.get? b = some u -> h'.get? b = some u):Un fs ex H H h h' :=
 ⟨fun b ob q _ _ _=>k b ob q,fun b ob q _ _ _=>⟨ob.slots,k b ob q⟩,fun _ _ _ n _=>n,fun b ob q _=>⟨ob,k b ob q⟩,fun _ _ q=>q,fun _ _ _ q=>q,fun _ ps q=>⟨#[],by rw [q];simp⟩⟩
theorem Un.refl:Un fs ex H H h h:=Un.kept fun _ _ q=>q
theorem Un.laid (k:∀ b u,h.get? b = some u -> h'.get? b = some u) (hp:h.objs.size <= a) (hn:H a = none):Un fs ex H (upd H a o) h h' where
 keep:=fun b u q _ _ _=>k b u q
 slot:=fun b u q _ _ _=>⟨u.slots,k b u q⟩
 free:=fun b u q n _=>by rw [aD (Nat.ne_of_lt (Nat.lt_of_lt_of_le (Heap.lt_size q) hp))];exact n
 there:=fun b u q _=>⟨u,k b u q⟩
 so:=fun b xs q=>by rw [aD (cc q hn)];exact q
 qH:=fun b u xs q=>by rw [aD (cc q hn)];exact q
 su:=fun b ps q=>⟨#[],by rw [aD (cc q hn),q];simp⟩
theorem Un.write (mu:Rl (H x)) (he:e = x \/ H e = some (.own x)) (k:∀ b u,b ≠ e -> h.get? b = some u -> h'.get? b = some u) (LZ:∃ u,h'.get? e = some u):Un fs ex H (upd H x o) h h':=by
 have hx:∀ b,H b = none -> b ≠ x:=fun b n z=>by subst z;rw [n] at mu;exact mu
 have hb:∀ b,H b = none -> b ≠ e:=fun b n z=>by
  subst z
  rcases he with r | r
  ·exact hx b n r
  ·rw [n] at r;cases r
 have hm:∀ b u,H b = some u -> ¬ Rl (some u) -> b ≠ x:=fun b u q nm z=>by subst z;rw [q] at mu;exact nm mu
 refine ⟨fun b u q n _ _=>k b u (hb b n) q,fun b u q n _ _=>⟨u.slots,k b u (hb b n) q⟩,fun b u q n _=>by rw [aD (hx b n)];exact n,fun b u q _=>?_,
  fun b xs q=>by rw [aD (hm b _ q fun z=>z)];exact q,fun b u xs q=>by rw [aD (hm b _ q fun z=>z)];exact q,fun b ps q=>⟨#[],by rw [aD (hm b _ q fun z=>z),q];simp⟩⟩
 by_cases J5:b = e
 ·subst J5;exact LZ
 ·exact ⟨u,k b u J5 q⟩
end
def Qn (h:Heap) (H:Hp):List Addr:=(List.range h.objs.size).filter fun a=>(H a).isSome
def tm (h:Heap) (H:Hp):Heap:=PySem.W.hideAll h (Qn h H)
theorem Ap (h:Heap) (H:Hp):(tm h H).objs.size = h.objs.size:=PySem.W.hideAll_size _ _
theorem CH {h:Heap} {H:Hp} {b:Addr} {o:Obj} (e:h.get? b = some o) (n:H b = none):(tm h H).get? b = some o :=
 PySem.W.hideAll_get _ e fun hm=>by
  have q:(H b).isSome = true:=(List.mem_filter.mp hm).2
  rw [n] at q;simp at q
theorem EU {h:Heap} {H:Hp} {b:Addr} {o:Obj} (e:(tm h H).get? b = some o):h.get? b = some o /\ H b = none:=by
 have e':h.get? b = some o:=PySem.W.of_hideAll (Qn h H) e
 refine ⟨e',?_⟩
 cases q:H b with
 | none=>rfl
 | some x =>
  have hm:b ∈ Qn h H:=List.mem_filter.mpr ⟨List.mem_range.mpr (Heap.lt_size e'),by simp [q]⟩
  have z:(tm h H).get? b = none:=PySem.W.hideAll_none (Qn h H) hm
  rw [z] at e;cases e
def Gq (g h:Heap) (L:Addr):List (Addr × Obj):=(List.range h.objs.size).filterMap fun a=>if a = L \/ (g.get? a).isSome = true then none else (h.get? a).map fun o=>(a,o)
def rest (g h:Heap) (L d:Addr):List (Addr × Obj):=(Gq g h L).filter fun p=>decide (p.1 ≠ d)
end L2
namespace L2
open PySem PySem.Spec PyProof.Rows
structure Mod (K:PySem.W.Frag) (mg:Str -> Option Value) (base:Heap):Prop where
 Vg:K.In base
 glob:base.Ns mainGlobals mg
 blt:∃ mb,base.Ns builtinsNs mb /\ ∀ x:Str,x ≠ "__name__" -> mb x = bootBuiltins x
 nolimit:base.NoLimit
structure Cx where
 prog:Program
 w:World
 K:PySem.W.Frag
 mg:Str -> Option Value
 base:Heap
 A:Around
 N:List Str
 s₀:Shared
 H₀:Hp
 env:Env
 outer:List Env
 stack:List Env
 ex:List Addr
 fn:Str -> Bool
 calm:Bool
 pn:List (Addr × Obj)
 xe:Value -> Shared -> Prop
def A6 (l:List Env):List Addr:=l.filterMap (·.frame)
abbrev Cx.fs (X:Cx):List Addr:=A6 X.outer
def Lp (sc:Scope) (x:Str):Prop:=sc.names.lookup x = some .local \/ sc.names.lookup x = some .cell \/ sc.names.lookup x = some .free
def Loc (sc:Scope) (x:Str):Prop:=sc.names.lookup x = some .local \/ sc.names.lookup x = some .cell
def Look (env:Env) (h:Heap) (m:Str -> Option Value) (x:Str) (u:Value):Prop :=
 (env.kindOf x = some .local /\ m x = some u) \/ ((env.kindOf x = some .cell \/ env.kindOf x = some .free) /\ ∃ c,env.cells.lookup x = some c /\ h.IsCell c (some u))
structure Cx.Ok (X:Cx):Prop where
 mod:Mod X.K X.mg X.base
 kind:X.env.scope.kind = .function
 glob:X.env.globals = mainGlobals
 blt:X.env.builtins = builtinsNs
 above:X.s₀.heap.objs.size <= X.env.locals
 inj:∀ x y c,X.env.cells.lookup x = some c -> X.env.cells.lookup y = some c -> x = y
 has:∀ x,(X.env.kindOf x = some .cell \/ X.env.kindOf x = some .free) -> ∃ c,X.env.cells.lookup x = some c
 PZ:∀ x c,X.fn x = true -> X.env.cells.lookup x = some c -> X.s₀.heap.objs.size <= c
 hd:X.calm = true -> X.A.handled = none
 frames:X.A.frames = some X.stack
 Qr:X.stack = X.outer \/ (X.stack = X.env :: X.outer /\ X.env.frame = some X.env.locals)
 exf:∀ b ∈ X.ex,b ≠ X.env.locals /\ ∀ x c,X.env.cells.lookup x = some c -> c ≠ b
 bs:∀ b o,X.base.get? b = some o -> X.s₀.heap.get? b = some o /\ X.H₀ b = none
 Hx:X.base.objs.size <= X.s₀.heap.objs.size
 B_:∀ b o,X.base.get? b = some o -> b ∉ X.ex
 FK:∀ b ∈ X.ex,b ∉ X.fs
 mZ:X.s₀.heap.FunFrames X.base X.outer
 L7:∀ b ∈ X.fs,X.H₀ b = none
structure Inv (X:Cx) (pins:List (Addr × Obj)) (σ:List (Option V)) (H:Hp) (s:Shared):Prop where
 ok:X.Ok
 os:s.os = X.s₀.os
 bare:AllBare s.gens
 base:Un X.fs X.ex X.H₀ H X.s₀.heap s.heap
 loc:∃ m,s.heap.Ns X.env.locals m /\ ∀ (i:Nat) (x:Str) (v:V),X.N[i]? = some x -> σ[i]? = some (some v) -> Lp X.env.scope x -> ∃ u,RelV v u /\ Look X.env s.heap m x u
 cell:∀ x c,X.env.cells.lookup x = some c -> ∃ v,s.heap.IsCell c v
 free:H X.env.locals = none
 j7:∀ x c,X.env.cells.lookup x = some c -> H c = none
 pin:∀ p ∈ X.pn ++ pins,s.heap.get? p.1 = some p.2 /\ H p.1 = none /\ p.1 ≠ X.env.locals /\ p.1 ∉ X.fs /\ ∀ v,p.2.data ≠ .cell v
 dq:mv X.prog X.w H s.heap
 len:σ.length = X.N.length
section
variable {X:Cx} {pins:List (Addr × Obj)} {σ:List (Option V)} {H H':Hp} {s:Shared} {h':Heap}
theorem Cx.Ok.U9 (ok:X.Ok) {b:Addr} {o:Obj} (e:X.base.get? b = some o):b ∉ X.fs:=fun hb=>by
 have:=(ok.mZ.mem hb).1
 rw [e] at this;cases this
theorem Inv.bs (I:Inv X pins σ H s):∀ b o,X.base.get? b = some o -> s.heap.get? b = some o /\ H b = none:=fun b o e =>
 ⟨I.base.keep b o (I.ok.bs b o e).1 (I.ok.bs b o e).2 (I.ok.U9 e) (I.ok.B_ b o e),I.base.free b o (I.ok.bs b o e).1 (I.ok.bs b o e).2 (I.ok.B_ b o e)⟩
theorem Inv.bk (I:Inv X pins σ H s):∀ b o,X.base.get? b = some o -> s.heap.get? b = some o:=fun b o e=>(I.bs b o e).1
theorem Inv.mod (I:Inv X pins σ H s):Mod X.K X.mg X.base:=I.ok.mod
theorem Inv.A2 (I:Inv X pins σ H s):X.K.In s.heap:=I.ok.mod.Vg.keeps I.bk
theorem Inv.lt (I:Inv X pins σ H s):X.env.locals < s.heap.objs.size:=let ⟨_,hn,_⟩:=I.loc;hn.lt
theorem Inv.sz (I:Inv X pins σ H s):X.s₀.heap.objs.size <= s.heap.objs.size:=Nat.le_trans I.ok.above (Nat.le_of_lt I.lt)
theorem Inv.Ji (I:Inv X pins σ H s) {a:Addr} (h:s.heap.objs.size <= a):a ∉ X.fs:=fun hb=>by
 obtain ⟨_,o,ho,_⟩:=I.ok.mZ.mem hb
 exact absurd (Nat.lt_of_lt_of_le (Heap.lt_size ho) (Nat.le_trans I.sz h)) (Nat.lt_irrefl _)
theorem Inv.Lc (I:Inv X pins σ H s):∀ x c,X.env.cells.lookup x = some c -> c ≠ X.env.locals:=fun x c e z=>by
 obtain ⟨v,o,ho,hd⟩:=I.cell x c e
 obtain ⟨m,⟨o',es,ep,gM,J2,_⟩,_⟩:=I.loc
 rw [z,gM] at ho;cases ho;rw [J2] at hd;cases hd
theorem Inv.mZ (I:Inv X pins σ H s):s.heap.FunFrames X.base X.outer:=by
 have all:∀ (l:List Env),(∀ b ∈ A6 l,b ∈ X.fs) -> X.s₀.heap.FunFrames X.base l -> s.heap.FunFrames X.base l:=by
  intro l
  induction l with
  | nil=>intro _ _;trivial
  | cons env r ih =>
   intro hs hl
   obtain ⟨hk,⟨L,o,hf,hn,ho,hd⟩,hr⟩:=hl
   have hL:L ∈ X.fs:=hs L (by unfold A6;rw [List.filterMap_cons,hf];exact List.mem_cons_self)
   obtain ⟨sl,e⟩:=I.base.slot L o ho (I.ok.L7 L hL) hL fun z=>I.ok.FK L z hL
   exact ⟨hk,⟨L,_,hf,hn,e,hd⟩,ih (fun b hb=>hs b (by unfold A6;rw [List.filterMap_cons,hf];exact List.mem_cons_of_mem _ hb)) hr⟩
 exact all X.outer (fun _ hb=>hb) I.ok.mZ
theorem Inv.stack (I:Inv X pins σ H s):s.heap.FunFrames X.base X.stack:=by
 rcases I.ok.Qr with e | ⟨e,hf⟩
 ·rw [e];exact I.mZ
 ·rw [e]
  obtain ⟨m,hn,_⟩:=I.loc
  refine .cons (by rw [I.ok.kind];decide) hf hn ?_ I.mZ
  exact Heap.get?_none_of_le (Nat.le_trans I.ok.Hx I.ok.above)
theorem Inv.lK (I:Inv X pins σ H s):∀ b ∈ A6 X.stack,b ∈ X.env.locals :: X.fs:=fun b hb=>by
 rcases I.ok.Qr with e | ⟨e,hf⟩
 ·rw [e] at hb;exact List.mem_cons_of_mem _ hb
 ·rw [e] at hb
  unfold A6 at hb
  rw [List.filterMap_cons,hf] at hb
  exact hb
theorem Inv.x6 (I:Inv X pins σ H s):∀ b ∈ A6 X.stack,H b = none:=fun b hb=>by
 rcases List.mem_cons.mp (I.lK b hb) with e | hb
 ·rw [e];exact I.free
 ·obtain ⟨_,o,ho,_⟩:=I.ok.mZ.mem hb
  exact I.base.free b o ho (I.ok.L7 b hb) fun z=>I.ok.FK b z hb
theorem Inv.step {g':Array GenState} {t':Nat} {d':Drawn} {ch:List Addr} (I:Inv X pins σ H s)
  (DK:∀ b ∈ ch,(b ∈ X.ex \/ X.s₀.heap.objs.size <= b) /\ b ≠ X.env.locals /\ (∀ x c,X.env.cells.lookup x = some c -> c ≠ b) /\ ∀ p ∈ X.pn ++ pins,p.1 ≠ b)
  (keep:∀ b o,b ≠ X.env.locals -> b ∉ X.fs -> b ∉ ch -> s.heap.get? b = some o -> H b = none -> h'.get? b = some o)
  (slot:∀ b o,b ≠ X.env.locals -> b ∈ X.fs -> b ∉ ch -> s.heap.get? b = some o -> H b = none -> ∃ sl,h'.get? b = some { o with slots:=sl }) (free:∀ b o,b ∉ ch -> s.heap.get? b = some o -> H b = none -> H' b = none)
  (there:∀ b o,b ∉ ch -> s.heap.get? b = some o -> ∃ o',h'.get? b = some o')
  (so:∀ b xs,H b = some (.tup xs) -> H' b = some (.tup xs)) (qH:∀ b o u,H b = some (.ji o u) -> H' b = some (.ji o u)) (su:∀ b ps,H b = some (.GH ps) -> ∃ more,H' b = some (.GH (ps ++ more)))
  (ns:∀ m,s.heap.Ns X.env.locals m -> h'.Ns X.env.locals m) (dq:mv X.prog X.w H' h') (hg:AllBare g') :
  Inv X pins σ H' { s with heap:=h',gens:=g',drawn:=d',toks:=t' }:=by
 have neL:∀ b o,X.s₀.heap.get? b = some o -> b ≠ X.env.locals:=fun b o e=>Nat.ne_of_lt (Nat.lt_of_lt_of_le (Heap.lt_size e) I.ok.above)
 have Ha:∀ b o,X.s₀.heap.get? b = some o -> b ∉ X.ex -> b ∉ ch:=fun b o e hx hb=>by
  rcases (DK b hb).1 with z | z
  ·exact hx z
  ·exact absurd (Nat.lt_of_lt_of_le (Heap.lt_size e) z) (Nat.lt_irrefl _)
 have cellK:∀ x c,X.env.cells.lookup x = some c -> ∀ v,s.heap.IsCell c v -> h'.IsCell c v:=fun x c e v ⟨o,ho,hd⟩=>by
  have NC:c ∉ ch:=fun z=>(DK c z).2.2.1 x c e rfl
  by_cases hc:c ∈ X.fs
  ·obtain ⟨sl,q⟩:=slot c o (I.Lc x c e) hc NC ho (I.j7 x c e)
   exact ⟨_,q,hd⟩
  ·exact ⟨o,keep c o (I.Lc x c e) hc NC ho (I.j7 x c e),hd⟩
 refine ⟨I.ok,I.os,hg,⟨fun b o e n hb hx=>?_,fun b o e n hb hx=>?_,fun b o e n hx=>?_,fun b o e hx=>?_,fun b xs e=>so b xs (I.base.so b xs e),fun b o xs e=>qH b o xs (I.base.qH b o xs e),fun b ps e=>?_⟩,?_,fun x c e=>?_,?_,fun x c e=>?_,fun p hp=>?_,dq,I.len⟩
 ·exact keep b o (neL b o e) hb (Ha b o e hx) (I.base.keep b o e n hb hx) (I.base.free b o e n hx)
 ·obtain ⟨sl,e1⟩:=I.base.slot b o e n hb hx
  obtain ⟨sl',e2⟩:=slot b _ (neL b o e) hb (Ha b o e hx) e1 (I.base.free b o e n hx)
  exact ⟨sl',e2⟩
 ·obtain ⟨o',e1⟩:=I.base.there b o e hx
  exact free b o' (Ha b o e hx) e1 (I.base.free b o e n hx)
 ·obtain ⟨o',e1⟩:=I.base.there b o e hx
  exact there b o' (Ha b o e hx) e1
 ·obtain ⟨m1,e1⟩:=I.base.su b ps e
  obtain ⟨m2,e2⟩:=su b _ e1
  exact ⟨m1 ++ m2,by rw [e2,Array.append_assoc]⟩
 ·obtain ⟨m,hn,hl⟩:=I.loc
  refine ⟨m,ns m hn,fun i x v e1 e2 e3=>?_⟩
  obtain ⟨u,r,l⟩:=hl i x v e1 e2 e3
  refine ⟨u,r,?_⟩
  rcases l with l | ⟨k,c,e,z⟩
  ·exact .inl l
  ·exact .inr ⟨k,c,e,cellK x c e _ z⟩
 ·obtain ⟨v,z⟩:=I.cell x c e
  exact ⟨v,cellK x c e v z⟩
 ·obtain ⟨m,⟨o,_,_,ho,_⟩,_⟩:=I.loc
  exact free _ o (fun z=>(DK _ z).2.1 rfl) ho I.free
 ·obtain ⟨v,o,ho,hd⟩:=I.cell x c e
  exact free c o (fun z=>(DK c z).2.2.1 x c e rfl) ho (I.j7 x c e)
 ·obtain ⟨e,n,ne,nf,d⟩:=I.pin p hp
  have NC:p.1 ∉ ch:=fun z=>(DK p.1 z).2.2.2 p hp rfl
  exact ⟨keep p.1 p.2 ne nf NC e n,free p.1 p.2 NC e n,ne,nf,d⟩
theorem Inv.un {t':Nat} (I:Inv X pins σ H s) (u:Un X.fs [] H H' s.heap h') (dq:mv X.prog X.w H' h'):Inv X pins σ H' { s with heap:=h',toks:=t' }:=by
 obtain ⟨m,⟨o,es,ep,ho,r⟩,_⟩:=id I.loc
 obtain ⟨sl,hL⟩:=u.any ho I.free (by simp)
 exact I.step (g':=s.gens) (d':=s.drawn) (ch:=[]) (fun _ z=>nomatch z) (fun b o _ hb _ e n=>u.keep b o e n hb (by simp)) (fun b o _ hb _ e n=>u.slot b o e n hb (by simp)) (fun b o _ e n=>u.free b o e n (by simp)) (fun b o _ e=>u.there b o e (by simp)) u.so u.qH u.su (fun m' hm=>by
  obtain ⟨o',L9,zc,gM,r'⟩:=hm
  rw [ho] at gM;cases gM
  exact ⟨_,L9,zc,hL,r'⟩) dq I.bare
theorem Inv.call {g':Array GenState} {t':Nat} {d':Drawn} {ch:List Addr} (I:Inv X pins σ H s) (u:Un (A6 X.stack) ch H H' s.heap h') (dq:mv X.prog X.w H' h') (hg:AllBare g')
  (DK:∀ b ∈ ch,(b ∈ X.ex \/ X.s₀.heap.objs.size <= b) /\ b ≠ X.env.locals /\ (∀ x c,X.env.cells.lookup x = some c -> c ≠ b) /\ ∀ p ∈ X.pn ++ pins,p.1 ≠ b) :
  Inv X pins σ H' { s with heap:=h',gens:=g',drawn:=d',toks:=t' }:=by
 obtain ⟨m,⟨o,es,ep,ho,r⟩,_⟩:=id I.loc
 obtain ⟨sl,hL⟩:=u.any ho I.free fun z=>(DK _ z).2.1 rfl
 exact I.step (ch:=ch) DK (fun b o hL hb hc e n=>u.keep b o e n (fun z=>(List.mem_cons.mp (I.lK b z)).elim hL hb) hc) (fun b o _ _ hc e n=>u.any e n hc) (fun b o hc e n=>u.free b o e n hc) (fun b o hc e=>u.there b o e hc) u.so u.qH u.su (fun m' hm=>by
  obtain ⟨o',L9,zc,gM,r'⟩:=hm
  rw [ho] at gM;cases gM
  exact ⟨_,L9,zc,hL,r'⟩) dq hg
theorem Inv.turned {t':Nat} {it:Addr} (I:Inv X pins σ H s) (k:∀ b o,b ≠ it -> s.heap.get? b = some o -> h'.get? b = some o) (hn:H it = none) (hL:it ≠ X.env.locals)
  (h1:it ∈ X.ex \/ X.s₀.heap.objs.size <= it) (h2:∀ x c,X.env.cells.lookup x = some c -> c ≠ it) (h3:∀ p ∈ X.pn ++ pins,p.1 ≠ it):Inv X pins σ H { s with heap:=h',toks:=t' }:=by
 have G_:∀ b u,H b = some u -> b ≠ it:=fun b u e z=>by rw [z,hn] at e;cases e
 refine I.step (g':=s.gens) (d':=s.drawn) (ch:=[it]) (fun b hb=>?_) (fun b o _ _ hc e _=>k b o (fun z=>hc (by simp [z])) e) (fun b o _ _ hc e _=>⟨o.slots,k b o (fun z=>hc (by simp [z])) e⟩) (fun _ _ _ _ n=>n)
  (fun b o hc e=>⟨o,k b o (fun z=>hc (by simp [z])) e⟩) (fun _ _ e=>e) (fun _ _ _ e=>e) (fun b ps e=>⟨#[],by rw [e];simp⟩) (fun m hm=>?_) (fun b u e=>?_) I.bare
 ·have e:b = it:=by simpa using hb
  subst e
  exact ⟨h1,hL,h2,h3⟩
 ·obtain ⟨o,es,ep,ho,r⟩:=hm
  exact ⟨o,es,ep,k _ o (Ne.symm hL) ho,r⟩
 ·refine (I.dq b u e).kP (fun c v hc q=>k c v ?_ q) (fun _ q=>q) fun _ _ q=>q
  rcases hc with z | z
  ·rw [z];exact G_ b u e
  ·exact G_ c _ z
theorem Inv.tok (I:Inv X pins σ H s) (t:Nat):Inv X pins σ H { s with toks:=t }:=I.un (h':=s.heap) (t':=t) Un.refl I.dq
theorem Inv.kept {t':Nat} (I:Inv X pins σ H s) (k:∀ b u,s.heap.get? b = some u -> h'.get? b = some u):Inv X pins σ H { s with heap:=h',toks:=t' }:=I.un (Un.kept k) (I.dq.kept k)
theorem Inv.laid {a:Addr} {o:HO} {t':Nat} (I:Inv X pins σ H s) (k:∀ b u,s.heap.get? b = some u -> h'.get? b = some u) (hp:s.heap.objs.size <= a) (new:cN X.prog X.w (upd H a o) h' a o) :
  Inv X pins σ (upd H a o) { s with heap:=h',toks:=t' }:=I.un (Un.laid k hp (I.dq.fresh hp)) (I.dq.laid k hp new)
theorem Inv.write {x e:Addr} {o:HO} {t':Nat} (I:Inv X pins σ H s) (mu:Rl (H x)) (he:e = x \/ H e = some (.own x)) (k:∀ b u,b ≠ e -> s.heap.get? b = some u -> h'.get? b = some u) (LZ:∃ u,h'.get? e = some u)
  (new:cN X.prog X.w (upd H x o) h' x o):Inv X pins σ (upd H x o) { s with heap:=h',toks:=t' }:=I.un (Un.write mu he k LZ) (I.dq.write mu he k LZ new)
theorem Inv.jK {G5:List (Addr × Obj)} (I:Inv X pins σ H s) (h:∀ p ∈ G5,s.heap.get? p.1 = some p.2 /\ H p.1 = none /\ p.1 ≠ X.env.locals /\ p.1 ∉ X.fs /\ ∀ v,p.2.data ≠ .cell v):Inv X G5 σ H s :=
 ⟨I.ok,I.os,I.bare,I.base,I.loc,I.cell,I.free,I.j7,fun p hp=>(List.mem_append.mp hp).elim (fun z=>I.pin p (List.mem_append_left _ z)) (h p),I.dq,I.len⟩
theorem vd {N:List Str} (hN:N.Nodup) {i j:Nat} {x:Str} (a:N[i]? = some x) (b:N[j]? = some x):i = j:=by
 obtain ⟨h1,e1⟩:=List.getElem?_eq_some_iff.mp a
 obtain ⟨h2,e2⟩:=List.getElem?_eq_some_iff.mp b
 exact (List.getElem_inj hN).mp (e1.trans e2.symm)
theorem zK {M:Model} {A:Around} {E:Value -> Shared -> Prop} {i:Nat} {x:Str} {v:V} {u:Value} {Q:Unit -> Shared -> Prop} (I:Inv X pins σ H s) (hN:X.N.Nodup) (hi:X.N[i]? = some x) (hx:Loc X.env.scope x) (r:RelV v u)
  (h:∀ s',Inv X pins (σ.set i (some v)) H s' -> (∃ a,Heap.SameBut a s.heap s'.heap /\ (a = X.env.locals \/ X.env.cells.lookup x = some a)) -> Q () s') (hf:X.fn x = true \/ X.env.scope.names.lookup x = some .local:=by first | exact .inl rfl | exact .inr rfl | assumption):wpAny M A (storeName X.env x u) Q E s:=by
 obtain ⟨m,hn,hl⟩:=id I.loc
 have WH:(X.env.scope.kind == .class || (X.env.scope.kind == .module && X.env.locals != X.env.globals)) = false:=by rw [I.ok.kind];rfl
 have Ol:i < σ.length:=by rw [I.len];exact (List.getElem?_eq_some_iff.mp hi).1
 have Lc:=I.Lc
 have tracked:∀ {a:Addr} {h':Heap},(∃ o,s.heap.get? a = some o /\ H a = none) -> Heap.SameBut a s.heap h' -> mv X.prog X.w H h':=fun {a h'} ha hs b ob e=>by
  obtain ⟨_,_,Hk⟩:=ha
  refine (I.dq b ob e).kP (fun c w' hc q=>(hs.2 c ?_).trans q) (fun _ q=>q) fun _ _ q=>q
  rintro rfl
  rcases hc with rfl | hc
  ·rw [Hk] at e;cases e
  ·rw [Hk] at hc;cases hc
 rcases hx with hk | hk
 ·refine wpAny_storeName_local hk hn (fun h' A4 hs=>?_) WH
  obtain ⟨oL,_,_,Oe,_⟩:=id hn
  refine h _ ⟨I.ok,I.os,I.bare,⟨fun b o e n hb hx=>?_,fun b o e n hb hx=>?_,I.base.free,fun b o e hx=>?_,I.base.so,I.base.qH,I.base.su⟩,⟨_,A4,fun j y v' e1 e2 e3=>?_⟩,fun y c e=>?_,I.free,I.j7,fun p hp=>?_,tracked ⟨oL,Oe,I.free⟩ hs,by simpa using I.len⟩ ⟨_,hs,.inl rfl⟩
  ·exact (hs.2 b (Nat.ne_of_lt (Nat.lt_of_lt_of_le (Heap.lt_size e) I.ok.above))).trans (I.base.keep b o e n hb hx)
  ·obtain ⟨sl,e1⟩:=I.base.slot b o e n hb hx
   exact ⟨sl,(hs.2 b (Nat.ne_of_lt (Nat.lt_of_lt_of_le (Heap.lt_size e) I.ok.above))).trans e1⟩
  ·obtain ⟨o',e1⟩:=I.base.there b o e hx
   exact ⟨o',(hs.2 b (Nat.ne_of_lt (Nat.lt_of_lt_of_le (Heap.lt_size e) I.ok.above))).trans e1⟩
  ·by_cases hj:j = i
   ·subst hj
    rw [hi] at e1;cases e1
    rw [List.getElem?_set_self Ol] at e2
    cases e2
    exact ⟨u,r,.inl ⟨hk,by simp⟩⟩
   ·rw [List.getElem?_set_ne (Ne.symm hj)] at e2
    obtain ⟨u',r',q⟩:=hl j y v' e1 e2 e3
    refine ⟨u',r',?_⟩
    rcases q with ⟨k,e⟩ | ⟨k,c,e,z⟩
    ·refine .inl ⟨k,?_⟩
     have:y ≠ x:=fun e=>hj (vd hN e1 (e ▸ hi))
     simp [this,e]
    ·exact .inr ⟨k,c,e,z.sameBut hs (Lc y c e)⟩
  ·obtain ⟨w',z⟩:=I.cell y c e
   exact ⟨w',z.sameBut hs (Lc y c e)⟩
  ·obtain ⟨e,n,ne,nf,d⟩:=I.pin p hp
   exact ⟨(hs.2 p.1 ne).trans e,n,ne,nf,d⟩
 ·have A5:X.fn x = true:=by
   rcases hf with z | z
   ·exact z
   ·rw [z] at hk;cases hk
  obtain ⟨c,hc⟩:=I.ok.has x (.inl hk)
  obtain ⟨w',z⟩:=I.cell x c hc
  refine wpAny_storeName_cell I.ok.kind hk hc z (fun h' CL hs=>?_)
  obtain ⟨oc,hoc,Wt⟩:=id z
  refine h { s with heap:=h' } ⟨I.ok,I.os,I.bare,⟨fun b o e n hb hx=>?_,fun b o e n hb hx=>?_,I.base.free,fun b o e hx=>?_,I.base.so,I.base.qH,I.base.su⟩,⟨m,hn.sameBut hs (Ne.symm (Lc x c hc)),fun j y v' e1 e2 e3=>?_⟩,fun y c' e=>?_,I.free,I.j7,fun p hp=>?_,tracked ⟨oc,hoc,I.j7 x c hc⟩ hs,by simpa using I.len⟩ ⟨c,hs,.inr hc⟩
  ·exact (hs.2 b (Nat.ne_of_lt (Nat.lt_of_lt_of_le (Heap.lt_size e) (I.ok.PZ x c A5 hc)))).trans (I.base.keep b o e n hb hx)
  ·obtain ⟨sl,e1⟩:=I.base.slot b o e n hb hx
   exact ⟨sl,(hs.2 b (Nat.ne_of_lt (Nat.lt_of_lt_of_le (Heap.lt_size e) (I.ok.PZ x c A5 hc)))).trans e1⟩
  ·obtain ⟨o',e1⟩:=I.base.there b o e hx
   exact ⟨o',(hs.2 b (Nat.ne_of_lt (Nat.lt_of_lt_of_le (Heap.lt_size e) (I.ok.PZ x c A5 hc)))).trans e1⟩
  ·by_cases hj:j = i
   ·subst hj
    rw [hi] at e1;cases e1
    rw [List.getElem?_set_self Ol] at e2
    cases e2
    exact ⟨u,r,.inr ⟨.inl hk,c,hc,CL⟩⟩
   ·rw [List.getElem?_set_ne (Ne.symm hj)] at e2
    obtain ⟨u',r',q⟩:=hl j y v' e1 e2 e3
    refine ⟨u',r',?_⟩
    rcases q with q | ⟨k,c',e,z'⟩
    ·exact .inl q
    ·refine .inr ⟨k,c',e,z'.sameBut hs ?_⟩
     rintro rfl
     exact hj (vd hN e1 (I.ok.inj _ _ _ e hc ▸ hi))
  ·by_cases hcc:c' = c
   ·subst hcc;exact ⟨_,CL⟩
   ·obtain ⟨w2,z2⟩:=I.cell y c' e
    exact ⟨w2,z2.sameBut hs hcc⟩
  ·obtain ⟨e,n,ne,nf,d⟩:=I.pin p hp
   refine ⟨(hs.2 p.1 ?_).trans e,n,ne,nf,d⟩
   intro q
   rw [q,hoc] at e
   have q':oc = p.2:=Option.some.inj e
   exact d w' (by rw [<- q'];exact Wt)
theorem kO {M:Model} {A:Around} {E:Value -> Shared -> Prop} {i:Nat} {x:Str} {v:V} {u:Value} {Q:Unit -> Shared -> Prop} (I:Inv X pins σ H s) (hN:X.N.Nodup) (hi:X.N[i]? = some x) (hx:Loc X.env.scope x) (r:RelV v u)
  (h:∀ s',Inv X pins (σ.set i (some v)) H s' -> Q () s') (hf:X.fn x = true \/ X.env.scope.names.lookup x = some .local:=by first | exact .inl rfl | exact .inr rfl | assumption):wpAny M A (storeName X.env x u) Q E s :=
 zK I hN hi hx r (fun s' I' _=>h s' I') hf
theorem Inv.PY {s':Shared} {ch:List Addr} (I:Inv X pins σ H s) (ho:s'.os = s.os) (u:Un (A6 X.stack) ch H H' s.heap s'.heap) (dq:mv X.prog X.w H' s'.heap) (hg:AllBare s'.gens)
  (DK:∀ b ∈ ch,(b ∈ X.ex \/ X.s₀.heap.objs.size <= b) /\ b ≠ X.env.locals /\ (∀ x c,X.env.cells.lookup x = some c -> c ≠ b) /\ ∀ p ∈ X.pn ++ pins,p.1 ≠ b):Inv X pins σ H' s':=by
 obtain ⟨h',g',d',t',o'⟩:=s'
 have e:o' = s.os:=ho
 subst e
 exact I.call (g':=g') (t':=t') (d':=d') u dq hg DK
end
abbrev XK:=Value -> Option Addr -> Hp -> Prop
abbrev St:=List (Option V)
abbrev VK:=V -> Hp -> Prop
abbrev TE:=St -> Hp -> VK -> Prop
abbrev TT:=St -> Hp -> (Bool -> Hp -> Prop) -> Prop
abbrev TA:=St -> Hp -> (List V -> Hp -> Prop) -> Prop
structure Ends where
 nx:St -> Hp -> Prop
 rt:VK
 bk:St -> Hp -> Prop:=fun _ _=>False
 ct:St -> Hp -> Prop:=fun _ _=>False
abbrev TS:=Ends -> St -> Hp -> Prop
def EP (X:Cx) (pins:List (Addr × Obj)) (σ:St) (Q:VK) (u:Value) (s':Shared):Prop:=∃ v H',Inv X pins σ H' s' /\ RelV v u /\ Q v H'
def TP (X:Cx) (pins:List (Addr × Obj)) (σ:St) (Q:Bool -> Hp -> Prop) (b:Bool) (s':Shared):Prop:=∃ H',Inv X pins σ H' s' /\ Q b H'
def AP (X:Cx) (pins:List (Addr × Obj)) (σ:St) (Q:List V -> Hp -> Prop) (us:List Value) (s':Shared):Prop:=∃ vs H',Inv X pins σ H' s' /\ Vals vs us /\ Q vs H'
def SP (X:Cx) (pins:List (Addr × Obj)) (D:Ends) (f:Flow) (s':Shared):Prop :=
 match f with
 | .next=>∃ σ' H',Inv X pins σ' H' s' /\ D.nx σ' H'
 | .brk=>∃ σ' H',Inv X pins σ' H' s' /\ D.bk σ' H'
 | .cont=>∃ σ' H',Inv X pins σ' H' s' /\ D.ct σ' H'
 | .ret u=>∃ v σ' H',Inv X pins σ' H' s' /\ RelV v u /\ D.rt v H'
def PE (X:Cx) (e:Expr) (t:TE):Prop :=
 ∀ (pins:List (Addr × Obj)) (s:Shared) (σ:St) (H:Hp) (Q:VK),Inv X pins σ H s -> t σ H Q -> wpAny (model X.prog X.w) X.A (eval e X.env) (EP X pins σ Q) X.xe s
def PT (X:Cx) (e:Expr) (t:TT):Prop :=
 ∀ (pins:List (Addr × Obj)) (s:Shared) (σ:St) (H:Hp) (Q:Bool -> Hp -> Prop),Inv X pins σ H s -> t σ H Q -> wpAny (model X.prog X.w) X.A (isTrue e X.env (eval e X.env)) (TP X pins σ Q) X.xe s
def PW (X:Cx) (e:Expr) (t:TT):Prop :=
 ∀ (whole:Sem Value) (pins:List (Addr × Obj)) (s:Shared) (σ:St) (H:Hp) (Q:Bool -> Hp -> Prop),Inv X pins σ H s -> t σ H Q -> wpAny (model X.prog X.w) X.A (isTrue e X.env whole) (TP X pins σ Q) X.xe s
theorem PW.pt {X:Cx} {e:Expr} {t:TT} (h:PW X e t):PT X e t:=h _
def PA (X:Cx) (es:List Expr) (t:TA):Prop :=
 ∀ (pos:Pos) (pins:List (Addr × Obj)) (s:Shared) (σ:St) (H:Hp) (Q:List V -> Hp -> Prop),Inv X pins σ H s -> t σ H Q -> wpAny (model X.prog X.w) X.A (spliced (backTo pos (starEach es X.env))) (AP X pins σ Q) X.xe s
def PS (X:Cx) (st:Stmt) (t:TS):Prop :=
 ∀ (pins:List (Addr × Obj)) (s:Shared) (σ:St) (H:Hp) (D:Ends),Inv X pins σ H s -> t D σ H -> wpAny (model X.prog X.w) X.A (exec st X.env) (SP X pins D) X.xe s
def nY (X:Cx) (st:List Stmt) (t:TS):Prop :=
 ∀ (pins:List (Addr × Obj)) (s:Shared) (σ:St) (H:Hp) (D:Ends),Inv X pins σ H s -> t D σ H -> wpAny (model X.prog X.w) X.A (execs st X.env) (SP X pins D) X.xe s
theorem di {α:Type} {t:Sem α} {Q Q':α -> Shared -> Prop} {M:Model} {A:Around} {E:Value -> Shared -> Prop} {s:Shared} (h:wpAny M A t Q E s) (hQ:∀ a s,Q a s -> Q' a s):wpAny M A t Q' E s:=wpAny_mono h hQ fun _ _ x=>x
end L2
namespace L2
open PySem PySem.Spec PyProof.Rows
section
variable {X:Cx}
theorem bin {a b:Expr} {ta tb:TE} (ha:PE X a ta) (hb:PE X b tb) {pins:List (Addr × Obj)} {s:Shared} {σ:St} {H:Hp} {R:V -> V -> Hp -> Prop} (I:Inv X pins σ H s) (h:ta σ H fun x H1=>tb σ H1 fun y H2=>R x y H2)
  {α:Type} {Q:α -> Shared -> Prop} {f:Value -> Value -> Sem α}
  (hf:∀ v u s2 x y H2,Inv X pins σ H2 s2 -> RelV x v -> RelV y u -> R x y H2 -> wpAny (model X.prog X.w) X.A (f v u) Q X.xe s2) :
  wpAny (model X.prog X.w) X.A (eval a X.env) (fun v s₁=>wpAny (model X.prog X.w) X.A (eval b X.env) (fun u s₂=>wpAny (model X.prog X.w) X.A (f v u) Q X.xe s₂) X.xe s₁) X.xe s:=by
 refine di (ha pins s σ H _ I h) fun v s1 ⟨x,H1,I1,r1,q1⟩=>?_
 refine di (hb pins s1 σ H1 _ I1 q1) fun u s2 ⟨y,H2,I2,r2,q2⟩=>?_
 exact hf v u s2 x y H2 I2 r1 r2 q2
def Bp (i:Nat):TE:=fun σ H Q=>∃ v,σ[i]? = some (some v) /\ Q v H
def tC (v:V):TE:=fun _ H Q=>Q v H
theorem wQ {i:Nat} {x:Str} {pos:Pos} (hN:X.N[i]? = some x) (hv:Lp X.env.scope x) (hd:(x == ("__debug__" : Str)) = false:=by decide) (CK:(x == ("__classdict__" : Str)) = false:=by decide):PE X (.Name x pos) (Bp i):=by
 intro pins s σ H Q I h
 obtain ⟨v,e,h⟩:=h
 obtain ⟨m,hn,hl⟩:=I.loc
 obtain ⟨u,r,l⟩:=hl i x v hN e hv
 have fin:EP X pins σ Q u s:=⟨v,H,I,r,h⟩
 rcases l with ⟨hk,hm⟩ | ⟨hk,c,hc,hcell⟩
 ·exact wpAny_Name (wpAny_loadName_local I.ok.kind hk hn hm fin) hd
 ·rcases hk with hk | hk
  ·exact wpAny_Name (wpAny_loadName_cell I.ok.kind hk hc hcell fin) hd
  ·exact wpAny_Name (wpAny_loadName_free I.ok.kind hk hc hcell fin CK) hd
theorem IT {i j pos}:PE X (.Constant (.int i) j pos) (tC (.int i)):=fun _ _ _ H _ I h=>wpAny_Constant_int ⟨.int i,H,I.tok _,⟨_,rfl⟩,h⟩
theorem Nk {b j pos}:PE X (.Constant (.bool b) j pos) (tC (.bl b)):=fun _ _ _ H _ I h=>Constant_bool ⟨.bl b,H,I,rfl,h⟩
theorem IQ {j pos}:PE X (.Constant .none j pos) (tC .bC):=fun _ _ _ H _ I h=>Constant_none ⟨.bC,H,I,rfl,h⟩
theorem TJ {x j pos}:PE X (.Constant (.str x) j pos) (tC (.str x)):=fun _ _ _ H _ I h=>Calls.Constant_str ⟨.str x,H,I.tok _,⟨_,rfl⟩,h⟩
def Gl (X:Cx) (x:Str):Prop:=X.env.kindOf x = some .globalImplicit
theorem yB {E:Value -> Shared -> Prop} {pins:List (Addr × Obj)} {s:Shared} {σ:St} {H:Hp} {x:Str} {u:Value} {pos:Pos} {Q:Value -> Shared -> Prop} (I:Inv X pins σ H s) (hg:Gl X x) (hm:X.mg x = some u) (h:Q u s)
  (hd:(x == ("__debug__" : Str)) = false:=by decide):wpAny (model X.prog X.w) X.A (eval (.Name x pos) X.env) Q E s :=
 Calls.Name_function_global I.ok.kind hg (Calls.loadGlobal_global (by rw [I.ok.glob];exact I.mod.glob.keeps I.bk) hm h) hd
theorem eW {E:Value -> Shared -> Prop} {pins:List (Addr × Obj)} {s:Shared} {σ:St} {H:Hp} {x:Str} {u:Value} {pos:Pos} {Q:Value -> Shared -> Prop} (I:Inv X pins σ H s) (hg:Gl X x) (hm:X.mg x = none) (hv:bootBuiltins x = some u) (h:Q u s)
  (hn:x ≠ "__name__":=by decide) (hd:(x == ("__debug__" : Str)) = false:=by decide):wpAny (model X.prog X.w) X.A (eval (.Name x pos) X.env) Q E s:=by
 obtain ⟨mb,h1,h2⟩:=I.mod.blt
 exact Calls.Name_function_global I.ok.kind hg (Calls.loadGlobal_builtin (by rw [I.ok.glob];exact I.mod.glob.keeps I.bk) hm (by rw [I.ok.blt];exact h1.keeps I.bk) ((h2 x hn).trans hv) h) hd
theorem yq {x:Str} {v:V} {u:Value} {pos:Pos} (hg:Gl X x) (hm:X.mg x = some u) (r:RelV v u) (hd:(x == ("__debug__" : Str)) = false:=by decide):PE X (.Name x pos) (tC v) :=
 fun _ _ _ H _ I h=>yB I hg hm ⟨v,H,I,r,h⟩ hd
theorem EJ {x:Str} {v:V} {u:Value} {pos:Pos} (hg:Gl X x) (hm:X.mg x = none) (hv:bootBuiltins x = some u) (r:RelV v u) (hn:x ≠ "__name__":=by decide) (hd:(x == ("__debug__" : Str)) = false:=by decide):PE X (.Name x pos) (tC v) :=
 fun _ _ _ H _ I h=>eW I hg hm hv ⟨v,H,I,r,h⟩ hn hd
variable {a b:Expr} {ta tb:TE} {pos:Pos}
def tB (t:TE):TT:=fun σ H Q=>t σ H fun x H1=>∃ c,x = .bl c /\ Q c H1
theorem ID {e:Expr} {t:TE} (h:PE X e t) (he:∀ whole,isTrue e X.env whole = (do let v <- whole;standAt e.pos;holding [v] (truthy v)):=by intro _;rfl):PT X e (tB t):=by
 intro pins s σ H Q I hw
 refine isTrue_plain (di (h pins s σ H _ I hw) fun v s1 ⟨x,H1,I1,r1,q1⟩=>?_) (he _)
 obtain ⟨d,rfl,q⟩:=q1
 cases r1
 exact wpAny_truthy_bool ⟨H1,I1,q⟩
variable {tA Qp:TT} {rest:List Expr}
def MM (t u:TT):TT:=fun σ H Q=>t σ H fun c H1=>if c = true then u σ H1 Q else Q false H1
def tOr (t u:TT):TT:=fun σ H Q=>t σ H fun c H1=>if c = true then Q true H1 else u σ H1 Q
def RB (t:TT):TT:=fun σ H Q=>t σ H fun c H1=>Q (!c) H1
theorem EC (ha:PT X a tA):PW X (.BoolOp .And [a] pos) tA:=by
 intro wh pins s σ H Q I h
 refine isTrue_and (di (ha pins s σ H Q I h) fun c s1 e=>?_)
 cases c with
 | true=>exact isTrue_and_nil e
 | false=>exact e
theorem IB (ha:PT X a tA):PW X (.BoolOp .Or [a] pos) tA:=by
 intro wh pins s σ H Q I h
 refine isTrue_or (di (ha pins s σ H Q I h) fun c s1 e=>?_)
 cases c with
 | false=>exact isTrue_or_nil e
 | true=>exact e
theorem IC (ha:PT X a tA) (hb:PW X (.BoolOp .And (b :: rest) pos) Qp):PW X (.BoolOp .And (a :: b :: rest) pos) (MM tA Qp):=by
 intro wh pins s σ H Q I h
 refine isTrue_and (di (ha pins s σ H _ I h) fun c s1 ⟨H1,I1,q1⟩=>?_)
 cases c with
 | true=>exact hb wh pins s1 σ H1 Q I1 q1
 | false=>exact ⟨H1,I1,q1⟩
theorem Na (ha:PT X a tA) (hb:PW X (.BoolOp .Or (b :: rest) pos) Qp):PW X (.BoolOp .Or (a :: b :: rest) pos) (tOr tA Qp):=by
 intro wh pins s σ H Q I h
 refine isTrue_or (di (ha pins s σ H _ I h) fun c s1 ⟨H1,I1,q1⟩=>?_)
 cases c with
 | true=>exact ⟨H1,I1,q1⟩
 | false=>exact hb wh pins s1 σ H1 Q I1 q1
theorem IE (ha:PT X a tA):PT X (.UnaryOp .Not a pos) (RB tA):=by
 intro pins s σ H Q I h
 exact isTrue_not (ha pins s σ H (fun c H1=>Q (!c) H1) I h)
def GP (ta tb:TE):TE:=fun σ H Q=>ta σ H fun x H1=>∃ c,x = .bl c /\ if c = true then tb σ H1 Q else Q (.bl false) H1
def MF (ta tb:TE):TE:=fun σ H Q=>ta σ H fun x H1=>∃ c,x = .bl c /\ if c = true then Q (.bl true) H1 else tb σ H1 Q
def MG (ta:TE):TE:=fun σ H Q=>ta σ H fun x H1=>∃ c,x = .bl c /\ Q (.bl (!c)) H1
theorem B0 {op} {t:TE} (h:PE X a t):PE X (.BoolOp op [a] pos) t:=fun pins s σ H Q I hw=>BoolOp_one (h pins s σ H Q I hw)
theorem IU (ha:PE X a ta) (hb:PE X (.BoolOp .And (b :: rest) pos) tb):PE X (.BoolOp .And (a :: b :: rest) pos) (GP ta tb):=by
 intro pins s σ H Q I h
 refine BoolOp_and (di (ha pins s σ H _ I h) fun v s1 ⟨x,H1,I1,r1,q1⟩=>?_)
 obtain ⟨c,rfl,q1⟩:=q1
 cases r1
 refine wpAny_truthy_bool ?_
 cases c with
 | true=>exact hb pins s1 σ H1 Q I1 q1
 | false=>exact ⟨.bl false,H1,I1,rfl,q1⟩
theorem Nj (ha:PE X a ta) (hb:PE X (.BoolOp .Or (b :: rest) pos) tb):PE X (.BoolOp .Or (a :: b :: rest) pos) (MF ta tb):=by
 intro pins s σ H Q I h
 refine BoolOp_or (di (ha pins s σ H _ I h) fun v s1 ⟨x,H1,I1,r1,q1⟩=>?_)
 obtain ⟨c,rfl,q1⟩:=q1
 cases r1
 refine wpAny_truthy_bool ?_
 cases c with
 | false=>exact hb pins s1 σ H1 Q I1 q1
 | true=>exact ⟨.bl true,H1,I1,rfl,q1⟩
theorem IP (ha:PE X a ta):PE X (.UnaryOp .Not a pos) (MG ta):=by
 intro pins s σ H Q I h
 refine UnaryOp_ (di (ha pins s σ H _ I h) fun v s1 ⟨x,H1,I1,r1,q1⟩=>?_)
 obtain ⟨c,rfl,q1⟩:=q1
 cases r1
 exact not_of (wpAny_truthy_bool ⟨.bl (!c),H1,I1,rfl,q1⟩)
def tIf (t:TT) (ta tb:TE):TE:=fun σ H Q=>t σ H fun c H1=>if c = true then ta σ H1 Q else tb σ H1 Q
theorem B1 {c:Expr} (hc:PT X c tA) (ha:PE X a ta) (hb:PE X b tb):PE X (.IfExp c a b pos) (tIf tA ta tb):=by
 intro pins s σ H Q I h
 refine wpAny_IfExp (di (hc pins s σ H _ I h) fun d s1 ⟨H1,I1,q1⟩=>?_)
 cases d with
 | true=>exact ha pins s1 σ H1 Q I1 q1
 | false=>exact hb pins s1 σ H1 Q I1 q1
end
end L2
namespace L2
open PySem PySem.Spec PyProof.Rows
def dY (K:PySem.W.Frag) (H:Hp) (a:Addr) (xs:List V):Prop :=
 Rd H a (.lst xs) \/
  ∃ (o:Obj) (aj:Array Value) (n:Nat),K.lookup a = some o /\ o.cls = .type "list" /\ o.dict = none /\ o.data = .seq aj n /\ aj.size <= sizeLine /\ Vals xs aj.toList
def aG (K:PySem.W.Frag) (H:Hp) (a:Addr) (xs:List V):Prop :=
 Rd H a (.tup xs) \/
  ∃ (o:Obj) (aj:Array Value) (n:Nat),K.lookup a = some o /\ o.cls = .type "tuple" /\ o.data = .seq aj n /\ aj.size <= sizeLine /\ Vals xs aj.toList
def ZV:Value -> Option V
 | .none=>some .bC
 | .bool b=>some (.bl b)
 | .int i _=>some (.int i)
 | .str x _=>some (.str x)
 | .bytes b _=>some (.Zf b)
 | .float b _=>some (.OW b)
 | .ref a=>some (.ref a)
 | .type n=>some (.ty n)
 | _=>none
theorem RelV.abs {x:V} {u:Value} (r:RelV x u):ZV u = some x:=by
 cases x with
 | bC=>cases r;rfl
 | bl _=>cases r;rfl
 | int _=>obtain ⟨t,rfl⟩:=r;rfl
 | str _=>obtain ⟨t,rfl⟩:=r;rfl
 | Zf _=>obtain ⟨t,rfl⟩:=r;rfl
 | OW _=>obtain ⟨t,rfl⟩:=r;rfl
 | ref _=>cases r;rfl
 | ty _=>cases r;rfl
theorem RelV.inj {x y:V} {u:Value} (r:RelV x u) (q:RelV y u):x = y:=Option.some.inj (r.abs.symm.trans q.abs)
theorem Vals.inj:∀ {xs ys:List V} {us:List Value},Vals xs us -> Vals ys us -> xs = ys
 | _,_,_,.nil,.nil=>rfl
 | _,_,_,.cons r t,.cons r' t'=>by rw [r.inj r',Vals.inj t t']
section
variable {X:Cx} {pins:List (Addr × Obj)} {σ:St} {H:Hp} {s:Shared} {a:Addr} {xs ys:List V}
theorem dY.of {K:PySem.W.Frag} (h:H a = some (.lst xs)):dY K H a xs:=.inl (.inl h)
theorem aG.of {K:PySem.W.Frag} (h:H a = some (.tup xs)):aG K H a xs:=.inl (.inl h)
theorem Inv.list (I:Inv X pins σ H s) (h:dY X.K H a xs):∃ aj:List Value,Vals xs aj /\ PlainL s.heap a aj.toArray /\ xs.length <= sizeLine:=by
 rcases h with h | ⟨o,aj,n,hk,hc,hd,hs,hz,r⟩
 ·obtain ⟨z,aj,n,r,e⟩:=h.ok I.dq
  exact ⟨aj,r,⟨_,n,e,rfl,rfl,rfl⟩,z⟩
 ·refine ⟨aj.toList,r,⟨o,n,I.A2 a o hk,hc,hd,by simpa using hs⟩,?_⟩
  have e:=r.length
  simp only [Array.length_toList] at e
  omega
theorem Inv.tuple (I:Inv X pins σ H s) (h:aG X.K H a xs):∃ aj:List Value,Vals xs aj /\ IsTup s.heap a aj.toArray /\ xs.length <= sizeLine:=by
 rcases h with h | ⟨o,aj,n,hk,hc,hs,hz,r⟩
 ·obtain ⟨z,aj,r,p⟩:=h.ok I.dq
  exact ⟨aj,r,p,z⟩
 ·refine ⟨aj.toList,r,⟨o,I.A2 a o hk,hc,n,by simpa using hs⟩,?_⟩
  have e:=r.length
  simp only [Array.length_toList] at e
  omega
theorem Inv.kX (I:Inv X pins σ H s) (h:dY X.K H a xs) (h':dY X.K H a ys):xs = ys:=by
 obtain ⟨aj,r,⟨o,n,e,_,_,d⟩,_⟩:=I.list h
 obtain ⟨its',r',⟨o',n',e',_,_,d'⟩,_⟩:=I.list h'
 rw [e] at e';cases e'
 rw [d] at d'
 injection d' with d1 _
 have:aj = its':=by simpa using congrArg Array.toList d1
 subst this
 exact r.inj r'
theorem Inv.ra (I:Inv X pins σ H s) (h:aG X.K H a xs) (h':aG X.K H a ys):xs = ys:=by
 obtain ⟨aj,r,⟨o,e,_,n,d⟩,_⟩:=I.tuple h
 obtain ⟨its',r',⟨o',e',_,n',d'⟩,_⟩:=I.tuple h'
 rw [e] at e';cases e'
 rw [d] at d'
 injection d' with d1 _
 have:aj = its':=by simpa using congrArg Array.toList d1
 subst this
 exact r.inj r'
end
abbrev Cx.qh (X:Cx) (E:Value -> Shared -> Prop):Cx:={ X with xe:=E }
abbrev Cx.Nw (X:Cx):Cx:=X.qh fun _ _=>False
theorem Cx.Ok.qh {X:Cx} (ok:X.Ok) (E:Value -> Shared -> Prop):(X.qh E).Ok :=
 ⟨ok.mod,ok.kind,ok.glob,ok.blt,ok.above,ok.inj,ok.has,ok.PZ,ok.hd,ok.frames,ok.Qr,ok.exf,ok.bs,ok.Hx,ok.B_,ok.FK,ok.mZ,ok.L7⟩
theorem Cx.Ok.i6 {X:Cx} {E:Value -> Shared -> Prop} (ok:(X.qh E).Ok):X.Ok :=
 ⟨ok.mod,ok.kind,ok.glob,ok.blt,ok.above,ok.inj,ok.has,ok.PZ,ok.hd,ok.frames,ok.Qr,ok.exf,ok.bs,ok.Hx,ok.B_,ok.FK,ok.mZ,ok.L7⟩
section
variable {X:Cx} {pins:List (Addr × Obj)} {σ:St} {H:Hp} {s:Shared} {E:Value -> Shared -> Prop}
theorem Inv.qh (I:Inv X pins σ H s) (E:Value -> Shared -> Prop):Inv (X.qh E) pins σ H s:=⟨I.ok.qh E,I.os,I.bare,I.base,I.loc,I.cell,I.free,I.j7,I.pin,I.dq,I.len⟩
theorem Inv.i6 (I:Inv (X.qh E) pins σ H s):Inv X pins σ H s:=⟨I.ok.i6,I.os,I.bare,I.base,I.loc,I.cell,I.free,I.j7,I.pin,I.dq,I.len⟩
theorem SP.i6 {D:Ends} {f:Flow} {s':Shared} (h:SP (X.qh E) pins D f s'):SP X pins D f s':=by
 cases f with
 | next=>obtain ⟨σ',H',I,q⟩:=h;exact ⟨σ',H',I.i6,q⟩
 | brk=>obtain ⟨σ',H',I,q⟩:=h;exact ⟨σ',H',I.i6,q⟩
 | cont=>obtain ⟨σ',H',I,q⟩:=h;exact ⟨σ',H',I.i6,q⟩
 | ret u=>obtain ⟨v,σ',H',I,r,q⟩:=h;exact ⟨v,σ',H',I.i6,r,q⟩
theorem nY.Nw {st:List Stmt} {t:TS} (h:nY X.Nw st t):nY X st t:=fun pins s σ H D I hw =>
 wpAny_mono (h pins s σ H D (I.qh _) hw) (fun _ _ q=>q.i6) fun _ _ z=>False.elim z
end
section
variable {X:Cx} {st:Stmt} {rest:List Stmt} {t u:TS} {e:Expr} {te:TE} {pos:Pos}
def GN:TS:=fun D σ H=>D.nx σ H
def Ry (t u:TS):TS:=fun D σ H=>t { D with nx:=u D } σ H
theorem ED:nY X [] GN:=fun _ _ σ H _ I h=>wpAny_execs_nil ⟨σ,H,I,h⟩
theorem BN (h1:PS X st t) (h2:nY X rest u):nY X (st :: rest) (Ry t u):=by
 intro pins s σ H D I h
 refine wpAny_execs_cons (di (h1 pins s σ H { D with nx:=u D } I h) fun f s1 q=>?_)
 cases f with
 | next =>
  obtain ⟨σ',H',I',q⟩:=q
  exact h2 pins s1 σ' H' D I' q
 | ret v=>exact q
 | brk=>exact q
 | cont=>exact q
def HU:TS:=fun D σ H=>D.bk σ H
def MJ:TS:=fun D σ H=>D.ct σ H
theorem QD:PS X (.Pass pos) GN:=fun _ _ σ H _ I h=>wpAny_Pass ⟨σ,H,I,h⟩
theorem Ng:PS X (.Break pos) HU:=fun _ _ σ H _ I h=>wpAny_Break ⟨σ,H,I,h⟩
theorem G3:PS X (.Continue pos) MJ:=fun _ _ σ H _ I h=>wpAny_Continue ⟨σ,H,I,h⟩
theorem Inv.quiet {pins:List (Addr × Obj)} {σ:St} {H:Hp} {s:Shared} (I:Inv X pins σ H s):interactive X.env = false:=by simp [interactive,I.ok.kind]
def MI (te:TE):TS:=fun D σ H=>te σ H fun _ H1=>D.nx σ H1
theorem sN (he:PE X e te) (hs:swapsWith e none pos.line X.env = pure false:=by rfl):PS X (.Expr e pos) (MI te):=by
 intro pins s σ H D I h
 exact wpAny_Expr_any (di (he pins s σ H _ I h) fun v s1 ⟨x,H1,I1,r1,q1⟩=>⟨σ,H1,I1,q1⟩) I.quiet hs
def Rz (te:TE):TS:=fun D σ H=>te σ H D.rt
theorem IF (he:PE X e te):PS X (.Return (some e) pos) (Rz te):=by
 intro pins s σ H D I h
 exact wpAny_Return_some (di (he pins s σ H _ I h) fun v s1 ⟨x,H1,I1,r1,q1⟩=>⟨x,σ,H1,I1,r1,q1⟩)
def MD:TS:=fun D _ H=>D.rt .bC H
theorem QC:PS X (.Return none pos) MD:=fun _ _ σ H _ I h=>wpAny_Return_none ⟨.bC,σ,H,I,rfl,h⟩
def RD (c:TT) (t u:TS):TS:=fun D σ H=>c σ H fun b H1=>if b = true then t D σ H1 else u D σ H1
theorem Nc {c:Expr} {a b:List Stmt} {tc:TT} (hc:PT X c tc) (ha:nY X a t) (hb:nY X b u):PS X (.If c a b pos) (RD tc t u):=by
 intro pins s σ H D I h
 refine wpAny_If (di (hc pins s σ H _ I h) fun d s1 ⟨H1,I1,q1⟩=>?_)
 cases d with
 | true=>exact ha pins s1 σ H1 D I1 q1
 | false=>exact hb pins s1 σ H1 D I1 q1
end
abbrev TG:=V -> St -> Hp -> (St -> Hp -> Prop) -> Prop
abbrev Gv:=List V -> St -> Hp -> (St -> Hp -> Prop) -> Prop
def PG (X:Cx) (target:Expr) (t:TG):Prop :=
 ∀ (pins:List (Addr × Obj)) (s:Shared) (σ:St) (H:Hp) (v:V) (u:Value) (Q:St -> Hp -> Prop),Inv X pins σ H s -> RelV v u -> t v σ H Q ->
  wpAny (model X.prog X.w) X.A (assign target X.env u) (fun _ s'=>∃ σ' H',Inv X pins σ' H' s' /\ Q σ' H') X.xe s
def Mg (X:Cx) (ts:List Expr) (t:Gv):Prop :=
 ∀ (pins:List (Addr × Obj)) (s:Shared) (σ:St) (H:Hp) (vs:List V) (us:List Value) (Q:St -> Hp -> Prop),Inv X pins σ H s -> Vals vs us -> t vs σ H Q ->
  wpAny (model X.prog X.w) X.A (assignInOrder ((assignEach ts X.env).map (·.2)) us) (fun _ s'=>∃ σ' H',Inv X pins σ' H' s' /\ Q σ' H') X.xe s
abbrev Lq:=V -> V -> V -> Hp -> (Hp -> Prop) -> Prop
def Qe (X:Cx) (t:Lq):Prop :=
 ∀ (pins:List (Addr × Obj)) (s:Shared) (σ:St) (H:Hp) (o i v:V) (ov iv u:Value) (Q:Hp -> Prop),Inv X pins σ H s -> RelV o ov -> RelV i iv -> RelV v u -> t o i v H Q ->
  wpAny (model X.prog X.w) X.A (setItem ov iv u) (fun _ s'=>∃ H',Inv X pins σ H' s' /\ Q H') X.xe s
abbrev Rj:=V -> V -> Hp -> VK -> Prop
def ZY (X:Cx) (op:Operator) (t:Rj):Prop :=
 ∀ (pins:List (Addr × Obj)) (s:Shared) (σ:St) (H:Hp) (x y:V) (v u:Value) (Q:VK),Inv X pins σ H s -> RelV x v -> RelV y u -> t x y H Q ->
  wpAny (model X.prog X.w) X.A (inplaceOp op v u) (EP X pins σ Q) X.xe s
section
variable {X:Cx} {pos:Pos}
def rP (i:Nat):TG:=fun v σ H Q=>Q (σ.set i (some v)) H
theorem sO {i:Nat} {x:Str} (hN:X.N.Nodup) (hi:X.N[i]? = some x) (hx:Loc X.env.scope x) (hf:X.fn x = true \/ X.env.scope.names.lookup x = some .local:=by first | exact .inl rfl | exact .inr rfl | assumption):PG X (.Name x pos) (rP i):=by
 intro pins s σ H v u Q I r h
 exact wpAny_assign_Name (kO I hN hi hx r (fun s' I'=>⟨_,H,I',h⟩) hf)
def Ki:Gv:=fun vs σ H Q=>vs = [] /\ Q σ H
def C0 (t:TG) (u:Gv):Gv:=fun vs σ H Q=>∃ v r,vs = v :: r /\ t v σ H fun σ' H'=>u r σ' H' Q
theorem yo:Mg X [] Ki:=by
 intro pins s σ H vs us Q I r h
 obtain ⟨e,h⟩:=h
 subst e
 cases r
 exact assignInOrder_nil ⟨σ,H,I,h⟩
theorem uZ {e:Expr} {es:List Expr} {t:TG} {u:Gv} (h1:PG X e t) (h2:Mg X es u)
  (hs:(assignEach (e :: es) X.env).map (·.2) = assign e X.env :: (assignEach es X.env).map (·.2):=by rfl):Mg X (e :: es) (C0 t u):=by
 intro pins s σ H vs us Q I r h
 obtain ⟨v,vr,e1,h⟩:=h
 subst e1
 cases r with
 | cons r rr =>
  rw [hs]
  refine assignInOrder_cons (di (h1 pins s σ H _ _ _ I r h) fun _ s1 ⟨σ1,H1,I1,q1⟩=>?_)
  exact h2 pins s1 σ1 H1 _ _ Q I1 rr q1
def W6 (K:PySem.W.Frag) (n:Nat) (t:Gv):TG:=fun v σ H Q=>∃ a xs,v = .ref a /\ aG K H a xs /\ xs.length = n /\ t xs σ H Q
theorem BU {es:List Expr} {k:Nat} {t:Gv} {n:Nat} (hc:X.calm = true) (h:Mg X es t)
  (hn:(assignEach es X.env).length = n:=by rfl) (rM:(assignEach es X.env).findIdx? (·.1) = none:=by rfl):PG X (.Tuple es k pos) (W6 X.K n t):=by
 intro pins s σ H v u Q I r hw
 obtain ⟨a,xs,e1,hq,hl,hw⟩:=hw
 subst e1
 cases r
 obtain ⟨aj,rv,ht,hz⟩:=I.tuple hq
 refine assign_Tuple_tuple (I.ok.hd hc) ht (by simp [hn,<- hl,rv.length]) rM fun h' hx=>?_
 have I1:Inv X pins σ H { s with heap:=h' }:=I.kept (t':=s.toks) fun b o e=>hx b o (Nat.ne_of_lt (Heap.lt_size e)) e
 exact h pins _ σ H xs _ Q I1 (by simpa using rv) hw
def W7 (to ti:TE) (t:Lq):TG:=fun v σ H Q=>to σ H fun o H1=>ti σ H1 fun i H2=>t o i v H2 fun H3=>Q σ H3
theorem IJ {o i:Expr} {to ti:TE} {t:Lq} (ho:PE X o to) (hi:PE X i ti) (hs:Qe X t)
  (ha:∀ v,assign (.Subscript o i pos) X.env v = (do
   let ov <- holding [v] (eval o X.env)
   let iv <- holding [v,ov] (eval i X.env)
   standAt pos
   holding [v,ov,iv] (setItem ov iv v)
   release [v,ov,iv] []):=by intro _;rfl):PG X (.Subscript o i pos) (W7 to ti t):=by
 intro pins s σ H v u Q I r h
 rw [ha]
 refine wpAny_bind (wpAny_holding (di (ho pins s σ H _ I h) fun ov s1 ⟨x,H1,I1,r1,q1⟩=>?_))
 refine wpAny_bind (wpAny_holding (di (hi pins s1 σ H1 _ I1 q1) fun iv s2 ⟨y,H2,I2,r2,q2⟩=>?_))
 refine wpAny_bind (wpAny_standAt (wpAny_bind (wpAny_holding (di (hs pins s2 σ H2 x y v ov iv u _ I2 r1 r2 r q2) fun _ s3 ⟨H3,I3,q3⟩=>?_))))
 exact wpAny_release ⟨σ,H3,I3,q3⟩
def RG (te:TE) (g:TG):TS:=fun D σ H=>te σ H fun x H1=>g x σ H1 D.nx
theorem BQ {tg e:Expr} {te:TE} {g:TG} (he:PE X e te) (hg:PG X tg g) (hs:swapsWithSole [tg] e pos.line X.env = pure false:=by rfl) (hw:swappedStores [tg] e X.env = pure none:=by rfl)
  (h1:(assignEach [tg] X.env).map (·.2) = [assign tg X.env]:=by rfl):PS X (.Assign [tg] e pos) (RG te g):=by
 intro pins s σ H D I h
 refine wpAny_Assign_stores (di (he pins s σ H _ I h) fun v s1 ⟨x,H1,I1,r1,q1⟩=>?_) hs hw
 rw [h1]
 exact di (hg pins s1 σ H1 x v _ I1 r1 q1) fun _ s2 q=>q
def RA (i j:Nat) (ta:TA):TS:=fun D σ H=>ta σ H fun vs H1=>∃ v w,vs = [v,w] /\ D.nx ((σ.set i (some v)).set j (some w)) H1
theorem IG {i j:Nat} {x y:Str} {a b:Expr} {ta:TA} {px py pt:Pos} {kt k2 LB} (hc:X.calm = true) (hN:X.N.Nodup) (hi:X.N[i]? = some x) (hj:X.N[j]? = some y) (j6:i ≠ j)
  (hx:X.env.scope.names.lookup x = some .local) (hy:X.env.scope.names.lookup y = some .local) (ha:PA X [a,b] ta)
  (hw:swappedStores [.Tuple [.Name x px,.Name y py] kt pt] (.Tuple [a,b] k2 LB) X.env = pure (some [x,y]))
  (hs:swapsWithSole [.Tuple [.Name x px,.Name y py] kt pt] (.Tuple [a,b] k2 LB) pos.line X.env = pure false:=by rfl) :
  PS X (.Assign [.Tuple [.Name x px,.Name y py] kt pt] (.Tuple [a,b] k2 LB) pos) (RA i j ta):=by
 intro pins s σ H D I h
 rw [exec_Assign_arm]
 refine wpAny_bind (wpAny_standAt ?_)
 rw [hs]
 refine wpAny_bind (wpAny_pure ?_)
 rw [if_neg (by decide)]
 refine wpAny_bind (Tuple_ (di (ha _ pins s σ H _ I h) fun us s1 ⟨vs,H1,I1,r1,q1⟩=>?_))
 obtain ⟨v,w,e1,q1⟩:=q1
 subst e1
 obtain ⟨u1,u2,rfl,rv,qe⟩:∃ u1 u2,us = [u1,u2] /\ RelV v u1 /\ RelV w u2:=by
  cases r1 with
  | cons p q =>
   cases q with
   | cons p' q' =>
    cases q'
    exact ⟨_,_,rfl,p,p'⟩
 refine wpAny_newObj_type ?_ (by show 2 <= sizeLine;decide)
 have I2:Inv X pins σ H1 { s1 with heap:=s1.heap.push { cls:=.type "tuple",data:=.seq [u1,u2].toArray } }:=I1.kept (t':=s1.toks) fun b o e=>Heap.get?_push_of_some _ e
 rw [hw]
 refine wpAny_bind (wpAny_pure ?_)
 show wpAny (model X.prog X.w) X.A (do rule "assign.swapped-stores";let items <- unpackItems (.ref s1.heap.objs.size) 2 none;assignInOrder [fun v=>bindName X.env y v,fun v=>bindName X.env x v] items.reverse;pure Flow.next) _ _ _
 refine wpAny_bind (wpAny_rule (wpAny_bind (unpackItems_tuple (items:=#[u1,u2]) (I.ok.hd hc) (IsTup.new s1.heap _) fun h' JR=>?_)))
 have I3:=I2.kept (h':=h') (t':=s1.toks) fun b o e=>JR b o (Nat.ne_of_lt (Heap.lt_size e)) e
 show wpAny _ _ (assignInOrder [fun v=>bindName X.env y v,fun v=>bindName X.env x v] [u2,u1] >>= fun _=>pure Flow.next) _ _ _
 refine wpAny_bind (assignInOrder_cons (wpAny_bindName (kO I3 hN hj (.inl hy) qe (fun s2 I4=>?_) (.inr hy))))
 refine assignInOrder_cons (wpAny_bindName (kO I4 hN hi (.inl hx) rv (fun s3 I5=>assignInOrder_nil (wpAny_pure ?_)) (.inr hx)))
 rw [List.set_comm _ _ (Ne.symm j6)] at I5
 exact ⟨_,H1,I5,q1⟩
def RF (i:Nat) (te:TE) (ti:Rj):TS:=fun D σ H=>∃ x,σ[i]? = some (some x) /\ te σ H fun y H1=>ti x y H1 fun z H2=>D.nx (σ.set i (some z)) H2
theorem SV {i:Nat} {x:Str} {e:Expr} {te:TE} {op:Operator} {ti:Rj} {pos':Pos} (hN:X.N.Nodup) (hi:X.N[i]? = some x) (hx:Loc X.env.scope x) (he:PE X e te) (ho:ZY X op ti) (hf:X.fn x = true \/ X.env.scope.names.lookup x = some .local:=by first | exact .inl rfl | exact .inr rfl | assumption) :
  PS X (.AugAssign (.Name x pos') op e pos) (RF i te ti):=by
 intro pins s σ H D I h
 obtain ⟨v,e1,h⟩:=h
 obtain ⟨m,hn,hl⟩:=I.loc
 have Qk:Lp X.env.scope x:=by rcases hx with k | k;exact .inl k;exact .inr (.inl k)
 obtain ⟨u,r,l⟩:=hl i x v hi e1 Qk
 refine wpAny_AugAssign_Name ?_
 have go:wpAny (model X.prog X.w) X.A (eval e X.env) (fun w s₂=>wpAny (model X.prog X.w) X.A (inplaceOp op u w) (fun r s₃=>wpAny (model X.prog X.w) X.A (storeName X.env x r) (fun _=>SP X pins D .next) X.xe s₃) X.xe s₂) X.xe s:=by
  refine di (he pins s σ H _ I h) fun w s1 ⟨y,H1,I1,r1,q1⟩=>?_
  refine di (ho pins s1 σ H1 v y u w _ I1 r r1 q1) fun z s2 ⟨zv,H2,I2,r2,q2⟩=>?_
  exact kO I2 hN hi hx r2 (fun s3 I3=>⟨_,H2,I3,q2⟩) hf
 rcases l with ⟨hk,hm⟩ | ⟨hk,c,hc,hcell⟩
 ·exact wpAny_loadName_local I.ok.kind hk hn hm go
 ·rcases hk with hk | hk
  ·exact wpAny_loadName_cell I.ok.kind hk hc hcell go
  ·rcases hx with k | k
   ·have:X.env.scope.names.lookup x = some .free:=hk
    rw [k] at this;cases this
   ·have:X.env.scope.names.lookup x = some .free:=hk
    rw [k] at this;cases this
def ipI (f:Int -> Int -> Int):Rj:=fun x y H Q=>∃ i j,x = .int i /\ y = .int j /\ Q (.int (f i j)) H
theorem V8:ZY X .Add (ipI fun i j=>i + j):=by
 intro pins s σ H x y v u Q I r1 r2 h
 obtain ⟨i,j,e1,e2,q⟩:=h
 subst e1;subst e2
 obtain ⟨t,rfl⟩:=r1
 obtain ⟨t',rfl⟩:=r2
 exact iadd_int ⟨.int _,H,I.tok _,⟨_,rfl⟩,q⟩
theorem V7:ZY X .Sub (ipI fun i j=>i - j):=by
 intro pins s σ H x y v u Q I r1 r2 h
 obtain ⟨i,j,e1,e2,q⟩:=h
 subst e1;subst e2
 obtain ⟨t,rfl⟩:=r1
 obtain ⟨t',rfl⟩:=r2
 exact isub_int ⟨.int _,H,I.tok _,⟨_,rfl⟩,q⟩
end
section
variable {X:Cx} {pos:Pos}
def HS (c:TT) (tb:TS):TS:=fun D σ H=>∃ W:Nat -> St -> Hp -> Prop,(∃ m,W m σ H) /\ ∀ m σ H,W m σ H ->
 c σ H fun b H1=>if b = true then ∃ N:St -> Hp -> Prop,(∀ σ' H',N σ' H' -> ∃ m',m' < m /\ W m' σ' H') /\ tb { D with nx:=N,ct:=N,bk:=D.nx } σ H1 else D.nx σ H1
theorem BO {c:Expr} {body:List Stmt} {tc:TT} {tb:TS} (hp:PassesOwn (model X.prog X.w) X.A X.env X.xe) (hc:PT X c tc) (hb:nY X body tb):PS X (.While c body [] pos) (HS tc tb):=by
 intro pins s σ H D I h
 obtain ⟨W,⟨m0,w0⟩,turn⟩:=h
 refine wpAny_While (codeAny_whileLoop (fun n s'=>∃ σ' H',Inv X pins σ' H' s' /\ W n σ' H') ?_ m0 ⟨σ,H,I,w0⟩)
 rintro n s1 ⟨σ1,H1,I1,w1⟩
 refine wpAny_passesOwn hp (di (hc pins s1 σ1 H1 _ I1 (turn n σ1 H1 w1)) fun b s2 ⟨H2,I2,q2⟩=>?_)
 cases b with
 | true =>
  obtain ⟨N,hN,q2⟩:=q2
  rw [if_pos rfl]
  refine wpAny_passesOwn hp (di (hb pins s2 σ1 H2 _ I2 q2) fun f s3 q3=>?_)
  cases f with
  | next =>
   obtain ⟨σ3,H3,I3,n3⟩:=q3
   obtain ⟨m',hm,w3⟩:=hN σ3 H3 n3
   exact ⟨m',hm,σ3,H3,I3,w3⟩
  | cont =>
   obtain ⟨σ3,H3,I3,n3⟩:=q3
   obtain ⟨m',hm,w3⟩:=hN σ3 H3 n3
   exact ⟨m',hm,σ3,H3,I3,w3⟩
  | brk=>exact q3
  | ret v=>exact q3
 | false =>
  rw [if_neg Bool.false_ne_true]
  exact wpAny_execs_nil ⟨σ1,H2,I2,q2⟩
end
structure It where
 go:Nat -> Hp -> Prop
 wc:Nat -> Hp -> V -> Hp -> Prop
 stop:Nat -> Hp -> Prop
def qa (X:Cx) (pins:List (Addr × Obj)) (H:Hp) (b:Addr):Prop :=
 H b = none /\ b ≠ X.env.locals /\ b ∉ X.fs /\ (b ∈ X.ex \/ X.s₀.heap.objs.size <= b) /\ (∀ x c,X.env.cells.lookup x = some c -> c ≠ b) /\ ∀ p ∈ X.pn ++ pins,p.1 ≠ b
theorem Inv.C2 {X:Cx} {pins:List (Addr × Obj)} {σ:St} {H H':Hp} {s:Shared} {b:Addr} (I:Inv X pins σ H s) (hb:s.heap.objs.size <= b) (hn:H' b = none):qa X pins H' b:=by
 refine ⟨hn,Nat.ne_of_gt (Nat.lt_of_lt_of_le I.lt hb),I.Ji hb,.inr (Nat.le_trans I.sz hb),fun x c e z=>?_,fun p hp z=>?_⟩
 ·obtain ⟨v,q⟩:=I.cell x c e
  exact absurd (Nat.lt_of_lt_of_le q.lt (by rw [z];exact hb)) (Nat.lt_irrefl _)
 ·exact absurd (Nat.lt_of_lt_of_le (Heap.lt_size (I.pin p hp).1) (by rw [z];exact hb)) (Nat.lt_irrefl _)
structure Turn (P:Program) (w:World) (K:PySem.W.Frag) (tg:Expr) (J:It) (fp:List Addr) (it:Addr) (tn:Nat -> Heap -> Prop):Prop where
 mem:it ∈ fp
 obj:∀ i h,tn i h -> ∀ b ∈ fp,∃ o,h.get? b = some o /\ ∀ v,o.data ≠ .cell v
 keep:∀ i h h',tn i h -> (∀ b ∈ fp,∀ o,h.get? b = some o -> h'.get? b = some o) -> tn i h'
 item:∀ (X:Cx),X.prog = P -> X.w = w -> X.K = K -> X.calm = true -> ∀ (i:Nat) (pins:List (Addr × Obj)) (s:Shared) (σ:St) (H:Hp) (E:Value -> Shared -> Prop),Inv X pins σ H s -> (∀ b ∈ fp,qa X pins H b) -> tn i s.heap -> J.go i H ->
  wpAny (model P w) X.A (pyNext (.ref it)) (fun r s1=>∃ u,r = some u /\
   wpAny (model P w) X.A (letOwnedTupleGo tg (.ref it) u) (fun _ s2=>∃ x H',Inv X pins σ H' s2 /\ RelV x u /\ J.wc i H x H' /\ tn (i + 1) s2.heap /\ ∀ b ∈ fp,H' b = none) E s1) E s
 done:∀ (X:Cx),X.prog = P -> X.w = w -> X.K = K -> X.calm = true -> ∀ (i:Nat) (pins:List (Addr × Obj)) (s:Shared) (σ:St) (H:Hp) (E:Value -> Shared -> Prop),Inv X pins σ H s -> (∀ b ∈ fp,qa X pins H b) -> tn i s.heap -> J.stop i H ->
  wpAny (model P w) X.A (pyNext (.ref it)) (fun r s1=>r = none /\ Inv X pins σ H s1) E s
 self:∀ (A:Around) (i:Nat) (s:Shared) (Q:Value -> Shared -> Prop) (E:Value -> Shared -> Prop),tn i s.heap -> Q (.ref it) s -> wpAny (model P w) A (pyIter (.ref it)) Q E s
abbrev TI:=St -> Hp -> (It -> Hp -> Prop) -> Prop
def DA (X:Cx) (pins:List (Addr × Obj)) (σ:St) (tg:Expr) (R:It -> Hp -> Prop) (VY:Value) (s2:Shared):Prop :=
 ∃ (it:Addr) (fp:List Addr) (tn:Nat -> Heap -> Prop) (J:It) (H':Hp),VY = .ref it /\ Inv X pins σ H' s2 /\ Turn X.prog X.w X.K tg J fp it tn /\ tn 0 s2.heap /\ (∀ b ∈ fp,qa X pins H' b) /\ R J H'
def PI (X:Cx) (tg iter:Expr) (wi:TI):Prop :=
 ∀ (pins:List (Addr × Obj)) (s:Shared) (σ:St) (H:Hp) (R:It -> Hp -> Prop),Inv X pins σ H s -> wi σ H R ->
  wpAny (model X.prog X.w) X.A (eval iter X.env) (fun v s1=>wpAny (model X.prog X.w) X.A (pyIter v) (DA X pins σ tg R) X.xe s1) X.xe s
theorem yS {M:Model} {A:Around} {E:Value -> Shared -> Prop} {s:Shared} {tg:Expr} {it:Addr} {u:Value} {o:Obj} {n:String} {vs:Array Value} {Q:Unit -> Shared -> Prop} (ho:s.heap.get? it = some o) (hc:o.cls = .type n) (hd:o.data = .fields vs)
    (hn:["enumerate","zip","dict_itemiterator","dict_reverseitemiterator","odict_iterator","itertools.zip_longest","itertools.pairwise"].contains n = false) (hQ:Q () s):wpAny M A (letOwnedTupleGo tg (.ref it) u) Q E s:=by
  unfold letOwnedTupleGo
  cases tg <;> first
    | exact wpAny_pure hQ
    | (cases u <;> first
        | exact wpAny_pure hQ
        | (refine wpAny_bind (wpAny_load ho ?_)
           rw [hc,hd]
           show wpAny M A (if (["enumerate","zip","dict_itemiterator","dict_reverseitemiterator","odict_iterator","itertools.zip_longest","itertools.pairwise"].contains n && vs[0]? == some (rawInt _)) = true then _ else _) Q E s
           rw [if_neg (by intro h;rw [hn,Bool.false_and] at h;cases h)]
           exact wpAny_pure hQ))
def Mi (K:PySem.W.Frag) (a:Addr):It :=
 ⟨fun i H=>∃ xs x,dY K H a xs /\ xs[i]? = some x,fun i H x H'=>H' = H /\ ∀ xs,dY K H a xs -> xs[i]? = some x,fun i H=>∃ xs,dY K H a xs /\ xs.length <= i⟩
def Mh (K:PySem.W.Frag) (a:Addr):It :=
 ⟨fun i H=>∃ xs x,aG K H a xs /\ xs[i]? = some x,fun i H x H'=>H' = H /\ ∀ xs,aG K H a xs -> xs[i]? = some x,fun i H=>∃ xs,aG K H a xs /\ xs.length <= i⟩
def AZ (lo:Int) (n:Nat):It:=⟨fun i _=>i < n,fun i H x H'=>H' = H /\ x = .int (lo + i),fun i _=>n <= i⟩
theorem zH {P:Program} {w:World} {K:PySem.W.Frag} {tg:Expr} (a it:Addr):Turn P w K tg (Mi K a) [it] it (fun i h=>h.IsListIter it a i) where
 mem:=by simp
 obj:=fun i h st b hb=>by
  have e:b = it:=by simpa using hb
  subst e
  obtain ⟨o,e,c,d⟩:=st
  exact ⟨o,e,fun v z=>by rw [d] at z;cases z⟩
 keep:=fun i h h' st k=>st.at fun o e=>k it (by simp) o e
 item:=by
  intro X hP hw hK hc i pins s σ H E I hf st hg
  subst hP hw hK
  obtain ⟨xs,x,hq,hx⟩:=hg
  obtain ⟨aj,rv,p,hz⟩:=I.list hq
  obtain ⟨u,hu,ru⟩:=rv.get hx
  obtain ⟨f0,f1,f2,f3,f4,f5⟩:=hf it (by simp)
  refine wpAny_pyNext_list_item st p.isList (x:=u) (by simpa using hu) fun h' mM sb=>?_
  have I1:Inv X pins σ H { s with heap:=h' }:=I.turned (t':=s.toks) (fun b o hb e=>(sb.2 b hb).trans e) f0 f1 f3 f4 f5
  obtain ⟨o,e,c,d⟩:=id mM
  exact ⟨u,rfl,yS (s:={ s with heap:=h' }) e c d (by decide) ⟨x,H,I1,ru,⟨rfl,fun ys hy=>by rw [I.kX hy hq];exact hx⟩,mM,fun b hb=>(hf b hb).1⟩⟩
 done:=by
  intro X hP hw hK hc i pins s σ H E I hf st hg
  subst hP hw hK
  obtain ⟨xs,hq,hx⟩:=hg
  obtain ⟨aj,rv,p,hz⟩:=I.list hq
  obtain ⟨f0,f1,f2,f3,f4,f5⟩:=hf it (by simp)
  have hl:=rv.length
  exact wpAny_pyNext_list_end (I.ok.hd hc) st p.isList (by simp;omega) fun h' eb=>⟨rfl,I.turned (t':=s.toks) (fun b o hb e=>eb b o hb e) f0 f1 f3 f4 f5⟩
 self:=fun _ _ _ _ _ st h=>wpAny_pyIter_listiter st h
theorem wx {P:Program} {w:World} {K:PySem.W.Frag} {tg:Expr} (a it:Addr):Turn P w K tg (Mh K a) [it] it (fun i h=>h.IsTupleIter it a i) where
 mem:=by simp
 obj:=fun i h st b hb=>by
  have e:b = it:=by simpa using hb
  subst e
  obtain ⟨o,e,c,d⟩:=st
  exact ⟨o,e,fun v z=>by rw [d] at z;cases z⟩
 keep:=fun i h h' st k=>st.at fun o e=>k it (by simp) o e
 item:=by
  intro X hP hw hK hc i pins s σ H E I hf st hg
  subst hP hw hK
  obtain ⟨xs,x,hq,hx⟩:=hg
  obtain ⟨aj,rv,p,hz⟩:=I.tuple hq
  obtain ⟨u,hu,ru⟩:=rv.get hx
  obtain ⟨f0,f1,f2,f3,f4,f5⟩:=hf it (by simp)
  refine wpAny_pyNext_tuple_item st (show s.heap.IsTuple a aj.toArray from p) (x:=u) (by simpa using hu) fun h' mM sb=>?_
  have I1:Inv X pins σ H { s with heap:=h' }:=I.turned (t':=s.toks) (fun b o hb e=>(sb.2 b hb).trans e) f0 f1 f3 f4 f5
  obtain ⟨o,e,c,d⟩:=id mM
  exact ⟨u,rfl,yS (s:={ s with heap:=h' }) e c d (by decide) ⟨x,H,I1,ru,⟨rfl,fun ys hy=>by rw [I.ra hy hq];exact hx⟩,mM,fun b hb=>(hf b hb).1⟩⟩
 done:=by
  intro X hP hw hK hc i pins s σ H E I hf st hg
  subst hP hw hK
  obtain ⟨xs,hq,hx⟩:=hg
  obtain ⟨aj,rv,p,hz⟩:=I.tuple hq
  obtain ⟨f0,f1,f2,f3,f4,f5⟩:=hf it (by simp)
  have hl:=rv.length
  exact wpAny_pyNext_tuple_end (I.ok.hd hc) st (show s.heap.IsTuple a aj.toArray from p) (by simp;omega) fun h' eb=>⟨rfl,I.turned (t':=s.toks) (fun b o hb e=>eb b o hb e) f0 f1 f3 f4 f5⟩
 self:=fun _ _ _ _ _ st h=>wpAny_pyIter_tupleiter st h
theorem wy {P:Program} {w:World} {K:PySem.W.Frag} {tg:Expr} (it:Addr) (lo:Int) (n:Nat):Turn P w K tg (AZ lo n) [it] it (fun i h=>IsRangeIter h it (lo + (i:Nat) * 1) ((n:Int) - (i:Nat)) 1) where
 mem:=by simp
 obj:=fun i h st b hb=>by
  have e:b = it:=by simpa using hb
  subst e
  exact ⟨_,st,fun v z=>by
   have z':Data.fields _ = Data.cell v:=z
   cases z'⟩
 keep:=fun i h h' st k=>k it (by simp) _ st
 item:=by
  intro X hP hw hK hc i pins s σ H E I hf st hg
  subst hP hw hK
  obtain ⟨f0,f1,f2,f3,f4,f5⟩:=hf it (by simp)
  have W:=Walks.range (prog:=X.prog) (w:=X.w) (I.ok.hd hc) it lo 1 n
  refine W.item i s _ _ hg st fun v h' tk hv mM kk=>?_
  obtain ⟨t,rfl⟩:=hv
  have I1:Inv X pins σ H { s with heap:=h',toks:=tk }:=I.turned (fun b o hb e=>kk b o (by simpa using hb) e) f0 f1 f3 f4 f5
  refine ⟨_,rfl,yS (s:={ s with heap:=h',toks:=tk }) (n:="range_iterator") mM rfl rfl (by decide) ⟨.int (lo + i),H,I1,⟨t,?_⟩,⟨rfl,rfl⟩,mM,fun b hb=>(hf b hb).1⟩⟩
  rw [Int.mul_one]
 done:=by
  intro X hP hw hK hc i pins s σ H E I hf st hg
  subst hP hw hK
  obtain ⟨f0,f1,f2,f3,f4,f5⟩:=hf it (by simp)
  exact wpAny_pyNext_range_end (I.ok.hd hc) st (by have:n <= i:=hg;omega) fun h' eb=>⟨rfl,I.turned (t':=s.toks) (fun b o hb e=>eb b o hb e) f0 f1 f3 f4 f5⟩
 self:=fun _ _ _ _ _ st h=>wpAny_pyIter_rangeiter st h
end L2
namespace L2
open PySem PySem.Spec PyProof.Rows
section
variable {X:Cx} {tg:Expr}
def N1 (K:PySem.W.Frag) (tl:TE):TI:=fun σ H R=>tl σ H fun x H1=>∃ a,x = .ref a /\ (∃ xs,dY K H1 a xs) /\ R (Mi K a) H1
def V_ (K:PySem.W.Frag) (tl:TE):TI:=fun σ H R=>tl σ H fun x H1=>∃ a,x = .ref a /\ (∃ xs,aG K H1 a xs) /\ R (Mh K a) H1
theorem yn {l:Expr} {tl:TE} (hl:PE X l tl):PI X tg l (N1 X.K tl):=by
 intro pins s σ H R I h
 refine di (hl pins s σ H _ I h) fun v s1 ⟨x,H1,I1,r1,q1⟩=>?_
 obtain ⟨a,e,⟨xs,hq⟩,q⟩:=q1
 subst e
 cases r1
 obtain ⟨aj,rv,p,hz⟩:=I1.list hq
 refine wpAny_pyIter_list p.isList ?_
 refine ⟨s1.heap.objs.size,[s1.heap.objs.size],_,_,H1,rfl,I1.kept (t':=s1.toks) fun b o e=>Heap.get?_push_of_some _ e,zH a _,⟨_,Heap.get?_push_size _ rfl,rfl,rfl⟩,fun b hb=>?_,q⟩
 have e:b = s1.heap.objs.size:=by simpa using hb
 subst e
 exact I1.C2 (Nat.le_refl _) (I1.dq.fresh (Nat.le_refl _))
theorem BS {l:Expr} {tl:TE} (hl:PE X l tl):PI X tg l (V_ X.K tl):=by
 intro pins s σ H R I h
 refine di (hl pins s σ H _ I h) fun v s1 ⟨x,H1,I1,r1,q1⟩=>?_
 obtain ⟨a,e,⟨xs,hq⟩,q⟩:=q1
 subst e
 cases r1
 obtain ⟨aj,rv,p,hz⟩:=I1.tuple hq
 refine wpAny_pyIter_tuple (show s1.heap.IsTuple a aj.toArray from p) ?_
 refine ⟨s1.heap.objs.size,[s1.heap.objs.size],_,_,H1,rfl,I1.kept (t':=s1.toks) fun b o e=>Heap.get?_push_of_some _ e,wx a _,⟨_,Heap.get?_push_size _ rfl,rfl,rfl⟩,fun b hb=>?_,q⟩
 have e:b = s1.heap.objs.size:=by simpa using hb
 subst e
 exact I1.C2 (Nat.le_refl _) (I1.dq.fresh (Nat.le_refl _))
theorem uX {pins:List (Addr × Obj)} {σ:St} {H:Hp} {s:Shared} {R:It -> Hp -> Prop} {E:Value -> Shared -> Prop} {lo hi:Int} {t u v:Tok} {tk:Nat} (I:Inv X pins σ H s) (h1:-(2 ^ 62) <= lo) (h2:lo < 2 ^ 62) (h3:-(2 ^ 62) <= hi) (h4:hi < 2 ^ 62)
  (q:R (AZ lo (hi - lo).toNat) H):wpAny (model X.prog X.w) X.A (pyIter (.ref s.heap.objs.size)) (DA X pins σ tg R) E { s with heap:=s.heap.push { cls:=.type "range",data:=.fields #[.int lo t,.int hi u,.int 1 v] },toks:=tk }:=by
 refine wpAny_pyIter_range (IsRange.new ..) (small_one h1 h2 h3 h4) ?_
 have I1:Inv X pins σ H { s with heap:=s.heap.push { cls:=.type "range",data:=.fields #[.int lo t,.int hi u,.int 1 v] },toks:=tk }:=I.kept fun b o e=>Heap.get?_push_of_some _ e
 refine ⟨(s.heap.push { cls:=.type "range",data:=.fields #[.int lo t,.int hi u,.int 1 v] }).objs.size,[(s.heap.push { cls:=.type "range",data:=.fields #[.int lo t,.int hi u,.int 1 v] }).objs.size],_,_,H,rfl,
  I1.kept (t':=tk) fun b o e=>Heap.get?_push_of_some _ e,wy _ lo (hi - lo).toNat,?_,fun b hb=>?_,q⟩
 ·have e1:lo + ((0:Nat):Int) * 1 = lo:=by simp
  have e2:(((hi - lo).toNat:Nat):Int) - ((0:Nat):Int) = Builtin.Range.rangeSize lo hi 1:=by rw [rangeSize_one];split <;> omega
  show IsRangeIter _ _ (lo + ((0:Nat):Int) * 1) ((((hi - lo).toNat:Nat):Int) - ((0:Nat):Int)) 1
  rw [e1,e2]
  exact Heap.get?_push_size _ rfl
 ·have e:b = (s.heap.push { cls:=.type "range",data:=.fields #[.int lo t,.int hi u,.int 1 v] }).objs.size:=by simpa using hb
  subst e
  exact I1.C2 (Nat.le_refl _) (I1.dq.fresh (Nat.le_refl _))
def N0 (ta:TA):TI:=fun σ H R=>ta σ H fun vs H1=>∃ j:Int,vs = [.int j] /\ -(2 ^ 62) <= j /\ j < 2 ^ 62 /\ R (AZ 0 j.toNat) H1
def NZ (ta:TA):TI:=fun σ H R=>ta σ H fun vs H1=>∃ i j:Int,vs = [.int i,.int j] /\ (-(2 ^ 62) <= i /\ i < 2 ^ 62 /\ -(2 ^ 62) <= j /\ j < 2 ^ 62) /\ R (AZ i (j - i).toNat) H1
theorem rE {a:Expr} {ta:TA} {p pos:Pos} (hg:Gl X "range") (hm:X.mg "range" = none) (ha:PA X [a] ta) (hs:starEach [a] X.env = [(false,eval a X.env)]:=by rfl):PI X tg (.Call (.Name "range" p) [a] [] pos) (N0 ta):=by
 intro pins s σ H R I h
 refine Call_ (eW I hg hm boot_range (PyProof.Rows.callWith_type1 (di (ha pos pins s σ H _ I h) fun us s1 ⟨vs,H1,I1,r1,q1⟩=>?_) hs rfl))
 obtain ⟨j,e,q1,q2,q⟩:=q1
 subst e
 cases r1 with
 | cons r rr =>
  cases rr
  obtain ⟨t,rfl⟩:=r
  exact call_range_1 (uX I1 (by omega) (by omega) q1 q2 (by simpa using q))
theorem LC {a b:Expr} {ta:TA} {p pos:Pos} (hg:Gl X "range") (hm:X.mg "range" = none) (ha:PA X [a,b] ta) (hs:starEach [a,b] X.env = [(false,eval a X.env),(false,eval b X.env)]:=by rfl) (LR:starEach [b] X.env = [(false,eval b X.env)]:=by rfl) :
  PI X tg (.Call (.Name "range" p) [a,b] [] pos) (NZ ta):=by
 intro pins s σ H R I h
 refine Call_ (eW I hg hm boot_range (PyProof.Rows.callWith_type1 (di (ha pos pins s σ H _ I h) fun us s1 ⟨vs,H1,I1,r1,q1⟩=>?_) (by rw [hs,LR]) (by rw [LR];rfl)))
 obtain ⟨i,j,e,⟨q1,q2,q3,q4⟩,q⟩:=q1
 subst e
 cases r1 with
 | cons r rr =>
  cases rr with
  | cons r' rr =>
   cases rr
   obtain ⟨t,rfl⟩:=r
   obtain ⟨t',rfl⟩:=r'
   exact call_range_2 (uX I1 q1 q2 q3 q4 q)
def RE (wi:TI) (g:TG) (tb:TS):TS:=fun D σ H=>wi σ H fun J H1=>∃ W:Nat -> Nat -> St -> Hp -> Prop,(∃ m,W 0 m σ H1) /\ ∀ i m σ H,W i m σ H ->
 (J.stop i H /\ D.nx σ H) \/ (J.go i H /\ ∃ N:St -> Hp -> Prop,(∀ σ' H',N σ' H' -> ∃ m',m' < m /\ W (i + 1) m' σ' H') /\ ∀ x H',J.wc i H x H' -> g x σ H' fun σ2 H2=>tb { D with nx:=N,ct:=N,bk:=D.nx } σ2 H2)
def ja (fp:List Addr) (h:Heap):List (Addr × Obj):=fp.filterMap fun b=>(h.get? b).map fun o=>(b,o)
theorem ic {fp:List Addr} {h:Heap} {b:Addr} {o:Obj} (hb:b ∈ fp) (e:h.get? b = some o):(b,o) ∈ ja fp h:=List.mem_filterMap.mpr ⟨b,hb,by rw [e];rfl⟩
theorem rG {fp:List Addr} {h:Heap} {p:Addr × Obj} (hp:p ∈ ja fp h):p.1 ∈ fp /\ h.get? p.1 = some p.2:=by
 obtain ⟨b,hb,e⟩:=List.mem_filterMap.mp hp
 cases q:h.get? b with
 | none=>rw [q] at e;cases e
 | some o =>
  rw [q] at e
  have e':(b,o) = p:=Option.some.inj e
  subst e'
  exact ⟨hb,q⟩
theorem Inv.pinned {pins:List (Addr × Obj)} {σ:St} {H:Hp} {s:Shared} {fp:List Addr} (I:Inv X pins σ H s) (hf:∀ b ∈ fp,qa X pins H b) (ho:∀ b ∈ fp,∃ o,s.heap.get? b = some o /\ ∀ v,o.data ≠ .cell v):Inv X (pins ++ ja fp s.heap) σ H s :=
 I.jK fun p hp=>(List.mem_append.mp hp).elim (fun z=>I.pin p (List.mem_append_right _ z)) fun z=>by
  obtain ⟨hb,e⟩:=rG z
  obtain ⟨f0,f1,f2,_⟩:=hf p.1 hb
  obtain ⟨o,e',d⟩:=ho p.1 hb
  rw [e] at e';cases e'
  exact ⟨e,f0,f1,f2,d⟩
theorem Inv.kK {pins pl:List (Addr × Obj)} {σ:St} {H:Hp} {s:Shared} (I:Inv X (pins ++ pl) σ H s):Inv X pins σ H s:=I.jK fun p hp=>I.pin p (List.mem_append_right _ (List.mem_append_left _ hp))
theorem sM {iter:Expr} {body:List Stmt} {wi:TI} {g:TG} {tb:TS} {pos:Pos} (hp:PassesOwn (model X.prog X.w) X.A X.env X.xe) (hc:X.calm = true) (hi:PI X tg iter wi) (hg:PG X tg g) (hb:nY X body tb)
  (hs:∀ x,foldedSetIterable iter X.env x = pure x:=by intro _;rfl):PS X (.For tg iter body [] pos) (RE wi g tb):=by
 intro pins s σ H D I h
 refine wpAny_For (di (hi pins s σ H _ I h) fun v s1 h1=>di h1 fun VY s2 h2=>?_) hs
 obtain ⟨it,fp,tn,J,H2,e,I2,T,MS,f2,W,⟨m0,w0⟩,turn⟩:=h2
 subst e
 have HY:∀ {H':Hp},(∀ b ∈ fp,H' b = none) -> ∀ b ∈ fp,qa X pins H' b:=fun hn b hb=>⟨hn b hb,(f2 b hb).2⟩
 refine codeAny_forLoop_any (fun n s'=>∃ i σ' H',Inv X pins σ' H' s' /\ tn i s'.heap /\ (∀ b ∈ fp,H' b = none) /\ W i n σ' H') ?_ m0 ⟨0,σ,H2,I2,MS,fun b hb=>(f2 b hb).1,w0⟩
 rintro n s3 ⟨i,σ3,H3,I3,st3,fr3,w3⟩
 rcases turn i n σ3 H3 w3 with ⟨stop,qn⟩ | ⟨go,N,hN,step⟩
 ·refine wpAny_passesOwn hp (di (T.done X rfl rfl rfl hc i pins s3 σ3 H3 X.xe I3 (HY fr3) st3 stop) fun r s4 ⟨hr,I4⟩=>?_)
  subst hr
  exact wpAny_execs_nil ⟨σ3,H3,I4,qn⟩
 ·refine wpAny_passesOwn hp (di (T.item X rfl rfl rfl hc i pins s3 σ3 H3 X.xe I3 (HY fr3) st3 go) fun r s4 ⟨u,hr,h4⟩=>?_)
  subst hr
  refine wpAny_passesOwn hp (di h4 fun _ s5 ⟨x,H5,I5,r5,y5,H_,Xa⟩=>?_)
  have Z1:=I5.pinned (HY Xa) (T.obj _ _ H_)
  refine wpAny_passesOwn hp (di (hg _ s5 σ3 H5 x u _ Z1 r5 (step x H5 y5)) fun _ s6 ⟨σ6,H6,I6,q6⟩=>?_)
  refine wpAny_passesOwn hp (di (hb _ s6 σ6 H6 _ I6 q6) fun f s7 q7=>?_)
  have again:∀ {σ7:St} {H7:Hp},Inv X (pins ++ ja fp s5.heap) σ7 H7 s7 -> N σ7 H7 -> ∃ m,m < n /\ ∃ i σ' H',Inv X pins σ' H' s7 /\ tn i s7.heap /\ (∀ b ∈ fp,H' b = none) /\ W i m σ' H':=fun {σ7 H7} I7 n7=>by
   obtain ⟨m',hm,w7⟩:=hN σ7 H7 n7
   refine ⟨m',hm,i + 1,σ7,H7,I7.kK,T.keep _ _ _ H_ fun b hb o e=>(I7.pin (b,o) (List.mem_append_right _ (List.mem_append_right _ (ic hb e)))).1,fun b hb=>?_,w7⟩
   obtain ⟨o,e,d⟩:=T.obj _ _ H_ b hb
   exact (I7.pin (b,o) (List.mem_append_right _ (List.mem_append_right _ (ic hb e)))).2.1
  cases f with
  | next=>obtain ⟨σ7,H7,I7,n7⟩:=q7;exact again I7 n7
  | cont=>obtain ⟨σ7,H7,I7,n7⟩:=q7;exact again I7 n7
  | brk=>obtain ⟨σ7,H7,I7,q7⟩:=q7;exact ⟨σ7,H7,I7.kK,q7⟩
  | ret v=>obtain ⟨x7,σ7,H7,I7,r7,q7⟩:=q7;exact ⟨x7,σ7,H7,I7.kK,r7,q7⟩
end
theorem C3 {K:PySem.W.Frag} {a:Addr} {xs:List V} {g:TG} {tb:TS} {D:Ends} {σ:St} {H:Hp} (Pv:Nat -> St -> Hp -> Prop) (h0:Pv 0 σ H) (hl:∀ i σ H,i <= xs.length -> Pv i σ H -> dY K H a xs)
  (hs:∀ i x σ H,xs[i]? = some x -> Pv i σ H -> g x σ H fun σ2 H2=>tb { D with nx:=Pv (i + 1),ct:=Pv (i + 1),bk:=D.nx } σ2 H2) (hd:∀ σ H,Pv xs.length σ H -> D.nx σ H) :
  ∃ W:Nat -> Nat -> St -> Hp -> Prop,(∃ m,W 0 m σ H) /\ ∀ i m σ H,W i m σ H ->
   ((Mi K a).stop i H /\ D.nx σ H) \/ ((Mi K a).go i H /\ ∃ N:St -> Hp -> Prop,(∀ σ' H',N σ' H' -> ∃ m',m' < m /\ W (i + 1) m' σ' H') /\ ∀ x H',(Mi K a).wc i H x H' -> g x σ H' fun σ2 H2=>tb { D with nx:=N,ct:=N,bk:=D.nx } σ2 H2):=by
 refine ⟨fun i m σ H=>m = xs.length - i /\ i <= xs.length /\ Pv i σ H,⟨xs.length,by simp,Nat.zero_le _,h0⟩,?_⟩
 rintro i m σ H ⟨rfl,hi,p⟩
 have q:=hl i σ H hi p
 by_cases i4:i < xs.length
 ·refine .inr ⟨⟨xs,xs[i],q,by simp [i4]⟩,Pv (i + 1),fun σ' H' p'=>⟨xs.length - (i + 1),by omega,rfl,i4,p'⟩,fun x H' y=>?_⟩
  obtain ⟨e,y⟩:=y
  subst e
  exact hs i x σ _ (y xs q) p
 ·have e:i = xs.length:=by omega
  subst e
  exact .inl ⟨⟨xs,q,Nat.le_refl _⟩,hd σ H p⟩
theorem FG {K:PySem.W.Frag} {a:Addr} {xs:List V} {g:TG} {tb:TS} {D:Ends} {σ:St} {H:Hp} (Pv:Nat -> St -> Hp -> Prop) (h0:Pv 0 σ H) (hl:∀ i σ H,i <= xs.length -> Pv i σ H -> aG K H a xs)
  (hs:∀ i x σ H,xs[i]? = some x -> Pv i σ H -> g x σ H fun σ2 H2=>tb { D with nx:=Pv (i + 1),ct:=Pv (i + 1),bk:=D.nx } σ2 H2) (hd:∀ σ H,Pv xs.length σ H -> D.nx σ H) :
  ∃ W:Nat -> Nat -> St -> Hp -> Prop,(∃ m,W 0 m σ H) /\ ∀ i m σ H,W i m σ H ->
   ((Mh K a).stop i H /\ D.nx σ H) \/ ((Mh K a).go i H /\ ∃ N:St -> Hp -> Prop,(∀ σ' H',N σ' H' -> ∃ m',m' < m /\ W (i + 1) m' σ' H') /\ ∀ x H',(Mh K a).wc i H x H' -> g x σ H' fun σ2 H2=>tb { D with nx:=N,ct:=N,bk:=D.nx } σ2 H2):=by
 refine ⟨fun i m σ H=>m = xs.length - i /\ i <= xs.length /\ Pv i σ H,⟨xs.length,by simp,Nat.zero_le _,h0⟩,?_⟩
 rintro i m σ H ⟨rfl,hi,p⟩
 have q:=hl i σ H hi p
 by_cases i4:i < xs.length
 ·refine .inr ⟨⟨xs,xs[i],q,by simp [i4]⟩,Pv (i + 1),fun σ' H' p'=>⟨xs.length - (i + 1),by omega,rfl,i4,p'⟩,fun x H' y=>?_⟩
  obtain ⟨e,y⟩:=y
  subst e
  exact hs i x σ _ (y xs q) p
 ·have e:i = xs.length:=by omega
  subst e
  exact .inl ⟨⟨xs,q,Nat.le_refl _⟩,hd σ H p⟩
theorem AE {lo:Int} {n:Nat} {g:TG} {tb:TS} {D:Ends} {σ:St} {H:Hp} (Pv:Nat -> St -> Hp -> Prop) (h0:Pv 0 σ H)
  (hs:∀ i σ H,i < n -> Pv i σ H -> g (.int (lo + i)) σ H fun σ2 H2=>tb { D with nx:=Pv (i + 1),ct:=Pv (i + 1),bk:=D.nx } σ2 H2) (hd:∀ σ H,Pv n σ H -> D.nx σ H) :
  ∃ W:Nat -> Nat -> St -> Hp -> Prop,(∃ m,W 0 m σ H) /\ ∀ i m σ H,W i m σ H ->
   ((AZ lo n).stop i H /\ D.nx σ H) \/ ((AZ lo n).go i H /\ ∃ N:St -> Hp -> Prop,(∀ σ' H',N σ' H' -> ∃ m',m' < m /\ W (i + 1) m' σ' H') /\ ∀ x H',(AZ lo n).wc i H x H' -> g x σ H' fun σ2 H2=>tb { D with nx:=N,ct:=N,bk:=D.nx } σ2 H2):=by
 refine ⟨fun i m σ H=>m = n - i /\ i <= n /\ Pv i σ H,⟨n,by simp,Nat.zero_le _,h0⟩,?_⟩
 rintro i m σ H ⟨rfl,hi,p⟩
 by_cases i4:i < n
 ·refine .inr ⟨i4,Pv (i + 1),fun σ' H' p'=>⟨n - (i + 1),by omega,rfl,i4,p'⟩,fun x H' y=>?_⟩
  obtain ⟨e,y⟩:=y
  subst e y
  exact hs i σ _ i4 p
 ·have e:i = n:=by omega
  subst e
  exact .inl ⟨Nat.le_refl _,hd σ H p⟩
end L2
namespace L2
open PySem PySem.Spec PyProof.Rows
abbrev R2:=V -> V -> Hp -> VK -> Prop
def km (X:Cx) (f:Value -> Value -> Sem Value) (r:R2):Prop :=
 ∀ (pins:List (Addr × Obj)) (s:Shared) (σ:St) (H:Hp) (x y:V) (v u:Value) (Q:VK),Inv X pins σ H s -> RelV x v -> RelV y u -> r x y H Q ->
  wpAny (model X.prog X.w) X.A (f v u) (EP X pins σ Q) X.xe s
def ZW (X:Cx) (f:Value -> Sem Value) (r:V -> Hp -> VK -> Prop):Prop :=
 ∀ (pins:List (Addr × Obj)) (s:Shared) (σ:St) (H:Hp) (x:V) (v:Value) (Q:VK),Inv X pins σ H s -> RelV x v -> r x H Q ->
  wpAny (model X.prog X.w) X.A (f v) (EP X pins σ Q) X.xe s
def gg (X:Cx) (f:Value) (r:List V -> Hp -> VK -> Prop):Prop :=
 ∀ (pins:List (Addr × Obj)) (s:Shared) (σ:St) (H:Hp) (xs:List V) (us:List Value) (Q:VK),Inv X pins σ H s -> Vals xs us -> r xs H Q ->
  wpAny (model X.prog X.w) X.A (call f us) (EP X pins σ Q) X.xe s
def GL (r:R2) (ta tb:TE):TE:=fun σ H Q=>ta σ H fun x H1=>tb σ H1 fun y H2=>r x y H2 Q
def tUn (r:V -> Hp -> VK -> Prop) (ta:TE):TE:=fun σ H Q=>ta σ H fun x H1=>r x H1 Q
def rI (C:Int -> Int -> Prop) (g:Int -> Int -> V):R2:=fun x y H Q=>∃ i j,x = .int i /\ y = .int j /\ C i j /\ Q (g i j) H
def BM (g:Int -> Int -> V):R2:=fun x y H Q=>∃ i j,x = .int i /\ y = .int j /\ Q (g i j) H
def rU (g:Int -> V):V -> Hp -> VK -> Prop:=fun x H Q=>∃ i,x = .int i /\ Q (g i) H
section
variable {X:Cx} {a b c:Expr} {ta tb tc:TE} {pos:Pos}
theorem Ll (ha:PE X a ta) (hb:PE X b tb) {pins:List (Addr × Obj)} {s:Shared} {σ:St} {H:Hp} {R:V -> V -> Hp -> Prop} (I:Inv X pins σ H s)
  (h:ta σ H fun x H1=>tb σ H1 fun y H2=>R x y H2) {Q:Value -> Shared -> Prop} {f:Value -> Value -> Sem Value}
  (hf:∀ v u s2 x y H2,Inv X pins σ H2 s2 -> RelV x v -> RelV y u -> R x y H2 -> wpAny (model X.prog X.w) X.A (f v u) Q X.xe s2) :
  wpAny (model X.prog X.w) X.A (eval a X.env) (fun v s₁=>wpAny (model X.prog X.w) X.A (eval b X.env) (fun u s₂=>wpAny (model X.prog X.w) X.A (f v u) Q X.xe s₂) X.xe s₁) X.xe s:=by
 refine di (ha pins s σ H _ I h) fun v s1 ⟨x,H1,I1,r1,q1⟩=>?_
 refine di (hb pins s1 σ H1 _ I1 q1) fun u s2 ⟨y,H2,I2,r2,q2⟩=>?_
 exact hf v u s2 x y H2 I2 r1 r2 q2
theorem BZ {op:Operator} {r:R2} (ho:km X (binaryOp op) r) (ha:PE X a ta) (hb:PE X b tb):PE X (.BinOp a op b pos) (GL r ta tb):=by
 intro pins s σ H Q I h
 exact wpAny_BinOp (Ll ha hb I h fun v u s2 x y H2 I2 rx ry q=>ho pins s2 σ H2 x y v u Q I2 rx ry q)
theorem Ni {op:UnaryOp} {r:V -> Hp -> VK -> Prop} (ho:ZW X (unaryOp op) r) (ha:PE X a ta):PE X (.UnaryOp op a pos) (tUn r ta):=by
 intro pins s σ H Q I h
 exact UnaryOp_ (di (ha pins s σ H _ I h) fun v s1 ⟨x,H1,I1,r1,q1⟩=>ho pins s1 σ H1 x v Q I1 r1 q1)
theorem Je {f:Value -> Value -> Sem Value} {C:Int -> Int -> Prop} {g:Int -> Int -> Int}
  (rule:∀ (i j:Int) (t u:Tok) (s:Shared) (Q:Value -> Shared -> Prop) (E:Value -> Shared -> Prop),C i j -> Q (.int (g i j) s.toks) { s with toks:=s.toks + 1 } -> wpAny (model X.prog X.w) X.A (f (.int i t) (.int j u)) Q E s) :
  km X f (rI C fun i j=>.int (g i j)):=by
 intro pins s σ H x y v u Q I rx ry h
 obtain ⟨i,j,rfl,rfl,hc,q⟩:=h
 obtain ⟨t,rfl⟩:=rx
 obtain ⟨t',rfl⟩:=ry
 exact rule i j t t' s _ _ hc ⟨.int (g i j),H,I.tok _,⟨_,rfl⟩,q⟩
theorem TL {f:Value -> Value -> Sem Value} {g:Int -> Int -> Int}
  (rule:∀ (i j:Int) (t u:Tok) (s:Shared) (Q:Value -> Shared -> Prop) (E:Value -> Shared -> Prop),Q (.int (g i j) s.toks) { s with toks:=s.toks + 1 } -> wpAny (model X.prog X.w) X.A (f (.int i t) (.int j u)) Q E s) :
  km X f (BM fun i j=>.int (g i j)):=by
 intro pins s σ H x y v u Q I rx ry h
 obtain ⟨i,j,rfl,rfl,q⟩:=h
 obtain ⟨t,rfl⟩:=rx
 obtain ⟨t',rfl⟩:=ry
 exact rule i j t t' s _ _ ⟨.int (g i j),H,I.tok _,⟨_,rfl⟩,q⟩
theorem ET {f:Value -> Value -> Sem Value} {g:Int -> Int -> Bool}
  (rule:∀ (i j:Int) (t u:Tok) (s:Shared) (Q:Value -> Shared -> Prop) (E:Value -> Shared -> Prop),Q (.bool (g i j)) s -> wpAny (model X.prog X.w) X.A (f (.int i t) (.int j u)) Q E s) :
  km X f (BM fun i j=>.bl (g i j)):=by
 intro pins s σ H x y v u Q I rx ry h
 obtain ⟨i,j,rfl,rfl,q⟩:=h
 obtain ⟨t,rfl⟩:=rx
 obtain ⟨t',rfl⟩:=ry
 exact rule i j t t' s _ _ ⟨.bl (g i j),H,I,rfl,q⟩
theorem wu (k:Nat):(0:Int) <= 2 ^ k:=by
 rw [two_pow_cast]
 exact Int.natCast_nonneg _
theorem Jd:km X (binaryOp .Add) (BM fun i j=>.int (i + j)):=TL fun _ _ _ _ _ _ _ q=>add_int q
theorem EO:km X (binaryOp .Mod) (rI (fun _ j=>j ≠ 0) fun i j=>.int (i.fmod j)):=Je fun _ _ _ _ _ _ _ hc q=>mod_int' hc q
theorem I0:km X (binaryOp .RShift) (rI (fun _ j=>0 <= j) fun i j=>.int (i / 2 ^ j.toNat)):=Je fun i j _ _ _ _ _ hc q =>
 rshift_int hc (by rw [Int.fdiv_eq_ediv_of_nonneg i (wu _)];exact q)
theorem unI {f:Value -> Sem Value} {g:Int -> Int}
  (rule:∀ (i:Int) (t:Tok) (s:Shared) (Q:Value -> Shared -> Prop) (E:Value -> Shared -> Prop),Q (.int (g i) s.toks) { s with toks:=s.toks + 1 } -> wpAny (model X.prog X.w) X.A (f (.int i t)) Q E s) :
  ZW X f (rU fun i=>.int (g i)):=by
 intro pins s σ H x v Q I rx h
 obtain ⟨i,rfl,q⟩:=h
 obtain ⟨t,rfl⟩:=rx
 exact rule i t s _ _ ⟨.int (g i),H,I.tok _,⟨_,rfl⟩,q⟩
theorem HP:ZW X (unaryOp .USub) (rU fun i=>.int (-i)):=unI fun _ _ _ _ _ q=>neg_int q
end
section
variable {X:Cx} {a b c:Expr} {ta tb tc:TE} {pos:Pos}
theorem C5 {pins:List (Addr × Obj)} {σ:St} {H:Hp} {s:Shared} {Q:VK} {k k':Bool} (I:Inv X pins σ H s) (q:Q (.bl k) H) (e:k = k'):EP X pins σ Q (.bool k') s:=by
 subst e
 exact ⟨.bl k,H,I,rfl,q⟩
theorem Np:km X (compareOp .Lt) (BM fun i j=>.bl (decide (i < j))):=ET fun _ _ _ _ _ _ _ q=>lt_int q
theorem Nq:km X (compareOp .LtE) (BM fun i j=>.bl (decide (i <= j))):=ET fun _ _ _ _ _ _ _ q=>le_int q
theorem Nr:km X (compareOp .Gt) (BM fun i j=>.bl (decide (j < i))):=ET fun _ _ _ _ _ _ _ q=>gt_int q
theorem Nt:km X (compareOp .GtE) (BM fun i j=>.bl (decide (j <= i))):=ET fun _ _ _ _ _ _ _ q=>ge_int q
theorem Ja:km X (compareOp .Is) (fun x y H Q=>y = .bC /\ Q (.bl (decide (x = .bC))) H):=by
 intro pins s σ H x y v u Q I rx ry h
 obtain ⟨rfl,q⟩:=h
 cases ry
 refine is_none_gen (C5 I q ?_)
 cases x <;> first
  | (cases rx;rfl)
  | (obtain ⟨t,rfl⟩:=rx;rfl)
theorem EM:km X (compareOp .IsNot) (fun x y H Q=>y = .bC /\ Q (.bl (!decide (x = .bC))) H):=by
 intro pins s σ H x y v u Q I rx ry h
 obtain ⟨rfl,q⟩:=h
 cases ry
 refine isnot_none_gen (C5 I q ?_)
 cases x <;> first
  | (cases rx;rfl)
  | (obtain ⟨t,rfl⟩:=rx;rfl)
theorem km.or {f:Value -> Value -> Sem Value} {r r':R2} (h:km X f r) (h':km X f r'):km X f (fun x y H Q=>r x y H Q \/ r' x y H Q):=by
 intro pins s σ H x y v u Q I rx ry q
 rcases q with q | q
 ·exact h pins s σ H x y v u Q I rx ry q
 ·exact h' pins s σ H x y v u Q I rx ry q
theorem B9 (b:Expr) {op:CmpOp} (h:op ≠ .In:=by decide) (h2:op ≠ .NotIn:=by decide):behindInMarks op b = false:=by
 have e1:(op == CmpOp.In) = false:=by cases op <;> first | rfl | exact absurd rfl h
 have e2:(op == CmpOp.NotIn) = false:=by cases op <;> first | rfl | exact absurd rfl h2
 cases b <;> simp [behindInMarks,e1,e2]
theorem yr {op:CmpOp} {r:R2} (ho:km X (compareOp op) r) (ha:PE X a ta) (hb:PE X b tb) (hm:behindInMarks op b = false):PE X (.Compare a [op] [b] pos) (GL r ta tb):=by
 intro pins s σ H Q I h
 exact wpAny_Compare1 (Ll ha hb I h fun v u s2 x y H2 I2 rx ry q=>ho pins s2 σ H2 x y v u Q I2 rx ry q) hm
def GJ (t:TE):TT:=fun σ H Q=>t σ H fun x H'=>∃ k,x = .bl k /\ Q k H'
theorem yh {op:CmpOp} {r:R2} (ho:km X (compareOp op) r) (ha:PE X a ta) (hb:PE X b tb) (hm:behindInMarks op b = false):PT X (.Compare a [op] [b] pos) (GJ (GL r ta tb)):=by
 intro pins s σ H Q I h
 refine wpAny_isTrue_Compare1 (di (ha pins s σ H _ I h) fun v s1 ⟨x,H1,I1,r1,q1⟩=>di (hb pins s1 σ H1 _ I1 q1) fun u s2 ⟨y,H2,I2,r2,q2⟩ =>
  di (ho pins s2 σ H2 x y v u _ I2 r1 r2 q2) fun c s3 ⟨z,H3,I3,r3,k,e,q3⟩=>?_) hm
 subst e
 cases r3
 exact wpAny_truthy_bool ⟨H3,I3,q3⟩
theorem sW:(sizeLine:Nat) < 2 ^ 63:=by rw [sizeLine_eq];decide
theorem vals1 {x:V} {us:List Value} (r:Vals [x] us):∃ u,us = [u] /\ RelV x u:=by
 cases r with
 | cons r1 r2=>cases r2;exact ⟨_,rfl,r1⟩
theorem vals2 {x y:V} {us:List Value} (r:Vals [x,y] us):∃ u w',us = [u,w'] /\ RelV x u /\ RelV y w':=by
 cases r with
 | cons r1 r2 =>
  cases r2 with
  | cons r3 r4=>cases r4;exact ⟨_,_,rfl,r1,r3⟩
theorem Du:gg X (.builtin "abs") (fun xs H Q=>∃ i,xs = [.int i] /\ Q (.int (if i < 0 then -i else i)) H):=by
 intro pins s σ H xs us Q I r h
 obtain ⟨i,rfl,q⟩:=h
 obtain ⟨u,rfl,t,rfl⟩:=vals1 r
 exact call_abs_int fun u tk=>⟨.int (if i < 0 then -i else i),H,I.tok _,⟨_,rfl⟩,q⟩
theorem Mc (hc:X.calm = true):gg X (.builtin "max") (fun xs H Q=>∃ i j,xs = [.int i,.int j] /\ Q (.int (if j > i then j else i)) H):=by
 intro pins s σ H xs us Q I r h
 obtain ⟨i,j,rfl,q⟩:=h
 obtain ⟨u,w',rfl,⟨t,rfl⟩,⟨t',rfl⟩⟩:=vals2 r
 refine max_two_ints (I.ok.hd hc) fun h' tk k=>⟨_,H,I.kept k,?_,q⟩
 by_cases hj:j > i
 ·rw [if_pos hj,if_pos hj];exact ⟨_,rfl⟩
 ·rw [if_neg hj,if_neg hj];exact ⟨_,rfl⟩
theorem Mb (hc:X.calm = true):gg X (.builtin "min") (fun xs H Q=>∃ i j,xs = [.int i,.int j] /\ Q (.int (if j < i then j else i)) H):=by
 intro pins s σ H xs us Q I r h
 obtain ⟨i,j,rfl,q⟩:=h
 obtain ⟨u,w',rfl,⟨t,rfl⟩,⟨t',rfl⟩⟩:=vals2 r
 refine min_two_ints (I.ok.hd hc) fun h' tk k=>⟨_,H,I.kept k,?_,q⟩
 by_cases hj:j < i
 ·rw [if_pos hj,if_pos hj];exact ⟨_,rfl⟩
 ·rw [if_neg hj,if_neg hj];exact ⟨_,rfl⟩
theorem AS:gg X (.type "int") (fun xs H Q=>(∃ i,xs = [.int i] /\ Q (.int i) H) \/ ∃ k,xs = [.bl k] /\ Q (.int (if k then 1 else 0)) H):=by
 intro pins s σ H xs us Q I r h
 rcases h with ⟨i,rfl,q⟩ | ⟨k,rfl,q⟩
 ·obtain ⟨u,rfl,t,rfl⟩:=vals1 r
  exact call_int_int ⟨.int i,H,I,⟨_,rfl⟩,q⟩
 ·obtain ⟨u,rfl,r1⟩:=vals1 r
  cases r1
  exact call_int_bool ⟨.int (if k then 1 else 0),H,I.tok _,⟨_,rfl⟩,q⟩
end
end L2
namespace L2
open PySem PySem.Spec PyProof.Rows
structure agA (h:Heap) (x dx C:Addr) (mA:Str -> Option Value):Prop where
 obj:h.get? x = some (PySem.W.instObj C dx)
 ns:h.Ns1 dx mA
 ne:dx ≠ x
section
variable {prog:Program} {w:World} {A:Around} {E:Value -> Shared -> Prop} {s:Shared} {K:PySem.W.Frag} {x dx C f:Addr} {mA:Str -> Option Value} {name:Str} {v:Value}
end
theorem p4.some_of {v:V} {o:Option Value} (r:p4 (some v) o):∃ u,o = some u /\ RelV v u:=by
 cases o with
 | none=>exact (show False from r).elim
 | some u=>exact ⟨u,rfl,r⟩
theorem p4.none_of {o:Option Value} (r:p4 none o):o = none:=by
 cases o with
 | none=>rfl
 | some u=>exact (show False from r).elim
section
variable {P:Program} {w:World} {H H':Hp} {h h':Heap} {a C dx:Addr} {fs fs':List (Str × V)}
end
structure Cls (K:PySem.W.Frag) (C:Addr):Prop where
 pg:PySem.W.plainGet K C Str.empty = true
 hd:PySem.W.hasDictIn K C = true
 po:PySem.W.plainOver K C = true
 sa:PySem.W.findIn K (.ref C) "__setattr__" = some (some (.builtin "object.__setattr__"))
structure Con (K:PySem.W.Frag) (C:Addr) (f:Str) (v:V) (u:Value):Prop where
 at_:PySem.W.findIn K (.ref C) f = some (some u)
 rel:RelV v u
 get:PySem.W.specialIn K u "__get__" = some none
 cp:PySem.W.copiedNames.contains f = false
structure Meth (K:PySem.W.Frag) (C:Addr) (m:Str) (f:Addr):Prop where
 at_:PySem.W.findIn K (.ref C) m = some (some (.ref f))
 fn:PySem.W.isFn K (.ref f) = true
 kp:PySem.W.keepIn K (.ref f) = true
section
variable {X:Cx} {pins:List (Addr × Obj)} {σ:St} {H:Hp} {s:Shared} {a C dx:Addr} {fs:List (Str × V)} {f:Str} {v:V} {A:Around} {E:Value -> Shared -> Prop}
end
section
variable {X:Cx} {o e value:Expr} {f:Str} {pos pos' acI:Pos} {ta tv:TE}
end
section
variable {X:Cx} {pins:List (Addr × Obj)} {σ:St} {H:Hp} {s:Shared} {A:Around} {E:Value -> Shared -> Prop} {Q:Value -> Shared -> Prop} {c:Value} {b:Bool}
inductive pW (K:PySem.W.Frag) (H:Hp):V -> Value -> Prop where
 | bC:pW K H .bC (.type "NoneType")
 | bl (x:Bool):pW K H (.bl x) (.type "bool")
 | int (i:Int):pW K H (.int i) (.type "int")
 | str (x:Str):pW K H (.str x) (.type "str")
 | OW (x:UInt64):pW K H (.OW x) (.type "float")
 | lst {a:Addr} {xs:List V} (e:H a = some (.lst xs)):pW K H (.ref a) (.type "list")
 | ji {a:Addr} {o:Obj} {xs:List V} (e:H a = some (.ji o (.lst xs))):pW K H (.ref a) (.type "list")
 | tup {a:Addr} {xs:List V} (e:H a = some (.tup xs)):pW K H (.ref a) (.type "tuple")
 | dK {a:Addr} {oU:List (Key × V)} (e:H a = some (.dK oU)):pW K H (.ref a) (.type "dict")
 | dT {a:Addr} {oU:List (List Key × V)} (e:H a = some (.dT oU)):pW K H (.ref a) (.type "dict")
 | ins {a C dx:Addr} {fs:List (Str × V)} (e:H a = some (.ins C dx fs)) (cl:Cls K C) (ha:PySem.W.findIn K (.ref C) "__class__" = some (some (.builtin "object.__class__")))
   (hn:PySem.W.specialIn K (.builtin "object.__class__") "__get__" = some (some (.builtin "getset_descriptor.__get__"))) (htk:PySem.W.takesIn K (.builtin "object.__class__") = some true)
   (hm:PySem.W.mroIn K C (.type "object") = some true):pW K H (.ref a) (.ref C)
end
end L2
namespace L2
open PySem PySem.Spec PyProof.Rows
structure gZ (k:Nat) (A:Around):Prop where
 hd:A.handled = none
 dp:A.depth + 3 * k + 5 < recursionLimit
 un:A.units + 16 * k + 200 < cLine
theorem gZ.mono {j k:Nat} {A:Around} (r:gZ k A) (h:j <= k):gZ j A:=⟨r.hd,by have:=r.dp;omega,by have:=r.un;omega⟩
theorem gZ.deeper {k:Nat} {A:Around} (r:gZ (k + 1) A) (env:Env):gZ k (A.deeper env) :=
 ⟨r.hd,by have:=r.dp;show A.depth + 1 + 3 * k + 5 < _;omega,by have:=r.un;show A.units + 3 + 16 * k + 200 < _;omega⟩
theorem gZ.depth {k:Nat} {A:Around} (r:gZ k A):A.depth < recursionLimit:=by have:=r.dp;omega
theorem gZ.units {k:Nat} {A:Around} (r:gZ k A):A.units + 64 < cLine:=by have:=r.un;omega
def MH:TA:=fun _ H Q=>Q [] H
def GO (ta:TE) (tr:TA):TA:=fun σ H Q=>ta σ H fun x H1=>tr σ H1 fun xs H2=>Q (x :: xs) H2
section
variable {X:Cx} {e:Expr} {es:List Expr} {te:TE} {t:TA} {pos:Pos}
theorem ib:PA X [] MH:=fun _ _ _ _ H Q I h=>Calls.spliced_nil ⟨[],H,I,.nil,h⟩
theorem d7 (ha:PE X e te) (hr:PA X es t) (hs:starEach (e :: es) X.env = (false,eval e X.env) :: starEach es X.env:=by rfl):PA X (e :: es) (GO te t):=by
 intro pos pins s σ H Q I h
 rw [hs]
 show wpAny _ _ (spliced ((false,eval e X.env) :: backTo pos (starEach es X.env))) _ _ s
 refine Calls.spliced_cons (di (ha pins s σ H _ I h) fun u s1 ⟨x,H1,I1,r1,q1⟩=>?_)
 exact di (hr pos pins s1 σ H1 _ I1 q1) fun us s2 ⟨xs,H2,I2,r2,q2⟩=>⟨x :: xs,H2,I2,.cons r1 r2,q2⟩
def Rx (t:TA):TE:=fun σ H Q=>t σ H fun xs H1=>xs.length <= sizeLine /\ ∀ p,H1 p = none -> Q (.ref p) (upd H1 p (.tup xs))
def RC (t:TA):TE:=fun σ H Q=>t σ H fun xs H1=>xs.length <= sizeLine /\ ∀ p,H1 p = none -> Q (.ref p) (upd H1 p (.lst xs))
theorem IM {x1} (h:PA X es t):PE X (.Tuple es x1 pos) (Rx t):=by
 intro pins s σ H Q I hq
 refine wpAny_Tuple_spliced (di (h pos pins s σ H _ I hq) fun us s1 ⟨xs,H1,I1,r,z,q⟩=>⟨by rw [<- r.length];exact z,?_⟩)
 have hf:H1 s1.heap.objs.size = none:=I1.dq.fresh (Nat.le_refl _)
 refine ⟨.ref s1.heap.objs.size,upd H1 s1.heap.objs.size (.tup xs),I1.laid (t':=s1.toks) (fun b u e=>Heap.get?_push_of_some _ e) (Nat.le_refl _) ?_,rfl,q _ hf⟩
 exact ⟨z,us,r,⟨_,Heap.get?_push_size _ rfl,rfl,_,rfl⟩⟩
theorem IS (h:PA X es t):PE X (.List es pos) (RC t):=by
 intro pins s σ H Q I hq
 refine wpAny_List_spliced (di (h pos pins s σ H _ I hq) fun us s1 ⟨xs,H1,I1,r,z,q⟩=>⟨by rw [<- r.length];exact z,?_⟩)
 have hf:H1 s1.heap.objs.size = none:=I1.dq.fresh (Nat.le_refl _)
 refine ⟨.ref s1.heap.objs.size,upd H1 s1.heap.objs.size (.lst xs),I1.laid (t':=s1.toks) (fun b u e=>Heap.get?_push_of_some _ e) (Nat.le_refl _) ?_,rfl,q _ hf⟩
 exact ⟨z,us,0,r,Heap.get?_push_size _ rfl⟩
end
abbrev Sp:=List V -> Hp -> VK -> XK -> Prop
abbrev A7:=List Env -> Hp -> Shared -> XK -> Value -> Shared -> Prop
structure GA (P:Program) (w:World) (K:PySem.W.Frag) (mg:Str -> Option Value) (base:Heap) (A:Around) (outer:List Env) (s:Shared) (H:Hp):Prop where
 frames:A.frames = some outer
 mod:Mod K mg base
 bs:∀ b o,base.get? b = some o -> s.heap.get? b = some o /\ H b = none
 Hx:base.objs.size <= s.heap.objs.size
 mZ:s.heap.FunFrames base outer
 L7:∀ b ∈ A6 outer,H b = none
 dq:mv P w H s.heap
 bare:AllBare s.gens
def CE (outer:List Env) (P:Program) (w:World) (H:Hp) (s:Shared) (Q:VK) (u:Value) (s':Shared):Prop :=
 ∃ v H',s'.os = s.os /\ AllBare s'.gens /\ Un (A6 outer) [] H H' s.heap s'.heap /\ mv P w H' s'.heap /\ RelV v u /\ Q v H'
def CR (CX:A7) (outer:List Env) (P:Program) (w:World) (H:Hp) (s:Shared) (Q:VK) (E:XK) (r:Result) (s':Shared):Prop :=
 match r with
 | .ok (.ret u)=>CE outer P w H s Q u s'
 | .ok _=>False
 | .error e=>CX outer H s E e s'
structure ku (P:Program) (w:World) (K:PySem.W.Frag) (mg:Str -> Option Value) (base:Heap) (CX:A7) (k:Nat) (f:Addr) (fd:FuncData) (ps:List Str) (sp:Sp):Prop where
 len:∀ vs H Q E,sp vs H Q E -> vs.length = ps.length
 run:∀ (A:Around) (outer:List Env) (s:Shared) (H:Hp) (args:Args) (us:List Value) (vs:List V) (Q:VK) (E:XK),gZ k A -> GA P w K mg base A outer s H -> BindsTo s fd args (ps.zip us) -> Vals vs us -> sp vs H Q E ->
  codeAny (model P w) A (.call (.ref f) args) (CR CX outer P w H s Q E) s
theorem ku.mono {P:Program} {w:World} {K:PySem.W.Frag} {mg:Str -> Option Value} {base:Heap} {CX:A7} {j k:Nat} {f:Addr} {fd:FuncData} {ps:List Str} {sp:Sp} (F:ku P w K mg base CX j f fd ps sp) (h:j <= k) :
  ku P w K mg base CX k f fd ps sp:=⟨F.len,fun A outer s H args us vs Q E hr=>F.run A outer s H args us vs Q E (hr.mono h)⟩
section
variable {X:Cx} {pins:List (Addr × Obj)} {σ:St} {H:Hp} {s s':Shared}
theorem Inv.XX (I:Inv X pins σ H s):GA X.prog X.w X.K X.mg X.base X.A X.stack s H :=
 ⟨I.ok.frames,I.ok.mod,I.bs,Nat.le_trans I.ok.Hx I.sz,I.stack,I.x6,I.dq,I.bare⟩
theorem Inv.after {Q:VK} {u:Value} (I:Inv X pins σ H s) (h:CE X.stack X.prog X.w H s Q u s'):EP X pins σ Q u s':=by
 obtain ⟨v,H',os,bare,un,dq,r,q⟩:=h
 obtain ⟨hh,g,d,t,TK⟩:=s'
 obtain rfl:TK = s.os:=os
 exact ⟨v,H',I.call (h':=hh) (g':=g) (d':=d) (t':=t) (ch:=[]) un dq bare (fun b z=>absurd z (by simp)),r,q⟩
end
def MK (sp:Sp) (fI:List V) (E:XK) (t:TA):TE:=fun σ H Q=>t σ H fun vs H1=>sp (vs ++ fI) H1 Q E
def Binds (K:PySem.W.Frag) (fd:FuncData) (ps:List Str) (ds:List Value):Prop :=
 ∀ (s:Shared) (us:List Value),K.In s.heap -> (us ++ ds).length = ps.length -> BindsTo s fd ⟨us,[]⟩ (ps.zip (us ++ ds))
theorem Binds.all {K:PySem.W.Frag} {fd:FuncData} {ps:List Str} (h:∀ us:List Value,us.length = ps.length -> bindArgs fd ⟨us,[]⟩ = pure (ps.zip us)):Binds K fd ps []:=fun s us _ hl=>by
 rw [List.append_nil] at hl ⊢
 exact .of_eq (h us hl)
def Passes (CX:A7) (X:Cx) (E:XK):Prop:=∀ (pins:List (Addr × Obj)) (σ:St) (H:Hp) (s:Shared) (e:Value) (s':Shared),Inv X pins σ H s -> CX X.stack H s E e s' -> X.xe e s'
section
variable {X:Cx} {CX:A7} {k:Nat} {f C:Addr} {fd:FuncData} {ps:List Str} {sp:Sp} {fI:List V} {ds:List Value} {E:XK} {x m:Str} {p pos apos:Pos} {e o:Expr} {es:List Expr} {ta:TE} {t:TA}
theorem Iw {pins:List (Addr × Obj)} {σ:St} {H:Hp} {s:Shared} {Q:VK} {us:List Value} {vs:List V} (F:ku X.prog X.w X.K X.mg X.base CX k f fd ps sp) (hr:gZ k X.A) (hb:Binds X.K fd ps ds) (hd:Vals fI ds) (hx:Passes CX X E)
  (I:Inv X pins σ H s) (r:Vals vs us) (h:sp (vs ++ fI) H Q E):wpAny (model X.prog X.w) X.A (call (.ref f) us) (EP X pins σ Q) X.xe s:=by
 have r2:Vals (vs ++ fI) (us ++ ds):=r.append hd
 have hl:(us ++ ds).length = ps.length:=by rw [<- r2.length];exact F.len _ _ _ _ h
 refine wpAny_call (codeAny_mono (F.run X.A X.stack s H ⟨us,[]⟩ (us ++ ds) (vs ++ fI) Q E hr I.XX (hb s us I.A2 hl) r2 h) fun r s' hq=>?_)
 cases r with
 | error e=>exact hx pins σ H s e s' I hq
 | ok fl =>
  cases fl with
  | ret u=>exact I.after hq
  | next=>exact False.elim hq
  | brk=>exact False.elim hq
  | cont=>exact False.elim hq
theorem EI (F:ku X.prog X.w X.K X.mg X.base CX k f fd ps sp) (hr:gZ k X.A) (hg:Gl X x) (hm:X.mg x = some (.ref f)) (hk:PySem.W.keepIn X.K (.ref f) = true) (hb:Binds X.K fd ps ds) (hd:Vals fI ds) (hx:Passes CX X E)
  (ha:PA X (e :: es) t) (Ov:(x == ("__debug__" : Str)) = false:=by decide) (he:starEach (e :: es) X.env = (false,eval e X.env) :: starEach es X.env:=by rfl) (hpl:(backTo pos (starEach es X.env)).any (·.1) = false:=by rfl) :
  PE X (.Call (.Name x p) (e :: es) [] pos) (MK sp fI E t):=by
 intro pins s σ H Q I h
 refine wpAny_Call_Name_kw (yB I hg hm ?_ Ov)
 refine PySem.W.callWith_K (h₀:=X.base) I.ok.mod.Vg hk (di (ha pos pins s σ H _ I h) fun us s1 ⟨vs,H1,I1,r,q⟩=>⟨I1.A2,?_⟩) he hpl
 exact Iw F hr hb hd hx I1 r q
structure Mk (K:PySem.W.Frag) (C f:Addr):Prop where
 makes:PySem.W.makesIn K C = true
 init:PySem.W.findIn K (.ref C) "__init__" = some (some (.ref f))
 fn:PySem.W.isFn K (.ref f) = true
 kp:PySem.W.keepIn K (.ref C) = true
end
section
variable {X:Cx} {CX:A7} {k:Nat} {f C:Addr} {fd:FuncData} {ps ks:List Str} {sp:Sp} {E:XK} {x m:Str} {p pos apos ad4:Pos} {e o:Expr} {es:List Expr} {kws:List Keyword} {te ta:TE} {t tk:TA} {nm:Option Str}
structure ZZ (K:PySem.W.Frag) (fd:FuncData) (ps ks:List Str) (g:List Value -> List Value -> List Value) (gV:List V -> List V -> List V):Prop where
 to:∀ (s:Shared) (us ws:List Value),K.In s.heap -> (g us ws).length = ps.length -> BindsTo s fd ⟨us,ks.zip ws⟩ (ps.zip (g us ws))
 rel:∀ {vs:List V} {us:List Value} {zs:List V} {ws:List Value},Vals vs us -> Vals zs ws -> Vals (gV vs zs) (g us ws)
variable {g:List Value -> List Value -> List Value} {gV:List V -> List V -> List V}
end
structure aq (N P:List Str) (sc:Scope):Prop where
 kind:sc.kind = .function
 co:sc.isCoroutine = false
 gen:sc.isGenerator = false
 nd:N.Nodup
 pre:N.take P.length = P
 par:∀ x ∈ P,sc.names.lookup x = some .local \/ sc.names.lookup x = some .cell
 Jj:∀ y ∈ sc.names,y.2 ≠ .free
theorem rZ {kindOf:Str -> Option NameKind} {x:Str}:∀ {binds:List (Str × Value)} {m:Str -> Option Value},(∀ v,(x,v) ∉ binds) -> bindL kindOf binds m x = m x
 | [],_,_=>rfl
 | (n,v) :: r,m,h=>by
  unfold bindL
  rw [rZ fun w hw=>h w (List.mem_cons_of_mem _ hw)]
  split
  ·have:x ≠ n:=by rintro rfl;exact h v List.mem_cons_self
   simp [this]
  ·rfl
theorem r_ {kindOf:Str -> Option NameKind} {x:Str}:∀ {binds:List (Str × Value)} {m:Str -> Option Value},(∀ v,(x,v) ∉ binds) -> bindC kindOf binds m x = m x
 | [],_,_=>rfl
 | (n,v) :: r,m,h=>by
  unfold bindC
  rw [r_ fun w hw=>h w (List.mem_cons_of_mem _ hw)]
  split
  ·rfl
  ·have:x ≠ n:=by rintro rfl;exact h v List.mem_cons_self
   simp [this]
theorem r6 {kindOf:Str -> Option NameKind} {x:Str} {v:Value}:∀ {P:List Str} {vs:List Value} {i:Nat} {m:Str -> Option Value},P.Nodup -> P[i]? = some x -> vs[i]? = some v -> kindOf x = some .local ->
  bindL kindOf (P.zip vs) m x = some v
 | [],_,_,_,_,h,_,_=>by simp at h
 | _ :: _,[],_,_,_,_,h,_=>by simp at h
 | p :: P,w :: vs,0,m,nd,h1,h2,hk=>by
  simp at h1 h2;subst h1;subst h2
  show bindL kindOf ((p,w) :: P.zip vs) m p = _
  unfold bindL
  rw [rZ fun v hv=>(List.nodup_cons.mp nd).1 (List.of_mem_zip hv).1,if_pos hk]
  simp
 | p :: P,w :: vs,i + 1,m,nd,h1,h2,hk=>by
  show bindL kindOf ((p,w) :: P.zip vs) m x = _
  unfold bindL
  exact r6 (i:=i) (List.nodup_cons.mp nd).2 (by simpa using h1) (by simpa using h2) hk
theorem se {kindOf:Str -> Option NameKind} {x:Str} {v:Value}:∀ {P:List Str} {vs:List Value} {i:Nat} {m:Str -> Option Value},P.Nodup -> P[i]? = some x -> vs[i]? = some v -> kindOf x ≠ some .local ->
  bindC kindOf (P.zip vs) m x = some v
 | [],_,_,_,_,h,_,_=>by simp at h
 | _ :: _,[],_,_,_,_,h,_=>by simp at h
 | p :: P,w :: vs,0,m,nd,h1,h2,hk=>by
  simp at h1 h2;subst h1;subst h2
  show bindC kindOf ((p,w) :: P.zip vs) m p = _
  unfold bindC
  rw [r_ fun v hv=>(List.nodup_cons.mp nd).1 (List.of_mem_zip hv).1,if_neg hk]
  simp
 | p :: P,w :: vs,i + 1,m,nd,h1,h2,hk=>by
  show bindC kindOf ((p,w) :: P.zip vs) m x = _
  unfold bindC
  exact se (i:=i) (List.nodup_cons.mp nd).2 (by simpa using h1) (by simpa using h2) hk
def start (N:List Str) (vs:List V):St:=vs.map some ++ List.replicate (N.length - vs.length) none
def xA (CX:A7) (P:Program) (w:World) (K:PySem.W.Frag) (mg:Str -> Option Value) (base:Heap) (N:List Str) (qual:Str) (scope:Scope) (f:Addr) (cd:Value) (A:Around) (outer:List Env) (s:Shared) (H:Hp) (E:XK):Cx where
 prog:=P
 w:=w
 K:=K
 mg:=mg
 base:=base
 A:=A.deeper (envOfC qual scope s.heap.objs.size f cd)
 N:=N
 s₀:=s
 H₀:=H
 env:=envOfC qual scope s.heap.objs.size f cd
 outer:=outer
 stack:=envOfC qual scope s.heap.objs.size f cd :: outer
 ex:=[]
 calm:=true
 fn:=fun _=>true
 pn:=[]
 xe:=fun e s'=>wpAny (model P w) (A.deeper (envOfC qual scope s.heap.objs.size f cd)) (leaving (envOfC qual scope s.heap.objs.size f cd) e) (fun _ SA=>CX outer H s E e SA) (fun e' SA=>CX outer H s E e' SA) s'
theorem vW {sc:Scope} {n:Nat} {x:Str} (h:sc.names.lookup x = some .cell):∃ c,(cellsFrom n sc.names []).lookup x = some c:=by
 have q:=PySem.W.cellsFrom_some sc.names n [] (.inl h)
 exact Option.isSome_iff_exists.mp q
theorem Am {CX:A7} {P:Program} {w:World} {K:PySem.W.Frag} {mg:Str -> Option Value} {base:Heap} {N ps:List Str} {qual:Str} {scope:Scope} {f:Addr} {cd:Value} {A:Around} {outer:List Env} {s s1:Shared} {H:Hp} {E:XK} {us:List Value} {vs:List V}
  (S:aq N ps scope) (hd:A.handled = none) (e0:GA P w K mg base A outer s H) (hl:vs.length = ps.length) (r:Vals vs us)
  (x:InCallC s s.heap.objs.size (bindL (envOfC qual scope s.heap.objs.size f cd).kindOf (ps.zip us) fun _=>none) (cellsFrom (s.heap.objs.size + 1) scope.names []) (bindC (envOfC qual scope s.heap.objs.size f cd).kindOf (ps.zip us) fun _=>none) s1) :
  Inv (xA CX P w K mg base N qual scope f cd A outer s H E) [] (start N vs) H s1:=by
 have hpl:ps.length <= N.length:=by have:=congrArg List.length S.pre;rw [List.length_take] at this;omega
 obtain ⟨h1,tk,rfl,hk⟩:=x.done
 have Nz:∀ b:Addr,b ∉ (xA CX P w K mg base N qual scope f cd A outer s H E).ex:=fun b z=>absurd (show b ∈ ([]:List Addr) from z) (by simp)
 refine ⟨⟨e0.mod,S.kind,rfl,rfl,Nat.le_refl _,fun y z c h1 h2=>?_,fun y hy=>?_,fun y c _ h=>?_,fun _=>hd,Around.frames_deeper e0.frames,.inr ⟨rfl,rfl⟩,fun b z=>absurd z (Nz b),e0.bs,e0.Hx,fun b _ _=>Nz b,fun b z=>absurd z (Nz b),e0.mZ,e0.L7⟩,
  rfl,e0.bare,Un.kept hk,⟨_,x.toInCall.ns,fun i y v h1 h2 h3=>?_⟩,fun y c h=>⟨_,x.cell y c h⟩,e0.dq.fresh (Nat.le_refl _),fun y c h=>?_,fun p hp=>absurd (show p ∈ ([]:List (Addr × Obj)) from hp) (by simp),e0.dq.kept hk,?_⟩
 ·exact name_of_addr x.apart (PySem.mem_of_lookup h1) (PySem.mem_of_lookup h2)
 ·have hy:scope.names.lookup y = some .cell \/ scope.names.lookup y = some .free:=hy
  rcases hy with hy | hy
  ·exact vW hy
  ·exact absurd rfl (S.Jj _ (PySem.mem_of_lookup hy))
 ·exact Nat.le_of_lt (x.above y c (PySem.mem_of_lookup h))
 ·have hi:i < vs.length:=by
   unfold start at h2
   by_cases hi:i < vs.length
   ·exact hi
   ·rw [List.getElem?_append_right (by simpa using hi)] at h2
    rw [List.getElem?_replicate] at h2
    split at h2 <;> cases h2
  have ha:vs[i]? = some v:=by
   unfold start at h2
   rw [List.getElem?_append_left (by simpa using hi),List.getElem?_map] at h2
   cases e:vs[i]? with
   | none=>rw [e] at h2;cases h2
   | some a=>rw [e] at h2;cases h2;rfl
  obtain ⟨u,hu,rv⟩:=r.get ha
  have hp:ps[i]? = some y:=by
   rw [<- S.pre,List.getElem?_take_of_lt (by omega)];exact h1
  have ndP:ps.Nodup:=by rw [<- S.pre];exact S.nd.sublist (List.take_sublist _ _)
  refine ⟨u,rv,?_⟩
  rcases S.par y (List.mem_of_getElem? hp) with k | k
  ·exact .inl ⟨k,r6 ndP hp hu k⟩
  ·obtain ⟨c,e⟩:=vW (n:=s.heap.objs.size + 1) k
   refine .inr ⟨.inl k,c,e,?_⟩
   have q:=x.cell y c e
   rw [se ndP hp hu (by show scope.names.lookup y ≠ _;rw [k];decide)] at q
   exact q
 ·exact e0.dq.fresh (Nat.le_of_lt (x.above y c (PySem.mem_of_lookup h)))
 ·unfold start
  show _ = N.length
  rw [List.length_append,List.length_map,List.length_replicate]
  omega
theorem OT {CX:A7} {P:Program} {w:World} {K:PySem.W.Frag} {mg:Str -> Option Value} {base:Heap} {k:Nat} {f:Addr} {name qual:Str} {params:Arguments} {body:List Stmt} {scope:Scope} {dV kV doc pm mI ct oc:Value} {an od:Option Addr}
  {DF:Array (Option Value)} {N ps:List Str} {sp:Sp} (lk:K.lookup f = some ⟨oc,od,.func (PySem.W.fnOf name qual params body scope dV kV doc pm an mI ct),DF⟩) (CK:PySem.W.codeIn K mI qual = true) (S:aq N ps scope)
  (len:∀ vs H Q E,sp vs H Q E -> vs.length = ps.length)
  (CM:∀ (A:Around) (outer:List Env) (s:Shared) (H:Hp) (vs:List V) (Q:VK) (E:XK),gZ k (A.deeper (envOfC qual scope s.heap.objs.size f mI)) -> sp vs H Q E ->
   ∃ t,nY (xA CX P w K mg base N qual scope f mI A outer s H E) body t /\ t { nx:=fun _ H'=>Q .bC H',rt:=Q } (start N vs) H) :
  ku P w K mg base CX (k + 1) f (PySem.W.fnOf name qual params body scope dV kV doc pm an mI ct) ps sp:=by
 refine ⟨len,fun A outer s H args us vs Q E hr e0 hb r DG=>?_⟩
 have hl:=len _ _ _ _ DG
 have KX:K.In s.heap:=e0.mod.Vg.keeps fun b o e=>(e0.bs b o e).1
 have lim:s.heap.NoLimit:=e0.mod.nolimit.keeps fun b o e=>(e0.bs b o e).1
 have Oj:∀ y ∈ ps.zip us,scope.names.lookup y.1 = some .local \/ (scope.names.lookup y.1 = some .cell /\ ((cellsFrom (s.heap.objs.size + 1) scope.names []).lookup y.1).isSome = true):=fun ⟨n,v⟩ hy=>by
  rcases S.par n (List.of_mem_zip hy).1 with q | q
  ·exact .inl q
  ·exact .inr ⟨q,PySem.W.cellsFrom_some _ _ _ (.inl q)⟩
 refine codeAny_call_function hr.depth (KX _ _ lk) rfl S.co S.gen rfl (PySem.W.codeRec_of KX CK) (hb _ _ _ _ ?_)
 refine wpAny_newFunctionEnv_cells S.kind Oj fun env he s1 x=>?_
 subst he
 refine ⟨lim.keeps x.toInCall.keep,codeAny_func ?_⟩
 obtain ⟨t,ht,hq⟩:=CM A outer s H vs Q E (hr.deeper _) DG
 have I:Inv (xA CX P w K mg base N qual scope f mI A outer s H E) [] (start N vs) H s1:=Am S hr.hd e0 hl r x
 refine wpAny_mono (ht [] s1 (start N vs) H _ I hq) (fun fl s' hs=>?_) fun e s' hs=>hs
 have fin:∀ {σ':St} {H':Hp} {v:V} {u:Value},Inv (xA CX P w K mg base N qual scope f mI A outer s H E) [] σ' H' s' -> RelV v u -> Q v H' -> CE outer P w H s Q u s' :=
  fun {σ' H' v u} J rv q=>⟨v,H',J.os,J.bare,J.base,J.dq,rv,q⟩
 cases fl with
 | ret u =>
  obtain ⟨v,σ',H',J,rv,q⟩:=hs
  exact fin J rv q
 | next =>
  obtain ⟨σ',H',J,q⟩:=hs
  exact fin (v:=V.bC) (u:=Value.none) J rfl q
 | brk =>
  obtain ⟨_,_,_,q⟩:=hs
  exact False.elim q
 | cont =>
  obtain ⟨_,_,_,q⟩:=hs
  exact False.elim q
end L2
namespace L2
open PySem PySem.Spec PyProof.Rows
section
variable {X:Cx} {x:Str} {p pos:Pos} {e:Expr} {es:List Expr} {t:TA} {id T:String} {r:List V -> Hp -> VK -> Prop}
def ML (r:List V -> Hp -> VK -> Prop) (t:TA):TE:=fun σ H Q=>t σ H fun vs H1=>r vs H1 Q
theorem fE (hc:gg X (.builtin id) r) (hg:Gl X x) (hm:X.mg x = none) (hv:bootBuiltins x = some (.builtin id)) (ha:PA X (e :: es) t) (hn:x ≠ "__name__":=by decide) (Ov:(x == ("__debug__" : Str)) = false:=by decide)
  (he:starEach (e :: es) X.env = (false,eval e X.env) :: starEach es X.env:=by rfl) (hpl:(backTo pos (starEach es X.env)).any (·.1) = false:=by rfl):PE X (.Call (.Name x p) (e :: es) [] pos) (ML r t):=by
 intro pins s σ H Q I h
 refine wpAny_Call_Name_kw (eW I hg hm hv ?_ hn Ov)
 exact PyProof.Rows.callWith_builtin1 (di (ha pos pins s σ H _ I h) fun us s1 ⟨vs,H1,I1,r1,q1⟩=>hc pins s1 σ H1 vs us Q I1 r1 q1) he hpl
theorem lR (hc:gg X (.type T) r) (hg:Gl X x) (hm:X.mg x = none) (hv:bootBuiltins x = some (.type T)) (ha:PA X (e :: es) t) (hn:x ≠ "__name__":=by decide) (Ov:(x == ("__debug__" : Str)) = false:=by decide)
  (he:starEach (e :: es) X.env = (false,eval e X.env) :: starEach es X.env:=by rfl) (hpl:(backTo pos (starEach es X.env)).any (·.1) = false:=by rfl):PE X (.Call (.Name x p) (e :: es) [] pos) (ML r t):=by
 intro pins s σ H Q I h
 refine wpAny_Call_Name_kw (eW I hg hm hv ?_ hn Ov)
 exact PyProof.Rows.callWith_type1 (di (ha pos pins s σ H _ I h) fun us s1 ⟨vs,H1,I1,r1,q1⟩=>hc pins s1 σ H1 vs us Q I1 r1 q1) he hpl
end
end L2
namespace HT
open PySem PyProof.Rows
def lexLt:List Int -> List Int -> Bool
 | [],[]=>false
 | [],_ :: _=>true
 | _ :: _,[]=>false
 | x :: xs,y :: ys=>if x = y then lexLt xs ys else decide (x < y)
theorem dM (x y:Int) (xs ys:List Int):lexLt (x :: xs) (y :: ys) = if x = y then lexLt xs ys else decide (x < y):=rfl
theorem j5:lexLt [] [] = false:=rfl
theorem oT (y:Int) (ys:List Int):lexLt [] (y :: ys) = true:=rfl
theorem cW (x:Int) (xs:List Int):lexLt (x :: xs) [] = false:=rfl
theorem vF (A:Around) (s:Shared) (a:Int) (t:Tok) (c:Int) (u:Tok):∃ e,SeqAt.EqAt A s (.int a t) (.int c u) e /\ (e = true ↔ a = c) :=
 ⟨(a == c),SeqAt.EqAt.int_int a t c u,by simp⟩
theorem BK (A:Around) (s:Shared) (a:Int) (t:Tok) (c:Int) (u:Tok) (prog:Program) (w:World) (E:Value -> Shared -> Prop) (Q:Value -> Shared -> Prop) (h:Q (.bool (decide (a < c))) s) :
  wpAny (model prog w) A (richCompare .Lt (.int a t) (.int c u)) Q E s :=
 (PyProof.Rows.lt_int h:wpAny (model prog w) A (compareOp .Lt (.int a t) (.int c u)) Q E s)
section
open PySem.SeqAt
open PySem.AutoSeq1 (wpAny_loadPart')
open PySem.MeetsSeq PySem.MeetsSeq2 PySem.MeetsSeq3
theorem j3 (l b:Addr) (items dm:Array Value) (n n2:Nat) (dd zk:Option Addr) (sl we:Array (Option Value)) (ns ms:List Int) (hi:IntsAre items.toList ns) (hj:IntsAre dm.toList ms) :
  Meets (Builtin.«tuple.__lt__» ⟨[.ref l,.ref b],[]⟩)
   (fun _ R s=>s.heap.get? l = some { cls:=.type "tuple",dict:=dd,data:=.seq items n,slots:=sl } /\ s.heap.get? b = some { cls:=.type "tuple",dict:=zk,data:=.seq dm n2,slots:=we } /\
    R (.ok (.ret (.bool (lexLt ns ms)))) s) :=
 .of_wp fun prog w A R s h=>by
  obtain ⟨hp,g,d,tk,os⟩:=s;obtain ⟨hl,hb,h⟩:=h
  have f2:=AutoSeq1.sub_tuple_tuple
  have z1:items.size = ns.length:=by rw [<- hi.length];simp
  have z2:dm.size = ms.length:=by rw [<- hj.length];simp
  wp_walk using wpAny_loadPart' hl,wpAny_loadPart' hb,wpAny_forIn_list _ (fun rest b s'=>b.1 = none /\ s' = ⟨hp,g,d,tk,os⟩ /\ ∃ (vs ws:List Value) (lF A1:List Int),rest = vs.zip ws /\
   IntsAre vs lF /\ IntsAre ws A1 /\ lF.length + dm.size = A1.length + items.size /\ R (.ok (.ret (.bool (lexLt lF A1)))) ⟨hp,g,d,tk,os⟩) _
  case turn =>
   rintro ⟨y,x⟩ rest b s' ⟨xf,rfl,vs,ws,lF,A1,hz,JS,Hi,hlen,hR⟩
   cases JS with
   | nil=>rw [List.zip_nil_left] at hz;cases hz
   | cons a t hvi' =>
    cases Hi with
    | nil=>rw [List.zip_nil_right] at hz;cases hz
    | cons c u hwi' =>
     rw [List.zip_cons_cons] at hz
     injection hz with Wa CB
     injection Wa with hy hx
     subst hy hx
     rw [dM] at hR
     simp only [List.length_cons] at hlen
     obtain ⟨e,he,CG⟩:=vF A.in1 ⟨hp,g,d,tk,os⟩ a t c u
     refine wpAny_bind (he prog w _ _ ?_)
     cases e with
     | true =>
      rw [if_pos (CG.mp rfl)] at hR
      wp_walk
      exact ⟨rfl,rfl,_,_,_,_,CB,hvi',hwi',by omega,hR⟩
     | false =>
      rw [if_neg (fun q=>absurd (CG.mpr q) Bool.false_ne_true)] at hR
      have Wk:=BK A.in1 ⟨hp,g,d,tk,os⟩ a t c u prog w
      wp_walk using Wk
      exact ⟨_,rfl,by simpa using hR⟩
  case fin =>
   rintro ⟨b1,b2⟩ s' ⟨xf,rfl,vs,ws,lF,A1,hz,JS,Hi,hlen,hR⟩
   simp only at xf
   subst xf
   have hv:lexLt lF A1 = decide (items.size < dm.size):=by
    cases JS with
    | nil =>
     cases Hi with
     | nil =>
      simp only [List.length_nil] at hlen
      rw [j5]
      exact (decide_eq_false (by omega)).symm
     | cons c u hw =>
      simp only [List.length_nil,List.length_cons] at hlen
      rw [oT]
      exact (decide_eq_true (by omega)).symm
    | cons a t hv =>
     cases Hi with
     | nil =>
      simp only [List.length_nil,List.length_cons] at hlen
      rw [cW]
      exact (decide_eq_false (by omega)).symm
     | cons c u hw =>
      rw [List.zip_cons_cons] at hz
      cases hz
   rw [hv] at hR
   wp_walk
   exact ⟨_,rfl,by simpa [Builtin.Tuple.tupleCompareSizes] using hR⟩
  case h =>
   exact ⟨rfl,rfl,items.toList,dm.toList,ns,ms,rfl,hi,hj,by omega,h⟩
end
section
variable {prog:Program} {w:World} {A:Around} {E:Value -> Shared -> Prop} {s:Shared}
theorem wW {l b:Addr} {items dm:Array Value} {ns ms:List Int} {Q:Value -> Shared -> Prop} (hl:IsTup s.heap l items) (hb:IsTup s.heap b dm) (hi:IntsAre items.toList ns) (hj:IntsAre dm.toList ms)
  (hu:A.units < cLine) (h:Q (.bool (lexLt ns ms)) s):wpAny (model prog w) A (compareOp .Lt (.ref l) (.ref b)) Q E s:=by
 obtain ⟨⟨cls,dd,data,sl⟩,ho,hc,n,hd⟩:=id hl
 obtain ⟨⟨Gg,zk,data2,we⟩,tf,hc2,n2,hd2⟩:=id hb
 simp only at hc hd hc2 hd2
 subst hc hd hc2 hd2
 exact richCompare_meets_room (op:=.Lt) ⟨_,ho,rfl⟩ ⟨_,tf,rfl⟩ PySem.F.slot_tuple_lt PySem.F.entry_tuple_lt (PySem.F.args_tuple_lt_2 _ _) (j3 l b items dm n n2 dd zk sl we ns ms hi hj)
  ⟨ho,tf,show Value.bool (lexLt ns ms) ≠ Value.notImplemented /\ Q (.bool (lexLt ns ms)) s from ⟨(fun x=>nomatch x),h⟩⟩ hu
theorem Gi {t b:Addr} {vs ws:List Value} {Q:Value -> Shared -> Prop} (ht:IsTup s.heap t vs.toArray) (hb:IsTup s.heap b ws.toArray) (hv:vs ≠ [])
  (h1:ws = [] -> Q (.ref t) s) (h2:ws ≠ [] -> Q (.ref s.heap.objs.size) { s with heap:=s.heap.push { cls:=.type "tuple",data:=.seq (vs ++ ws).toArray } })
  (hsz:vs.length + ws.length <= sizeLine):wpAny (model prog w) A (binaryOp .Add (.ref t) (.ref b)) Q E s:=by
 obtain ⟨⟨cls,dd,data,sl⟩,ho,hc,n,hd⟩:=id ht
 obtain ⟨⟨Gg,zk,data2,we⟩,tf,hc2,n2,hd2⟩:=id hb
 simp only at hc hd hc2 hd2
 subst hc hd hc2 hd2
 have e:vs.toArray ++ ws.toArray = (vs ++ ws).toArray:=by simp
 by_cases hw:ws = []
 ·exact concat_meets ⟨_,ho,rfl⟩ ⟨_,tf,rfl⟩ noFill_tuple_add seq_tuple_add PySem.F.slot_tuple_add PySem.F.entry_tuple_add (PySem.F.args_tuple_add_2 _ _)
   (tuple_addW1 t b vs.toArray ws.toArray n n2 dd zk sl we (by simpa using hv) (by simp [hw])) ⟨ho,tf,h1 hw⟩
 ·refine concat_meets ⟨_,ho,rfl⟩ ⟨_,tf,rfl⟩ noFill_tuple_add seq_tuple_add PySem.F.slot_tuple_add PySem.F.entry_tuple_add (PySem.F.args_tuple_add_2 _ _)
   (tuple_addW2 t b vs.toArray ws.toArray n n2 dd zk sl we (by simpa using hv) (by simpa using hw) (by rw [List.size_toArray,List.size_toArray];exact hsz)) ⟨ho,tf,?_⟩
  rw [e]
  exact h2 hw
def wL (n d:Nat):Option Int -> Nat
 | none=>d
 | some v=>if v < 0 then (v + (n:Int)).toNat else min v.toNat n
end
end HT
namespace L2
open PySem PySem.Spec PyProof.Rows
abbrev TO:=St -> Hp -> (Option Int -> Hp -> Prop) -> Prop
def PO (X:Cx) (e:Option Expr) (t:TO):Prop :=
 ∀ (pins:List (Addr × Obj)) (s:Shared) (σ:St) (H:Hp) (Q:Option Int -> Hp -> Prop),Inv X pins σ H s -> t σ H Q ->
  wpAny (model X.prog X.w) X.A (evalPart e X.env) (fun u s'=>∃ o H',Inv X pins σ H' s' /\ IsPart u o /\ Q o H') X.xe s
def Ef:TO:=fun _ H Q=>Q none H
def ME (t:TE):TO:=fun σ H Q=>t σ H fun x H1=>∃ i,x = .int i /\ Q (some i) H1
theorem intsAre_of {ns:List Int}:∀ {us:List Value},Vals (ns.map V.int) us -> IntsAre us ns:=by
 induction ns with
 | nil=>intro us r;rw [List.map_nil] at r;cases r;exact .nil
 | cons n ns ih =>
  intro us r
  rw [List.map_cons] at r
  cases r with
  | cons r1 r2 =>
   obtain ⟨t,e⟩:=r1
   subst e
   exact .cons n t (ih r2)
section
variable {X:Cx} {e:Expr} {te:TE} {lo hi:Option Expr} {tl th:TO} {pos p2:Pos}
theorem ym:PO X none Ef:=by
 intro pins s σ H Q I h
 rw [evalPart_none]
 exact wpAny_pure ⟨none,H,I,.none,h⟩
theorem yk (h:PE X e te):PO X (some e) (ME te):=by
 intro pins s σ H Q I hw
 rw [evalPart_some]
 refine di (h pins s σ H _ I hw) fun u s1 ⟨x,H1,I1,r1,q1⟩=>?_
 obtain ⟨i,rfl,q⟩:=q1
 obtain ⟨t,rfl⟩:=r1
 exact ⟨some i,H1,I1,.int i t,q⟩
def ZX (X:Cx) (r:V -> Option Int -> Option Int -> Hp -> VK -> Prop):Prop :=
 ∀ (pins:List (Addr × Obj)) (s:Shared) (σ:St) (H:Hp) (x:V) (v vl vu:Value) (lo hi:Option Int) (sl:Addr) (Q:VK),Inv X pins σ H s -> RelV x v -> s.heap.IsSliceOf sl vl vu .none -> IsPart vl lo -> IsPart vu hi -> r x lo hi H Q ->
  ∃ T id,typeLookup (.type T) "__getitem__" = pure (some (.builtin id)) /\ s.TypeIs v T /\ wpAny (model X.prog X.w) X.A (getItem v (.ref sl)) (EP X pins σ Q) X.xe s
def tSl (r:V -> Option Int -> Option Int -> Hp -> VK -> Prop) (te:TE) (tl th:TO):TE:=fun σ H Q=>te σ H fun x H1=>tl σ H1 fun l H2=>th σ H2 fun u H3=>r x l u H3 Q
theorem BY {r:V -> Option Int -> Option Int -> Hp -> VK -> Prop} (hr:ZX X r) (he:PE X e te) (hl:PO X lo tl) (hu:PO X hi th):PE X (.Subscript e (.Slice lo hi none p2) pos) (tSl r te tl th):=by
 intro pins s σ H Q I h
 refine Subscript_ (di (he pins s σ H _ I h) fun v s1 ⟨x,H1,I1,r1,q1⟩=>?_)
 refine wpAny_Slice (di (hl pins s1 σ H1 _ I1 q1) fun vl s2 ⟨l,H2,I2,pl,q2⟩=>di (hu pins s2 σ H2 _ I2 q2) fun vu s3 ⟨u,H3,I3,pu,q3⟩=>?_)
 rw [evalPart_none]
 refine wpAny_pure ?_
 have I4:Inv X pins σ H3 { s3 with heap:=s3.heap.push { cls:=.type "slice",data:=.fields #[vl,vu,.none] } }:=I3.kept (t':=s3.toks) fun b ob q=>Heap.get?_push_of_some _ q
 obtain ⟨T,id,hT,ht,hg⟩:=hr pins { s3 with heap:=s3.heap.push { cls:=.type "slice",data:=.fields #[vl,vu,.none] } } σ H3 x v vl vu l u s3.heap.objs.size Q I4 r1 (Heap.IsSliceOf.new ..) pl pu q3
 show wpAny (model X.prog X.w) X.A (subscriptTail e (.Slice lo hi none p2) v (.ref s3.heap.objs.size)) (EP X pins σ Q) X.xe { s3 with heap:=s3.heap.push { cls:=.type "slice",data:=.fields #[vl,vu,.none] } }
 exact tail_any (ops:=[.ref s3.heap.objs.size,v]) ht hT hg (by with_unfolding_all rfl)
def Gd (xs:List V) (lo hi:Option Int):List V:=(xs.drop (HT.wL xs.length 0 lo)).take (HT.wL xs.length xs.length hi - HT.wL xs.length 0 lo)
theorem vK (xs:List V) (lo hi:Option Int):(Gd xs lo hi).length <= xs.length:=by
 unfold Gd
 rw [List.length_take,List.length_drop]
 omega
def M7 (K:PySem.W.Frag):R2:=fun x y H Q=>∃ a b xs ys,x = .ref a /\ y = .ref b /\ aG K H a xs /\ aG K H b ys /\ xs ≠ [] /\ xs.length + ys.length <= sizeLine /\
 (ys = [] -> Q (.ref a) H) /\ (ys ≠ [] -> ∀ p,H p = none -> Q (.ref p) (upd H p (.tup (xs ++ ys))))
theorem Vals.sQ {xs:List V} {us:List Value} (r:Vals xs us):us = [] ↔ xs = []:=by
 cases r with
 | nil=>simp
 | cons _ _=>simp
theorem ER:km X (binaryOp .Add) (M7 X.K):=by
 intro pins s σ H x y v u Q I rx ry h
 obtain ⟨a,b,xs,ys,rfl,rfl,ha,hb,hx,hz,q1,q2⟩:=h
 cases rx
 cases ry
 obtain ⟨aj,r1,p1,_⟩:=I.tuple ha
 obtain ⟨mV,r2,p2,_⟩:=I.tuple hb
 refine HT.Gi p1 p2 (fun z=>hx (r1.sQ.mp z)) (fun z=>⟨.ref a,H,I,rfl,q1 (r2.sQ.mp z)⟩) (fun z=>?_) (by rw [<- r1.length,<- r2.length];exact hz)
 refine ⟨.ref s.heap.objs.size,_,I.laid (t':=s.toks) (o:=.tup (xs ++ ys)) (fun b ob q=>Heap.get?_push_of_some _ q) (Nat.le_refl _) ?_,rfl,q2 (fun w=>z (r2.sQ.mpr w)) _ (I.dq.fresh (Nat.le_refl _))⟩
 exact ⟨by rw [List.length_append];exact hz,_,r1.append r2,IsTup.new _ _⟩
end
end L2
namespace L2
open PySem PySem.Spec PyProof.Rows
def Ah (n:Nat) (i:Int):Option Nat:=if 0 <= i then (if i < n then some i.toNat else none) else if -(n:Int) <= i then some (i + n).toNat else none
def Me {α:Type} (xs:List α) (i:Int):Option α:=(Ah xs.length i).bind fun j=>xs[j]?
theorem yE {n:Nat} {i:Int} {j:Nat} (h:Ah n i = some j):seqIndex? i n = some j /\ j < n /\ -(n:Int) <= i /\ i < n:=by
 unfold Ah at h
 by_cases h0:0 <= i
 ·rw [if_pos h0] at h
  by_cases h1:i < n
  ·rw [if_pos h1] at h
   have e:i.toNat = j:=Option.some.inj h
   exact ⟨by rw [seqIndex_of h0 h1,e],by omega,by omega,h1⟩
  ·rw [if_neg h1] at h;cases h
 ·rw [if_neg h0] at h
  by_cases h1:-(n:Int) <= i
  ·rw [if_pos h1] at h
   have e:(i + n).toNat = j:=Option.some.inj h
   exact ⟨by rw [seqIndex_neg (by omega) h1,e],by omega,h1,by omega⟩
  ·rw [if_neg h1] at h;cases h
theorem zx {α:Type} {xs:List α} {i:Int} {v:α} (h:Me xs i = some v):∃ j,seqIndex? i xs.length = some j /\ xs[j]? = some v /\ j < xs.length /\ -(xs.length:Int) <= i /\ i < xs.length:=by
 unfold Me at h
 cases e:Ah xs.length i with
 | none=>rw [e] at h;cases h
 | some j =>
  rw [e] at h
  obtain ⟨h1,h2,h3,h4⟩:=yE e
  exact ⟨j,h1,h,h2,h3,h4⟩
def nX (b:Expr):Prop:=∀ o i,subscripted b false o i = operate [o,i] (getItem o i)
def HD (X:Cx) (r:R2):Prop :=
 ∀ (value slice:Expr) (pins:List (Addr × Obj)) (s:Shared) (σ:St) (H:Hp) (x y:V) (v u:Value) (Q:VK),Inv X pins σ H s -> RelV x v -> RelV y u -> r x y H Q ->
  subscripted slice false v u = operate [v,u] (getItem v u) -> wpAny (model X.prog X.w) X.A (subscriptTail value slice v u) (EP X pins σ Q) X.xe s
def MtR (X:Cx) (id:String) (r:V -> List V -> Hp -> VK -> Prop):Prop :=
 ∀ (pins:List (Addr × Obj)) (s:Shared) (σ:St) (H:Hp) (x:V) (xs:List V) (v:Value) (us:List Value) (Q:VK),Inv X pins σ H s -> RelV x v -> Vals xs us -> r x xs H Q ->
  wpAny (model X.prog X.w) X.A (call (.builtin id) (v :: us)) (EP X pins σ Q) X.xe s
section
variable {X:Cx} {a b:Expr} {ta tb:TE} {pos:Pos}
theorem HD.or {r r':R2} (h:HD X r) (h':HD X r'):HD X (fun x y H Q=>r x y H Q \/ r' x y H Q):=by
 intro value slice pins s σ H x y v u Q I rx ry q hs
 rcases q with q | q
 ·exact h value slice pins s σ H x y v u Q I rx ry q hs
 ·exact h' value slice pins s σ H x y v u Q I rx ry q hs
theorem G6 {r:R2} (hr:HD X r) (ha:PE X a ta) (hb:PE X b tb) (hs:nX b):PE X (.Subscript a b pos) (GL r ta tb):=by
 intro pins s σ H Q I h
 exact Subscript_ (Ll ha hb I h fun v u s2 x y H2 I2 rx ry q=>hr a b pins s2 σ H2 x y v u Q I2 rx ry q (hs _ _))
def SM (K:PySem.W.Frag):R2:=fun x y H Q=>∃ p xs i v,x = .ref p /\ y = .int i /\ dY K H p xs /\ Me xs i = some v /\ Q v H
def SK (K:PySem.W.Frag):R2:=fun x y H Q=>∃ p xs i v,x = .ref p /\ y = .int i /\ aG K H p xs /\ Me xs i = some v /\ Q v H
theorem Fg:HD X (SM X.K):=by
 intro value slice pins s σ H x y v u Q I rx ry h hs
 obtain ⟨p,xs,i,z,rfl,rfl,hq,he,q⟩:=h
 cases rx
 obtain ⟨t,rfl⟩:=ry
 obtain ⟨aj,r,pl,hz⟩:=I.list hq
 obtain ⟨j,h1,h2,h3,h4,h5⟩:=zx he
 obtain ⟨w,ew,qe⟩:=r.get h2
 have hl:=r.length
 have hn:=sW
 have fin:EP X pins σ Q w s:=⟨z,H,I,qe,q⟩
 by_cases h0:0 <= i
 ·have hj:i.toNat = j:=by
   rw [seqIndex_of h0 h5] at h1
   exact Option.some.inj h1
  exact item_listR pl.isList h0 (by omega) (by rw [hj];simpa using ew) fin hs
 ·have hj:(i + (aj.toArray.size:Int)).toNat = j:=by
   rw [seqIndex_neg (by omega) h4] at h1
   rw [List.size_toArray,<- hl]
   exact Option.some.inj h1
  exact subscriptTail_builtinR (x:=w) pl.isList.typeIs slot_list_getitem.lookup
   (wpAny_getItem_list_neg (Q:=fun r s'=>r = w /\ EP X pins σ Q r s') pl.isList (by omega) (by rw [List.size_toArray] <;> omega) (by omega) (by rw [hj];simpa using ew) ⟨rfl,fin⟩) hs
theorem JE:HD X (SK X.K):=by
 intro value slice pins s σ H x y v u Q I rx ry h hs
 obtain ⟨p,xs,i,z,rfl,rfl,hq,he,q⟩:=h
 cases rx
 obtain ⟨t,rfl⟩:=ry
 obtain ⟨aj,r,pl,hz⟩:=I.tuple hq
 obtain ⟨j,h1,h2,h3,h4,h5⟩:=zx he
 obtain ⟨w,ew,qe⟩:=r.get h2
 have hl:=r.length
 have hn:=sW
 have fin:EP X pins σ Q w s:=⟨z,H,I,qe,q⟩
 exact subscriptTail_builtinR (x:=w) pl.typeIs slot_tuple_getitem.lookup
  (getItem_tuple (j:=j) (Q:=fun r s'=>r = w /\ EP X pins σ Q r s') pl (by omega) (by omega) (by rw [List.size_toArray,<- hl];exact h1) (by simpa using ew) ⟨rfl,fin⟩) hs
theorem wU (aj:List Value) (n j:Nat) (u:Value):Obj.mapSeq (·.setIfInBounds j u) { cls:=.type "list",data:=.seq aj.toArray n } = { cls:=.type "list",data:=.seq (aj.set j u).toArray n }:=by
 simp [Obj.mapSeq]
theorem Inv.lst {pins:List (Addr × Obj)} {σ:St} {H:Hp} {s:Shared} {p:Addr} {xs:List V} (I:Inv X pins σ H s) (h:H p = some (.lst xs)) :
  ∃ (aj:List Value) (n:Nat),Vals xs aj /\ s.heap.get? p = some { cls:=.type "list",data:=.seq aj.toArray n } /\ xs.length <= sizeLine:=by
 obtain ⟨z,aj,n,r,e⟩:=I.dq p _ h
 exact ⟨aj,n,r,e,z⟩
theorem Inv.Js {pins:List (Addr × Obj)} {σ:St} {H:Hp} {s:Shared} {p:Addr} {xs ys:List V} {aj its':List Value} {n n':Nat} {f:Obj -> Obj} (I:Inv X pins σ H s) (h:H p = some (.lst xs))
  (ho:s.heap.get? p = some { cls:=.type "list",data:=.seq aj.toArray n }) (hf:f { cls:=.type "list",data:=.seq aj.toArray n } = { cls:=.type "list",data:=.seq its'.toArray n' }) (r:Vals ys its') (hz:ys.length <= sizeLine) (t:Nat) :
  Inv X pins σ (upd H p (.lst ys)) { s with heap:=s.heap.update p f,toks:=t }:=by
 have e:(s.heap.update p f).get? p = some { cls:=.type "list",data:=.seq its'.toArray n' }:=by
  rw [Heap.get?_update_self f ho (by rw [hf] <;> rfl),hf]
 refine I.write (x:=p) (e:=p) (by rw [h];trivial) (.inl rfl) (fun b u hb q=>(Heap.get?_update_other _ _ (Ne.symm hb)).trans q) ⟨_,e⟩ ?_
 exact ⟨hz,its',n',r,e⟩
def M4:V -> V -> V -> Hp -> (Hp -> Prop) -> Prop:=fun o i v H Q=>∃ p xs k j,o = .ref p /\ i = .int k /\ H p = some (.lst xs) /\ Ah xs.length k = some j /\ Q (upd H p (.lst (xs.set j v)))
theorem set_list:Qe X M4:=by
 intro pins s σ H o i v ov iv u Q I ro ri rv h
 obtain ⟨p,xs,k,j,rfl,rfl,hp,hj,q⟩:=h
 cases ro
 obtain ⟨t,rfl⟩:=ri
 obtain ⟨aj,n,r,ho,hz⟩:=I.lst hp
 obtain ⟨h1,h2,h3,h4⟩:=yE hj
 have hl:=r.length
 have hn:=sW
 have I':Inv X pins σ (upd H p (.lst (xs.set j v))) { s with heap:=s.heap.update p (Obj.mapSeq (·.setIfInBounds j u)) } :=
  I.Js hp ho (wU aj n j u) (r.set rv j) (by rw [List.length_set];exact hz) s.toks
 by_cases h0:0 <= k
 ·have hk:k.toNat = j:=by
   rw [seqIndex_of h0 h4] at h1
   exact Option.some.inj h1
  exact PySem.W.ki_setAt ho h0 (by omega) (by rw [List.size_toArray,<- hl];exact h4) (by rw [hk];exact ⟨_,I',q⟩)
 ·have hk:(k + (aj.toArray.size:Int)).toNat = j:=by
   rw [seqIndex_neg (by omega) h3] at h1
   rw [List.size_toArray,<- hl]
   exact Option.some.inj h1
  exact PySem.W.ki_setBack ho (by omega) (by rw [List.size_toArray,<- hl];exact h3) (by omega) (by rw [hk];exact ⟨_,I',q⟩)
theorem sy (lo hi:Option Int) (n:Nat):(sliceBounds lo hi none n).1 = ((HT.wL n 0 lo:Nat):Int) /\ (sliceBounds lo hi none n).2.1 = ((HT.wL n n hi:Nat):Int) /\ (sliceBounds lo hi none n).2.2 = 1:=by
 refine ⟨?_,?_,rfl⟩
 ·cases lo with
  | none=>simp [sliceBounds,HT.wL]
  | some i =>
   simp only [sliceBounds,HT.wL,Option.getD_none,show (1:Int) > 0 by decide,if_true]
   by_cases h:i < 0
   ·simp only [h,if_true] <;> omega
   ·simp only [h,if_false] <;> omega
 ·cases hi with
  | none=>simp [sliceBounds,HT.wL]
  | some i =>
   simp only [sliceBounds,HT.wL,Option.getD_none,show (1:Int) > 0 by decide,if_true]
   by_cases h:i < 0
   ·simp only [h,if_true] <;> omega
   ·simp only [h,if_false] <;> omega
theorem ql (aj:List Value) (lo hi:Option Int):slicePick aj.toArray lo hi none = ((aj.drop (HT.wL aj.length 0 lo)).take (HT.wL aj.length aj.length hi - HT.wL aj.length 0 lo)).toArray:=by
 obtain ⟨h1,h2,h3⟩:=sy lo hi aj.toArray.size
 unfold slicePick
 rw [h1,h2,h3]
 simp only [sliceRange_one,pick_run,List.size_toArray] <;> rfl
def SH (K:PySem.W.Frag):V -> Option Int -> Option Int -> Hp -> VK -> Prop:=fun x lo hi H Q=>∃ a xs,x = .ref a /\ dY K H a xs /\ ∀ p,H p = none -> Q (.ref p) (upd H p (.lst (Gd xs lo hi)))
theorem yb:ZX X (SH X.K):=by
 intro pins s σ H x v vl vu lo hi sl Q I rx hs pl pu h
 obtain ⟨a,xs,rfl,hx,q⟩:=h
 cases rx
 obtain ⟨aj,r,ht,hz⟩:=I.list hx
 have hlen:=r.length
 refine ⟨"list",_,slot_list_getitem.lookup,ht.isList.typeIs,?_⟩
 refine wpAny_getItem_list_slice ht.isList hs pl pu .none (by simp) ?_ (by rw [List.size_toArray] <;> omega)
 rw [ql,<- hlen]
 refine ⟨.ref s.heap.objs.size,_,I.laid (t':=s.toks) (o:=.lst (Gd xs lo hi)) (fun b ob q=>Heap.get?_push_of_some _ q) (Nat.le_refl _) ?_,rfl,q _ (I.dq.fresh (Nat.le_refl _))⟩
 exact ⟨Nat.le_trans (vK xs lo hi) hz,_,0,(r.drop (HT.wL xs.length 0 lo)).take (HT.wL xs.length xs.length hi - HT.wL xs.length 0 lo),Heap.get?_push_size _ rfl⟩
def jk:V -> Bool
 | .bC=>true
 | .bl _=>true
 | .int _=>true
 | .str _=>true
 | _=>false
def DN:V -> V -> Bool
 | .bC,.bC=>true
 | .bl a,.bl b=>a == b
 | .bl a,.int b=>(if a then 1 else 0) == b
 | .int a,.bl b=>a == (if b then 1 else 0)
 | .int a,.int b=>a == b
 | .str a,.str b=>a == b
 | _,_=>false
theorem KR {A:Around} {s:Shared} {y x:V} {u v:Value} (ry:RelV y u) (rx:RelV x v) (fy:jk y = true) (fx:jk x = true):SeqAt.EqAt A s u v (DN y x):=by
 cases y with
 | bC =>
  cases ry
  cases x with
  | bC=>cases rx;exact SeqAt.EqAt.same _
  | bl b=>cases rx;exact SeqAt.EqAt.none_bool b
  | int b=>obtain ⟨t,rfl⟩:=rx;exact SeqAt.EqAt.none_int b t
  | str b=>obtain ⟨t,rfl⟩:=rx;exact SeqAt.EqAt.none_str b t
  | _=>exact absurd (show false = true from fx) Bool.false_ne_true
 | bl a =>
  cases ry
  cases x with
  | bC=>cases rx;exact SeqAt.EqAt.bool_none a
  | bl b=>cases rx;exact SeqAt.EqAt.bool_bool a b
  | int b=>obtain ⟨t,rfl⟩:=rx;exact SeqAt.EqAt.bool_int a b t
  | str b=>obtain ⟨t,rfl⟩:=rx;exact SeqAt.EqAt.bool_str a b t
  | _=>exact absurd (show false = true from fx) Bool.false_ne_true
 | int a =>
  obtain ⟨t',rfl⟩:=ry
  cases x with
  | bC=>cases rx;exact SeqAt.EqAt.int_none a t'
  | bl b=>cases rx;exact SeqAt.EqAt.int_bool a t' b
  | int b=>obtain ⟨t,rfl⟩:=rx;exact SeqAt.EqAt.int_int a t' b t
  | str b=>obtain ⟨t,rfl⟩:=rx;exact SeqAt.EqAt.int_str a t' b t
  | _=>exact absurd (show false = true from fx) Bool.false_ne_true
 | str a =>
  obtain ⟨t',rfl⟩:=ry
  cases x with
  | bC=>cases rx;exact SeqAt.EqAt.str_none a t'
  | bl b=>cases rx;exact SeqAt.EqAt.str_bool a t' b
  | int b=>obtain ⟨t,rfl⟩:=rx;exact SeqAt.EqAt.str_int a t' b t
  | str b=>obtain ⟨t,rfl⟩:=rx;exact SeqAt.EqAt.str_str a t' b t
  | _=>exact absurd (show false = true from fx) Bool.false_ne_true
 | _=>exact absurd (show false = true from fy) Bool.false_ne_true
def xp (x:V) (u:Value):Bool:=match u with
 | .none=>DN .bC x
 | .bool b=>DN (.bl b) x
 | .int i _=>DN (.int i) x
 | .str z _=>DN (.str z) x
 | _=>false
theorem C6 {x y:V} {u:Value} (r:RelV y u) (f:jk y = true):xp x u = DN y x:=by
 cases y with
 | bC=>cases r;rfl
 | bl b=>cases r;rfl
 | int i=>obtain ⟨t,rfl⟩:=r;rfl
 | str z=>obtain ⟨t,rfl⟩:=r;rfl
 | _=>exact absurd (show false = true from f) Bool.false_ne_true
theorem lC {x:V}:∀ {xs:List V} {us:List Value},Vals xs us -> xs.all jk = true -> us.any (xp x) = xs.any fun y=>DN y x
 | _,_,.nil,_=>rfl
 | y :: xs,u :: us,.cons r t,f=>by
  rw [List.all_cons,Bool.and_eq_true] at f
  rw [List.any_cons,List.any_cons,C6 r f.1,lC t f.2]
theorem jc {A:Around} {s:Shared} {x:V} {v:Value} (rx:RelV x v) (fx:jk x = true):∀ {xs:List V} {us:List Value},Vals xs us -> xs.all jk = true -> ∀ u ∈ us,SeqAt.EqAt A s u v (xp x u)
 | _,_,.nil,_=>fun u hu=>by cases hu
 | y :: xs,u :: us,.cons r t,f=>fun u' hu=>by
  rw [List.all_cons,Bool.and_eq_true] at f
  rcases List.mem_cons.mp hu with rfl | hu
  ·rw [C6 r f.1];exact KR r rx f.1 fx
  ·exact jc rx fx t f.2 u' hu
def QP (x:V) (xs:List V):Bool:=xs.any fun y=>DN y x
def SO (K:PySem.W.Frag) (neg:Bool):R2:=fun x y H Q=>∃ p xs,y = .ref p /\ (dY K H p xs \/ aG K H p xs) /\ jk x = true /\ xs.all jk = true /\ Q (.bl (if neg then !QP x xs else QP x xs)) H
theorem Aa:km X (compareOp .In) (SO X.K false):=by
 intro pins s σ H x y v u Q I rx ry h
 obtain ⟨p,xs,rfl,hq,fx,fs,q⟩:=h
 cases ry
 rcases hq with hq | hq
 ·obtain ⟨aj,r,pl,hz⟩:=I.list hq
  refine SeqAt.in_listAt (xp x) pl.isList (fun w hw=>jc rx fx r fs w (by simpa using hw)) ⟨.bl _,H,I,rfl,?_⟩
  rw [show aj.toArray.any (xp x) = aj.any (xp x) by simp,lC r fs]
  exact q
 ·obtain ⟨aj,r,pl,hz⟩:=I.tuple hq
  refine SeqAt.in_tupleAt (xp x) pl (fun w hw=>jc rx fx r fs w (by simpa using hw)) ⟨.bl _,H,I,rfl,?_⟩
  rw [show aj.toArray.any (xp x) = aj.any (xp x) by simp,lC r fs]
  exact q
theorem EN:km X (compareOp .NotIn) (SO X.K true):=by
 intro pins s σ H x y v u Q I rx ry h
 obtain ⟨p,xs,rfl,hq,fx,fs,q⟩:=h
 cases ry
 rcases hq with hq | hq
 ·obtain ⟨aj,r,pl,hz⟩:=I.list hq
  refine SeqAt.notIn_listAt (xp x) pl.isList (fun w hw=>jc rx fx r fs w (by simpa using hw)) ⟨.bl _,H,I,rfl,?_⟩
  rw [show aj.toArray.any (xp x) = aj.any (xp x) by simp,lC r fs]
  exact q
 ·obtain ⟨aj,r,pl,hz⟩:=I.tuple hq
  refine SeqAt.notIn_tupleAt (xp x) pl (fun w hw=>jc rx fx r fs w (by simpa using hw)) ⟨.bl _,H,I,rfl,?_⟩
  rw [show aj.toArray.any (xp x) = aj.any (xp x) by simp,lC r fs]
  exact q
theorem ua:gg X (.builtin "len") (fun xs H Q=>∃ p ys,xs = [.ref p] /\ (dY X.K H p ys \/ aG X.K H p ys) /\ Q (.int ys.length) H):=by
 intro pins s σ H xs us Q I r h
 obtain ⟨p,ys,rfl,hq,q⟩:=h
 obtain ⟨u,rfl,rx⟩:=vals1 r
 cases rx
 have hn:=sW
 rcases hq with hq | hq
 ·obtain ⟨aj,r',pl,hz⟩:=I.list hq
  have hlen:=r'.length
  exact Calls.call_len_list pl.isList (by simp only [List.size_toArray] <;> omega) ⟨.int ys.length,H,I.tok _,⟨s.toks + 1,by rw [List.size_toArray,hlen]⟩,q⟩
 ·obtain ⟨aj,r',pl,hz⟩:=I.tuple hq
  have hlen:=r'.length
  exact len_tuple pl (by simp only [List.size_toArray] <;> omega) ⟨.int ys.length,H,I.tok _,⟨s.toks + 1,by rw [List.size_toArray,hlen]⟩,q⟩
theorem t_:gg X (.type "list") (fun xs H Q=>∃ p ys,xs = [.ref p] /\ (dY X.K H p ys \/ aG X.K H p ys) /\ ∀ l,H l = none -> Q (.ref l) (upd H l (.lst ys))):=by
 intro pins s σ H xs us Q I r h
 obtain ⟨p,ys,rfl,hq,q⟩:=h
 obtain ⟨u,rfl,rx⟩:=vals1 r
 cases rx
 have fin:∀ (aj:List Value),Vals ys aj -> ys.length <= sizeLine -> ∀ (h':Heap) (c':Nat),(∀ b o',s.heap.get? b = some o' -> h'.get? b = some o') ->
   h'.get? s.heap.objs.size = some { cls:=.type "list",dict:=none,data:=.seq aj.toArray c',slots:=#[] } -> EP X pins σ Q (.ref s.heap.objs.size) { s with heap:=h' }:=fun aj r' hz h' c' kp e =>
  ⟨.ref s.heap.objs.size,_,I.laid (t':=s.toks) kp (Nat.le_refl _) (show cN X.prog X.w _ h' _ (.lst ys) from ⟨hz,aj,c',r',e⟩),rfl,q _ (I.dq.fresh (Nat.le_refl _))⟩
 rcases hq with hq | hq
 ·obtain ⟨aj,r',pl,hz⟩:=I.list hq
  have hlen:=r'.length
  obtain ⟨o,ho,hc,n,hd⟩:=pl.isList
  exact call_list_seq p (.inl rfl) ho hc hd (fun h' c' kp e=>fin aj r' hz h' c' kp e) (by simp only [List.size_toArray] <;> omega)
 ·obtain ⟨aj,r',pl,hz⟩:=I.tuple hq
  have hlen:=r'.length
  obtain ⟨o,ho,hc,n,hd⟩:=pl
  exact call_list_seq p (.inr rfl) ho hc hd (fun h' c' kp e=>fin aj r' hz h' c' kp e) (by simp only [List.size_toArray] <;> omega)
theorem qS:gg X (.type "tuple") (fun xs H Q=>∃ p ys,xs = [.ref p] /\ ((dY X.K H p ys /\ ∀ l,H l = none -> Q (.ref l) (upd H l (.tup ys))) \/ (aG X.K H p ys /\ Q (.ref p) H))):=by
 intro pins s σ H xs us Q I r h
 obtain ⟨p,ys,rfl,h⟩:=h
 obtain ⟨u,rfl,rx⟩:=vals1 r
 cases rx
 rcases h with ⟨hq,q⟩ | ⟨hq,q⟩
 ·obtain ⟨aj,r',pl,hz⟩:=I.list hq
  have hlen:=r'.length
  refine call_tuple_list pl.isList (fun h' kp=>?_) (by simp only [List.size_toArray] <;> omega)
  have I1:Inv X pins σ H { s with heap:=h' }:=I.kept (t':=s.toks) kp
  have I2:Inv X pins σ (upd H h'.objs.size (.tup ys)) { s with heap:=h'.push { cls:=.type "tuple",data:=.seq aj.toArray } } :=
   I1.laid (t':=s.toks) (fun b o e=>Heap.get?_push_of_some _ e) (Nat.le_refl _) (show cN X.prog X.w _ _ _ (.tup ys) from ⟨hz,aj,r',IsTup.new _ _⟩)
  exact ⟨.ref h'.objs.size,_,I2,rfl,q _ (I1.dq.fresh (Nat.le_refl _))⟩
 ·obtain ⟨aj,r',pl,hz⟩:=I.tuple hq
  exact call_tuple_same pl ⟨.ref p,H,I,rfl,q⟩
def tyV (K:PySem.W.Frag) (T:String) (x:V) (H:Hp):Prop:=match x with
 | .str _=>T = "str"
 | .int _=>T = "int"
 | .ref p=>(T = "list" /\ ∃ xs,dY K H p xs) \/ (T = "tuple" /\ ∃ o,K.lookup p = some o /\ o.cls = .type "tuple" /\ o.dict = none) \/
   (T = "dict" /\ ((∃ oU,H p = some (.dK oU)) \/ ∃ oU,H p = some (.dT oU))) \/ (T = "set" /\ ∃ S n,H p = some (.set S n))
 | _=>False
theorem HQ {pins:List (Addr × Obj)} {σ:St} {H:Hp} {s:Shared} {T:String} {x:V} {v:Value} (I:Inv X pins σ H s) (r:RelV x v) (ty:tyV X.K T x H) :
  s.TypeIs v T /\ ∀ a,v = .ref a -> ∃ ob,s.heap.get? a = some ob /\ ob.dict = none:=by
 cases x with
 | str z =>
  obtain ⟨t,rfl⟩:=r
  cases (show T = "str" from ty)
  exact ⟨typeIs_str s z t,fun _ e=>nomatch e⟩
 | int i =>
  obtain ⟨t,rfl⟩:=r
  cases (show T = "int" from ty)
  exact ⟨typeIs_int s i t,fun _ e=>nomatch e⟩
 | ref p =>
  cases r
  rcases ty with ⟨rfl,xs,hq⟩ | ⟨rfl,o,hk,hc,hd⟩ | ⟨rfl,hk⟩ | ⟨rfl,S,n,hk⟩
  ·obtain ⟨aj,_,pl,_⟩:=I.list hq
   refine ⟨pl.isList.typeIs,fun a e=>?_⟩
   cases e
   obtain ⟨o,n,e,c,hd,_⟩:=pl
   exact ⟨o,e,hd⟩
  ·refine ⟨⟨o,I.A2 p o hk,hc⟩,fun a e=>?_⟩
   cases e
   exact ⟨o,I.A2 _ o hk,hd⟩
  ·have z:∃ o,s.heap.get? p = some o /\ o.ExactDict:=by
    rcases hk with ⟨oU,hk⟩ | ⟨oU,hk⟩
    ·obtain ⟨_,_,_,_,o,_,_,e,ex,_⟩:=I.dq p _ hk
     exact ⟨o,e,ex⟩
    ·obtain ⟨_,_,_,_,o,_,_,e,ex,_⟩:=I.dq p _ hk
     exact ⟨o,e,ex⟩
   obtain ⟨o,e,ex⟩:=z
   refine ⟨⟨o,e,ex.1⟩,fun a e2=>?_⟩
   cases e2
   exact ⟨o,e,ex.2.1⟩
  ·obtain ⟨o,_,_,_,e,ex,_⟩:=I.dq p _ hk
   refine ⟨⟨o,e,ex.1⟩,fun a e2=>?_⟩
   cases e2
   exact ⟨o,e,ex.2.1⟩
 | _=>exact False.elim ty
def tBM (K:PySem.W.Frag) (T:String) (r:V -> List V -> Hp -> VK -> Prop) (to:TE) (t:TA):TE:=fun σ H Q=>to σ H fun x H1=>tyV K T x H1 /\ t σ H1 fun xs H2=>r x xs H2 Q
variable {o e:Expr} {es:List Expr} {to:TE} {t:TA} {name:Str} {apos xB:Pos} {T id:String} {r:V -> List V -> Hp -> VK -> Prop}
theorem G7 (pa:PlainAttrs T) (slot:Slot T name id) (hty:typeOf (.builtin id) = pure (.type "method_descriptor")) (hm:MtR X id r) (ho:PE X o to) (ha:PA X (e :: es) t)
  (OA:attributeBase o name X.env (eval o X.env) = eval o X.env:=by rfl)
  (hfew:((backTo xB (starEach (e :: es) X.env)).all (fun x=>!x.1) && (backToKw xB (keywordEach [] X.env)).all (fun x=>x.1.isSome)
   && decide ((e :: es).length + ([]:List Keyword).length + (if ([]:List Keyword).isEmpty then 0 else 1) < 30)) = true:=by rfl)
  (hline:(apos.endLine == xB.line) = true:=by rfl) (hs:starEach (e :: es) X.env = (false,eval e X.env) :: starEach es X.env:=by rfl) (JW:(backTo xB (starEach es X.env)).any (·.1) = false:=by rfl) :
  PE X (.Call (.Attribute o name apos) (e :: es) [] xB) (tBM X.K T r to t):=by
 intro pins s σ H Q I h
 refine wpAny_Call_method_late OA hfew hline rfl (di (ho pins s σ H _ I h) fun v s1 ⟨x,H1,I1,r1,ty,q1⟩=>?_)
 obtain ⟨h1,h2⟩:=HQ I1 r1 ty
 refine ⟨T,id,pa,slot,hty,h1,h2,?_⟩
 have hA:=ha xB pins s1 σ H1 _ I1 q1
 rw [hs] at hA ⊢
 refine Calls.callWith_builtin (by show (false || (backTo xB (starEach es X.env)).any (·.1)) = false;rw [JW] <;> rfl) (Calls.evalArgs_plain ?_)
 exact di hA fun us s2 ⟨vs,H2,I2,r2,q2⟩=>hm pins s2 σ H2 x vs v us Q I2 r1 r2 q2
/- xs.append(e),list.index on a module's tuple .. are MtR facts of 06m -/
end
end L2
namespace L2
open PySem PySem.Spec PyProof.Rows
def MtM (X:Cx) (id:String) (r:V -> List V -> Hp -> VK -> Prop):Prop :=
 ∀ (pins:List (Addr × Obj)) (s:Shared) (σ:St) (H:Hp) (x:V) (xs:List V) (v:Value) (us:List Value) (Q:VK),Inv X pins σ H s -> RelV x v -> Vals xs us -> r x xs H Q ->
  wpAny (model X.prog X.w) X.A (call (.builtin id) (v :: us)) (EP X pins σ Q) X.xe s
theorem Vals.one:∀ {x:V} {us:List Value},Vals [x] us -> ∃ u,us = [u] /\ RelV x u
 | _,_,.cons r .nil=>⟨_,rfl,r⟩
theorem Vals.rep {xs:List V} {us:List Value} (h:Vals xs us):∀ k:Nat,Vals (List.replicate k xs).flatten (List.replicate k us).flatten
 | 0=>.nil
 | k + 1=>by
  rw [List.replicate_succ,List.replicate_succ,List.flatten_cons,List.flatten_cons]
  exact Vals.append h (Vals.rep h k)
theorem foldl_rep (aj:List Value):∀ (k:Nat) (acc:List Value),
  List.foldl (fun x1 x2=>x1 ++ x2) acc.toArray (List.replicate k aj.toArray) = (acc ++ (List.replicate k aj).flatten).toArray
 | 0,acc=>by simp
 | k + 1,acc=>by
  have e:acc.toArray ++ aj.toArray = (acc ++ aj).toArray:=by simp
  have e2:(acc ++ aj) ++ (List.replicate k aj).flatten = acc ++ (List.replicate (k + 1) aj).flatten:=by
   rw [List.replicate_succ,List.flatten_cons,List.append_assoc]
  rw [<- e2,<- foldl_rep aj k (acc ++ aj),<- e,List.replicate_succ,List.foldl_cons]
section
variable {X:Cx} {pins:List (Addr × Obj)} {σ:St} {H:Hp} {s:Shared} {l b:Addr} {xs ys zs:List V}
theorem Inv.lT {aj its':List Value} {n:Nat} {f:Array Value -> Array Value} {t':Nat} (I:Inv X pins σ H s) (hH:H l = some (.lst xs))
  (e:s.heap.get? l = some { cls:=.type "list",data:=.seq aj.toArray n }) (hf:f aj.toArray = its'.toArray) (hv:Vals ys its') (hz:ys.length <= sizeLine) :
  Inv X pins σ (upd H l (.lst ys)) { s with heap:=s.heap.update l (Obj.mapSeq f),toks:=t' }:=by
 have q:=PySem.IsL.update e f
 rw [hf] at q
 refine I.write (x:=l) (e:=l) (by rw [hH];exact trivial) (.inl rfl) (fun b' u hb hu=>(Heap.get?_update_other s.heap (Obj.mapSeq f) (Ne.symm hb)).trans hu) ⟨_,q⟩ ?_
 exact ⟨hz,its',_,hv,q⟩
theorem Inv.Jw {aj:List Value} {t':Nat} (I:Inv X pins σ H s) (hv:Vals ys aj) (hz:ys.length <= sizeLine) :
  Inv X pins σ (upd H s.heap.objs.size (.lst ys)) { s with heap:=s.heap.push { cls:=.type "list",data:=.seq aj.toArray },toks:=t' } :=
 I.laid (fun _ _ q=>Heap.get?_push_of_some _ q) (Nat.le_refl _) ⟨hz,aj,0,hv,Heap.get?_push_size _ rfl⟩
theorem Inv.fresh (I:Inv X pins σ H s):H s.heap.objs.size = none:=I.dq.fresh (Nat.le_refl _)
theorem Inv.Af (I:Inv X pins σ H s) (hH:H l = some (.lst xs)):xs.length <= sizeLine /\ ∃ (aj:List Value) (n:Nat),Vals xs aj /\ xs.length = aj.length /\ s.heap.get? l = some { cls:=.type "list",data:=.seq aj.toArray n }:=by
 obtain ⟨z,aj,n,r,e⟩:=I.dq l _ hH
 exact ⟨z,aj,n,r,r.length,e⟩
theorem vc {n:Nat} (h:n <= sizeLine):Builtin.List.listTooLong n = false:=by
 unfold Builtin.List.listTooLong
 exact decide_eq_false (by omega)
end
section
variable {X:Cx}
def EA:V -> List V -> Hp -> VK -> Prop:=fun x vs H Q=>∃ l xs y,x = .ref l /\ vs = [y] /\ H l = some (.lst xs) /\ xs.length < sizeLine /\ Q .bC (upd H l (.lst (xs ++ [y])))
theorem Ac:MtM X "list.append" EA:=by
 intro pins s σ H x vs v us Q I rx rv h
 obtain ⟨l,xs,y,rfl,rfl,hH,hz,q⟩:=h
 cases rx
 obtain ⟨u,rfl,ru⟩:=rv.one
 obtain ⟨z,aj,n,r,hl,e⟩:=I.Af hH
 refine call_meets F.slot_list_append ⟨_,e,rfl⟩ F.entry_list_append (F.args_list_append_2 _ _) (PySem.list_append l aj.toArray n u (by rw [List.size_toArray];omega)) ⟨e,?_⟩
 refine ⟨.bC,_,I.lT (its':=aj ++ [u]) hH e (by simp) (r.append (.cons ru .nil)) ?_,rfl,q⟩
 rw [List.length_append,List.length_singleton]
 omega
def Ez:V -> List V -> Hp -> VK -> Prop:=fun x vs H Q=>∃ l b xs zs,x = .ref l /\ vs = [.ref b] /\ H l = some (.lst xs) /\ H b = some (.lst zs) /\ xs.length + zs.length <= sizeLine /\ Q .bC (upd H l (.lst (xs ++ zs)))
theorem Ab:MtM X "list.extend" Ez:=by
 intro pins s σ H x vs v us Q I rx rv h
 obtain ⟨l,b,xs,zs,rfl,rfl,hH,hB,hz,q⟩:=h
 cases rx
 obtain ⟨u,rfl,ru⟩:=rv.one
 cases ru
 obtain ⟨z,aj,n,r,hl,e⟩:=I.Af hH
 obtain ⟨z2,mV,n2,r2,Ao,e2⟩:=I.Af hB
 have hsz:aj.toArray.size + mV.toArray.size <= sizeLine:=by rw [List.size_toArray,List.size_toArray];omega
 have CC:¬ (!aj.toArray.isEmpty && Builtin.List.listTooLong (aj.toArray.size + mV.toArray.size)) = true:=by
  rw [vc hsz,Bool.and_false]
  exact Bool.false_ne_true
 refine call_meets F.slot_list_extend ⟨_,e,rfl⟩ F.entry_list_extend (F.args_list_extend_2 _ _)
  (AutoSeq1.list_extend_list_list_0 l aj.toArray n b mV.toArray n2 CC (by rw [List.size_toArray];omega) (by omega)) ⟨e,e2,?_⟩
 refine ⟨.bC,_,I.lT (its':=aj ++ mV) hH e (by simp) (r.append r2) ?_,rfl,q⟩
 rw [List.length_append]
 omega
def SQ:R2:=fun x y H Q=>∃ l b xs zs,x = .ref l /\ y = .ref b /\ H l = some (.lst xs) /\ H b = some (.lst zs) /\ xs.length + zs.length <= sizeLine /\ ∀ p,H p = none -> Q (.ref p) (upd H p (.lst (xs ++ zs)))
theorem Jc:km X (binaryOp .Add) SQ:=by
 intro pins s σ H x y v u Q I rx ry h
 obtain ⟨l,b,xs,zs,rfl,rfl,hH,hB,hz,q⟩:=h
 cases rx
 cases ry
 obtain ⟨z,aj,n,r,hl,e⟩:=I.Af hH
 obtain ⟨z2,mV,n2,r2,Ao,e2⟩:=I.Af hB
 refine PySem.P.add_list e e2 ?_ (by rw [List.size_toArray,List.size_toArray];omega)
 have ea:aj.toArray ++ mV.toArray = (aj ++ mV).toArray:=by simp
 rw [ea]
 exact ⟨.ref _,_,I.Jw (t':=s.toks) (r.append r2) (by rw [List.length_append];omega),rfl,q _ I.fresh⟩
def SJ:R2:=fun x y H Q=>∃ l k xs,x = .ref l /\ y = .int k /\ H l = some (.lst xs) /\ -(2 ^ 63) <= k /\ k < 2 ^ 63 /\ xs.length * k.toNat <= sizeLine /\
 ∀ p,H p = none -> Q (.ref p) (upd H p (.lst (List.replicate k.toNat xs).flatten))
theorem len_rep {α:Type} (xs:List α) (k:Nat):(List.replicate k xs).flatten.length = k * xs.length:=by
 induction k with
 | zero=>simp
 | succ k ih=>rw [List.replicate_succ,List.flatten_cons,List.length_append,ih,Nat.succ_mul,Nat.add_comm]
theorem I9:km X (binaryOp .Mult) SJ:=by
 intro pins s σ H x y v u Q I rx ry h
 obtain ⟨l,k,xs,rfl,rfl,hH,h1,h2,hz,q⟩:=h
 cases rx
 obtain ⟨t,rfl⟩:=ry
 obtain ⟨z,aj,n,r,hl,e⟩:=I.Af hH
 have hlen:aj.toArray.size * k.toNat <= sizeLine:=by rw [List.size_toArray,<- hl];exact hz
 have o6:¬ aj.toArray.size * k.toNat > (2 ^ 63 - 1) / 8:=by
  have:(sizeLine:Nat) <= (2 ^ 63 - 1) / 8:=by decide
  omega
 have WE:¬ (!Builtin.List.listFitsIndex k) = true:=by
  rw [fitsIndex_both h1 h2]
  exact Bool.false_ne_true
 have CC:¬ Builtin.List.listTooLong (aj.toArray.size * k.toNat) = true:=by
  rw [vc hlen]
  exact Bool.false_ne_true
 have JY:List.foldl (fun x1 x2=>x1 ++ x2) #[] (List.replicate (if aj.toArray.isEmpty = true then 0 else k.toNat) aj.toArray) = (List.replicate k.toNat aj).flatten.toArray:=by
  have f0:∀ m:Nat,List.foldl (fun x1 x2=>x1 ++ x2) #[] (List.replicate m aj.toArray) = (List.replicate m aj).flatten.toArray:=fun m=>by
   have:=foldl_rep aj m []
   rw [List.nil_append] at this
   exact this
  rw [f0]
  cases aj with
  | nil=>simp
  | cons a r'=>rw [if_neg (by simp)]
 refine wpAny_binaryOp_repeat_ref (T:="list") (U:="int") (by decide) ⟨_,e,rfl⟩ (fun s'=>typeIs_int s' k t) noFill_list_mul F.fills_int_mul F.slot_int_rmul repeat_list F.slot_int_index.lookup
  (call_meets F.slot_int_rmul (typeIs_int s k t) F.entry_int_rmul (F.args_int_rmul_2 _ _) (int___rmul___int_list k t l aj.toArray n)
   ⟨e,rfl,⟨_,e,rfl⟩,call_meets F.slot_list_mul ⟨_,e,rfl⟩ F.entry_list_mul (F.args_list_mul_2 _ _) (AutoListH.list___mul___list_int_3 l aj.toArray n k t WE o6 CC) ⟨e,?_⟩⟩)
 rw [JY]
 exact ⟨.ref _,_,I.Jw (t':=s.toks) (r.rep k.toNat) (by rw [len_rep,Nat.mul_comm];exact hz),rfl,q _ I.fresh⟩
end
section
variable {prog:Program} {w:World} {A:Around} {E:Value -> Shared -> Prop} {s:Shared}
set_option maxRecDepth 100000 in
end
section
variable {X:Cx}
end
end L2
namespace Att
open PySem PySem.W PySem.Calls PyProof.Rows
theorem mW {P:Params} {h:Heap}:∀ (ns:List Int) (vs:List Value),WellAll P h vs (ns.map WData.int) -> IntsAre vs ns:=by
 intro ns
 induction ns with
 | nil =>
  intro vs w
  rw [List.map_nil] at w
  cases w
  exact .nil
 | cons n ns ih =>
  intro vs w
  rw [List.map_cons] at w
  cases w with
  | cons a b =>
   cases a
   exact .cons _ _ (ih _ b)
theorem zM {l:OpenLaw} {n:Nat} (hn:l.most = some n) {P:Params} {h:Heap} {args:List WData} {vals:List Value}
  (Ft:l.row.toRowW.claim.pre args = true) (Wd:WellAll P h vals args) :
  ∃ a vs ns,vals = [Value.ref a] /\ args = [WData.list (ns.map WData.int)] /\ h.get? a = some { cls:=.type "list",data:=.seq vs.toArray } /\ IntsAre vs ns /\ ns.length <= n:=by
 have hsh:WShape.hasAll [] args [.list .int] = true:=(pre_splitW Ft).1
 have hc:l.pre.holds [] { args:=args } = true:=(pre_splitW Ft).2
 obtain ⟨d,r,rfl,h1,h2⟩:=hasAllW_cons hsh
 obtain rfl:=hasAllW_nil h2
 obtain ⟨xs,rfl,h3⟩:=hasW_list h1
 obtain ⟨ns,rfl⟩:=items_int h3
 have hlen:ns.length <= n:=by
  unfold OpenLaw.pre at hc
  have h4:(WTm.not (.lt (.lit (.int (n:Int))) (.len (.arg 0)))).holds [] { args:=[.list (ns.map .int)] } = true:=by
   have h4:=(holds_andW hc).1
   rw [hn] at h4
   exact h4
  have h5:=condW_of h4 (w_not (w_lt w_lit (w_len_list (w_arg rfl))))
  rw [List.length_map] at h5
  refine Nat.le_of_not_lt fun q=>?_
  have q':(n:Int) < ((ns.length:Nat):Int):=by omega
  first
   | (rw [decide_eq_true q'] at h5;exact absurd h5 (by decide))
   | (simp at h5;omega)
 cases Wd with
 | cons w1 w2 =>
  cases w2
  cases w1 with
  | list ho hall=>exact ⟨_,_,ns,rfl,rfl,ho,mW ns _ hall,hlen⟩
theorem zX (l:OpenLaw) (args:List WData):l.row.toRowW.claim.post args (.bool true) args = true :=
 postW_of (r:=l.row.toRowW) (X:=(true == true))
  (show WShape.has [] (.bool true) .bool = true by first | rfl | decide | simp [WShape.has,WShape.arms,WShape.armsAll])
  (show (WTm.eq .res (.lit (.bool true))).value [] { args:=args,res:=some (.bool true),after:=args } = some (.bool (true == true)) from w_eq_bool (w_res rfl) w_lit) rfl
theorem vZ {l:OpenLaw} {n:Nat} {q:Program} {loose:List Str} {XP:(Str -> Option Value) -> Heap -> Prop} {YP:World -> Heap -> Prop} {d:DefRec}
  (hn:l.most = some n) (Ot:d.params.defaults = [])
  (call:∀ (w:World) (s₀ s₁:Shared) (mg mb:Str -> Option Value) (fa:Addr) (o:Obj) (pm cd doc:Value) (a:Addr) (vs:List Value) (ns:List Int),
   Ground q loose [] XP w s₀ mg mb s₁.heap -> YP w s₁.heap ->
   s₁.heap.get? fa = some o -> o.data = .func (docDef d.name d.params d.body d.scope pm cd doc) -> s₁.heap.CodeRec cd d.name -> mg d.name = some (.ref fa) ->
   s₁.heap.get? a = some { cls:=.type "list",data:=.seq vs.toArray } -> IntsAre vs ns -> ns.length <= n -> s₁.gens = #[] ->
   codeAny (model l.prog w) callerA (.call (.ref fa) ⟨[.ref a],[]⟩) (fun r s'=>r = .ok (.ret (.bool true)) /\ OldK s₁.heap s'.heap /\ s'.os = s₁.os /\ AllBare s'.gens) s₁) :
  WalkO q loose XP YP l.row.toRowW d [] (fun f vs=>PySem.call f vs):=by
 intro w s₀ s₁ mg mb G Y fa o pm cd doc dV kV ho hd CK hD hmg hg args vals as Ft aeA hrd Wd hlo
 obtain rfl:dV = .none:=Dflts.none hD Ot
 obtain rfl:kV = .none:=Dflts.noKw hD
 obtain ⟨a,vs,ns,rfl,rfl,JX,hints,hlen⟩:=zM hn Ft Wd
 refine enter_call (codeAny_mono (call w s₀ s₁ mg mb fa o pm cd doc a vs ns G Y ho (fd_plain hd) CK hmg JX hints hlen hg) fun r s' hq=>?_)
 obtain ⟨rfl,h2,h3,h4⟩:=hq
 exact ⟨.inl ⟨.bool true,.bool true,[],rfl,fun _=>rfl,.bool true,zX l _,fun _=>⟨List.Pairwise.nil,fun _ hm=>(nomatch hm)⟩⟩,h2,h3,h4⟩
section
variable {prog:Program} {w:World} {A:Around} {E:Value -> Shared -> Prop} {s:Shared} {K:Frag}
def ledger (h:Heap) (L d:Addr):List (Addr × Obj):=(List.range h.objs.size).filterMap fun a=>if a = L \/ a = d then none else (h.get? a).map fun o=>(a,o)
end
end Att
namespace L2
open PySem PySem.Spec PyProof.Rows
theorem ft:∀ {vs:List Value} {ns:List Int},IntsAre vs ns -> Vals (ns.map V.int) vs
 | _,_,.nil=>.nil
 | _,_,.cons n t h=>.cons ⟨t,rfl⟩ (ft h)
def Gy (H:Hp):Prop:=∀ b,H b = none \/ ∃ o xs,H b = some (.ji o (.lst xs))
theorem Co {P:Program} {w:World} {K:PySem.W.Frag} {mg mb:Str -> Option Value} {CX:A7} {k:Nat} {fa a:Addr} {fd:FuncData} {x:Str} {sp:Sp} {s₁:Shared} {vs:List Value} {ns:List Int}
  (KX:K.In s₁.heap) (A3:s₁.heap.Ns mainGlobals mg) (hb:s₁.heap.Ns builtinsNs mb) (hbb:∀ x:Str,x ≠ "__name__" -> mb x = bootBuiltins x) (Wy:s₁.heap.NoLimit) (hg:s₁.gens = #[])
  (ha:s₁.heap.get? a = some { cls:=.type "list",data:=.seq vs.toArray }) (hi:IntsAre vs ns) (hl:ns.length <= sizeLine) (hr:gZ k callerA)
  (F:∀ base:Heap,K.In base -> base.Ns mainGlobals mg -> ku P w K mg base CX k fa fd [x] sp) (Oz:∀ (s:Shared) (u:Value),BindsTo s fd ⟨[u],[]⟩ [(x,u)])
  (DG:∀ H:Hp,Gy H -> dY K H a (ns.map V.int) -> sp [.ref a] H (fun v _=>v = .bl true) fun _ _ _=>False)
  (WS:∀ H e s',CX [] H s₁ (fun _ _ _=>False) e s' -> False) :
  codeAny (model P w) callerA (.call (.ref fa) ⟨[.ref a],[]⟩) (fun r s'=>r = .ok (.ret (.bool true)) /\ OldK s₁.heap s'.heap /\ s'.os = s₁.os /\ AllBare s'.gens) s₁:=by
 have rv:=ft hi
 have Ve:=hi.length
 have core:∀ H:Hp,Gy H -> dY K H a (ns.map V.int) -> mv P w H s₁.heap -> (∀ b,H b ≠ none -> b = a) -> (H a ≠ none -> K.lookup a = none) ->
   codeAny (model P w) callerA (.call (.ref fa) ⟨[.ref a],[]⟩) (fun r s'=>r = .ok (.ret (.bool true)) /\ OldK s₁.heap s'.heap /\ s'.os = s₁.os /\ AllBare s'.gens) s₁:=by
  intro H hO hS dq hA hK
  have zt:∀ {b:Addr} {o:Obj},s₁.heap.get? b = some o -> H b = none -> (tm s₁.heap H).get? b = some o:=fun e n=>CH e n
  have Nz:∀ {b:Addr} {o:Obj} {es:Array DictEntry} {ep:Nat},s₁.heap.get? b = some o -> o.data = .dict es ep -> H b = none:=fun {b o es ep} e d=>by
   cases q:H b with
   | none=>rfl
   | some u =>
    have e':b = a:=hA b (by rw [q];simp)
    subst e'
    rw [ha] at e;cases e
    have d':Data.seq vs.toArray _ = Data.dict es ep:=d
    cases d'
  have QI:∀ {b:Addr} {m:Str -> Option Value},s₁.heap.Ns b m -> (tm s₁.heap H).Ns b m:=fun {b m} ⟨o,es,ep,e,d,r⟩=>⟨o,es,ep,zt e (Nz e d),d,r⟩
  have hKb:K.In (tm s₁.heap H):=fun b o e=>zt (KX b o e) (by
   cases q:H b with
   | none=>rfl
   | some u =>
    have e':b = a:=hA b (by rw [q];simp)
    subst e'
    rw [hK (by rw [q];simp)] at e;cases e)
  have hM:Mod K mg (tm s₁.heap H):=⟨hKb,QI A3,⟨mb,QI hb,hbb⟩,let ⟨mc,h1,h2⟩:=Wy;⟨mc,QI h1,h2⟩⟩
  have e0:GA P w K mg (tm s₁.heap H) callerA [] s₁ H:=⟨rfl,hM,fun b o e=>EU e,Nat.le_of_eq (Ap _ _),trivial,fun b hb=>absurd (show b ∈ ([]:List Addr) from hb) (by simp),dq,.of_eq hg⟩
  refine codeAny_mono ((F _ hKb (QI A3)).run callerA [] s₁ H ⟨[.ref a],[]⟩ [.ref a] [.ref a] _ _ hr e0 (Oz s₁ (.ref a)) (.cons rfl .nil) (DG H hO hS)) fun r s' h=>?_
  cases r with
  | error e=>exact (WS H e s' h).elim
  | ok fl =>
   cases fl with
   | next=>exact False.elim h
   | brk=>exact False.elim h
   | cont=>exact False.elim h
   | ret u =>
    obtain ⟨v,H',os,bare,un,Ws,r',q⟩:=h
    have q':v = .bl true:=q
    subst q'
    obtain rfl:u = Value.bool true:=r'
    refine ⟨rfl,OldK.of_keep fun b o e=>?_,os,bare⟩
    cases q:H b with
    | none=>exact un.keep b o e q (by intro z;exact absurd (show b ∈ ([]:List Addr) from z) (by simp)) (by simp)
    | some u =>
     rcases hO b with z | ⟨ob,xs,z⟩
     ·rw [q] at z;cases z
     ·have z2:=un.qH b ob _ z
      obtain ⟨e1,_⟩:=dq b _ z
      obtain ⟨e2,_⟩:=Ws b _ z2
      rw [e] at e1;cases e1
      exact e2
 cases hk:K.lookup a with
 | some o =>
  have e:=KX a o hk
  rw [ha] at e
  cases e
  refine core (fun _=>none) (fun _=>.inl rfl) (.inr ⟨_,vs.toArray,_,hk,rfl,rfl,rfl,by rw [List.size_toArray,Ve];exact hl,by simpa using rv⟩) (fun b u z=>by have z':(none:Option HO) = some u:=z;cases z') (fun b z=>absurd rfl z) fun z=>absurd rfl z
 | none =>
  refine core (fun b=>if b = a then some (.ji { cls:=.type "list",data:=.seq vs.toArray } (.lst (ns.map V.int))) else none) (fun b=>?_) (.inl (.inr ⟨{ cls:=.type "list",data:=.seq vs.toArray },if_pos rfl⟩)) (fun b u z=>?_) (fun b z=>?_) fun _=>hk
  ·by_cases hb:b = a
   ·exact .inr ⟨_,_,if_pos hb⟩
   ·exact .inl (if_neg hb)
  ·by_cases hb:b = a
   ·have z':=(if_pos hb).symm.trans z
    cases z'
    subst hb
    exact ⟨ha,by rw [List.length_map];exact hl,vs,_,rv,ha⟩
   ·have z':=(if_neg hb).symm.trans z
    cases z'
  ·by_cases hb:b = a
   ·exact hb
   ·exact absurd (if_neg hb) z
end L2
namespace L2
open PySem PySem.Spec PyProof.Rows
theorem DX {l:PySem.W.OpenLaw} {n k:Nat} {q:Program} {loose:List Str} {XP:(Str -> Option Value) -> Heap -> Prop} {YP:World -> Heap -> Prop} {d:DefRec} {K:Params -> PySem.W.Frag} {CX:World -> A7} {sp:World -> Sp} {x:Str}
  (hn:l.most = some n) (LW:n <= sizeLine) (Ot:d.params.defaults = []) (hr:gZ k callerA)
  (hY:∀ (w:World) (h:Heap),YP w h -> (K w.params).In h)
  (F:∀ (w:World) (mg:Str -> Option Value) (fa:Addr) (h:Heap),(K w.params).In h -> h.Ns mainGlobals mg -> mg d.name = some (.ref fa) ->
   ∃ fd:FuncData,(∀ (s:Shared) (u:Value),BindsTo s fd ⟨[u],[]⟩ [(x,u)]) /\
    ∀ base:Heap,(K w.params).In base -> base.Ns mainGlobals mg -> ku l.prog w (K w.params) mg base (CX w) k fa fd [x] (sp w))
  (DG:∀ (w:World) (H:Hp) (a:Addr) (ns:List Int),ns.length <= n -> Gy H -> dY (K w.params) H a (ns.map V.int) -> sp w [.ref a] H (fun v _=>v = .bl true) fun _ _ _=>False)
  (WS:∀ (w:World) (H:Hp) (s:Shared) (e:Value) (s':Shared),CX w [] H s (fun _ _ _=>False) e s' -> False) :
  PySem.W.WalkO q loose XP YP l.row.toRowW d [] (fun f vs=>PySem.call f vs):=by
 refine Att.vZ hn Ot fun w s₀ s₁ mg mb fa o pm cd doc a vs ns G Y ho hd CK hmg JX hints hlen hg=>?_
 have KX:=hY w _ Y
 obtain ⟨fd,hb,hF⟩:=F w mg fa _ KX G.T.g hmg
 exact Co KX G.T.g G.T.b G.T.builtins G.T.nolimit hg JX hints (Nat.le_trans hlen LW) hr hF hb (fun H hO hS=>DG w H a ns hlen hO hS) fun H e s'=>WS w H s₁ e s'
end L2
namespace L2
open PySem PySem.Spec PyProof.Rows
def ao (s:Stmt):Arguments:=match s with
 | .FunctionDef _ a _ _ _ _ _ _ _ _=>a
 | _=>{ posonlyargs:=[],args:=[],vararg:=none,kwonlyargs:=[],kw_defaults:=[],kwarg:=none,defaults:=[] }
def ae (s:Stmt):List Stmt:=match s with
 | .FunctionDef _ _ b _ _ _ _ _ _ _=>b
 | _=>[]
def aa (s:Stmt):Scope:=match s with
 | .FunctionDef _ _ _ _ _ _ sc _ _ _=>sc
 | _=>{ kind:=.function,names:=[],isGenerator:=false,isCoroutine:=false }
abbrev DD:A7:=fun _ _ _ _ _ _=>False
abbrev E0:XK:=fun _ _ _=>False
theorem Nl {X:Cx}:Passes DD X E0:=fun _ _ _ _ _ _ _ h=>h.elim
structure Lu (K:PySem.W.Frag) (x qual:Str) (st:Stmt) (f:Addr) (fd:FuncData):Prop where
 ex:∃ (oc:Value) (od:Option Addr) (kV doc pm:Value) (an:Option Addr) (mI ct:Value) (DF:Array (Option Value)),
  fd = PySem.W.fnOf x qual (ao st) (ae st) (aa st) .none kV doc pm an mI ct /\ K.lookup f = some ⟨oc,od,.func fd,DF⟩ /\ PySem.W.codeIn K mI qual = true
 kp:PySem.W.keepIn K (.ref f) = true
section
variable {P:Program} {w:World} {K:PySem.W.Frag} {mg:Str -> Option Value} {base:Heap}
theorem Lu.ok {x qual:Str} {st:Stmt} {f:Addr} {fd:FuncData} {N ps:List Str} {k:Nat} {sp:Sp} (F:Lu K x qual st f fd) (S:aq N ps (aa st)) (len:∀ vs H Q E,sp vs H Q E -> vs.length = ps.length)
  (CM:∀ (mI:Value) (A:Around) (outer:List Env) (s:Shared) (H:Hp) (vs:List V) (Q:VK) (E:XK),gZ k (A.deeper (envOfC qual (aa st) s.heap.objs.size f mI)) -> sp vs H Q E ->
   ∃ t,nY (xA DD P w K mg base N qual (aa st) f mI A outer s H E).Nw (ae st) t /\ t { nx:=fun _ H'=>Q .bC H',rt:=Q } (start N vs) H):ku P w K mg base DD (k + 1) f fd ps sp:=by
 obtain ⟨oc,od,kV,doc,pm,an,mI,ct,DF,rfl,lk,CK⟩:=F.ex
 refine OT lk CK S len fun A outer s H vs Q E hr DG=>?_
 obtain ⟨t,h,q⟩:=CM mI A outer s H vs Q E hr DG
 exact ⟨t,h.Nw,q⟩
theorem Lu.binds {x qual:Str} {st:Stmt} {f:Addr} {fd:FuncData} {ps:List Str} (F:Lu K x qual st f fd)
  (h:∀ (kV doc pm:Value) (an:Option Addr) (mI ct:Value) (us:List Value),us.length = ps.length -> bindArgs (PySem.W.fnOf x qual (ao st) (ae st) (aa st) .none kV doc pm an mI ct) ⟨us,[]⟩ = pure (ps.zip us)):Binds K fd ps []:=by
 obtain ⟨oc,od,kV,doc,pm,an,mI,ct,DF,rfl,lk,CK⟩:=F.ex
 exact .all (h kV doc pm an mI ct)
theorem aF {x qual:Str} {st:Stmt} {f:Addr} {oc:Value} {od an:Option Addr} {DF:Array (Option Value)} {kV doc pm mI ct:Value} (l:K.lookup f = some ⟨oc,od,.func (PySem.W.fnOf x qual (ao st) (ae st) (aa st) .none kV doc pm an mI ct),DF⟩)
  (c:PySem.W.codeIn K mI qual = true) (k:PySem.W.keepIn K (.ref f) = true):Lu K x qual st f (PySem.W.fnOf x qual (ao st) (ae st) (aa st) .none kV doc pm an mI ct):=⟨⟨oc,od,kV,doc,pm,an,mI,ct,DF,rfl,l,c⟩,k⟩
end
theorem Cy {A:Around} {k:Nat} (hr:gZ k A):A.units + 1 < cLine:=Nat.lt_of_le_of_lt (Nat.add_le_add_left (by decide:1 <= 64) _) hr.units
section
variable {X:Cx}
end
def ak (H H':Hp):Prop:=∀ b o,H b = some o -> H' b = some o
theorem ak.refl (H:Hp):ak H H:=fun _ _ h=>h
theorem ak.trans {H H1 H2:Hp} (a:ak H H1) (b:ak H1 H2):ak H H2:=fun c o h=>b c o (a c o h)
theorem ak.free {H H':Hp} (e:ak H H') {l:Addr} (h:H' l = Option.none):H l = Option.none:=by
 cases q:H l with
 | none=>rfl
 | some o =>
  rw [e l o q] at h
  cases h
theorem ak.seq {K:PySem.W.Frag} {H H':Hp} {a:Addr} {xs:List V} (e:ak H H') (h:dY K H a xs):dY K H' a xs:=by
 rcases h with (h | ⟨o,h⟩) | h
 ·exact .inl (.inl (e _ _ h))
 ·exact .inl (.inr ⟨o,e _ _ h⟩)
 ·exact .inr h
end L2
set_option autoImplicit false
set_option linter.all false
set_option Elab.async false
set_option maxRecDepth 100000
set_option maxHeartbeats 4000000
section
namespace DI
open PySem (Str Expr Stmt Scope NameKind)
inductive Fl where | ow | fz | al | sc
 deriving DecidableEq
inductive D where
 | bC | bl (b:Bool) | int (i:Int)
 | tup (ds:List D)
 | lst (f:Fl) (ds:List D)
 | cx (f:Fl) (ks:List (List Int)) (vs:List D)
mutual
def aC (g:Fl -> Fl):D -> D
 | .tup ds=>.tup (ah g ds)
 | .lst f ds=>.lst (g f) (ah g ds)
 | .cx f ks vs=>.cx (g f) ks (ah g vs)
 | .bC=>.bC
 | .bl b=>.bl b
 | .int i=>.int i
def ah (g:Fl -> Fl):List D -> List D
 | []=>[]
 | d :: ds=>aC g d :: ah g ds
end
theorem av (g:Fl -> Fl):∀ ds:List D,ah g ds = ds.map (aC g)
 | []=>rfl
 | d :: ds=>by rw [ah,av g ds];rfl
def ba:Fl -> Fl | .ow=>.al | f=>f
def mY:Fl -> Fl | .fz=>.al | f=>f
def aN:Fl -> Fl | .sc=>.sc | _=>.fz
def w8:Fl -> Bool | .sc=>true | _=>false
mutual
def aH (p:Fl -> Bool):D -> Bool
 | .tup ds=>aw p ds
 | .lst f ds=>p f || aw p ds
 | .cx f ks vs=>p f || aw p vs
 | _=>false
def aw (p:Fl -> Bool):List D -> Bool
 | []=>false
 | d :: ds=>aH p d || aw p ds
end
def bV:Fl -> Bool | .al=>true | _=>false
def d9:Fl -> Bool | .ow=>true | _=>false
def anyF:Fl -> Bool:=fun _=>true
mutual
def lj:D -> D -> Bool
 | .bC,.bC=>true
 | .bl a,.bl b=>a == b
 | .bl a,.int b=>(if a then 1 else 0) == b
 | .int a,.bl b=>a == (if b then 1 else 0)
 | .int a,.int b=>a == b
 | .tup a,.tup b=>ez a b
 | .lst _ a,.lst _ b=>ez a b
 | _,_=>false
def ez:List D -> List D -> Bool
 | [],[]=>true
 | a :: as,b :: bs=>lj a b && ez as bs
 | _,_=>false
end
def dZ:Nat -> D -> Bool
 | _,.bC=>true
 | _,.bl _=>true
 | _,.int _=>true
 | n + 1,.tup ds=>ds.all (dZ n)
 | n + 1,.lst _ ds=>ds.all (dZ n)
 | _,_=>false
abbrev O (α:Type):=Option (Except Nat α)
def ok {α:Type} (a:α):O α:=some (.ok a)
def bd {α β:Type} (x:O α) (f:α -> O β):O β:=match x with
 | some (.ok a)=>f a
 | some (.error c)=>some (.error c)
 | none=>none
@[simp] theorem QK {α:Type} {a:α}:((none:O α) = ok a) = False:=by simp [ok]
@[simp] theorem TQ {α:Type} {a b:α}:(ok a = ok b) = (a = b):=by simp [ok]
@[simp] theorem XU {α:Type} {a:α} {c:Nat}:((some (.error c):O α) = ok a) = False:=by simp [ok]
@[simp] theorem Hg {α:Type} {p:Prop} [Decidable p] {a b:α}:((if p then ok a else none) = ok b) = (p /\ a = b):=by
 by_cases h:p <;> simp [h]
@[simp] theorem V9 {α:Type} {p:Prop} [Decidable p] {a b:α}:((if p then none else ok a) = ok b) = (¬ p /\ a = b):=by
 by_cases h:p <;> simp [h]
theorem ag {α β:Type} {x:O α} {f:α -> O β} {b:β} (h:bd x f = ok b):∃ a,x = ok a /\ f a = ok b:=by
 unfold bd at h
 match x,h with
 | some (.ok a),h=>exact ⟨a,rfl,h⟩
 | some (.error c),h=>cases h
 | none,h=>cases h
inductive GB where | add | sub | mul | fdiv | mod | pow | shr | band
 deriving DecidableEq
inductive A8 where | eq | ne | lt | le | gt | ge | NW | B8 | Hf
 deriving DecidableEq
inductive Ty where | int | bool | list | tuple
 deriving DecidableEq
inductive Bf where | len | abs | Cw | list1 | tuple1 | gh | all1 | ia
 deriving DecidableEq
inductive Tg where | nm (i:Nat) | tp (is:List Nat)
 deriving DecidableEq
inductive IK where | mU | seq | dt (p:Nat)
 deriving DecidableEq
inductive GK where | i (z:Int) | t (zs:List Int)
 deriving DecidableEq
inductive CE where
 | bC | bl (b:Bool) | int (i:Int) | glo (x:Str) (i:Int) | glt (x:Str) (zs:List Int)
 | v (i:Nat)
 | bin (op:GB) (a b:CE)
 | neg (a:CE) | not (a:CE) | and (es:List CE) | or (es:List CE) | ite (c a b:CE)
 | cmp (op:A8) (a b:CE)
 | qf (a:CE) (t:Ty)
 | call (f:Nat) (es:List CE)
 | bf (f:Bf) (es:List CE)
 | ix (a b:CE)
 | lT (a:CE)
 | tup (es:List CE) | lst (es:List CE)
 | dt (p:Nat) (es:List CE)
 | comp (n:Nat) (t:Tg) (caps:List Nat) (ik:IK) (es a_:List CE) (elt:CE)
inductive CI where | mU (a:CE) | seq (a:CE) | IL (p:Nat) (es:List CE)
inductive CS where
 | asg (t:Tg) (e:CE) | par (i j:Nat) (a b:CE) | ret (e:CE) | rs (c:Nat) | ex (e:CE)
 | mut (p i:Nat) (es:List CE) | app (i:Nat) (e:CE) | setI (i:Nat) (k e:CE)
 | ifs (c:CE) (a b:List CS)
 | HK (c:CE) (b:List CS)
 | fr (t:Tg) (it:CI) (b:List CS)
abbrev aA:=List (Option D)
abbrev az:=Nat -> List D -> O D
def big:Nat:=2 ^ 9000
def gK (i j:Int):Bool:=decide (i.natAbs < 2 ^ 64) || decide (j.natAbs < 2 ^ 64) || (decide (i.natAbs < big) && decide (j.natAbs < big))
def rT (j:Int):Bool:=decide (j ≠ 0) && decide (j.natAbs < big)
def yj (i j:Int):Bool:=decide (0 <= j) && decide (j <= 1000000) && decide (i.natAbs < 2 ^ 64)
def eu:Nat:=1000000
theorem rL {α:Type} {c:Prop} [inst:Decidable c] {v d:α} (h:(if c then ok v else none) = ok d):c /\ v = d:=by
 cases inst with
 | isTrue hc=>exact ⟨hc,Except.ok.inj (Option.some.inj h)⟩
 | isFalse hc=>cases h
def cP:GB -> D -> D -> O D
 | .add,.int i,.int j=>ok (.int (i + j))
 | .add,.lst f a,.lst g b=>if w8 f = false /\ w8 g = false /\ a.length + b.length <= eu then ok (.lst .ow (ah ba (a ++ b))) else none
 | .add,.tup a,.tup b=>if a.length + b.length <= eu then ok (.tup (ah ba (a ++ b))) else none
 | .sub,.int i,.int j=>ok (.int (i - j))
 | .mul,.int i,.int j=>if gK i j then ok (.int (i * j)) else none
 | .mul,.lst f a,.int k=>if w8 f = false /\ a.length * k.toNat <= eu /\ k <= eu /\ -eu <= k then ok (.lst .ow (ah ba (List.replicate k.toNat a).flatten)) else none
 | .fdiv,.int i,.int j=>if rT j then ok (.int (i.fdiv j)) else none
 | .mod,.int i,.int j=>if j ≠ 0 then ok (.int (i.fmod j)) else none
 | .pow,.int i,.int j=>if yj i j then ok (.int (i ^ j.toNat)) else none
 | .shr,.int i,.int j=>if 0 <= j then ok (.int (i / 2 ^ j.toNat)) else none
 | .band,.int i,.int j=>if j = 1 then ok (.int (i % 2)) else none
 | _,_,_=>none
def inD (x:D):List D -> Bool
 | []=>false
 | y :: ys=>lj y x || inD x ys
def iV:D -> Bool
 | .bC=>true | .bl _=>true | .int _=>true | _=>false
def JG:D -> Option (List D)
 | .tup ds=>some ds
 | .lst _ ds=>some ds
 | _=>none
def fS:A8 -> D -> D -> O D
 | .eq,a,b=>if dZ 40 a && dZ 40 b then ok (.bl (lj a b)) else none
 | .ne,a,b=>if dZ 40 a && dZ 40 b then ok (.bl (!lj a b)) else none
 | .lt,.int i,.int j=>ok (.bl (decide (i < j)))
 | .le,.int i,.int j=>ok (.bl (decide (i <= j)))
 | .gt,.int i,.int j=>ok (.bl (decide (j < i)))
 | .ge,.int i,.int j=>ok (.bl (decide (j <= i)))
 | .NW,a,.bC=>ok (.bl (match a with | .bC=>true | _=>false))
 | .B8,a,.bC=>ok (.bl (match a with | .bC=>false | _=>true))
 | .Hf,a,b=>match JG b with
  | some ds=>if iV a && ds.all iV then ok (.bl (inD a ds)) else none
  | none=>none
 | _,_,_=>none
def dX:Ty -> D -> Bool
 | .int,.int _=>true | .int,.bl _=>true
 | .bool,.bl _=>true
 | .list,.lst _ _=>true
 | .tuple,.tup _=>true
 | _,_=>false
def Ah (n:Nat) (i:Int):Option Nat:=if 0 <= i then (if i < n then some i.toNat else none) else if -(n:Int) <= i then some (i + n).toNat else none
def v5 (ds:List D) (i:Int):O D:=match (Ah ds.length i).bind fun j=>ds[j]? with
 | some d=>ok (aC ba d)
 | none=>none
def w4:D -> D -> O D
 | .tup ds,.int i=>v5 ds i
 | .lst _ ds,.int i=>v5 ds i
 | _,_=>none
def intsOf:List D -> Option (List Int)
 | []=>some []
 | .int i :: ds=>(intsOf ds).map (i :: ·)
 | _ :: _=>none
def jr:List D -> Option (List Bool)
 | []=>some []
 | .bl i :: ds=>(jr ds).map (i :: ·)
 | _ :: _=>none
theorem eE:∀ {ds:List D} {ns:List Int},intsOf ds = some ns -> ds = ns.map D.int
 | [],ns,h=>by simp [intsOf] at h;subst h;rfl
 | d :: ds,ns,h=>by
  cases d <;> simp [intsOf] at h
  obtain ⟨ms,h1,rfl⟩:=h
  rw [eE h1];rfl
theorem vY:∀ {ds:List D} {bs:List Bool},jr ds = some bs -> ds = bs.map D.bl
 | [],bs,h=>by simp [jr] at h;subst h;rfl
 | d :: ds,bs,h=>by
  cases d <;> simp [jr] at h
  obtain ⟨ms,h1,rfl⟩:=h
  rw [vY h1];rfl
theorem aY:∀ ns:List Int,intsOf (ns.map D.int) = some ns
 | []=>rfl
 | n :: ns=>by simp [intsOf,aY ns]
theorem mh:∀ bs:List Bool,jr (bs.map D.bl) = some bs
 | []=>rfl
 | b :: bs=>by simp [jr,mh bs]
def sortI (ns:List Int):List Int:=ns.mergeSort (fun a b=>decide (a <= b))
def rl (ds:List D):O D:=match intsOf ds with
 | some ns=>if ns.length < 64 then ok (.lst .ow ((sortI ns).map D.int)) else none
 | none=>none
def pT:Bf -> List D -> O D
 | .len,xs=>match xs with
  | [.tup ds]=>ok (.int ds.length)
  | [.lst _ ds]=>ok (.int ds.length)
  | _=>none
 | .abs,xs=>match xs with
  | [.int i]=>ok (.int (if i < 0 then -i else i))
  | _=>none
 | .Cw,xs=>match xs with
  | [.int i]=>ok (.int i)
  | [.bl b]=>ok (.int (if b then 1 else 0))
  | _=>none
 | .list1,xs=>match xs with
  | [.lst _ ds]=>ok (.lst .ow (ah ba ds))
  | [.tup ds]=>ok (.lst .ow (ah ba ds))
  | _=>none
 | .tuple1,xs=>match xs with
  | [.lst _ ds]=>ok (.tup (ah ba ds))
  | [.tup ds]=>ok (.tup (ah ba ds))
  | _=>none
 | .gh,xs=>match xs with
  | [.lst _ ds]=>(match intsOf ds with
   | some ns=>ok (.int ns.sum)
   | none=>none)
  | _=>none
 | .all1,xs=>match xs with
  | [.lst _ ds]=>(match jr ds with
   | some bs=>ok (.bl (bs.all id))
   | none=>none)
  | _=>none
 | .ia,xs=>match xs with
  | [.lst _ ds]=>rl ds
  | [.tup ds]=>rl ds
  | _=>none
def vJ (ns:List Int):List Int:=ns.foldl (fun (m:List Int) (k:Int)=>if m.any (· == k) then m else m ++ [k]) []
def yy:D -> O D
 | .tup ds=>(match intsOf ds with
  | some ns=>if ns.length < 4000 then ok (.int (vJ ns).length) else none
  | none=>none)
 | _=>none
def hV:D -> O Bool
 | .bl b=>ok b
 | _=>none
def intD:D -> O Int
 | .int i=>ok i
 | _=>none
def z_:Option (Option D) -> Option (List D)
 | some (some (.lst .ow ds))=>some ds
 | _=>none
theorem yt {o:Option (Option D)} {ds:List D} (h:z_ o = some ds):o = some (some (.lst .ow ds)):=by
 unfold z_ at h
 split at h <;> cases h
 rfl
theorem Fq {d:D} {i:Int} (h:intD d = ok i):d = .int i:=by
 cases d <;> simp [intD] at h
 rw [h]
def EX:D -> O D
 | .int i=>ok (.int (-i))
 | _=>none
def iU:List Nat -> List D -> aA -> O aA
 | [],[],ρ=>ok ρ
 | i :: is,d :: ds,ρ=>if i < ρ.length then iU is ds (ρ.set i (some d)) else none
 | _,_,_=>none
def cA:Tg -> D -> aA -> O aA
 | .nm i,d,ρ=>if i < ρ.length then ok (ρ.set i (some d)) else none
 | .tp is,.tup ds,ρ=>if aw d9 ds then none else iU is ds ρ
 | _,_,_=>none
def mP:D -> O (List D)
 | .lst _ ds=>ok (ah aN ds)
 | _=>none
def dN (Φ:az):IK -> List D -> O (List D)
 | .dt p,xs=>bd (Φ p xs) mP
 | .mU,[.int n]=>if n <= eu /\ -eu <= n then ok ((List.range n.toNat).map fun (k:Nat)=>D.int (k:Int)) else none
 | .seq,[.tup ds]=>ok (ah aN ds)
 | .seq,[.lst _ ds]=>ok (ah aN ds)
 | _,_=>none
def gT (bind:D -> O aA) (test:aA -> O Bool) (el:aA -> O D):List D -> O (List D)
 | []=>ok []
 | x :: xs=>bd (bind x) fun ρ=>bd (test ρ) fun b=>if b then bd (el ρ) fun y=>bd (gT bind test el xs) fun ys=>ok (y :: ys) else gT bind test el xs
def aT (n:Nat) (caps:List Nat) (ρ:aA):aA:=List.replicate n none ++ caps.map fun i=>(ρ[i]?.getD none).map (aC aN)
def ya (o:Option (Option D)):O D:=match o with
 | some (some d)=>ok (aC ba d)
 | _=>none
theorem BA {o:Option (Option D)} {d:D} (h:ya o = ok d):∃ d',o = some (some d') /\ d = aC ba d':=by
 cases o with
 | none=>cases h
 | some z=>cases z with
  | none=>cases h
  | some z=>cases h;exact ⟨z,rfl,rfl⟩
mutual
def aO (Φ:az):CE -> aA -> O D
 | .bC,_=>ok .bC
 | .bl b,_=>ok (.bl b)
 | .int i,_=>ok (.int i)
 | .glo _ i,_=>ok (.int i)
 | .glt _ zs,_=>ok (.tup (zs.map D.int))
 | .v i,ρ=>ya ρ[i]?
 | .bin op a b,ρ=>bd (aO Φ a ρ) fun x=>bd (aO Φ b ρ) fun y=>cP op x y
 | .neg a,ρ=>bd (aO Φ a ρ) EX
 | .not a,ρ=>bd (bd (aO Φ a ρ) hV) fun b=>ok (.bl (!b))
 | .and es,ρ=>rS Φ es ρ
 | .or es,ρ=>AF Φ es ρ
 | .ite c a b,ρ=>bd (bd (aO Φ c ρ) hV) fun k=>if k then aO Φ a ρ else aO Φ b ρ
 | .cmp op a b,ρ=>bd (aO Φ a ρ) fun x=>bd (aO Φ b ρ) fun y=>fS op x y
 | .qf a t,ρ=>bd (aO Φ a ρ) fun x=>ok (.bl (dX t x))
 | .call f es,ρ=>bd (c_ Φ es ρ) fun xs=>bd (Φ f (ah aN xs)) fun r=>ok (aC mY r)
 | .bf f es,ρ=>bd (c_ Φ es ρ) fun xs=>pT f xs
 | .ix a b,ρ=>bd (aO Φ a ρ) fun x=>bd (aO Φ b ρ) fun y=>w4 x y
 | .lT a,ρ=>bd (aO Φ a ρ) fun x=>yy x
 | .dt p es,ρ=>bd (c_ Φ es ρ) fun xs=>Φ p xs
 | .tup es,ρ=>bd (c_ Φ es ρ) fun xs=>ok (.tup xs)
 | .lst es,ρ=>bd (c_ Φ es ρ) fun xs=>ok (.lst .ow xs)
 | .comp n t caps ik es a_ elt,ρ=>bd (c_ Φ es ρ) fun xs=>bd (dN Φ ik xs) fun items =>
   bd (gT (fun d=>cA t d (aT n caps ρ)) (fun ρ'=>iW Φ a_ ρ') (fun ρ'=>aO Φ elt ρ') items) fun ds=>if ds.length <= eu then ok (.lst .ow (ah mY ds)) else none
def c_ (Φ:az):List CE -> aA -> O (List D)
 | [],_=>ok []
 | e :: es,ρ=>bd (aO Φ e ρ) fun x=>bd (c_ Φ es ρ) fun xs=>ok (x :: xs)
def iW (Φ:az):List CE -> aA -> O Bool
 | [],_=>ok true
 | e :: es,ρ=>bd (bd (aO Φ e ρ) hV) fun b=>if b then iW Φ es ρ else ok false
def rS (Φ:az):List CE -> aA -> O D
 | [],_=>none
 | e :: es,ρ=>bd (bd (aO Φ e ρ) hV) fun c=>match es with
  | []=>ok (.bl c)
  | _ :: _=>if c then rS Φ es ρ else ok (.bl false)
def AF (Φ:az):List CE -> aA -> O D
 | [],_=>none
 | e :: es,ρ=>bd (bd (aO Φ e ρ) hV) fun c=>match es with
  | []=>ok (.bl c)
  | _ :: _=>if c then ok (.bl true) else AF Φ es ρ
end
def wj (Φ:az) (e:CE) (ρ:aA):O Bool:=bd (aO Φ e ρ) hV
inductive Fo where | nx | rt (d:D) | bk | ct
def cZ {α β:Type} (n:Nat) (step:α -> O (α ⊕ β)) (a:α):O β:=match n with
 | 0=>none
 | n + 1=>bd (step a) fun r=>match r with
  | .inl a'=>cZ n step a'
  | .inr b=>ok b
open Classical in
noncomputable def fA {α β:Type} (step:α -> O (α ⊕ β)) (a:α):O β :=
 if h:∃ n,cZ n step a ≠ none then cZ (Classical.choose h) step a else none
theorem jf {α β:Type} (step:α -> O (α ⊕ β)):∀ (n m:Nat) (a:α),n <= m -> cZ n step a ≠ none -> cZ m step a = cZ n step a
 | 0,_,_,_,h=>absurd rfl h
 | n + 1,0,_,hl,_=>by omega
 | n + 1,m + 1,a,hl,h=>by
  unfold cZ at h ⊢
  match hs:step a with
  | none=>rw [hs] at h;exact absurd rfl h
  | some (.error c)=>rfl
  | some (.ok (.inr b))=>rfl
  | some (.ok (.inl a')) =>
   rw [hs] at h
   exact jf step n m a' (by omega) h
theorem lH {α β:Type} {step:α -> O (α ⊕ β)} {a:α} {n:Nat} {r:Except Nat β} (h:cZ n step a = some r):fA step a = some r:=by
 have hx:∃ n,cZ n step a ≠ none:=⟨n,by rw [h];simp⟩
 unfold fA
 rw [dif_pos hx]
 have hc:=Classical.choose_spec hx
 rcases Nat.le_total n (Classical.choose hx) with hl | hl
 ·rw [jf step _ _ a hl (by rw [h];simp),h]
 ·rw [<- jf step _ _ a hl hc,h]
theorem lS {α β:Type} {step:α -> O (α ⊕ β)} {a:α} {r:Except Nat β} (h:fA step a = some r):∃ n,cZ n step a = some r:=by
 unfold fA at h
 split at h
 ·exact ⟨_,h⟩
 ·cases h
theorem n6 {α β:Type} {step:α -> O (α ⊕ β)} {a a':α} (h:step a = ok (.inl a')):fA step a = fA step a':=by
 match hr:fA step a' with
 | some r =>
  obtain ⟨n,hn⟩:=lS hr
  refine lH (n:=n + 1) ?_
  unfold cZ;rw [h];exact hn
 | none =>
  match hq:fA step a with
  | none=>rfl
  | some r =>
   obtain ⟨n,hn⟩:=lS hq
   match n,hn with
   | n + 1,hn =>
    unfold cZ at hn;rw [h] at hn
    rw [lH (n:=n) hn] at hr;cases hr
theorem hU {α β:Type} {step:α -> O (α ⊕ β)} {a:α} {b:β} (h:step a = ok (.inr b)):fA step a = ok b :=
 lH (n:=1) (by unfold cZ;rw [h];rfl)
mutual
def gO:CE -> List Nat
 | .v i=>[i]
 | .bin _ a b=>gO a ++ gO b
 | .neg a=>gO a
 | .not a=>gO a
 | .and es=>du es
 | .or es=>du es
 | .ite c a b=>gO c ++ (gO a ++ gO b)
 | .cmp _ a b=>gO a ++ gO b
 | .qf a _=>gO a
 | .call _ es=>du es
 | .bf _ es=>du es
 | .ix a b=>gO a ++ gO b
 | .lT a=>gO a
 | .tup es=>du es
 | .lst es=>du es
 | .dt _ es=>du es
 | .comp _ _ caps _ es _ _=>caps ++ du es
 | _=>[]
def du:List CE -> List Nat
 | []=>[]
 | e :: es=>gO e ++ du es
end
def ji (is:List Nat) (ρ:aA):aA:=ρ.mapIdx fun i d=>if i ∈ is then d.map (aC aN) else d
def keep (e:CE) (d:D) (ρ:aA):D × aA:=if aH bV d then (aC aN d,ji (gO e) ρ) else (d,ρ)
def jX (Φ:az) (e:CE) (ρ:aA):O (D × aA):=match e with
 | .v i=>match ρ[i]? with
  | some (some d)=>if aH d9 d then ok (d,ρ.set i none) else ok (d,ρ)
  | _=>none
 | _=>bd (aO Φ e ρ) fun d=>ok (keep e d ρ)
def dk (Φ:az) (it:CI) (ρ:aA):O (List D × aA):=match it with
 | .IL p es=>bd (c_ Φ es ρ) fun xs=>bd (Φ p xs) fun d=>bd (mP d) fun items=>ok (items,if aw bV xs then ji (du es) ρ else ρ)
 | .mU a=>bd (aO Φ a ρ) fun x=>match x with
  | .int n=>if n <= eu /\ -eu <= n then ok ((List.range n.toNat).map fun (k:Nat)=>D.int (k:Int),ρ) else none
  | _=>none
 | .seq a=>bd (aO Φ a ρ) fun x=>match x with
  | .tup ds=>ok (ah aN ds,if aH bV x then ji (gO a) ρ else ρ)
  | .lst f ds=>ok (ah aN ds,if aH bV x then ji (gO a) ρ else ρ)
  | _=>none
def oW (es:List CE) (xs:List D) (ρ:aA):List D × aA:=if aw bV xs then (ah aN xs,ji (du es) ρ) else (xs,ρ)
def wR (Φ:az) (p i:Nat) (r:List D × aA):O (Fo × aA):=match r.2[i]? with
 | some (some d)=>bd (Φ p (d :: r.1)) fun d'=>ok (.nx,r.2.set i (some d'))
 | _=>none
def fh (bind:D -> aA -> O aA) (body:aA -> O (Fo × aA)):List D -> aA -> O (Fo × aA)
 | [],ρ=>ok (.nx,ρ)
 | d :: ds,ρ=>bd (bind d ρ) fun ρ1=>bd (body ρ1) fun r=>match r with
  | (.nx,ρ2)=>fh bind body ds ρ2
  | (.ct,ρ2)=>fh bind body ds ρ2
  | (.bk,ρ2)=>ok (.nx,ρ2)
  | (.rt d,ρ2)=>ok (.rt d,ρ2)
mutual
noncomputable def tO (Φ:az):CS -> aA -> O (Fo × aA)
 | .asg t e,ρ=>bd (jX Φ e ρ) fun r=>bd (cA t r.1 r.2) fun ρ'=>ok (.nx,ρ')
 | .par i j a b,ρ=>bd (aO Φ a ρ) fun x=>bd (aO Φ b ρ) fun y=>if aH anyF x = false /\ aH anyF y = false /\ i < ρ.length /\ j < ρ.length then ok (.nx,(ρ.set i (some x)).set j (some y)) else none
 | .ret e,ρ=>bd (jX Φ e ρ) fun r=>ok (.rt r.1,r.2)
 | .rs c,_=>some (.error c)
 | .ex e,ρ=>bd (aO Φ e ρ) fun _=>ok (.nx,ρ)
 | .mut p i es,ρ=>bd (c_ Φ es ρ) fun xs=>wR Φ p i (oW es xs ρ)
 | .app i e,ρ=>bd (jX Φ e ρ) fun r=>match z_ r.2[i]? with
  | some ds=>if ds.length < eu then ok (.nx,r.2.set i (some (.lst .ow (ds ++ [r.1])))) else none
  | none=>none
 | .setI i k e,ρ=>bd (jX Φ e ρ) fun r=>bd (bd (aO Φ k r.2) intD) fun z=>match z_ r.2[i]? with
  | some ds=>match Ah ds.length z with
   | some j=>ok (.nx,r.2.set i (some (.lst .ow (ds.set j r.1))))
   | none=>none
  | none=>none
 | .ifs c a b,ρ=>bd (wj Φ c ρ) fun k=>if k then bM Φ a ρ else bM Φ b ρ
 | .HK c b,ρ=>fA (fun ρ=>bd (wj Φ c ρ) fun k=>if k then bd (bM Φ b ρ) fun r=>match r with
   | (.nx,ρ')=>ok (.inl ρ')
   | (.ct,ρ')=>ok (.inl ρ')
   | (.bk,ρ')=>ok (.inr (.nx,ρ'))
   | (.rt d,ρ')=>ok (.inr (.rt d,ρ'))
  else ok (.inr (.nx,ρ))) ρ
 | .fr t it b,ρ=>bd (dk Φ it ρ) fun r=>fh (fun d ρ=>cA t d ρ) (fun ρ=>bM Φ b ρ) r.1 r.2
noncomputable def bM (Φ:az):List CS -> aA -> O (Fo × aA)
 | [],ρ=>ok (.nx,ρ)
 | s :: ss,ρ=>bd (tO Φ s ρ) fun r=>match r with
  | (.nx,ρ')=>bM Φ ss ρ'
  | r=>ok r
end
noncomputable def wM (Φ:az) (n:Nat) (b:List CS) (ds:List D):O D:=bd (bM Φ b (ds.map some ++ List.replicate (n - ds.length) none)) fun r=>match r.1 with
 | .nx=>ok .bC
 | .rt d=>ok d
 | _=>none
def sj:List D -> O D
 | [.lst _ a,.lst _ b]=>ok (.lst .ow (List.zipWith (fun x y=>.tup [x,y]) a b))
 | _=>none
end DI
end
section
namespace DI
open PySem PySem.Spec PyProof.Rows L2
abbrev aI:=List Nat
abbrev St:=L2.St
abbrev jZ:=Addr -> List V -> Prop
inductive Nd where | l (xs:List V) | d (cs:List (List Int)) (as:List Addr) (xs:List V) (ep:Nat)
abbrev i3:=aI -> Addr -> Nd -> Fl -> Prop
structure eU (T:jZ) (as:List Addr) (cs:List (List Int)):Prop where
 len:as.length = cs.length
 tup:∀ (j:Nat) (a:Addr) (c:List Int),as[j]? = some a -> cs[j]? = some c -> T a (c.map V.int)
theorem eU.imp {T T':jZ} {as:List Addr} {cs:List (List Int)} (h:eU T as cs) (hT:∀ p xs,T p xs -> T' p xs):eU T' as cs:=⟨h.len,fun j a c h1 h2=>hT _ _ (h.tup j a c h1 h2)⟩
mutual
inductive Rep (T:jZ) (N:i3):aI -> V -> D -> Prop where
 | bC {q:aI}:Rep T N q .bC .bC
 | bl {q:aI} (b:Bool):Rep T N q (.bl b) (.bl b)
 | int {q:aI} (i:Int):Rep T N q (.int i) (.int i)
 | tup {q:aI} {p:Addr} {xs:List V} {ds:List D} (h:T p xs) (r:af T N q 0 xs ds):Rep T N q (.ref p) (.tup ds)
 | lst {q:aI} {p:Addr} {xs:List V} {f:Fl} {ds:List D} (h:N q p (.l xs) f) (r:af T N q 0 xs ds):Rep T N q (.ref p) (.lst f ds)
 | cx {q:aI} {p:Addr} {cs:List (List Int)} {as:List Addr} {xs:List V} {ep:Nat} {f:Fl} {ds:List D} (h:N q p (.d cs as xs ep) f) (k:eU T as cs) (r:af T N q 0 xs ds):Rep T N q (.ref p) (.cx f cs ds)
inductive af (T:jZ) (N:i3):aI -> Nat -> List V -> List D -> Prop where
 | nil {q:aI} {n:Nat}:af T N q n [] []
 | cons {q:aI} {n:Nat} {v:V} {d:D} {vs:List V} {ds:List D} (h:Rep T N (n :: q) v d) (t:af T N q (n + 1) vs ds):af T N q n (v :: vs) (d :: ds)
end
mutual
theorem tq:∀ d:D,aH (fun _=>false) d = false
 | .bC=>rfl
 | .bl _=>rfl
 | .int _=>rfl
 | .tup ds=>gN ds
 | .lst _ ds=>gN ds
 | .cx _ _ ds=>gN ds
theorem gN:∀ ds:List D,aw (fun _=>false) ds = false
 | []=>rfl
 | d :: ds=>by show (aH _ d || aw _ ds) = false;rw [tq d,gN ds];rfl
end
theorem G8 {a b:Bool} (h:(a || b) = false):a = false /\ b = false:=by cases a <;> cases b <;> first | exact ⟨rfl,rfl⟩ | cases h
section
variable {T T':jZ} {N N':i3} {g:Fl -> Fl} {P:Fl -> Bool} {C:aI -> aI -> Prop} {I:Nat -> Nat -> Prop}
mutual
theorem Rep.gen (hT:∀ p xs,T p xs -> T' p xs) (h0:I 0 0) (hI:∀ n n',I n n' -> I (n + 1) (n' + 1)) (hC:∀ k k' n n',C k k' -> I n n' -> C (n :: k) (n' :: k')) (hN:∀ k k' p xs f,C k k' -> P f = false -> N k p xs f -> N' k' p xs (g f)) :
  ∀ {k:aI} {v:V} {d:D},Rep T N k v d -> ∀ {k':aI},C k k' -> aH P d = false -> Rep T' N' k' v (aC g d)
 | _,_,_,.bC,_,_,_=>.bC
 | _,_,_,.bl b,_,_,_=>.bl b
 | _,_,_,.int i,_,_,_=>.int i
 | _,_,_,.tup h r,_,c,e=>.tup (hT _ _ h) (af.gen hT h0 hI hC hN r c h0 e)
 | _,_,_,.lst h r,_,c,e=>.lst (hN _ _ _ _ _ c (G8 e).1 h) (af.gen hT h0 hI hC hN r c h0 (G8 e).2)
 | _,_,_,.cx h k r,_,c,e=>.cx (hN _ _ _ _ _ c (G8 e).1 h) (k.imp hT) (af.gen hT h0 hI hC hN r c h0 (G8 e).2)
theorem af.gen (hT:∀ p xs,T p xs -> T' p xs) (h0:I 0 0) (hI:∀ n n',I n n' -> I (n + 1) (n' + 1)) (hC:∀ k k' n n',C k k' -> I n n' -> C (n :: k) (n' :: k')) (hN:∀ k k' p xs f,C k k' -> P f = false -> N k p xs f -> N' k' p xs (g f)) :
  ∀ {k:aI} {n:Nat} {vs:List V} {ds:List D},af T N k n vs ds -> ∀ {k':aI} {n':Nat},C k k' -> I n n' -> aw P ds = false -> af T' N' k' n' vs (ah g ds)
 | _,_,_,_,.nil,_,_,_,_,_=>.nil
 | _,_,_,_,.cons h t,_,_,c,i,e=>.cons (Rep.gen hT h0 hI hC hN h (hC _ _ _ _ c i) (G8 e).1) (af.gen hT h0 hI hC hN t c (hI _ _ i) (G8 e).2)
end
theorem Rep.map {q q':aI} (hT:∀ p xs,T p xs -> T' p xs) (hN:∀ c p xs f,N (c ++ q) p xs f -> N' (c ++ q') p xs (g f)) {k:aI} {v:V} {d:D} (h:Rep T N k v d) (c:aI) (e:k = c ++ q):Rep T' N' (c ++ q') v (aC g d) :=
 Rep.gen (P:=fun _=>false) (C:=fun k k'=>∃ c,k = c ++ q /\ k' = c ++ q') (I:=fun n n'=>n = n') hT rfl (fun _ _ e=>by rw [e]) (fun _ _ n _ ⟨c,e1,e2⟩ e=>⟨n :: c,by rw [e1];rfl,by rw [e2,<- e];rfl⟩) (fun _ _ p xs f ⟨c,e1,e2⟩ _ h=>by subst e1;subst e2;exact hN c p xs f h) h ⟨c,e,rfl⟩ (tq d)
theorem af.map {q q':aI} (hT:∀ p xs,T p xs -> T' p xs) (hN:∀ c p xs f,N (c ++ q) p xs f -> N' (c ++ q') p xs (g f)) {k:aI} {n:Nat} {vs:List V} {ds:List D} (h:af T N k n vs ds) (c:aI) (e:k = c ++ q):af T' N' (c ++ q') n vs (ah g ds) :=
 af.gen (P:=fun _=>false) (C:=fun k k'=>∃ c,k = c ++ q /\ k' = c ++ q') (I:=fun n n'=>n = n') hT rfl (fun _ _ e=>by rw [e]) (fun _ _ n _ ⟨c,e1,e2⟩ e=>⟨n :: c,by rw [e1];rfl,by rw [e2,<- e];rfl⟩) (fun _ _ p xs f ⟨c,e1,e2⟩ _ h=>by subst e1;subst e2;exact hN c p xs f h) h ⟨c,e,rfl⟩ rfl (gN ds)
theorem Rep.jd (hT:∀ p xs,T p xs -> T' p xs) (hN:∀ k k' p xs f,N k p xs f -> N' k' p xs (g f)) {k:aI} {v:V} {d:D} (h:Rep T N k v d) (k':aI):Rep T' N' k' v (aC g d) :=
 Rep.gen (P:=fun _=>false) (C:=fun _ _=>True) (I:=fun _ _=>True) hT trivial (fun _ _ e=>e) (fun _ _ _ _ e _=>e) (fun k k' p xs f _ _ h=>hN k k' p xs f h) h trivial (tq d)
theorem af.jd (hT:∀ p xs,T p xs -> T' p xs) (hN:∀ k k' p xs f,N k p xs f -> N' k' p xs (g f)) {k:aI} {n:Nat} {vs:List V} {ds:List D} (h:af T N k n vs ds) (k':aI) (n':Nat):af T' N' k' n' vs (ah g ds) :=
 af.gen (P:=fun _=>false) (C:=fun _ _=>True) (I:=fun _ _=>True) hT trivial (fun _ _ e=>e) (fun _ _ _ _ e _=>e) (fun k k' p xs f _ _ h=>hN k k' p xs f h) h trivial trivial (gN ds)
end
mutual
theorem eL:∀ d:D,aC id d = d
 | .bC=>rfl
 | .bl _=>rfl
 | .int _=>rfl
 | .tup ds=>by rw [aC,eT ds]
 | .lst f ds=>by rw [aC,eT ds];rfl
 | .cx f ks vs=>by rw [aC,eT vs];rfl
theorem eT:∀ ds:List D,ah id ds = ds
 | []=>rfl
 | d :: ds=>by rw [ah,eL d,eT ds]
end
section
variable {T T':jZ} {N N':i3}
theorem Rep.imp {q q':aI} (hT:∀ p xs,T p xs -> T' p xs) (hN:∀ c p xs f,N (c ++ q) p xs f -> N' (c ++ q') p xs f) {v:V} {d:D} (h:Rep T N q v d):Rep T' N' q' v d:=by
 have:=Rep.map (g:=id) hT hN h [] rfl
 rw [eL] at this;exact this
theorem af.imp {q q':aI} {n:Nat} (hT:∀ p xs,T p xs -> T' p xs) (hN:∀ c p xs f,N (c ++ q) p xs f -> N' (c ++ q') p xs f) {vs:List V} {ds:List D} (h:af T N q n vs ds):af T' N' q' n vs ds:=by
 have:=af.map (g:=id) hT hN h [] rfl
 rw [eT] at this;exact this
theorem af.length:∀ {k:aI} {n:Nat} {vs:List V} {ds:List D},af T N k n vs ds -> vs.length = ds.length
 | _,_,_,_,.nil=>rfl
 | _,_,_,_,.cons _ t=>by simp [af.length t]
theorem af.get:∀ {k:aI} {n j:Nat} {vs:List V} {ds:List D} {d:D},af T N k n vs ds -> ds[j]? = some d -> ∃ v,vs[j]? = some v /\ Rep T N ((n + j) :: k) v d
 | _,_,_,_,_,_,.nil,e=>by simp at e
 | _,_,0,_,_,_,.cons h t,e=>by simp at e;subst e;exact ⟨_,rfl,h⟩
 | _,n,j + 1,_,_,_,.cons h t,e=>by
  obtain ⟨v,h1,h2⟩:=af.get (j:=j) t (by simpa using e)
  refine ⟨v,by simpa using h1,?_⟩
  have:n + 1 + j = n + (j + 1):=by omega
  rw [<- this];exact h2
theorem af.Ay:∀ {k:aI} {n j:Nat} {vs:List V} {ds:List D} {v:V},af T N k n vs ds -> vs[j]? = some v -> ∃ d,ds[j]? = some d /\ Rep T N ((n + j) :: k) v d
 | _,_,_,_,_,_,.nil,e=>by simp at e
 | _,_,0,_,_,_,.cons h t,e=>by simp at e;subst e;exact ⟨_,rfl,h⟩
 | _,n,j + 1,_,_,_,.cons h t,e=>by
  obtain ⟨v,h1,h2⟩:=af.Ay (j:=j) t (by simpa using e)
  refine ⟨v,by simpa using h1,?_⟩
  have:n + 1 + j = n + (j + 1):=by omega
  rw [<- this];exact h2
theorem af.nV {k:aI} (hN:∀ k k' p xs f,N k p xs f -> N k' p xs f):∀ {n m l:Nat} {vs ws:List V} {ds es:List D},af T N k n vs ds -> af T N k m ws es -> af T N k l (vs ++ ws) (ds ++ es)
 | _,_,_,_,_,_,_,.nil,t=>by
  have:=af.jd (T':=T) (N':=N) (g:=id) (fun _ _ h=>h) hN t
  rw [eT] at this;exact this _ _
 | _,_,_,_,_,_,_,.cons h t,u=>.cons (by
  have:=Rep.jd (T':=T) (N':=N) (g:=id) (fun _ _ h=>h) hN h
  rw [eL] at this;exact this _) (af.nV hN t u)
end
def KL (K:PySem.W.Frag) (a:Addr) (xs:List V):Prop :=
 ∃ (o:Obj) (aj:Array Value) (n:Nat),K.lookup a = some o /\ o.cls = .type "list" /\ o.dict = none /\ o.data = .seq aj n /\ aj.size <= sizeLine /\ Vals xs aj.toList
def DO (p:Addr) (cs:List (List Int)) (as:List Addr) (xs:List V) (ep:Nat) (h:Heap):Prop :=
 ∃ (zs:List (List Int × Addr × Value)) (o:Obj) (es:Array DictEntry),zs.map (·.1) = cs /\ zs.map (·.2.1) = as /\ Vals xs (zs.map (·.2.2)) /\ h.get? p = some o /\ o.ExactDict /\ o.data = .dict es ep /\
  es.toList = zs.map (fun z=>⟨reduceHash (Builtin.Tuple.tupleHashOf (z.1.map hashInt)),.ref z.2.1,z.2.2⟩) /\ cs.Nodup /\ cs.length <= sizeLine /\ (p == sysModules) = false
abbrev fM (H:Hp) (p:Addr) (n:Nd):Prop:=match n with
 | .l xs=>H p = some (.lst xs)
 | .d cs as xs ep=>H p = some (.ext (DO p cs as xs ep))
theorem fM.ne {H:Hp} {p:Addr} {n:Nd} (h:fM H p n):H p ≠ none:=by
 cases n with
 | l xs=>intro z;rw [show H p = some (.lst xs) from h] at z;cases z
 | d cs as xs ep=>intro z;rw [show H p = some (.ext (DO p cs as xs ep)) from h] at z;cases z
theorem fM.at {H H':Hp} {p:Addr} {n:Nd} (e:∀ o,H p = some o -> H' p = some o) (h:fM H p n):fM H' p n:=by
 cases n with
 | l xs=>exact e _ h
 | d cs as xs ep=>exact e _ h
theorem fM.same {H H':Hp} {p:Addr} {n:Nd} (e:ak H H') (h:fM H p n):fM H' p n:=h.at (e p)
theorem fM.some {H:Hp} {p:Addr} {n:Nd} (h:fM H p n):∃ o,H p = some o /\ (∀ xs,o ≠ .tup xs) /\ (∀ a u,o ≠ .ji a u):=by
 cases n with
 | l xs=>exact ⟨_,h,fun _ z=>(nomatch z),fun _ _ z=>(nomatch z)⟩
 | d cs as xs ep=>exact ⟨_,h,fun _ z=>(nomatch z),fun _ _ z=>(nomatch z)⟩
def nd (K:PySem.W.Frag) (R A:Addr -> Prop) (τ:Addr -> Option aI) (H:Hp):i3:=fun q p n f=>match f with
 | .ow=>fM H p n /\ τ p = some q
 | .fz=>fM H p n /\ R p
 | .al=>fM H p n /\ A p
 | .sc=>match n with
  | .l xs=>(∃ o,H p = some (.ji o (.lst xs))) \/ KL K p xs
  | .d _ _ _ _=>False
theorem nd.GW {K:PySem.W.Frag} {R A:Addr -> Prop} {τ:Addr -> Option aI} {H:Hp} {q:aI} {p:Addr} {n:Nd} (h:nd K R A τ H q p n .sc):∃ xs,n = .l xs /\ ((∃ o,H p = some (.ji o (.lst xs))) \/ KL K p xs):=by
 cases n with
 | l xs=>exact ⟨xs,rfl,h⟩
 | d _ _ _ _=>exact h.elim
theorem nd.sq {K:PySem.W.Frag} {R A:Addr -> Prop} {τ:Addr -> Option aI} {H:Hp} {q:aI} {p:Addr} {xs:List V} {f:Fl} (h:nd K R A τ H q p (.l xs) f):dY K H p xs:=by
 cases f with
 | ow=>exact dY.of h.1
 | fz=>exact dY.of h.1
 | al=>exact dY.of h.1
 | sc=>exact h.elim (fun h=>.inl (.inr h)) .inr
theorem nd.lst {K:PySem.W.Frag} {R A:Addr -> Prop} {τ:Addr -> Option aI} {H:Hp} {q:aI} {p:Addr} {xs:List V} {f:Fl} (h:nd K R A τ H q p (.l xs) f) (hf:w8 f = false):H p = some (.lst xs):=by
 cases f with
 | ow=>exact h.1
 | fz=>exact h.1
 | al=>exact h.1
 | sc=>cases hf
theorem nd.dat {K:PySem.W.Frag} {R A:Addr -> Prop} {τ:Addr -> Option aI} {H:Hp} {q:aI} {p:Addr} {cs:List (List Int)} {as:List Addr} {xs:List V} {ep:Nat} {f:Fl} (h:nd K R A τ H q p (.d cs as xs ep) f):H p = some (.ext (DO p cs as xs ep)):=by
 cases f with
 | ow=>exact h.1
 | fz=>exact h.1
 | al=>exact h.1
 | sc=>exact h.elim
theorem Rd.same {H H':Hp} {a:Addr} {u:HO} (e:ak H H') (h:Rd H a u):Rd H' a u:=h.elim (fun h=>.inl (e _ _ h)) fun ⟨o,h⟩=>.inr ⟨o,e _ _ h⟩
theorem aG.same {K:PySem.W.Frag} {H H':Hp} {a:Addr} {xs:List V} (e:ak H H') (h:aG K H a xs):aG K H' a xs:=h.elim (fun h=>.inl (Rd.same e h)) .inr
theorem nd.same {K:PySem.W.Frag} {R A:Addr -> Prop} {τ:Addr -> Option aI} {H H':Hp} {q:aI} {p:Addr} {n:Nd} {f:Fl} (e:ak H H') (h:nd K R A τ H q p n f):nd K R A τ H' q p n f:=by
 cases f with
 | ow=>exact ⟨h.1.same e,h.2⟩
 | fz=>exact ⟨h.1.same e,h.2⟩
 | al=>exact ⟨h.1.same e,h.2⟩
 | sc=>cases n with
  | l xs=>exact h.elim (fun ⟨o,h⟩=>.inl ⟨o,e _ _ h⟩) .inr
  | d _ _ _ _=>exact h.elim
theorem Rd.there {H:Hp} {a:Addr} {u:HO} (h:Rd H a u):H a ≠ none:=by
 rcases h with h | ⟨o,h⟩ <;> (rw [h];simp)
theorem ak.ne {H H':Hp} (e:ak H H') {a:Addr} (h:H a ≠ none):H' a ≠ none:=by
 cases q:H a with
 | none=>exact absurd q h
 | some o=>rw [e a o q];simp
structure SI (X:Cx) (F R:Addr -> Prop) (τ:Addr -> Option aI) (ρ:aA) (σ:St) (H:Hp):Prop where
 len:ρ.length = σ.length
 rep:∀ (i:Nat) (d:D),ρ[i]? = some (some d) -> ∃ v,σ[i]? = some (some v) /\ Rep (aG X.K H) (nd X.K R (fun _=>False) τ H) [i] v d
 rt:∀ p,R p -> τ p = none
 rh:∀ p,R p -> H p ≠ none
 rf:∀ p,R p -> F p \/ X.H₀ p = none
 th:∀ p q,τ p = some q -> H p ≠ none
 t0:∀ p q,τ p = some q -> X.H₀ p = none
 same:ak X.H₀ H
theorem SI.go {X:Cx} {F R:Addr -> Prop} {τ:Addr -> Option aI} {ρ:aA} {σ:St} {H H':Hp} (S:SI X F R τ ρ σ H) (e:ak H H'):SI X F R τ ρ σ H' :=
 ⟨S.len,fun i d h=>let ⟨v,h1,h2⟩:=S.rep i d h;⟨v,h1,h2.imp (fun _ _ h=>aG.same e h) fun _ _ _ _ h=>nd.same e h⟩,S.rt,fun p h=>ak.ne e (S.rh p h),S.rf,fun p q h=>ak.ne e (S.th p q h),S.t0,S.same.trans e⟩
def kl (G:Addr -> Prop) (τ:Addr -> Option aI) (fv:List Nat) (p:Addr):Prop:=G p /\ ∀ c i,τ p = some (c ++ [i]) -> i ∈ fv
theorem kl.mono {G:Addr -> Prop} {τ:Addr -> Option aI} {fv fv':List Nat} {p:Addr} (h:kl G τ fv p) (hs:∀ i ∈ fv,i ∈ fv'):kl G τ fv' p:=⟨h.1,fun c i e=>hs i (h.2 c i e)⟩
def gP (X:Cx) (F:Addr -> Prop) (p:Addr):Prop:=F p \/ X.H₀ p = none
def bJ (K:PySem.W.Frag) (G R:Addr -> Prop) (τ:Addr -> Option aI) (fv:List Nat) (H H':Hp) (v:V) (d:D):Prop :=
 ∃ τt:Addr -> Option aI,(∀ p q,τt p = some q -> H p = none) /\ Rep (aG K H') (nd K R (kl G τ fv) τt H') [] v d
def ck (K:PySem.W.Frag) (G R:Addr -> Prop) (τ:Addr -> Option aI) (fv:List Nat) (H H':Hp) (vs:List V) (ds:List D):Prop :=
 ∃ τt:Addr -> Option aI,(∀ p q,τt p = some q -> H p = none) /\ af (aG K H') (nd K R (kl G τ fv) τt H') [] 0 vs ds
section
variable {K:PySem.W.Frag} {G R:Addr -> Prop} {τ:Addr -> Option aI} {fv fv':List Nat} {H H1 H2:Hp} {v:V} {d:D} {vs:List V} {ds:List D}
theorem bJ.go (h:bJ K G R τ fv H H1 v d) (e:ak H1 H2):bJ K G R τ fv H H2 v d :=
 let ⟨τt,h1,h2⟩:=h;⟨τt,h1,h2.imp (fun _ _ h=>aG.same e h) fun _ _ _ _ h=>nd.same e h⟩
theorem nd.mono {A A' R':Addr -> Prop} {τ τ':Addr -> Option aI} {q q':aI} {p:Addr} {xs:Nd} {f:Fl} (h:nd K R A τ H q p xs f) (hR:R p -> R' p) (hA:A p -> A' p) (ht:τ p = some q -> τ' p = some q'):nd K R' A' τ' H q' p xs f:=by
 cases f with
 | ow=>exact ⟨h.1,ht h.2⟩
 | fz=>exact ⟨h.1,hR h.2⟩
 | al=>exact ⟨h.1,hA h.2⟩
 | sc=>exact h
theorem bJ.mono (h:bJ K G R τ fv H H1 v d) (hs:∀ i ∈ fv,i ∈ fv'):bJ K G R τ fv' H H1 v d :=
 let ⟨τt,h1,h2⟩:=h;⟨τt,h1,h2.imp (fun _ _ h=>h) fun _ _ _ _ h=>h.mono id (fun h=>h.mono hs) id⟩
theorem ck.mono (h:ck K G R τ fv H H1 vs ds) (hs:∀ i ∈ fv,i ∈ fv'):ck K G R τ fv' H H1 vs ds :=
 let ⟨τt,h1,h2⟩:=h;⟨τt,h1,h2.imp (fun _ _ h=>h) fun _ _ _ _ h=>h.mono id (fun h=>h.mono hs) id⟩
theorem bJ.old {H0:Hp} (h:bJ K G R τ fv H H1 v d) (e:ak H0 H):bJ K G R τ fv H0 H1 v d :=
 let ⟨τt,h1,h2⟩:=h;⟨τt,fun p q z=>e.free (h1 p q z),h2⟩
theorem bJ.int {i:Int}:bJ K G R τ fv H H1 (.int i) (.int i):=⟨fun _=>none,fun _ _ h=>by simp at h,.int i⟩
theorem bJ.bl {b:Bool}:bJ K G R τ fv H H1 (.bl b) (.bl b):=⟨fun _=>none,fun _ _ h=>by simp at h,.bl b⟩
theorem bJ.bC:bJ K G R τ fv H H1 .bC .bC:=⟨fun _=>none,fun _ _ h=>by simp at h,.bC⟩
theorem bJ.isInt {i:Int} (h:bJ K G R τ fv H H1 v (.int i)):v = .int i:=by obtain ⟨_,_,h⟩:=h;cases h;rfl
theorem bJ.Al {i:Bool} (h:bJ K G R τ fv H H1 v (.bl i)):v = .bl i:=by obtain ⟨_,_,h⟩:=h;cases h;rfl
def sA:aI -> aI
 | []=>[]
 | [n]=>[n + 1]
 | a :: b :: r=>a :: sA (b :: r)
theorem uJ (c:aI) (n:Nat):sA (c ++ [n]) = c ++ [n + 1]:=by
 induction c with
 | nil=>rfl
 | cons a c ih =>
  cases c with
  | nil=>rfl
  | cons b c=>show a :: sA (b :: c ++ [n]) = _;rw [ih];rfl
theorem af.shift {T:jZ} {N N':i3} (hN:∀ c n p xs f,N (c ++ [n]) p xs f -> N' (c ++ [n + 1]) p xs f):∀ {n:Nat} {vs:List V} {ds:List D},af T N [] n vs ds -> af T N' [] (n + 1) vs ds
 | _,_,_,.nil=>.nil
 | n,_,_,.cons h t=>.cons (h.imp (q:=[n]) (q':=[n + 1]) (fun _ _ h=>h) fun c p xs f h=>hN c n p xs f h) (af.shift hN t)
theorem ck.nil:ck K G R τ fv H H1 [] []:=⟨fun _=>none,fun _ _ h=>by simp at h,.nil⟩
open Classical in
theorem ck.cons (e1:ak H H1) (e2:ak H1 H2) (h:bJ K G R τ fv H H1 v d) (t:ck K G R τ fv H1 H2 vs ds):ck K G R τ fv H H2 (v :: vs) (d :: ds):=by
 obtain ⟨τ1,f1,h1⟩:=h
 obtain ⟨τ2,f2,h2⟩:=t
 refine ⟨fun p=>if H1 p = none then (τ2 p).map sA else (τ1 p).map (· ++ [0]),fun p q hq=>?_,.cons (h1.imp (q':=[0]) (fun _ _ h=>aG.same e2 h) fun c p xs f h=>?_) (af.shift (fun c n p xs f h=>?_) h2)⟩
 ·by_cases hp:H1 p = none
  ·exact e1.free hp
  ·simp only [hp,if_false] at hq
   cases q1:τ1 p with
   | none=>rw [q1] at hq;simp at hq
   | some k=>exact f1 p k q1
 ·have h':nd K R (kl G τ fv) τ1 H2 (c ++ []) p xs f:=nd.same e2 h
  cases f with
  | ow =>
   have hp:H1 p ≠ none:=h.1.ne
   refine ⟨h'.1,?_⟩
   simp only [hp,if_false]
   rw [h.2];simp
  | fz=>exact h'
  | al=>exact h'
  | sc=>exact h'
 ·cases f with
  | ow =>
   have hp:H1 p = none:=f2 p _ h.2
   refine ⟨h.1,?_⟩
   simp only [hp,if_true]
   rw [h.2];simp [uJ]
  | fz=>exact h
  | al=>exact h
  | sc=>exact h
end
def tD (X:Cx) (F:Addr -> Prop) (Φ:az) (c:CE):TE:=fun σ H Q=>∃ R τ ρ d,SI X F R τ ρ σ H /\ aO Φ c ρ = ok d /\ ∀ v H',ak H H' -> bJ X.K (gP X F) R τ (gO c) H H' v d -> Q v H'
def uF (X:Cx) (F:Addr -> Prop) (Φ:az) (cs:List CE):TA:=fun σ H Q=>∃ R τ ρ ds,SI X F R τ ρ σ H /\ c_ Φ cs ρ = ok ds /\ ∀ vs H',ak H H' -> ck X.K (gP X F) R τ (du cs) H H' vs ds -> Q vs H'
def hX (X:Cx) (F:Addr -> Prop) (Φ:az) (c:CE):TT:=fun σ H Q=>∃ R τ ρ b,SI X F R τ ρ σ H /\ wj Φ c ρ = ok b /\ ∀ H',ak H H' -> Q b H'
theorem PE.imp {X:Cx} {e:Expr} {t t':TE} (h:PE X e t) (hi:∀ σ H Q,t' σ H Q -> t σ H Q):PE X e t':=fun pins s σ H Q I hw=>h pins s σ H Q I (hi σ H Q hw)
theorem PT.imp {X:Cx} {e:Expr} {t t':TT} (h:PT X e t) (hi:∀ σ H Q,t' σ H Q -> t σ H Q):PT X e t':=fun pins s σ H Q I hw=>h pins s σ H Q I (hi σ H Q hw)
theorem PW.imp {X:Cx} {e:Expr} {t t':TT} (h:PW X e t) (hi:∀ σ H Q,t' σ H Q -> t σ H Q):PW X e t':=fun wh pins s σ H Q I hw=>h wh pins s σ H Q I (hi σ H Q hw)
theorem PA.imp {X:Cx} {es:List Expr} {t t':TA} (h:PA X es t) (hi:∀ σ H Q,t' σ H Q -> t σ H Q):PA X es t':=fun pos pins s σ H Q I hw=>h pos pins s σ H Q I (hi σ H Q hw)
theorem PS.imp {X:Cx} {st:Stmt} {t t':TS} (h:PS X st t) (hi:∀ D σ H,t' D σ H -> t D σ H):PS X st t':=fun pins s σ H D I hw=>h pins s σ H D I (hi D σ H hw)
theorem nY.imp {X:Cx} {st:List Stmt} {t t':TS} (h:nY X st t) (hi:∀ D σ H,t' D σ H -> t D σ H):nY X st t':=fun pins s σ H D I hw=>h pins s σ H D I (hi D σ H hw)
end DI
end
section
namespace DI
open PySem PySem.Spec PyProof.Rows L2
theorem pE:∀ (as bs:List D),ez as bs = true ↔ as.length = bs.length /\ ∀ (j:Nat) (a b:D),as[j]? = some a -> bs[j]? = some b -> lj a b = true
 | [],[]=>by simp [ez]
 | [],b :: bs=>by simp [ez]
 | a :: as,[]=>by simp [ez]
 | a :: as,b :: bs=>by
  rw [ez,Bool.and_eq_true,pE as bs]
  constructor
  ·rintro ⟨h1,h2,h3⟩
   refine ⟨by simp [h2],fun j x y hx hy=>?_⟩
   cases j with
   | zero=>simp at hx hy;subst hx hy;exact h1
   | succ j=>exact h3 j x y (by simpa using hx) (by simpa using hy)
  ·rintro ⟨h2,h3⟩
   exact ⟨h3 0 a b rfl rfl,by simpa using h2,fun j x y hx hy=>h3 (j + 1) x y (by simpa using hx) (by simpa using hy)⟩
def O2 (as bs:List D) (j:Nat):Bool:=match as[j]?,bs[j]? with
 | some a,some b=>lj a b
 | _,_=>false
theorem kc (as bs:List D):((List.range (min as.length bs.length)).all (O2 as bs) && as.length == bs.length) = ez as bs:=by
 rw [Bool.eq_iff_iff,pE,Bool.and_eq_true,List.all_eq_true,beq_iff_eq]
 constructor
 ·rintro ⟨h1,h2⟩
  refine ⟨h2,fun j a b ha hb=>?_⟩
  have hj:j < as.length:=by
   by_cases h:j < as.length
   ·exact h
   ·rw [List.getElem?_eq_none (by omega)] at ha;cases ha
  have:=h1 j (by rw [List.mem_range];omega)
  unfold O2 at this
  rw [ha,hb] at this;exact this
 ·rintro ⟨h2,h1⟩
  refine ⟨fun j hj=>?_,h2⟩
  rw [List.mem_range] at hj
  unfold O2
  have ha:as[j]? = some as[j]:=List.getElem?_eq_getElem (by omega)
  have hb:bs[j]? = some bs[j]:=List.getElem?_eq_getElem (by omega)
  rw [ha,hb];exact h1 j _ _ ha hb
section
variable {X:Cx} {pins:List (Addr × Obj)} {σ:St} {H:Hp} {s:Shared} {N N':i3}
theorem fe {n:Nat} {ds:List D} (h:dZ n (.tup ds) = true):∃ m,n = m + 1 /\ ∀ d ∈ ds,dZ m d = true:=by
 cases n with
 | zero=>cases h
 | succ m=>exact ⟨m,rfl,List.all_eq_true.mp h⟩
theorem ff {n:Nat} {f:Fl} {ds:List D} (h:dZ n (.lst f ds) = true):∃ m,n = m + 1 /\ ∀ d ∈ ds,dZ m d = true:=by
 cases n with
 | zero=>cases h
 | succ m=>exact ⟨m,rfl,List.all_eq_true.mp h⟩
theorem yA (I:Inv X pins σ H s) {p:Addr} {xs ys:List V} (h:dY X.K H p xs) (h':aG X.K H p ys):False:=by
 obtain ⟨aj,_,pl,_⟩:=I.list h
 obtain ⟨its',_,pt,_⟩:=I.tuple h'
 exact SeqAt.ne_of_list_tuple pl.isList pt rfl
theorem BC (I:Inv X pins σ H s) (hN:∀ q p xs f,N q p (.l xs) f -> dY X.K H p xs) (DM:∀ q p xs f,N' q p (.l xs) f -> dY X.K H p xs) :
  ∀ (n:Nat) {k k':aI} {v:V} {d d':D},Rep (aG X.K H) N k v d -> Rep (aG X.K H) N' k' v d' -> dZ n d = true -> dZ n d' = true -> lj d d' = true:=by
 intro n
 induction n with
 | zero =>
  intro k k' v d d' h h' ho gM
  cases h with
  | bC=>cases h';rfl
  | bl b=>cases h';exact beq_self_eq_true b
  | int i=>cases h';exact beq_self_eq_true i
  | tup _ _=>obtain ⟨m,hm,_⟩:=fe ho;omega
  | lst _ _=>obtain ⟨m,hm,_⟩:=ff ho;omega
  | cx _ _=>simp [dZ] at ho
 | succ n ih =>
  have sub:∀ {q q':aI} {xs:List V} {ds ds':List D},af (aG X.K H) N q 0 xs ds -> af (aG X.K H) N' q' 0 xs ds' -> (∀ d ∈ ds,dZ n d = true) -> (∀ d ∈ ds',dZ n d = true) -> ez ds ds' = true:=by
   intro q q' xs ds ds' r r' ho gM
   rw [pE]
   refine ⟨by rw [<- r.length,<- r'.length],fun j a b ha hb=>?_⟩
   obtain ⟨v1,h1,r1⟩:=r.get ha
   obtain ⟨v2,h2,r2⟩:=r'.get hb
   rw [h1] at h2;cases h2
   exact ih r1 r2 (ho a (List.mem_of_getElem? ha)) (gM b (List.mem_of_getElem? hb))
  intro k k' v d d' h h' ho gM
  cases h with
  | bC=>cases h';rfl
  | bl b=>cases h';exact beq_self_eq_true b
  | int i=>cases h';exact beq_self_eq_true i
  | tup h r =>
   obtain ⟨m,hm,ho⟩:=fe ho
   obtain rfl:n = m:=by omega
   cases h' with
   | tup h' r' =>
    obtain ⟨m,hm,gM⟩:=fe gM
    obtain rfl:n = m:=by omega
    obtain rfl:=I.ra h h';exact sub r r' ho gM
   | lst h' r'=>exact (yA I (DM _ _ _ _ h') h).elim
   | cx _ _=>simp [dZ] at gM
  | lst h r =>
   obtain ⟨m,hm,ho⟩:=ff ho
   obtain rfl:n = m:=by omega
   cases h' with
   | tup h' r'=>exact (yA I (hN _ _ _ _ h) h').elim
   | lst h' r' =>
    obtain ⟨m,hm,gM⟩:=ff gM
    obtain rfl:n = m:=by omega
    obtain rfl:=I.kX (hN _ _ _ _ h) (DM _ _ _ _ h');exact sub r r' ho gM
   | cx _ _=>simp [dZ] at gM
  | cx _ _=>simp [dZ] at ho
structure Alike (A:Around) (s:Shared) (u u':Value) (b:Bool):Prop where
 eq:SeqAt.EqAt A s u u' b
 rc:SeqAt.RcAt A s u u' b
 ne:SeqAt.RcNeAt A s u u' (!b)
theorem alike (I:Inv X pins σ H s) (hN:∀ q p xs f,N q p (.l xs) f -> dY X.K H p xs) (DM:∀ q p xs f,N' q p (.l xs) f -> dY X.K H p xs) :
  ∀ (n:Nat) (A:Around) {k k':aI} {v v':V} {u u':Value} {d d':D},Rep (aG X.K H) N k v d -> Rep (aG X.K H) N' k' v' d' -> dZ n d = true -> dZ n d' = true -> RelV v u -> RelV v' u' -> A.units + n < cLine ->
   Alike A s u u' (lj d d'):=by
 intro n
 induction n with
 | zero =>
  intro A k k' v v' u u' d d' h h' ho gM r r' hu
  cases h with
  | tup _ _=>obtain ⟨m,hm,_⟩:=fe ho;omega
  | lst _ _=>obtain ⟨m,hm,_⟩:=ff ho;omega
  | cx _ _=>simp [dZ] at ho
  | bC =>
   cases r
   cases h' with
   | tup _ _=>obtain ⟨m,hm,_⟩:=fe gM;omega
   | lst _ _=>obtain ⟨m,hm,_⟩:=ff gM;omega
   | cx _ _=>simp [dZ] at gM
   | bC=>cases r';exact ⟨SeqAt.EqAt.same _,SeqAt.RcAt.none_none,SeqAt.RcNeAt.none_none⟩
   | bl b=>cases r';exact ⟨SeqAt.EqAt.none_bool b,SeqAt.RcAt.none_bool b,SeqAt.RcNeAt.none_bool b⟩
   | int b=>obtain ⟨t,rfl⟩:=r';exact ⟨SeqAt.EqAt.none_int b t,SeqAt.RcAt.none_int b t,SeqAt.RcNeAt.none_int b t⟩
  | bl a =>
   cases r
   cases h' with
   | tup _ _=>obtain ⟨m,hm,_⟩:=fe gM;omega
   | lst _ _=>obtain ⟨m,hm,_⟩:=ff gM;omega
   | cx _ _=>simp [dZ] at gM
   | bC=>cases r';exact ⟨SeqAt.EqAt.bool_none a,SeqAt.RcAt.bool_none a,SeqAt.RcNeAt.bool_none a⟩
   | bl b=>cases r';exact ⟨SeqAt.EqAt.bool_bool a b,SeqAt.RcAt.bool_bool a b,SeqAt.RcNeAt.bool_bool a b⟩
   | int b=>obtain ⟨t,rfl⟩:=r';exact ⟨SeqAt.EqAt.bool_int a b t,SeqAt.RcAt.bool_int a b t,SeqAt.RcNeAt.bool_int a b t⟩
  | int a =>
   obtain ⟨t',rfl⟩:=r
   cases h' with
   | tup _ _=>obtain ⟨m,hm,_⟩:=fe gM;omega
   | lst _ _=>obtain ⟨m,hm,_⟩:=ff gM;omega
   | cx _ _=>simp [dZ] at gM
   | bC=>cases r';exact ⟨SeqAt.EqAt.int_none a t',SeqAt.RcAt.int_none a t',SeqAt.RcNeAt.int_none a t'⟩
   | bl b=>cases r';exact ⟨SeqAt.EqAt.int_bool a t' b,SeqAt.RcAt.int_bool a t' b,SeqAt.RcNeAt.int_bool a t' b⟩
   | int b=>obtain ⟨t,rfl⟩:=r';exact ⟨SeqAt.EqAt.int_int a t' b t,SeqAt.RcAt.int_int a t' b t,SeqAt.RcNeAt.int_int a t' b t⟩
 | succ n ih =>
  intro A k k' v v' u u' d d' h h' ho gM r r' hu
  have fu:A.units < cLine:=by omega
  have Wg:A.in1.units + n < cLine:=by show A.units + 1 + n < cLine;omega
  have sub:∀ {q q':aI} {xs xs':List V} {ds ds':List D} {aj its':List Value},af (aG X.K H) N q 0 xs ds -> af (aG X.K H) N' q' 0 xs' ds' -> (∀ d ∈ ds,dZ n d = true) -> (∀ d ∈ ds',dZ n d = true) -> Vals xs aj -> Vals xs' its' ->
    ∀ (j:Nat) (h1:j < aj.toArray.size) (h2:j < its'.toArray.size),SeqAt.EqAt A.in1 s aj.toArray[j] its'.toArray[j] (O2 ds ds' j):=by
   intro q q' xs xs' ds ds' aj its' rs wN hd J2 rv A0 j h1 h2
   have l1:ds.length = aj.length:=by rw [<- rs.length,rv.length]
   have l2:ds'.length = its'.length:=by rw [<- wN.length,A0.length]
   simp only [List.size_toArray] at h1 h2
   have ea:ds[j]? = some ds[j]:=List.getElem?_eq_getElem (by omega)
   have eb:ds'[j]? = some ds'[j]:=List.getElem?_eq_getElem (by omega)
   obtain ⟨w1,g1,p1⟩:=rs.get ea
   obtain ⟨w2,g2,p2⟩:=wN.get eb
   obtain ⟨u1,k1,z1⟩:=rv.get g1
   obtain ⟨u2,k2,z2⟩:=A0.get g2
   have:=(ih A.in1 p1 p2 (hd _ (List.getElem_mem _)) (J2 _ (List.getElem_mem _)) z1 z2 Wg).eq
   unfold O2
   rw [ea,eb]
   rw [List.getElem?_eq_getElem h1] at k1
   rw [List.getElem?_eq_getElem h2] at k2
   cases k1;cases k2
   simpa using this
  cases h with
  | bC =>
   cases r
   cases h' with
   | cx _ _=>simp [dZ] at gM
   | bC=>cases r';exact ⟨SeqAt.EqAt.same _,SeqAt.RcAt.none_none,SeqAt.RcNeAt.none_none⟩
   | bl b=>cases r';exact ⟨SeqAt.EqAt.none_bool b,SeqAt.RcAt.none_bool b,SeqAt.RcNeAt.none_bool b⟩
   | int b=>obtain ⟨t,rfl⟩:=r';exact ⟨SeqAt.EqAt.none_int b t,SeqAt.RcAt.none_int b t,SeqAt.RcNeAt.none_int b t⟩
   | tup h' rr=>cases r';obtain ⟨aj,_,pt,_⟩:=I.tuple h';exact ⟨SeqAt.EqAt.none_tuple pt fu,SeqAt.RcAt.none_tuple pt fu,SeqAt.RcNeAt.none_tuple pt fu⟩
   | lst h' rr=>cases r';obtain ⟨aj,_,pt,_⟩:=I.list (DM _ _ _ _ h');exact ⟨SeqAt.EqAt.none_list pt.isList fu,SeqAt.RcAt.none_list pt.isList fu,SeqAt.RcNeAt.none_list pt.isList fu⟩
  | bl a =>
   cases r
   cases h' with
   | cx _ _=>simp [dZ] at gM
   | bC=>cases r';exact ⟨SeqAt.EqAt.bool_none a,SeqAt.RcAt.bool_none a,SeqAt.RcNeAt.bool_none a⟩
   | bl b=>cases r';exact ⟨SeqAt.EqAt.bool_bool a b,SeqAt.RcAt.bool_bool a b,SeqAt.RcNeAt.bool_bool a b⟩
   | int b=>obtain ⟨t,rfl⟩:=r';exact ⟨SeqAt.EqAt.bool_int a b t,SeqAt.RcAt.bool_int a b t,SeqAt.RcNeAt.bool_int a b t⟩
   | tup h' rr=>cases r';obtain ⟨aj,_,pt,_⟩:=I.tuple h';exact ⟨SeqAt.EqAt.bool_tuple a pt fu,SeqAt.RcAt.bool_tuple a pt fu,SeqAt.RcNeAt.bool_tuple a pt fu⟩
   | lst h' rr=>cases r';obtain ⟨aj,_,pt,_⟩:=I.list (DM _ _ _ _ h');exact ⟨SeqAt.EqAt.bool_list a pt.isList fu,SeqAt.RcAt.bool_list a pt.isList fu,SeqAt.RcNeAt.bool_list a pt.isList fu⟩
  | int a =>
   obtain ⟨t',rfl⟩:=r
   cases h' with
   | cx _ _=>simp [dZ] at gM
   | bC=>cases r';exact ⟨SeqAt.EqAt.int_none a t',SeqAt.RcAt.int_none a t',SeqAt.RcNeAt.int_none a t'⟩
   | bl b=>cases r';exact ⟨SeqAt.EqAt.int_bool a t' b,SeqAt.RcAt.int_bool a t' b,SeqAt.RcNeAt.int_bool a t' b⟩
   | int b=>obtain ⟨t,rfl⟩:=r';exact ⟨SeqAt.EqAt.int_int a t' b t,SeqAt.RcAt.int_int a t' b t,SeqAt.RcNeAt.int_int a t' b t⟩
   | tup h' rr=>cases r';obtain ⟨aj,_,pt,_⟩:=I.tuple h';exact ⟨SeqAt.EqAt.int_tuple a t' pt fu,SeqAt.RcAt.int_tuple a t' pt fu,SeqAt.RcNeAt.int_tuple a t' pt fu⟩
   | lst h' rr=>cases r';obtain ⟨aj,_,pt,_⟩:=I.list (DM _ _ _ _ h');exact ⟨SeqAt.EqAt.int_list a t' pt.isList fu,SeqAt.RcAt.int_list a t' pt.isList fu,SeqAt.RcNeAt.int_list a t' pt.isList fu⟩
  | @tup _ p xs ds h rs =>
   cases r
   obtain ⟨aj,rv,pt,_⟩:=I.tuple h
   have pt:s.heap.IsTuple p aj.toArray:=pt
   cases h' with
   | cx _ _=>simp [dZ] at gM
   | bC=>cases r';exact ⟨SeqAt.EqAt.tuple_none pt fu,SeqAt.RcAt.tuple_none pt fu,SeqAt.RcNeAt.tuple_none pt fu⟩
   | bl b=>cases r';exact ⟨SeqAt.EqAt.tuple_bool b pt fu,SeqAt.RcAt.tuple_bool b pt fu,SeqAt.RcNeAt.tuple_bool b pt fu⟩
   | int b=>obtain ⟨t,rfl⟩:=r';exact ⟨SeqAt.EqAt.tuple_int b t pt fu,SeqAt.RcAt.tuple_int b t pt fu,SeqAt.RcNeAt.tuple_int b t pt fu⟩
   | lst h' rr=>cases r';obtain ⟨its',_,pl,_⟩:=I.list (DM _ _ _ _ h');exact ⟨SeqAt.EqAt.tuple_list pt pl.isList fu,SeqAt.RcAt.tuple_list pt pl.isList fu,SeqAt.RcNeAt.tuple_list pt pl.isList fu⟩
   | @tup _ p' xs' ds' h' wN =>
    cases r'
    obtain ⟨m,hm,LV⟩:=fe ho
    obtain rfl:n = m:=by omega
    obtain ⟨m,hm,tf⟩:=fe gM
    obtain rfl:n = m:=by omega
    obtain ⟨its',A0,QB,_⟩:=I.tuple h'
    have QB:s.heap.IsTuple p' its'.toArray:=QB
    have key:=sub rs wN LV tf rv A0
    have l1:ds.length = aj.toArray.size:=by rw [List.size_toArray,<- rs.length,rv.length]
    have l2:ds'.length = its'.toArray.size:=by rw [List.size_toArray,<- wN.length,A0.length]
    have rc:SeqAt.RcAt A s (.ref p) (.ref p') (lj (.tup ds) (.tup ds')):=by
     have:=SeqAt.RcAt.tuples pt QB fu key
     rw [<- l1,<- l2,kc] at this;exact this
    refine ⟨?_,rc,?_⟩
    ·by_cases hp:p = p'
     ·subst hp
      rw [BC I hN DM (n + 1) (Rep.tup h rs) (Rep.tup h' wN) ho gM]
      exact SeqAt.EqAt.same _
     ·exact SeqAt.EqAt.of_refs hp rc
    ·have:=SeqAt.RcNeAt.tuples pt QB fu key
     rw [<- l1,<- l2,kc] at this;exact this
  | @lst _ p xs f ds h rs =>
   cases r
   obtain ⟨aj,rv,pl,_⟩:=I.list (hN _ _ _ _ h)
   have pl:=pl.isList
   cases h' with
   | cx _ _=>simp [dZ] at gM
   | bC=>cases r';exact ⟨SeqAt.EqAt.list_none pl fu,SeqAt.RcAt.list_none pl fu,SeqAt.RcNeAt.list_none pl fu⟩
   | bl b=>cases r';exact ⟨SeqAt.EqAt.list_bool b pl fu,SeqAt.RcAt.list_bool b pl fu,SeqAt.RcNeAt.list_bool b pl fu⟩
   | int b=>obtain ⟨t,rfl⟩:=r';exact ⟨SeqAt.EqAt.list_int b t pl fu,SeqAt.RcAt.list_int b t pl fu,SeqAt.RcNeAt.list_int b t pl fu⟩
   | tup h' rr=>cases r';obtain ⟨its',_,pt,_⟩:=I.tuple h';exact ⟨SeqAt.EqAt.list_tuple pl pt fu,SeqAt.RcAt.list_tuple pl pt fu,SeqAt.RcNeAt.list_tuple pl pt fu⟩
   | @lst _ p' xs' f' ds' h' wN =>
    cases r'
    obtain ⟨m,hm,LV⟩:=ff ho
    obtain rfl:n = m:=by omega
    obtain ⟨m,hm,tf⟩:=ff gM
    obtain rfl:n = m:=by omega
    obtain ⟨its',A0,G4,_⟩:=I.list (DM _ _ _ _ h')
    have G4:=G4.isList
    have key:=sub rs wN LV tf rv A0
    have l1:ds.length = aj.toArray.size:=by rw [List.size_toArray,<- rs.length,rv.length]
    have l2:ds'.length = its'.toArray.size:=by rw [List.size_toArray,<- wN.length,A0.length]
    have two:SeqAt.RcAt A s (.ref p) (.ref p') (lj (.lst f ds) (.lst f' ds')) /\ SeqAt.RcNeAt A s (.ref p) (.ref p') (!lj (.lst f ds) (.lst f' ds')):=by
     show SeqAt.RcAt A s (.ref p) (.ref p') (ez ds ds') /\ SeqAt.RcNeAt A s (.ref p) (.ref p') (!ez ds ds')
     rw [<- kc]
     by_cases hl:ds.length = ds'.length
     ·have e1:(ds.length == ds'.length) = true:=by simp [hl]
      rw [e1,Bool.and_true,<- hl,Nat.min_self]
      have hz:aj.toArray.size = its'.toArray.size:=by rw [<- l1,<- l2,hl]
      refine ⟨?_,?_⟩
      ·have:=SeqAt.RcAt.lists pl G4 hz fu key
       rw [<- l1] at this;exact this
      ·have:=SeqAt.RcNeAt.lists pl G4 hz fu key
       rw [<- l1] at this;exact this
     ·have e1:(ds.length == ds'.length) = false:=by simp [hl]
      rw [e1,Bool.and_false]
      have hz:(aj.toArray.size != its'.toArray.size) = true:=by rw [<- l1,<- l2];simp [hl]
      exact ⟨SeqAt.RcAt.lists_lengths pl G4 hz fu,SeqAt.RcNeAt.lists_lengths pl G4 hz fu⟩
    refine ⟨?_,two.1,two.2⟩
    by_cases hp:p = p'
    ·subst hp
     rw [BC I hN DM (n + 1) (Rep.lst h rs) (Rep.lst h' wN) ho gM]
     exact SeqAt.EqAt.same _
    ·exact SeqAt.EqAt.of_refs hp two.1
  | cx _ _=>simp [dZ] at ho
end
end DI
end
section
namespace DI
open PySem PySem.Spec PyProof.Rows L2
structure Px where
 pe:Nat -> Scope -> List Str -> Expr -> Option (List Expr)
 pi:Nat -> Scope -> List Str -> Expr -> Option (List Expr)
 pm:Nat -> Scope -> List Str -> Stmt -> Option (Expr × List Expr)
structure Sx where
 sc:Scope
 N:List Str
 fn:Nat -> Option Str
 bl:List Str
 cs:List (Str × GK)
 px:Px
def Nu:GB -> Operator
 | .add=>.Add | .sub=>.Sub | .mul=>.Mult | .fdiv=>.FloorDiv | .mod=>.Mod | .pow=>.Pow | .shr=>.RShift | .band=>.BitAnd
def TM:A8 -> CmpOp
 | .eq=>.Eq | .ne=>.NotEq | .lt=>.Lt | .le=>.LtE | .gt=>.Gt | .ge=>.GtE | .NW=>.Is | .B8=>.IsNot | .Hf=>.In
def tyName:Ty -> String
 | .int=>"int" | .bool=>"bool" | .list=>"list" | .tuple=>"tuple"
def ub:Bf -> String
 | .len=>"len" | .abs=>"abs" | .Cw=>"int" | .list1=>"list" | .tuple1=>"tuple" | .gh=>"sum" | .all1=>"all" | .ia=>"sorted"
def HL (sc:Scope) (x:Str):Bool:=decide (sc.names.lookup x = some .local) || decide (sc.names.lookup x = some .cell) || decide (sc.names.lookup x = some .free)
def g_ (sc:Scope) (x:Str):Bool:=decide (sc.names.lookup x = some .globalImplicit)
def oM (x:Str):Bool:=!(x == ("__debug__" : Str)) && !(x == ("__classdict__" : Str)) && decide (x ≠ ("__name__" : Str))
def rH:Expr -> Bool
 | .Set _ _ _=>false
 | _=>true
def uW (sc outer:Scope):Scope :=
 { sc with names:=sc.names.map fun (n,k)=>if (k == .free && outer.kind == .function && outer.names.lookup n == some .cell) then (n,.cell) else (n,k) }
def bL:Expr -> List Str
 | .Name x _=>[x]
 | .Tuple es _ _=>es.filterMap fun e=>match e with | .Name x _=>some x | _=>none
 | _=>[]
def gk (S:Sx) (caps:List Nat):List Str:=caps.filterMap fun i=>S.N[i]?
def Sx.inner (S:Sx) (target:Expr) (caps:List Nat) (sc:Scope):Sx:=⟨uW sc S.sc,bL target ++ gk S caps,S.fn,S.bl,S.cs,S.px⟩
def ie:Expr -> Bool
 | .Tuple _ _ _=>true
 | _=>false
def isNm:Expr -> Bool
 | .Name _ _=>true
 | _=>false
def fD:Expr -> Bool
 | .Call ..=>true
 | .BinOp ..=>true
 | .Subscript ..=>true
 | .Compare ..=>true
 | .Dict ..=>true
 | _=>false
def QF:Expr -> Bool
 | .Call ..=>true
 | .Name ..=>true
 | _=>false
theorem au {a b:Bool} (h:(a && b) = true):a = true /\ b = true:=by
 cases a <;> cases b <;> first | exact ⟨rfl,rfl⟩ | cases h
def aR {α:Type} (o:Option α) (f:α -> Bool):Bool:=match o with
 | some a=>f a
 | none=>false
theorem aS {α:Type} {o:Option α} {f:α -> Bool} (h:aR o f = true):∃ a,o = some a /\ f a = true:=by
 cases o with
 | some a=>exact ⟨a,rfl,h⟩
 | none=>cases h
def vC:Expr -> Option Const
 | .Constant c _ _=>some c
 | _=>none
theorem Bh {e:Expr} {c:Const} (h:vC e = some c):∃ j p,e = .Constant c j p:=by
 cases e <;> first | (cases h;done) | (cases h;exact ⟨_,_,rfl⟩)
def Cs:Const -> Bool
 | .none=>true
 | _=>false
theorem Ai {c:Const} (h:Cs c = true):c = .none:=by cases c <;> first | rfl | cases h
def He (b:Bool):Const -> Bool
 | .bool c=>decide (b = c)
 | _=>false
theorem Cu {b:Bool} {c:Const} (h:He b c = true):c = .bool b:=by cases c <;> first | (cases h;done) | rw [of_decide_eq_true h]
def Ct (b:Int):Const -> Bool
 | .int c=>decide (b = c)
 | _=>false
theorem Aj {b:Int} {c:Const} (h:Ct b c = true):c = .int b:=by cases c <;> first | (cases h;done) | rw [of_decide_eq_true h]
def JM (b:Str):Const -> Bool
 | _=>false
theorem LL {b:Str} {c:Const} (h:JM b c = true):c = .str b:=by cases c <;> first | (cases h;done) | rw [of_decide_eq_true h]
def D0:Expr -> Option Str
 | .Name x _=>some x
 | _=>none
theorem lI {e:Expr} {x:Str} (h:D0 e = some x):∃ p,e = .Name x p:=by
 cases e <;> first | (cases h;done) | (cases h;exact ⟨_,rfl⟩)
def Mv:Expr -> Option (Expr × Operator × Expr)
 | .BinOp l o r _=>some (l,o,r)
 | _=>none
theorem D8 {e l r:Expr} {o:Operator} (h:Mv e = some (l,o,r)):∃ p,e = .BinOp l o r p:=by
 cases e <;> first | (cases h;done) | (cases h;exact ⟨_,rfl⟩)
def Rq:Expr -> Option (UnaryOp × Expr)
 | .UnaryOp o e _=>some (o,e)
 | _=>none
theorem Bd {e x:Expr} {o:UnaryOp} (h:Rq e = some (o,x)):∃ p,e = .UnaryOp o x p:=by
 cases e <;> first | (cases h;done) | (cases h;exact ⟨_,rfl⟩)
def vBool:Expr -> Option (BoolOp × List Expr)
 | .BoolOp o vs _=>some (o,vs)
 | _=>none
theorem uy {e:Expr} {o:BoolOp} {vs:List Expr} (h:vBool e = some (o,vs)):∃ p,e = .BoolOp o vs p:=by
 cases e <;> first | (cases h;done) | (cases h;exact ⟨_,rfl⟩)
def Z9:Expr -> Option (Expr × Expr × Expr)
 | .IfExp t x y _=>some (t,x,y)
 | _=>none
theorem HN {e t x y:Expr} (h:Z9 e = some (t,x,y)):∃ p,e = .IfExp t x y p:=by
 cases e <;> first | (cases h;done) | (cases h;exact ⟨_,rfl⟩)
def one {α:Type}:List α -> Option α
 | []=>none
 | x :: xs=>match xs with
  | []=>some x
  | _ :: _=>none
theorem cm {α:Type} {l:List α} {x:α} (h:one l = some x):l = [x]:=by
 cases l with
 | nil=>cases h
 | cons y ys=>cases ys with
  | nil=>cases h;rfl
  | cons _ _=>cases h
def two {α:Type}:List α -> Option (α × α)
 | []=>none
 | x :: xs=>(one xs).map fun y=>(x,y)
theorem j9 {α:Type} {l:List α} {x y:α} (h:two l = some (x,y)):l = [x,y]:=by
 cases l with
 | nil=>cases h
 | cons z zs=>cases zs with
  | nil=>cases h
  | cons w ws=>cases ws with
   | nil=>cases h;rfl
   | cons _ _=>cases h
def Rv {α:Type}:List α -> Option (α × List α)
 | []=>none
 | x :: xs=>some (x,xs)
theorem Bi {α:Type} {l xs:List α} {x:α} (h:Rv l = some (x,xs)):l = x :: xs:=by
 cases l with
 | nil=>cases h
 | cons y ys=>cases h;rfl
def D7:Expr -> Option (Expr × List CmpOp × List Expr)
 | .Compare l os rs _=>some (l,os,rs)
 | _=>none
theorem xW {e l:Expr} {os:List CmpOp} {rs:List Expr} (h:D7 e = some (l,os,rs)):∃ p,e = .Compare l os rs p:=by
 cases e <;> first | (cases h;done) | (cases h;exact ⟨_,rfl⟩)
def wt:Expr -> Option (Expr × List Expr × List Keyword)
 | .Call f as ks _=>some (f,as,ks)
 | _=>none
theorem zF {e f:Expr} {as:List Expr} {ks:List Keyword} (h:wt e = some (f,as,ks)):∃ p,e = .Call f as ks p:=by
 cases e <;> first | (cases h;done) | (cases h;exact ⟨_,rfl⟩)
def eA (e:Expr):Option (Str × List Expr):=match wt e with
 | some (f,as,ks)=>match ks with
  | []=>match D0 f with
   | some x=>some (x,as)
   | none=>none
  | _ :: _=>none
 | none=>none
theorem cQ {e:Expr} {x:Str} {as:List Expr} (h:eA e = some (x,as)):∃ p pos,e = .Call (.Name x p) as [] pos:=by
 unfold eA at h
 cases hv:wt e with
 | none=>rw [hv] at h;cases h
 | some z =>
  obtain ⟨f,Rg,ks⟩:=z
  rw [hv] at h
  obtain ⟨pos,rfl⟩:=zF hv
  cases ks with
  | cons _ _=>cases h
  | nil =>
   cases hn:D0 f with
   | none=>replace h:(match D0 f with | some x=>some (x,Rg) | none=>none) = some (x,as):=h;rw [hn] at h;cases h
   | some y =>
    replace h:(match D0 f with | some x=>some (x,Rg) | none=>none) = some (x,as):=h
    rw [hn] at h
    obtain ⟨p,rfl⟩:=lI hn
    cases h
    exact ⟨p,pos,rfl⟩
def n9:Expr -> Option (Expr × Expr)
 | .Subscript a b _=>some (a,b)
 | _=>none
theorem kJ {e a b:Expr} (h:n9 e = some (a,b)):∃ p,e = .Subscript a b p:=by
 cases e <;> first | (cases h;done) | (cases h;exact ⟨_,rfl⟩)
def zE:Expr -> Option (List Expr)
 | .Tuple es _ _=>some es
 | _=>none
theorem kI {e:Expr} {es:List Expr} (h:zE e = some es):∃ n p,e = .Tuple es n p:=by
 cases e <;> first | (cases h;done) | (cases h;exact ⟨_,_,rfl⟩)
def Mr:Expr -> Option (List Expr)
 | .List es _=>some es
 | _=>none
theorem D1 {e:Expr} {es:List Expr} (h:Mr e = some es):∃ p,e = .List es p:=by
 cases e <;> first | (cases h;done) | (cases h;exact ⟨_,rfl⟩)
def GD:Expr -> Option (Expr × List Comprehension × Scope)
 | .ListComp e gs sc _=>some (e,gs,sc)
 | _=>none
theorem Be {e x:Expr} {gs:List Comprehension} {sc:Scope} (h:GD e = some (x,gs,sc)):∃ p,e = .ListComp x gs sc p:=by
 cases e <;> first | (cases h;done) | (cases h;exact ⟨_,rfl⟩)
theorem oJ {a:Bool} (h:(!a) = true):a = false:=by cases a <;> first | rfl | cases h
def t4 (S:Sx) (n:Nat) (t:Tg) (caps:List Nat) (target:Expr) (sc:Scope):Bool :=
 decide (sc.kind = .function) && sc.names.all (fun (x,k)=>decide (k ≠ .cell) && (decide (k ≠ .local) || decide (sc.names.lookup x = some .local)) && (decide (k ≠ .free) || decide (S.sc.names.lookup x = some .cell) || decide (S.sc.names.lookup x = some .free))) &&
 decide (n = (bL target).length) && (bL target).all (fun x=>decide (sc.names.lookup x = some .local)) && decide (bL target ++ gk S caps).Nodup &&
 caps.all (fun i=>match S.N[i]? with | some x=>decide (sc.names.lookup x = some .free) | none=>false) &&
 (match t with
  | .nm i=>decide (i = 0) && isNm target
  | .tp is=>aR (zE target) fun es=>decide (is = List.range es.length) && es.all isNm)
mutual
def bW (S:Sx):CE -> Expr -> Bool
 | .dt p es,e0=>fD e0 && aR (S.px.pe p S.sc S.bl e0) fun xs=>bI S es xs
 | .bC,e0=>aR (vC e0) fun c=>Cs c
 | .bl b,e0=>aR (vC e0) fun c=>He b c
 | .int i,e0=>aR (vC e0) fun c=>Ct i c
 | .v i,e0=>aR (D0 e0) fun x=>decide (S.N[i]? = some x) && HL S.sc x && oM x
 | .glo x i,e0=>aR (D0 e0) fun y=>decide (y = x) && g_ S.sc x && decide ((x,GK.i i) ∈ S.cs) && !(x == ("__debug__" : Str))
 | .glt x zs,e0=>aR (D0 e0) fun y=>decide (y = x) && g_ S.sc x && decide ((x,GK.t zs) ∈ S.cs) && !(x == ("__debug__" : Str))
 | .bin op a b,e0=>aR (Mv e0) fun z=>decide (z.2.1 = Nu op) && bW S a z.1 && bW S b z.2.2
 | .neg a,e0=>aR (Rq e0) fun z=>decide (z.1 = .USub) && bW S a z.2
 | .not a,e0=>aR (Rq e0) fun z=>decide (z.1 = .Not) && bW S a z.2
 | .and es,e0=>aR (vBool e0) fun z=>decide (z.1 = .And) && bI S es z.2
 | .or es,e0=>aR (vBool e0) fun z=>decide (z.1 = .Or) && bI S es z.2
 | .ite c a b,e0=>aR (Z9 e0) fun z=>bW S c z.1 && bW S a z.2.1 && bW S b z.2.2
 | .cmp op a b,e0=>aR (D7 e0) fun z=>decide (z.2.1 = [TM op]) && bW S a z.1 && aR (one z.2.2) fun r=>bW S b r && rH r
 | .qf a t,e0=>aR (eA e0) fun z=>decide (z.1 = ("isinstance" : Str)) && g_ S.sc z.1 && decide (z.1 ∈ S.bl) && aR (two z.2) fun y=>bW S a y.1 && aR (D0 y.2) fun x=>decide (x = (tyName t:Str)) && g_ S.sc x && decide (x ∈ S.bl)
 | .call f es,e0=>aR (eA e0) fun z=>decide (S.fn f = some z.1) && g_ S.sc z.1 && oM z.1 && aR (Rv z.2) fun y=>bI S es (y.1 :: y.2)
 | .bf f es,e0=>aR (eA e0) fun z=>decide (z.1 = (ub f:Str)) && g_ S.sc z.1 && decide (z.1 ∈ S.bl) && aR (Rv z.2) fun y=>bI S es (y.1 :: y.2)
 | .lT a,e0=>aR (eA e0) fun z=>decide (z.1 = ("len" : Str)) && g_ S.sc z.1 && decide (z.1 ∈ S.bl) && aR (one z.2) fun y=>aR (eA y) fun w=>decide (w.1 = ("set" : Str)) && g_ S.sc w.1 && decide (w.1 ∈ S.bl) && aR (one w.2) fun u=>bW S a u
 | .ix a b,e0=>aR (n9 e0) fun z=>bW S a z.1 && bW S b z.2
 | .tup es,e0=>aR (zE e0) fun xs=>bI S es xs && decide (es.length <= 1000)
 | .lst es,e0=>aR (Mr e0) fun xs=>bI S es xs && decide (es.length <= 1000)
 | .comp n t caps ik es a_ elt,e0=>aR (GD e0) fun z=>aR (one z.2.1) fun g=>decide (g.is_async = 0) && t4 S n t caps g.target z.2.2 && rH g.iter && decide (a_.length <= 1) && bI (S.inner g.target caps z.2.2) a_ g.ifs && bW (S.inner g.target caps z.2.2) elt z.1 &&
     (match ik with
      | .mU=>aR (eA g.iter) fun w=>decide (w.1 = ("range" : Str)) && g_ S.sc w.1 && decide (w.1 ∈ S.bl) && aR (one w.2) fun y=>bI S es [y]
      | .seq=>bI S es [g.iter]
      | .dt p=>QF g.iter && (decide (1100 <= p) || ie g.target) && aR (S.px.pi p S.sc S.bl g.iter) fun xs=>bI S es xs)
def bI (S:Sx):List CE -> List Expr -> Bool
 | [],es=>match es with
  | []=>true
  | _ :: _=>false
 | c :: cs,es=>match es with
  | []=>false
  | e :: es=>bW S c e && bI S cs es
end
def GR (K:PySem.W.Frag) (n:Nat) (m:List D -> O D):Sp:=fun vs H Q _=>∃ (F:Addr -> Prop) (ds:List D) (r:D),vs.length = n /\ af (aG K H) (nd K F (fun _=>False) (fun _=>none) H) [] 0 vs ds /\ m ds = ok r /\
 ∀ v H',ak H H' -> (∃ τt:Addr -> Option aI,(∀ p q,τt p = some q -> H p = none) /\ Rep (aG K H') (nd K (fun p=>F p \/ H p = none) (fun _=>False) τt H') [] v r) -> Q v H'
structure Lv (X:Cx) (k:Nat) (x:Str) (m:List D -> O D):Prop where
 ex:∃ (f:Addr) (fd:FuncData) (ps:List Str),ku X.prog X.w X.K X.mg X.base DD k f fd ps (GR X.K ps.length m) /\ X.mg x = some (.ref f) /\ PySem.W.keepIn X.K (.ref f) = true /\ Binds X.K fd ps [] /\ ∀ ds r,m ds = ok r -> ds.length = ps.length
def kinds:List String:=["NoneType","bool","int","str","list","tuple","dict"]
def NV:Ty -> String -> Bool
 | .int,s=>s == "int" || s == "bool"
 | t,s=>s == tyName t
theorem ak.upd {H:Hp} {p:Addr} {o:HO} (h:H p = none):ak H (upd H p o):=fun b u e=>by
 rw [aD (by rintro rfl;rw [h] at e;cases e)];exact e
theorem Ce {i j:Int} (h:gK i j = true):IntMulOk i j:=by
 unfold gK at h
 simp only [Bool.or_eq_true,Bool.and_eq_true,decide_eq_true_eq] at h
 rcases h with (h | h) | ⟨h1,h2⟩
 ·exact .of_left (intBits_le h)
 ·exact .of_right (intBits_le h)
 ·have b1:Builtin.Int.intBits i <= 9000:=intBits_le h1
  have b2:Builtin.Int.intBits j <= 9000:=intBits_le h2
  unfold IntMulOk
  have hb:Builtin.Int.intTooBig ((Builtin.Int.intBits i:Int) + (Builtin.Int.intBits j:Int)) = false:=by
   unfold Builtin.Int.intTooBig
   have:(bitsLine:Int) = 134217728:=by decide
   exact decide_eq_false (by omega)
  rw [hb];simp
section
variable {K:PySem.W.Frag} {R:Addr -> Prop} {τ τt:Addr -> Option aI} {fv:List Nat} {H H':Hp}
theorem ES {X:Cx}:km X (binaryOp .Add) (fun x y H Q=>∃ a b xs ys,x = .ref a /\ y = .ref b /\ aG X.K H a xs /\ aG X.K H b ys /\ xs.length + ys.length <= sizeLine /\ (xs = [] -> Q (.ref b) H) /\ (ys = [] -> Q (.ref a) H) /\ ∀ p,H p = none -> Q (.ref p) (upd H p (.tup (xs ++ ys)))):=by
 intro pins s σ H x y v u Q I rx ry h
 obtain ⟨a,b,xs,ys,rfl,rfl,ha,hb,hz,q0,q1,q2⟩:=h
 cases rx
 cases ry
 by_cases hx:xs = []
 ·subst hx
  obtain ⟨aj,r1,p1,_⟩:=I.tuple ha
  obtain ⟨mV,r2,p2,_⟩:=I.tuple hb
  cases r1
  obtain ⟨⟨cls,dd,data,sl⟩,ho,hc,n,hd⟩:=id p1
  obtain ⟨⟨Gg,zk,data2,we⟩,tf,hc2,n2,hd2⟩:=id p2
  simp only at hc hd hc2 hd2
  subst hc hd hc2 hd2
  exact concat_meets ⟨_,ho,rfl⟩ ⟨_,tf,rfl⟩ noFill_tuple_add seq_tuple_add PySem.F.slot_tuple_add PySem.F.entry_tuple_add (PySem.F.args_tuple_add_2 _ _)
   (tuple_addW0 a b [].toArray mV.toArray n n2 dd zk sl we rfl) ⟨ho,tf,⟨.ref b,H,I,rfl,q0 rfl⟩⟩
 ·exact ER pins s σ H (.ref a) (.ref b) _ _ Q I rfl rfl ⟨a,b,xs,ys,rfl,rfl,ha,hb,hx,hz,q1,fun _=>q2⟩
theorem nd.pv {A:Addr -> Prop} (k k':aI) (p:Addr) (xs:Nd) (f:Fl) (h:nd K R A (fun _=>none) H k p xs f):nd K R A (fun _=>none) H k' p xs f:=by
 cases f with
 | ow=>exact nomatch h.2
 | fz=>exact h
 | al=>exact h
 | sc=>exact h
theorem NB {X:Cx} {F:Addr -> Prop} {ρ:aA} {σ:St} (Si:SI X F R τ ρ σ H) (fr:∀ p q,τt p = some q -> H p = none) (k k':aI) (p:Addr) (xs:Nd) (f:Fl) (h:nd K R (kl (gP X F) τ fv) τt H' k p xs f) :
  nd K R (kl (gP X F) τ fv) (fun _=>none) H' k' p xs (ba f):=by
 cases f with
 | ow=>exact ⟨h.1,.inr (Si.same.free (fr p _ h.2)),fun c i e=>absurd (fr p _ h.2) (Si.th p _ e)⟩
 | fz=>exact h
 | al=>exact h
 | sc=>exact h
theorem af.fb {X:Cx} {F:Addr -> Prop} {ρ:aA} {σ:St} {k:aI} {n:Nat} {xs:List V} {ds:List D} (h:af (aG K H') (nd K R (kl (gP X F) τ fv) τt H') k n xs ds) (Si:SI X F R τ ρ σ H) (fr:∀ p q,τt p = some q -> H p = none) {k':aI} {n':Nat} :
  af (aG K H') (nd K R (kl (gP X F) τ fv) (fun _=>none) H') k' n' xs (ah ba ds):=af.jd (fun _ _ h=>h) (NB Si fr) h _ _
theorem Rep.fb {X:Cx} {F:Addr -> Prop} {ρ:aA} {σ:St} {k:aI} {v:V} {d:D} (h:Rep (aG K H') (nd K R (kl (gP X F) τ fv) τt H') k v d) (Si:SI X F R τ ρ σ H) (fr:∀ p q,τt p = some q -> H p = none) {k':aI} :
  Rep (aG K H') (nd K R (kl (gP X F) τ fv) (fun _=>none) H') k' v (aC ba d):=Rep.jd (fun _ _ h=>h) (NB Si fr) h _
theorem af.rep {A:Addr -> Prop} {xs:List V} {ds:List D} (h:af (aG K H) (nd K R A (fun _=>none) H) [] 0 xs (ah ba ds)):∀ n:Nat,af (aG K H) (nd K R A (fun _=>none) H) [] 0 (List.replicate n xs).flatten (ah ba (List.replicate n ds).flatten)
 | 0=>.nil
 | n + 1=>by
  rw [List.replicate_succ,List.replicate_succ,List.flatten_cons,List.flatten_cons,av,List.map_append,<- av,<- av]
  exact af.nV nd.pv h (af.rep h n)
theorem bJ.sR {G:Addr -> Prop} {p:Addr} {xs:List V} {ds:List D} (hp:H p = none) (e:ak H H') (hl:H' p = some (.lst xs)) (r:af (aG K H') (nd K R (kl G τ fv) (fun _=>none) H') [] 0 xs ds):bJ K G R τ fv H H' (.ref p) (.lst .ow ds):=by
 refine ⟨fun q=>if q = p then some [] else none,fun q k hq=>?_,.lst ⟨hl,by simp⟩ (r.imp (fun _ _ h=>h) fun c q xs f h=>?_)⟩
 ·by_cases xa:q = p
  ·subst xa;exact hp
  ·simp [xa] at hq
 ·cases f with
  | ow=>exact nomatch h.2
  | fz=>exact h
  | al=>exact h
  | sc=>exact h
end
theorem Fe (K:PySem.W.Frag):∀ t:Ty,∀ s ∈ kinds,PySem.W.kitOne K (.type s) (.type (tyName t)) = some (NV t s):=by
 intro t s hs
 simp only [kinds,List.mem_cons,List.not_mem_nil,or_false] at hs
 cases t <;> rcases hs with rfl | rfl | rfl | rfl | rfl | rfl | rfl <;> rfl
structure PX (X:Cx) (sc:Scope) (bl:List Str) (k:Nat):Prop where
 sc:X.env.scope = sc
 calm:X.calm = true
 room:gZ k X.A
 bl:∀ x ∈ bl,X.mg x = none
theorem PX.gl {X:Cx} {sc:Scope} {bl:List Str} {k:Nat} (L:PX X sc bl k) {x:Str} (h:g_ sc x = true):Gl X x:=by
 unfold Gl
 show X.env.scope.names.lookup x = some .globalImplicit
 rw [L.sc];exact of_decide_eq_true h
def qU (X:Cx) (F:Addr -> Prop) (Φ:az):List CE -> List Expr -> Prop
 | [],[]=>True
 | c :: cs,a :: as=>PE X a (tD X F Φ c) /\ (∀ es,starEach (a :: es) X.env = (false,eval a X.env) :: starEach es X.env) /\ nX a /\ qU X F Φ cs as
 | _,_=>False
structure si (K:PySem.W.Frag) (H2:Hp) (vs:List V) (xs:List D) (H':Hp):Prop where
 n0:∃ R0:Addr -> Prop,af (aG K H2) (nd K R0 (fun _=>False) (fun _=>none) H2) [] 0 vs (ah aN xs) /\ ∀ p o,R0 p -> H2 p = some o -> H' p = some o
 tp:∀ a ys,aG K H2 a ys -> aG K H' a ys
structure Mf (K:PySem.W.Frag) (J:It) (H2:Hp) (vs:List V) (xs items:List D):Prop where
 go:∀ i H' R',si K H2 vs xs H' -> af (aG K H') (nd K R' (fun _=>False) (fun _=>none) H') [] 0 vs (ah aN xs) -> i < items.length -> J.go i H'
 wc:∀ i H' R' x nj,si K H2 vs xs H' -> af (aG K H') (nd K R' (fun _=>False) (fun _=>none) H') [] 0 vs (ah aN xs) -> i < items.length -> J.wc i H' x nj -> ak H' nj /\ ∃ d,items[i]? = some d /\ Rep (aG K nj) (nd K R' (fun _=>False) (fun _=>none) nj) [] x d
 stop:∀ i H' R',si K H2 vs xs H' -> af (aG K H') (nd K R' (fun _=>False) (fun _=>none) H') [] 0 vs (ah aN xs) -> items.length <= i -> J.stop i H'
structure Gw (px:Px) (Φ:az):Prop where
 e:∀ (X:Cx) (sc:Scope) (bl:List Str) (k:Nat),PX X sc bl k -> ∀ (p:Nat) (e:Expr) (args:List Expr),px.pe p sc bl e = some args -> ∀ (F:Addr -> Prop) (cs:List CE),qU X F Φ cs args -> PE X e (tD X F Φ (.dt p cs)) /\ PT X e (hX X F Φ (.dt p cs))
 i:∀ (X:Cx) (sc:Scope) (bl:List Str) (k:Nat),PX X sc bl k -> ∀ (p:Nat) (e:Expr) (args:List Expr),px.pi p sc bl e = some args -> ∀ (F:Addr -> Prop) (cs:List CE) (tg:Expr),(decide (1100 <= p) || ie tg) = true -> qU X F Φ cs args ->
  ∀ (pins:List (Addr × Obj)) (s:Shared) (σ:St) (H:Hp) (R:Addr -> Prop) (τ:Addr -> Option aI) (ρ:aA) (xs:List D) (d:D) (items:List D),Inv X pins σ H s -> SI X F R τ ρ σ H -> c_ Φ cs ρ = ok xs -> Φ p xs = ok d -> mP d = ok items -> ∀ Rr:It -> Hp -> Prop,
   (∀ J H2 vs,ak H H2 -> ck X.K (gP X F) R τ (du cs) H H2 vs xs -> Mf X.K J H2 vs xs items -> Rr J H2) ->
   wpAny (model X.prog X.w) X.A (eval e X.env) (fun v s1=>wpAny (model X.prog X.w) X.A (pyIter v) (DA X pins σ tg Rr) X.xe s1) X.xe s
def Rm (K:PySem.W.Frag):GK -> Value -> Prop
 | .i i,u=>RelV (.int i) u
 | .t zs,u=>∃ (a:Addr) (o:Obj) (aj:Array Value) (n:Nat),u = .ref a /\ K.lookup a = some o /\ o.cls = .type "tuple" /\ o.data = .seq aj n /\ aj.size <= sizeLine /\ Vals (zs.map V.int) aj.toList
structure Lk (X:Cx) (S:Sx) (k:Nat) (Φ:az):Prop where
 sc:X.env.scope = S.sc
 N:X.N = S.N
 nd:X.N.Nodup
 calm:X.calm = true
 room:gZ k X.A
 bl:∀ x ∈ S.bl,X.mg x = none
 fn:∀ f x,S.fn f = some x -> Lv X k x (Φ f)
 cs:∀ x i,(x,i) ∈ S.cs -> ∃ u,X.mg x = some u /\ Rm X.K i u
 pr:Gw S.px Φ
theorem Lk.pX {X:Cx} {S:Sx} {k:Nat} {Φ:az} (L:Lk X S k Φ):PX X S.sc S.bl k:=⟨L.sc,L.calm,L.room,L.bl⟩
section
variable {X:Cx} {S:Sx} {k:Nat} {F:Addr -> Prop} {Φ:az}
theorem Lk.gl (L:Lk X S k Φ) {x:Str} (h:g_ S.sc x = true):Gl X x:=by
 unfold Gl
 show X.env.scope.names.lookup x = some .globalImplicit
 rw [L.sc];exact of_decide_eq_true h
theorem Lk.Qk (L:Lk X S k Φ) {x:Str} (h:HL S.sc x = true):Lp X.env.scope x:=by
 unfold Lp;rw [L.sc]
 unfold HL at h
 rw [Bool.or_eq_true,Bool.or_eq_true] at h
 rcases h with (h | h) | h
 ·exact .inl (of_decide_eq_true h)
 ·exact .inr (.inl (of_decide_eq_true h))
 ·exact .inr (.inr (of_decide_eq_true h))
theorem tD.intro {c:CE} {σ:St} {H:Hp} {Q:VK} {R:Addr -> Prop} {τ:Addr -> Option aI} {ρ:aA} {d:D} (Si:SI X F R τ ρ σ H) (e:aO Φ c ρ = ok d) (h:∀ v H',ak H H' -> bJ X.K (gP X F) R τ (gO c) H H' v d -> Q v H'):tD X F Φ c σ H Q:=⟨R,τ,ρ,d,Si,e,h⟩
theorem Sz (L:Lk X S k Φ) {i:Nat} {x:Str} {pos:Pos} (h:bW S (.v i) (.Name x pos) = true):PE X (.Name x pos) (tD X F Φ (.v i)):=by
 replace h:=au h
 replace h:=And.intro (au h.1) h.2
 obtain ⟨⟨h1,h2⟩,h3⟩:=h
 unfold oM at h3
 simp only [Bool.and_eq_true,Bool.not_eq_true'] at h3
 refine PE.imp (wQ (i:=i) (by rw [L.N];exact of_decide_eq_true h1) (L.Qk h2) h3.1.1 h3.1.2) fun σ H Q hq=>?_
 obtain ⟨R,τ,ρ,d,Si,ev,hq⟩:=hq
 obtain ⟨d',hd,rfl⟩:=BA ev
 ·obtain ⟨v,hv,hr⟩:=Si.rep i d' hd
  refine ⟨v,hv,hq v H (ak.refl H) ⟨fun _=>none,fun _ _ h=>by simp at h,?_⟩⟩
  refine Rep.map (q:=[i]) (q':=[]) (fun _ _ h=>h) (fun c p xs f h=>?_) hr [] rfl
  cases f with
  | ow =>
   refine ⟨h.1,.inr (Si.t0 p _ h.2),fun c' j e=>?_⟩
   rw [h.2] at e
   have e':=Option.some.inj e
   have:=congrArg List.getLast? e'
   simp at this
   show _ ∈ [i]
   simp [this]
  | fz=>exact h
  | al=>exact h.2.elim
  | sc=>exact h
theorem jN {op:GB} {x y d:D} (Oc:op ≠ .add /\ op ≠ .mul) (h:cP op x y = ok d):∃ i j,x = .int i /\ y = .int j:=by
 cases x with
 | int i=>cases y with
  | int j=>exact ⟨i,j,rfl,rfl⟩
  | _=>cases op <;> first | (cases h;done) | (simp at Oc;done)
 | _=>cases op <;> first | (cases h;done) | (simp at Oc;done)
theorem Ip (L:Lk X S k Φ) {op:GB} {a b:CE} {l r:Expr} {pos:Pos} (ha:PE X l (tD X F Φ a)) (hb:PE X r (tD X F Φ b)):PE X (.BinOp l (Nu op) r pos) (tD X F Φ (.bin op a b)):=by
 have two:∀ {σ:St} {H:Hp} {Q:VK} {r2:R2},(∃ R τ ρ d,SI X F R τ ρ σ H /\ aO Φ (.bin op a b) ρ = ok d /\ (∀ v H',ak H H' -> bJ X.K (gP X F) R τ (gO (.bin op a b)) H H' v d -> Q v H') /\
   ∀ x y v u H',cP op x y = ok d -> ak H H' -> bJ X.K (gP X F) R τ (gO (.bin op a b)) H H' v x -> bJ X.K (gP X F) R τ (gO (.bin op a b)) H H' u y -> r2 v u H' Q) -> GL r2 (tD X F Φ a) (tD X F Φ b) σ H Q:=by
  rintro σ H Q r2 ⟨R,τ,ρ,d,Si,ev,hq,hr⟩
  obtain ⟨x,ex,ev⟩:=ag ev
  obtain ⟨y,ey,ev⟩:=ag ev
  refine tD.intro Si ex fun v H1 e1 r1=>tD.intro (Si.go e1) ey fun u H2 e2 r2=>?_
  exact hr x y v u H2 ev (e1.trans e2) ((r1.go e2).mono fun i hi=>List.mem_append_left _ hi) ((r2.old e1).mono fun i hi=>List.mem_append_right _ hi)
 have An:∀ {C:Int -> Int -> Prop} {g:Int -> Int -> Int},km X (binaryOp (Nu op)) (rI C fun i j=>.int (g i j)) -> (∀ x y d,cP op x y = ok d -> ∃ i j,x = .int i /\ y = .int j /\ C i j /\ d = .int (g i j)) ->
   PE X (.BinOp l (Nu op) r pos) (tD X F Φ (.bin op a b)):=by
  intro C g ho hd
  refine PE.imp (BZ ho ha hb) fun σ H Q hq=>?_
  obtain ⟨R,τ,ρ,d,Si,ev,hq⟩:=hq
  refine two ⟨R,τ,ρ,d,Si,ev,hq,fun x y v u H' eb e rv ru=>?_⟩
  obtain ⟨i,j,rfl,rfl,c,rfl⟩:=hd x y d eb
  exact ⟨i,j,rv.isInt,ru.isInt,c,hq _ H' e .int⟩
 cases op with
 | sub =>
  refine An (C:=fun _ _=>True) (g:=fun i j=>i - j) (Je fun _ _ _ _ _ _ _ _ q=>sub_int q) fun x y d h=>?_
  obtain ⟨i,j,rfl,rfl⟩:=jN (by simp) h
  cases h;exact ⟨_,_,rfl,rfl,trivial,rfl⟩
 | mod =>
  refine An (C:=fun _ j=>j ≠ 0) (g:=fun i j=>i.fmod j) EO fun x y d h=>?_
  obtain ⟨i,j,rfl,rfl⟩:=jN (by simp) h
  obtain ⟨h1,h⟩:=rL h
  subst h;exact ⟨_,_,rfl,rfl,h1,rfl⟩
 | fdiv =>
  refine An (C:=fun _ j=>rT j = true) (g:=fun i j=>i.fdiv j) (Je fun i j _ _ _ _ _ hc q=>?_) fun x y d h=>?_
  ·unfold rT at hc
   rw [Bool.and_eq_true] at hc
   have h1:j ≠ 0:=of_decide_eq_true hc.1
   have h2:j.natAbs < big:=of_decide_eq_true hc.2
   exact floordiv_int h1 q (.inl (PyProof.noPylong_of_log2 ((Nat.log2_lt (by omega)).mpr h2)))
  ·obtain ⟨i,j,rfl,rfl⟩:=jN (by simp) h
   obtain ⟨h1,h⟩:=rL h
   subst h;exact ⟨_,_,rfl,rfl,h1,rfl⟩
 | pow =>
  refine An (C:=fun i j=>yj i j = true) (g:=fun i j=>i ^ j.toNat) (Je fun i j _ _ _ _ _ hc q=>?_) fun x y d h=>?_
  ·unfold yj at hc
   simp only [Bool.and_eq_true,decide_eq_true_eq] at hc
   exact pow_int_small hc.1.1 hc.1.2 hc.2 q
  ·obtain ⟨i,j,rfl,rfl⟩:=jN (by simp) h
   obtain ⟨h1,h⟩:=rL h
   subst h;exact ⟨_,_,rfl,rfl,h1,rfl⟩
 | shr =>
  refine An (C:=fun _ j=>0 <= j) (g:=fun i j=>i / 2 ^ j.toNat) I0 fun x y d h=>?_
  obtain ⟨i,j,rfl,rfl⟩:=jN (by simp) h
  obtain ⟨h1,h⟩:=rL h
  subst h;exact ⟨_,_,rfl,rfl,h1,rfl⟩
 | band =>
  refine An (C:=fun _ j=>j = 1) (g:=fun i _=>i % 2) (Je fun i j _ _ _ _ _ hc q=>by subst hc;exact and_int (by rw [bitAnd_m1];exact q)) fun x y d h=>?_
  obtain ⟨i,j,rfl,rfl⟩:=jN (by simp) h
  obtain ⟨h1,h⟩:=rL h
  subst h;exact ⟨_,_,rfl,rfl,h1,rfl⟩
 | mul =>
  have hi:km X (binaryOp .Mult) (rI (fun i j=>gK i j = true) fun i j=>.int (i * j)):=Je fun i j _ _ _ _ _ hc q=>mul_int q (Ce hc)
  refine PE.imp (BZ (hi.or I9) ha hb) fun σ H Q hq=>?_
  obtain ⟨R,τ,ρ,d,Si,ev,hq⟩:=hq
  refine two ⟨R,τ,ρ,d,Si,ev,hq,fun x y v u H' eb e rv ru=>?_⟩
  cases y with
  | int j =>
   cases x with
   | int i =>
    obtain ⟨h1,eb⟩:=rL eb
    subst eb
    exact .inl ⟨i,j,rv.isInt,ru.isInt,h1,hq _ H' e .int⟩
   | lst f a =>
    obtain ⟨hc,eb⟩:=rL eb
    ·subst eb
     obtain ⟨τt,fr,rp⟩:=rv
     cases rp with
     | @lst _ p xs _ _ hn rs =>
      have hz:sizeLine = 16777216:=sizeLine_eq
      have o6:eu = 1000000:=rfl
      refine .inr ⟨p,j,xs,rfl,ru.isInt,hn.lst hc.1,by omega,by omega,by rw [rs.length];omega,fun p' xb=>?_⟩
      have es:ak H' (upd H' p' (.lst (List.replicate j.toNat xs).flatten)):=ak.upd xb
      refine hq _ _ (e.trans es) (bJ.sR (e.free xb) (e.trans es) (aK) ?_)
      exact (af.rep (rs.fb Si fr) j.toNat).imp (fun _ _ h=>aG.same es h) fun _ _ _ _ h=>nd.same es h
   | _=>cases eb
  | _=>cases x <;> cases eb
 | add =>
  refine PE.imp (BZ ((Jd.or Jc).or ES) ha hb) fun σ H Q hq=>?_
  obtain ⟨R,τ,ρ,d,Si,ev,hq⟩:=hq
  refine two ⟨R,τ,ρ,d,Si,ev,hq,fun x y v u H' eb e rv ru=>?_⟩
  have hz:sizeLine = 16777216:=sizeLine_eq
  have o6:eu = 1000000:=rfl
  cases x with
  | int i =>
   cases y with
   | int j =>
    cases eb
    exact .inl (.inl ⟨i,j,rv.isInt,ru.isInt,hq _ H' e .int⟩)
   | _=>cases eb
  | lst f a =>
   cases y with
   | lst g b =>
    obtain ⟨hc,eb⟩:=rL eb
    ·subst eb
     obtain ⟨τt,fr,rp⟩:=rv
     obtain ⟨Rn,L8,SF⟩:=ru
     cases rp with
     | @lst _ p xs _ _ hn rs =>
      cases SF with
      | @lst _ p2 HJ _ _ LW Ex =>
       refine .inl (.inr ⟨p,p2,xs,HJ,rfl,rfl,hn.lst hc.1,LW.lst hc.2.1,by rw [rs.length,Ex.length];omega,fun p' xb=>?_⟩)
       have es:ak H' (upd H' p' (.lst (xs ++ HJ))):=ak.upd xb
       refine hq _ _ (e.trans es) (bJ.sR (e.free xb) (e.trans es) (aK) ?_)
       rw [av,List.map_append,<- av,<- av]
       exact (af.nV nd.pv (n:=0) (m:=0) (rs.fb Si fr) (Ex.fb Si L8)).imp (fun _ _ h=>aG.same es h) fun _ _ _ _ h=>nd.same es h
   | _=>cases eb
  | tup a =>
   cases y with
   | tup b =>
    obtain ⟨hc,eb⟩:=rL eb
    subst eb
    obtain ⟨τt,fr,rp⟩:=rv
    obtain ⟨Rn,L8,SF⟩:=ru
    cases rp with
    | @tup _ p xs _ hn rs =>
     cases SF with
     | @tup _ p2 HJ _ LW Ex =>
      have hl:=rs.length
      have Ao:=Ex.length
      refine .inr ⟨p,p2,xs,HJ,rfl,rfl,hn,LW,by rw [hl,Ao];omega,fun z=>?_,fun z=>?_,fun p' xb=>?_⟩
      ·subst z
       cases rs
       exact hq _ H' e ⟨fun _=>none,fun _ _ h=>by simp at h,.tup LW (Ex.fb Si L8)⟩
      ·subst z
       cases Ex
       refine hq _ H' e ⟨fun _=>none,fun _ _ h=>by simp at h,.tup hn ?_⟩
       rw [List.append_nil]
       exact rs.fb Si fr
      ·have es:ak H' (upd H' p' (.tup (xs ++ HJ))):=ak.upd xb
       refine hq _ _ (e.trans es) ⟨fun _=>none,fun _ _ h=>by simp at h,.tup (aG.of aK) ?_⟩
       rw [av,List.map_append,<- av,<- av]
       exact (af.nV nd.pv (n:=0) (m:=0) (rs.fb Si fr) (Ex.fb Si L8)).imp (fun _ _ h=>aG.same es h) fun _ _ _ _ h=>nd.same es h
   | _=>cases eb
  | _=>cases y <;> cases eb
end
end DI
end
section
namespace DI
open PySem PySem.Spec PyProof.Rows L2
section
variable {T T':jZ} {N N':i3} {P:Fl -> Bool}
theorem Rep.without (hT:∀ p xs,T p xs -> T' p xs) (hN:∀ k k' p xs f,P f = false -> N k p xs f -> N' k' p xs f) {k:aI} {v:V} {d:D} (h:Rep T N k v d) (e:aH P d = false) (k':aI):Rep T' N' k' v d:=by
 have:=Rep.gen (g:=id) (P:=P) (N':=N') (C:=fun _ _=>True) (I:=fun _ _=>True) hT trivial (fun _ _ e=>e) (fun _ _ _ _ e _=>e) (fun k k' p xs f _ e h=>hN k k' p xs f e h) h (k':=k') trivial e
 rw [eL] at this;exact this
theorem af.without (hT:∀ p xs,T p xs -> T' p xs) (hN:∀ k k' p xs f,P f = false -> N k p xs f -> N' k' p xs f) {k:aI} {n:Nat} {vs:List V} {ds:List D} (h:af T N k n vs ds) (e:aw P ds = false) (k':aI) (n':Nat):af T' N' k' n' vs ds:=by
 have:=af.gen (g:=id) (P:=P) (N':=N') (C:=fun _ _=>True) (I:=fun _ _=>True) hT trivial (fun _ _ e=>e) (fun _ _ _ _ e _=>e) (fun k k' p xs f _ e h=>hN k k' p xs f e h) h (k':=k') (n':=n') trivial trivial e
 rw [eT] at this;exact this
theorem Rep.kG (hT:∀ p xs,T p xs -> T' p xs) (hN:∀ k p xs f,P f = false -> N k p xs f -> N' k p xs f) {k:aI} {v:V} {d:D} (h:Rep T N k v d) (e:aH P d = false):Rep T' N' k v d:=by
 have:=Rep.gen (g:=id) (P:=P) (N':=N') (C:=fun a b=>a = b) (I:=fun a b=>a = b) hT rfl (fun _ _ e=>by rw [e]) (fun _ _ _ _ a b=>by rw [a,b]) (fun k k' p xs f c e h=>by subst c;exact hN k p xs f e h) h rfl e
 rw [eL] at this;exact this
theorem af.kG (hT:∀ p xs,T p xs -> T' p xs) (hN:∀ k p xs f,P f = false -> N k p xs f -> N' k p xs f) {k:aI} {n:Nat} {vs:List V} {ds:List D} (h:af T N k n vs ds) (e:aw P ds = false):af T' N' k n vs ds:=by
 have:=af.gen (g:=id) (P:=P) (N':=N') (C:=fun a b=>a = b) (I:=fun a b=>a = b) hT rfl (fun _ _ e=>by rw [e]) (fun _ _ _ _ a b=>by rw [a,b]) (fun k k' p xs f c e h=>by subst c;exact hN k p xs f e h) h rfl rfl e
 rw [eT] at this;exact this
end
theorem Rep.sU {K:PySem.W.Frag} {R:Addr -> Prop} {H:Hp} {k:aI} {v:V} {d:D} (h:Rep (aG K H) (nd K R (fun _=>False) (fun _=>none) H) k v d) {k':aI}:Rep (aG K H) (nd K R (fun _=>False) (fun _=>none) H) k' v d:=by
 have:=Rep.jd (g:=id) (fun _ _ h=>h) nd.pv h k'
 rw [eL] at this;exact this
def ju (X:Cx) (R:Addr -> Prop) (τ:Addr -> Option aI) (H:Hp) (v:V) (d:D):Prop :=
 ∃ τt:Addr -> Option aI,(∀ p q,τt p = some q -> τ p = none /\ ¬ R p /\ X.H₀ p = none /\ H p ≠ none) /\ Rep (aG X.K H) (nd X.K R (fun _=>False) τt H) [] v d
section
variable {X:Cx} {F R:Addr -> Prop} {τ:Addr -> Option aI} {ρ:aA} {σ:St} {H H':Hp}
theorem SI.set {i:Nat} {v:V} {d:D} (Si:SI X F R τ ρ σ H) (r:ju X R τ H v d) (hi:i < ρ.length):∃ τ',SI X F R τ' (ρ.set i (some d)) (σ.set i (some v)) H:=by
 obtain ⟨τt,ht,rp⟩:=r
 refine ⟨fun p=>match τt p with | some q=>some (q ++ [i]) | none=>τ p,⟨by simp [Si.len],fun j d' hj=>?_,fun p hp=>?_,Si.rh,Si.rf,fun p q hq=>?_,fun p q hq=>?_,Si.same⟩⟩
 ·by_cases j6:j = i
  ·subst j6
   rw [List.getElem?_set_self hi] at hj
   cases hj
   refine ⟨v,List.getElem?_set_self (by rw [<- Si.len];exact hi),rp.imp (q':=[j]) (fun _ _ h=>h) fun c p xs f h=>?_⟩
   cases f with
   | ow=>rw [List.append_nil] at h;exact ⟨h.1,by simp only [h.2]⟩
   | fz=>exact h
   | al=>exact h
   | sc=>exact h
  ·rw [List.getElem?_set_ne (Ne.symm j6)] at hj
   obtain ⟨w,hw,qe⟩:=Si.rep j d' hj
   refine ⟨w,by rw [List.getElem?_set_ne (Ne.symm j6)];exact hw,qe.imp (fun _ _ h=>h) fun c p xs f h=>?_⟩
   cases f with
   | ow =>
    refine ⟨h.1,?_⟩
    cases q:τt p with
    | none=>simp only [q];exact h.2
    | some k=>have:=(ht p k q).1;rw [h.2] at this;cases this
   | fz=>exact h
   | al=>exact h
   | sc=>exact h
 ·cases q:τt p with
  | none=>simp only [q];exact Si.rt p hp
  | some k=>exact absurd hp (ht p k q).2.1
 ·cases z:τt p with
  | none=>simp only [z] at hq;exact Si.th p q hq
  | some k=>exact (ht p k z).2.2.2
 ·cases z:τt p with
  | none=>simp only [z] at hq;exact Si.t0 p q hq
  | some k=>exact (ht p k z).2.2.1
theorem Ar {k:aI} {v:V} {d:D} (h:Rep (aG X.K H) (nd X.K R (fun _=>False) τ H) k v d) (ho:aH d9 d = false):ju X R τ H v d :=
 ⟨fun _=>none,fun _ _ h=>by simp at h,Rep.without (P:=d9) (fun _ _ h=>h) (fun k k' p xs f hf h=>by
  cases f with
  | ow=>cases hf
  | fz=>exact h
  | al=>exact h.2.elim
  | sc=>exact h) h ho _⟩
open Classical in
theorem SI.move {i:Nat} {d:D} (Si:SI X F R τ ρ σ H) (hd:ρ[i]? = some (some d)):∃ v τ',σ[i]? = some (some v) /\ SI X F R τ' (ρ.set i none) σ H /\ ju X R τ' H v d:=by
 obtain ⟨v,hv,rp⟩:=Si.rep i d hd
 refine ⟨v,fun p=>match τ p with | some q=>if q.getLast? = some i then none else some q | none=>none,hv,⟨by simp [Si.len],fun j d' hj=>?_,fun p hp=>?_,Si.rh,Si.rf,fun p q hq=>?_,fun p q hq=>?_,Si.same⟩,
  fun p=>match τ p with | some q=>if q.getLast? = some i then (if H p = none then none else some q.dropLast) else none | none=>none,fun p q hq=>?_,rp.imp (q:=[i]) (q':=[]) (fun _ _ h=>h) fun c p xs f h=>?_⟩
 ·by_cases j6:j = i
  ·subst j6
   rw [List.getElem?_set] at hj
   simp at hj
  ·rw [List.getElem?_set_ne (Ne.symm j6)] at hj
   obtain ⟨w,hw,qe⟩:=Si.rep j d' hj
   refine ⟨w,hw,qe.imp (q:=[j]) (q':=[j]) (fun _ _ h=>h) fun c p xs f h=>?_⟩
   cases f with
   | ow =>
    refine ⟨h.1,?_⟩
    simp only [h.2]
    rw [if_neg (by simp;exact j6)]
   | fz=>exact h
   | al=>exact h
   | sc=>exact h
 ·simp only [Si.rt p hp]
 ·cases z:τ p with
  | none=>simp only [z] at hq;cases hq
  | some k=>exact Si.th p k z
 ·cases z:τ p with
  | none=>simp only [z] at hq;cases hq
  | some k=>exact Si.t0 p k z
 ·cases z:τ p with
  | none=>simp only [z] at hq;cases hq
  | some k =>
   simp only [z] at hq ⊢
   by_cases hl:k.getLast? = some i
   ·rw [if_pos hl]
    exact ⟨rfl,(fun hR=>by have:=Si.rt p hR;rw [z] at this;cases this),Si.t0 p k z,Si.th p k z⟩
   ·rw [if_neg hl] at hq;cases hq
 ·cases f with
  | ow =>
   refine ⟨h.1,?_⟩
   have hn:H p ≠ none:=h.1.ne
   simp only [h.2]
   rw [if_pos (by simp),if_neg hn]
   simp
  | fz=>exact h
  | al=>exact h.2.elim
  | sc=>exact h
theorem yV (is:List Nat) (ρ:aA) (j:Nat) (d:D) (h:(ji is ρ)[j]? = some (some d)):∃ d',ρ[j]? = some (some d') /\ d = (if j ∈ is then aC aN d' else d'):=by
 unfold ji at h
 rw [List.getElem?_mapIdx] at h
 cases q:ρ[j]? with
 | none=>rw [q] at h;cases h
 | some o =>
  rw [q] at h
  cases o with
  | none=>simp at h
  | some d' =>
   refine ⟨d',rfl,?_⟩
   by_cases hj:j ∈ is
   ·simp [hj] at h ⊢;exact h.symm
   ·simp [hj] at h ⊢;exact h.symm
open Classical in
theorem yW {fv:List Nat} (Si:SI X F R τ ρ σ H) (es:ak H H') :
  ∃ R' τ',(∀ p,R p -> R' p) /\ SI X F R' τ' (ji fv ρ) σ H' /\ ∀ τt:Addr -> Option aI,(∀ p q,τt p = some q -> H p = none) -> ∀ (k k':aI) (p:Addr) (xs:Nd) (f:Fl),nd X.K R (kl (gP X F) τ fv) τt H' k p xs f -> nd X.K R' (fun _=>False) (fun _=>none) H' k' p xs (aN f):=by
 have hJ:=Si.go es
 have fresh:∀ p,H p = none -> kl (gP X F) τ fv p:=fun p hp=>⟨.inr (Si.same.free hp),fun c i e=>absurd hp (Si.th p _ e)⟩
 refine ⟨fun p=>R p \/ (H' p ≠ none /\ kl (gP X F) τ fv p),fun p=>if kl (gP X F) τ fv p then none else τ p,fun p h=>.inl h,⟨by simp [ji,Si.len],fun j d' hj=>?_,fun p hp=>?_,fun p hp=>?_,fun p hp=>?_,fun p q hq=>?_,fun p q hq=>?_,hJ.same⟩,fun τt fr k k' p xs f h=>?_⟩
 ·obtain ⟨d0,h0,e0⟩:=yV _ _ _ _ hj
  obtain ⟨w,hw,qe⟩:=hJ.rep j d0 h0
  refine ⟨w,hw,?_⟩
  by_cases QT:j ∈ fv
  ·rw [if_pos QT] at e0
   subst e0
   refine Rep.map (q:=[j]) (q':=[j]) (fun _ _ h=>h) (fun c p xs f h=>?_) qe [] rfl
   cases f with
   | ow =>
    refine ⟨h.1,.inr ⟨h.1.ne,.inr (Si.t0 p _ h.2),fun c' i' e'=>?_⟩⟩
    rw [h.2] at e'
    have:=congrArg List.getLast? (Option.some.inj e')
    simp at this;subst this;exact QT
   | fz=>exact ⟨h.1,.inl h.2⟩
   | al=>exact h.2.elim
   | sc=>exact h
  ·rw [if_neg QT] at e0
   subst e0
   refine qe.imp (q:=[j]) (q':=[j]) (fun _ _ h=>h) fun c p xs f h=>?_
   cases f with
   | ow =>
    refine ⟨h.1,?_⟩
    show (if kl (gP X F) τ fv p then none else τ p) = some (c ++ [j])
    rw [if_neg (fun z=>QT (z.2 c j h.2))];exact h.2
   | fz=>exact ⟨h.1,.inl h.2⟩
   | al=>exact h.2.elim
   | sc=>exact h
 ·rcases hp with hp | hp
  ·simp only [Si.rt p hp];split <;> rfl
  ·rw [if_pos hp.2]
 ·rcases hp with hp | hp
  ·exact hJ.rh p hp
  ·exact hp.1
 ·rcases hp with hp | hp
  ·exact Si.rf p hp
  ·exact hp.2.1
 ·split at hq
  ·cases hq
  ·exact hJ.th p q hq
 ·split at hq
  ·cases hq
  ·exact Si.t0 p q hq
 ·cases f with
  | ow=>exact ⟨h.1,.inr ⟨h.1.ne,fresh p (fr p _ h.2)⟩⟩
  | fz=>exact ⟨h.1,.inl h.2⟩
  | al=>exact ⟨h.1,.inr ⟨h.1.ne,h.2⟩⟩
  | sc=>exact h
theorem tM {fv:List Nat} {v:V} {d:D} (Si:SI X F R τ ρ σ H) (es:ak H H') (r:bJ X.K (gP X F) R τ fv H H' v d) :
  ∃ R' τ',(∀ p,R p -> R' p) /\ SI X F R' τ' (ji fv ρ) σ H' /\ Rep (aG X.K H') (nd X.K R' (fun _=>False) (fun _=>none) H') [] v (aC aN d):=by
 obtain ⟨τt,fr,rp⟩:=r
 obtain ⟨R',τ',h1,h2,h3⟩:=yW (fv:=fv) Si es
 exact ⟨R',τ',h1,h2,Rep.jd (fun _ _ h=>h) (h3 τt fr) rp _⟩
theorem vB {fv:List Nat} {vs:List V} {ds:List D} (Si:SI X F R τ ρ σ H) (es:ak H H') (r:ck X.K (gP X F) R τ fv H H' vs ds) :
  ∃ R' τ',(∀ p,R p -> R' p) /\ SI X F R' τ' (ji fv ρ) σ H' /\ af (aG X.K H') (nd X.K R' (fun _=>False) (fun _=>none) H') [] 0 vs (ah aN ds):=by
 obtain ⟨τt,fr,rp⟩:=r
 obtain ⟨R',τ',h1,h2,h3⟩:=yW (fv:=fv) Si es
 exact ⟨R',τ',h1,h2,af.jd (fun _ _ h=>h) (h3 τt fr) rp _ _⟩
theorem ny {v:V} {d:D} {τ':Addr -> Option aI} (h:Rep (aG X.K H) (nd X.K R (fun _=>False) (fun _=>none) H) [] v d):ju X R τ' H v d:=⟨fun _=>none,fun _ _ h=>by simp at h,h⟩
open Classical in
theorem Hc {e:CE} {v:V} {d:D} (Si:SI X F R τ ρ σ H) (es:ak H H') (r:bJ X.K (gP X F) R τ (gO e) H H' v d) :
  ∃ R' τ',(∀ p,R p -> R' p) /\ SI X F R' τ' (keep e d ρ).2 σ H' /\ ju X R' τ' H' v (keep e d ρ).1:=by
 unfold keep
 by_cases ha:aH bV d = true
 ·rw [if_pos ha]
  obtain ⟨R',τ',h1,h2,h3⟩:=tM Si es r
  exact ⟨R',τ',h1,h2,ny h3⟩
 ·obtain ⟨τt,fr,rp⟩:=r
  rw [if_neg ha]
  refine ⟨R,τ,fun _ h=>h,Si.go es,fun p=>if H' p = none then none else τt p,fun p q hq=>?_,?_⟩
  ·dsimp only at hq
   split at hq
   ·cases hq
   ·rename_i hn
    have hf:=fr p q hq
    refine ⟨?_,fun hR=>Si.rh p hR hf,Si.same.free hf,hn⟩
    cases z:τ p with
    | none=>rfl
    | some k=>exact absurd hf (Si.th p k z)
  ·have QX:aH bV d = false:=by simpa using ha
   have st:∀ {k:aI} {v:V} {d:D},Rep (aG X.K H') (nd X.K R (kl (gP X F) τ (gO e)) τt H') k v d -> aH bV d = false -> Rep (aG X.K H') (nd X.K R (fun _=>False) (fun p=>if H' p = none then none else τt p) H') k v d:=by
    intro k v d h ha
    exact Rep.kG (P:=bV) (fun _ _ h=>h) (fun k p xs f hf h=>by
     cases f with
     | ow=>exact ⟨h.1,by show (if H' p = none then none else τt p) = _;rw [if_neg (h.1.ne)];exact h.2⟩
     | fz=>exact h
     | al=>cases hf
     | sc=>exact h) h ha
   exact st rp QX
open Classical in
def tK (X:Cx) (F:Addr -> Prop) (Φ:az) (c:CE):TE:=fun σ H Q=>∃ R τ ρ r,SI X F R τ ρ σ H /\ jX Φ c ρ = ok r /\ ∀ v H' R' τ',ak H H' -> (∀ p,R p -> R' p) -> SI X F R' τ' r.2 σ H' -> ju X R' τ' H' v r.1 -> Q v H'
end
end DI
end
section
namespace DI
open PySem PySem.Spec PyProof.Rows L2
section
variable {T T':jZ} {N N':i3}
theorem af.child {q:aI} (hT:∀ p xs,T p xs -> T' p xs) (hN:∀ c m p xs f,N (c ++ (m :: q)) p xs f -> N' (c ++ (m :: q)) p xs f):∀ {n:Nat} {vs:List V} {ds:List D},af T N q n vs ds -> af T' N' q n vs ds
 | _,_,_,.nil=>.nil
 | n,_,_,.cons h t=>.cons (Rep.imp (q:=n :: q) (q':=n :: q) hT (fun c p xs f h=>hN c n p xs f h) h) (af.child hT hN t)
theorem af.GS {q:aI} {v:V} {d:D}:∀ {n:Nat} {vs:List V} {ds:List D},af T N q n vs ds -> Rep T N ((n + ds.length) :: q) v d -> af T N q n (vs ++ [v]) (ds ++ [d])
 | n,_,_,.nil,h=>.cons (by simpa using h) .nil
 | n,_,_,.cons (ds:=ds) h t,h'=>.cons h (af.GS t (by
   have e:n + (ds.length + 1) = n + 1 + ds.length:=by omega
   rw [List.length_cons,e] at h';exact h'))
theorem af.setAt {q:aI} {v:V} {d:D}:∀ {n j:Nat} {vs:List V} {ds:List D},af T N q n vs ds -> Rep T N ((n + j) :: q) v d -> af T N q n (vs.set j v) (ds.set j d)
 | _,_,_,_,.nil,_=>by simp;exact .nil
 | _,0,_,_,.cons _ t,h'=>.cons (by simpa using h') t
 | n,j + 1,_,_,.cons h t,h'=>.cons h (af.setAt (j:=j) t (by
   have e:n + (j + 1) = n + 1 + j:=by omega
   rw [e] at h';exact h'))
end
section
variable {X:Cx} {F R:Addr -> Prop} {τ:Addr -> Option aI} {ρ:aA} {σ:St} {H:Hp}
theorem SI.own {i:Nat} {ds:List D} (Si:SI X F R τ ρ σ H) (hi:ρ[i]? = some (some (.lst .ow ds))):∃ p xs,σ[i]? = some (some (.ref p)) /\ H p = some (.lst xs) /\ xs.length = ds.length /\ τ p = some [i] /\ af (aG X.K H) (nd X.K R (fun _=>False) τ H) [i] 0 xs ds:=by
 obtain ⟨v,hv,rp⟩:=Si.rep i _ hi
 cases rp with
 | lst h r=>exact ⟨_,_,hv,h.1,r.length,h.2,r⟩
theorem Bv {K:PySem.W.Frag} {H:Hp} {p:Addr} {n:Nd} {o:HO} (hp:fM H p n) {a:Addr} {ys:List V} (h:aG K H a ys):aG K (upd H p o) a ys:=by
 obtain ⟨o0,LU,N_,LS⟩:=fM.some hp
 have nO:∀ a u,H a = some u -> u ≠ o0 -> a ≠ p:=fun a u e h z=>by subst z;rw [LU] at e;cases e;exact h rfl
 rcases h with (h | ⟨o',h⟩) | h
 ·exact .inl (.inl (by rw [aD (nO a _ h fun z=>N_ _ z.symm)];exact h))
 ·exact .inl (.inr ⟨o',by rw [aD (nO a _ h fun z=>LS _ _ z.symm)];exact h⟩)
 ·exact .inr h
theorem SI.Nb {i m:Nat} {v:V} {d d0 d1:D} {ds ds':List D} {p:Addr} {xs xs':List V} {n n':Nd} {o:HO} (Si:SI X F R τ ρ σ H) (hi:ρ[i]? = some (some d0)) (hv:σ[i]? = some (some (.ref p))) (hp:fM H p n) (ht:τ p = some [i])
  (rs:af (aG X.K H) (nd X.K R (fun _=>False) τ H) [i] 0 xs ds) (rk:ju X R τ H v d) (A4:fM (upd H p o) p n')
  (mk:∀ {N:i3},N [i] p n' .ow -> af (aG X.K (upd H p o)) N [i] 0 xs' ds' -> Rep (aG X.K (upd H p o)) N [i] (.ref p) d1)
  (hb:∀ {N:i3},af (aG X.K (upd H p o)) N [i] 0 xs ds -> Rep (aG X.K (upd H p o)) N (m :: [i]) v d -> af (aG X.K (upd H p o)) N [i] 0 xs' ds') :
  ∃ τ',SI X F R τ' (ρ.set i (some d1)) σ (upd H p o):=by
 obtain ⟨τt,hτ,rp⟩:=rk
 have hil:i < ρ.length:=by
  by_cases z:i < ρ.length
  ·exact z
  ·rw [List.getElem?_eq_none (by omega)] at hi;cases hi
 obtain ⟨o0,LU,N_,LS⟩:=fM.some hp
 have nR:∀ a,R a -> a ≠ p:=fun a ha e=>by subst e;rw [Si.rt _ ha] at ht;cases ht
 have nT:∀ a q,τt a = some q -> a ≠ p:=fun a q e z=>by subst z;rw [(hτ _ q e).1] at ht;cases ht
 have nO:∀ a u,H a = some u -> u ≠ o0 -> a ≠ p:=fun a u e h z=>by subst z;rw [LU] at e;cases e;exact h rfl
 have keep:∀ a,a ≠ p -> (upd H p o) a = H a:=fun a h=>aD h
 have Ka:∀ a ys,aG X.K H a ys -> aG X.K (upd H p o) a ys:=fun a ys h=>by
  rcases h with (h | ⟨o',h⟩) | h
  ·exact .inl (.inl (by rw [keep a (nO a _ h fun z=>N_ _ z.symm)];exact h))
  ·exact .inl (.inr ⟨o',by rw [keep a (nO a _ h fun z=>LS _ _ z.symm)];exact h⟩)
  ·exact .inr h
 have QZ:∀ a (z:Nd),a ≠ p -> fM H a z -> fM (upd H p o) a z:=fun a z ne h=>h.at fun u e=>by rw [keep a ne];exact e
 have hSc:∀ {τ1:Addr -> Option aI} q q' a (z:Nd),nd X.K R (fun _=>False) τ1 H q a z .sc -> ∀ τ2,nd X.K R (fun _=>False) τ2 (upd H p o) q' a z .sc:=fun q q' a z h τ2=>by
  obtain ⟨ys,rfl,h⟩:=h.GW
  exact h.elim (fun ⟨o',w⟩=>.inl ⟨o',by rw [keep a (nO a _ w fun z=>LS _ _ z.symm)];exact w⟩) .inr
 have hNd:∀ q a ys f,q ≠ [i] -> nd X.K R (fun _=>False) τ H q a ys f -> nd X.K R (fun _=>False) (fun a=>match τt a with | some q=>some (q ++ [m,i]) | none=>τ a) (upd H p o) q a ys f:=fun q a ys f hq h=>by
  cases f with
  | ow =>
   have ne:a ≠ p:=fun z=>by
    subst z
    have:=h.2.symm.trans ht
    exact hq (Option.some.inj this)
   refine ⟨QZ a ys ne h.1,?_⟩
   cases z:τt a with
   | none=>simp only [z];exact h.2
   | some k=>have:=(hτ a k z).1;rw [h.2] at this;cases this
  | fz=>exact ⟨QZ a ys (nR a h.2) h.1,h.2⟩
  | al=>exact h.2.elim
  | sc=>exact hSc q q a ys h _
 refine ⟨fun a=>match τt a with | some q=>some (q ++ [m,i]) | none=>τ a,⟨by simp [Si.len],fun j d' hj=>?_,fun a ha=>?_,fun a ha=>?_,Si.rf,fun a q hq=>?_,fun a q hq=>?_,?_⟩⟩
 ·by_cases j6:j = i
  ·subst j6
   rw [List.getElem?_set_self hil] at hj
   cases hj
   refine ⟨.ref p,hv,mk ⟨A4,?_⟩ (hb (af.child Ka (fun c n a ys f h=>hNd _ a ys f (fun z=>by
    have:=congrArg List.length z
    simp at this) h) rs) (rp.imp (q:=[]) (q':=[m,j]) Ka fun c a ys f h=>?_))⟩
   ·cases z:τt p with
    | none=>simp only [z];exact ht
    | some k=>exact absurd rfl (nT p k z)
   ·cases f with
    | ow =>
     rw [List.append_nil] at h
     exact ⟨QZ a ys (nT a _ h.2) h.1,by simp only [h.2]⟩
    | fz=>exact ⟨QZ a ys (nR a h.2) h.1,h.2⟩
    | al=>exact h.2.elim
    | sc=>exact hSc _ _ a ys h _
  ·rw [List.getElem?_set_ne (Ne.symm j6)] at hj
   obtain ⟨u,hu,ru⟩:=Si.rep j d' hj
   refine ⟨u,hu,ru.imp (q:=[j]) (q':=[j]) Ka fun c a ys f h=>hNd _ a ys f (fun z=>?_) h⟩
   have:=congrArg List.getLast? z
   simp at this
   exact j6 this
 ·cases z:τt a with
  | none=>simp only [z];exact Si.rt a ha
  | some k=>exact absurd ha (hτ a k z).2.1
 ·rw [keep a (nR a ha)];exact Si.rh a ha
 ·by_cases hap:a = p
  ·subst hap;rw [aK];simp
  ·rw [keep a hap]
   cases z:τt a with
   | none=>simp only [z] at hq;exact Si.th a q hq
   | some k=>exact (hτ a k z).2.2.2
 ·cases z:τt a with
  | none=>simp only [z] at hq;exact Si.t0 a q hq
  | some k=>exact (hτ a k z).2.2.1
 ·intro a u e
  have ne:a ≠ p:=fun z=>by subst z;rw [Si.t0 _ _ ht] at e;cases e
  rw [keep a ne];exact Si.same a u e
theorem SI.put {i m:Nat} {v:V} {d:D} {ds ds':List D} {g:List V -> List V} {p:Addr} {xs:List V} (Si:SI X F R τ ρ σ H) (hi:ρ[i]? = some (some (.lst .ow ds))) (hv:σ[i]? = some (some (.ref p))) (hp:H p = some (.lst xs)) (ht:τ p = some [i])
  (rs:af (aG X.K H) (nd X.K R (fun _=>False) τ H) [i] 0 xs ds) (rk:ju X R τ H v d)
  (hb:∀ {N:i3},af (aG X.K (upd H p (.lst (g xs)))) N [i] 0 xs ds -> Rep (aG X.K (upd H p (.lst (g xs)))) N (m :: [i]) v d -> af (aG X.K (upd H p (.lst (g xs)))) N [i] 0 (g xs) ds') :
  ∃ τ',SI X F R τ' (ρ.set i (some (.lst .ow ds'))) σ (upd H p (.lst (g xs))) :=
 Si.Nb (n:=.l xs) (n':=.l (g xs)) hi hv hp ht rs rk aK (fun h r=>.lst h r) hb
end
end DI
end
section
namespace DI
open PySem PySem.Spec PyProof.Rows L2
theorem ki {env:Env}:∀ (names:List (Str × NameKind)) (acc:List (Str × Addr)),(∀ x,(x,NameKind.free) ∈ names -> ∃ c,env.cells.lookup x = some c) ->
  ∃ cl,(forIn names acc (fun (y:Str × NameKind) (cs:List (Str × Addr))=>do
    let (name,kind):=y
    let mut cs:=cs
    if kind == .free then cs:=(name,<- cellOf env name) :: cs
    pure (ForInStep.yield cs)):Sem (List (Str × Addr))) = pure cl /\
   (∀ x c,cl.lookup x = some c -> acc.lookup x = some c \/ (env.cells.lookup x = some c /\ (x,NameKind.free) ∈ names)) /\ (∀ x,((x,NameKind.free) ∈ names \/ (∃ c,acc.lookup x = some c)) -> ∃ c,cl.lookup x = some c)
 | [],acc,_=>⟨acc,rfl,fun x c h=>.inl h,fun x h=>h.elim (fun h=>nomatch h) id⟩
 | (n,kd) :: names,acc,h=>by
  by_cases hk:kd = .free
  ·subst hk
   obtain ⟨c,hc⟩:=h n List.mem_cons_self
   obtain ⟨cl,e,h1,h2⟩:=ki names ((n,c) :: acc) (fun x hx=>h x (List.mem_cons_of_mem _ hx))
   refine ⟨cl,?_,fun x c' hx=>?_,fun x hx=>?_⟩
   ·rw [List.forIn_cons]
    have e0:cellOf env n = pure c:=by unfold cellOf;rw [hc]
    simp only [beq_self_eq_true,if_true,e0,pure_bind]
    exact e
   ·rcases h1 x c' hx with z | z
    ·by_cases N2:x = n
     ·subst N2
      simp at z;subst z
      exact .inr ⟨hc,List.mem_cons_self⟩
     ·rw [List.lookup_cons] at z
      have:(x == n) = false:=by simpa using N2
      rw [this] at z
      exact .inl z
    ·exact .inr ⟨z.1,List.mem_cons_of_mem _ z.2⟩
   ·refine h2 x ?_
    rcases hx with hx | ⟨c',hx⟩
    ·rcases List.mem_cons.mp hx with z | z
     ·cases z;exact .inr ⟨c,by simp⟩
     ·exact .inl z
    ·by_cases N2:x = n
     ·subst N2;exact .inr ⟨c,by simp⟩
     ·refine .inr ⟨c',?_⟩
      rw [List.lookup_cons]
      have:(x == n) = false:=by simpa using N2
      rw [this];exact hx
  ·obtain ⟨cl,e,h1,h2⟩:=ki names acc (fun x hx=>h x (List.mem_cons_of_mem _ hx))
   have hb:(kd == NameKind.free) = false:=by simpa using hk
   refine ⟨cl,?_,fun x c' hx=>(h1 x c' hx).imp id fun z=>⟨z.1,List.mem_cons_of_mem _ z.2⟩,fun x hx=>h2 x ?_⟩
   ·rw [List.forIn_cons]
    simp only [hb,Bool.false_eq_true,if_false,pure_bind]
    exact e
   ·rcases hx with hx | hx
    ·rcases List.mem_cons.mp hx with z | z
     ·cases z;exact absurd rfl hk
     ·exact .inl z
    ·exact .inr hx
theorem xC {env:Env} {sc:Scope} (h:∀ x,(x,NameKind.free) ∈ sc.names -> ∃ c,env.cells.lookup x = some c) :
  ∃ cl,closureFor sc env = pure cl /\ (∀ x c,cl.lookup x = some c -> env.cells.lookup x = some c) /\ (∀ x,(x,NameKind.free) ∈ sc.names -> ∃ c,cl.lookup x = some c):=by
 obtain ⟨cl,e,h1,h2⟩:=ki (env:=env) sc.names [] h
 refine ⟨cl,?_,fun x c hx=>(h1 x c hx).elim (fun z=>by simp at z) (·.1),fun x hx=>h2 x (.inl hx)⟩
 unfold closureFor
 simp only [bind_pure]
 exact e
theorem tQ {prog:Program} {w:World} {A:Around} {R:Result -> Shared -> Prop} {s:Shared} {elt target iter:Expr} {ifs:List Expr} {scope:Scope} {pos:Pos} {it acc:Value} {env:Env} (I:Nat -> Shared -> Prop)
  (turn:∀ n s,I n s -> wpAny (model prog w) A (pyNext it) (fun r s₁=>match r with
   | none=>R (.ok .next) s₁
   | some v=>wpAny (model prog w) A (letOwnedTupleGo target it v) (fun _ s₁=>wpAny (model prog w) A (assign target env v) (fun _ s₂ =>
     wpAny (model prog w) A (forIn ifs true fun c r=>if r = true then do let ok <- isTrue c env (eval c env);pure (ForInStep.yield ok) else pure (ForInStep.yield r)) (fun ok s₃ =>
      if ok = true then wpAny (model prog w) A (eval elt env) (fun x s₄ =>
       wpAny (model prog w) A (call (.builtin "list.append") [acc,x]) (fun _ s₅=>∃ m,m < n /\ I m s₅) (fun _ _=>False) s₄) (fun _ _=>False) s₃
      else ∃ m,m < n /\ I m s₃) (fun _ _=>False) s₂) (fun _ _=>False) s₁) (fun _ _=>False) s₁) (fun _ _=>False) s)
  (n:Nat) (h:I n s) :
  codeAny (model prog w) A (.compLoop (.ListComp elt [⟨target,iter,ifs,0⟩] scope pos) 0 it acc env) R s:=by
 refine codeAny_loop rfl I (fun n s hI=>?_) n h
 show wpAny _ A ((compTurn (.ListComp elt [⟨target,iter,ifs,0⟩] scope pos) 0 it acc env).onRaise (fun x=>do noteFrame x env;theTreesLotGoes x)) _ _ s
 refine wpAny_noted ?_
 rw [compTurn_list]
 refine wpAny_bind (wpAny_standAt (wpAny_bind (wpAny_mono (turn n s hI) (fun r s₁ h₁=>?_) fun _ _ h'=>h'.elim)))
 cases r with
 | none=>exact wpAny_pure h₁
 | some v =>
  refine wpAny_bind (wpAny_mono h₁ (fun _ s₂ h₂=>?_) fun _ _ h'=>h'.elim)
  refine wpAny_bind (wpAny_mono h₂ (fun _ s₂ h₂=>wpAny_bind (wpAny_mono h₂ (fun ok s₃ h₃=>?_) fun _ _ h'=>h'.elim)) fun _ _ h'=>h'.elim)
  cases ok with
  | false=>exact wpAny_pure ⟨rfl,h₃⟩
  | true =>
   exact wpAny_bind (wpAny_bind (wpAny_mono h₃ (fun x s₄ h₄=>wpAny_bind (wpAny_mono h₄ (fun _ s₅ h₅=>wpAny_pure (wpAny_pure ⟨rfl,h₅⟩)) fun _ _ h'=>h'.elim)) fun _ _ h'=>h'.elim))
def eF (X:Cx) (N':List Str) (scope:Scope) (cl:List (Str × Addr)) (C:Addr) (s₀:Shared) (H₀:Hp) (fp:List Addr):Cx :=
 { X with N:=N',s₀:=s₀,H₀:=H₀,env:=compEnvC scope cl C X.env,outer:=X.stack,stack:=X.stack,ex:=fp,fn:=fun _=>false,pn:=[],xe:=fun _ _=>False }
theorem fF {env:Env}:∀ {names:List (Str × NameKind)} {x:Str} {kd:NameKind},(names.map fun (n,k)=>if (k == NameKind.free && env.scope.kind == .function && env.kindOf n == some .cell) then (n,NameKind.cell) else (n,k)).lookup x = some kd ->
  names.lookup x = some kd \/ (kd = .cell /\ names.lookup x = some .free)
 | [],_,_,h=>by simp at h
 | (n,k) :: r,x,kd,h=>by
  rw [List.map_cons] at h
  cases hx:x == n with
  | true =>
   by_cases hc:(k == NameKind.free && env.scope.kind == .function && env.kindOf n == some .cell) = true
   ·simp only [hc,if_true,List.lookup_cons,hx] at h
    cases h
    simp only [Bool.and_eq_true,beq_iff_eq] at hc
    refine .inr ⟨rfl,?_⟩
    rw [List.lookup_cons,hx,hc.1.1]
   ·have CL:(k == NameKind.free && env.scope.kind == .function && env.kindOf n == some .cell) = false:=by simpa using hc
    simp only [CL,Bool.false_eq_true,if_false,List.lookup_cons,hx] at h
    cases h
    exact .inl (by rw [List.lookup_cons,hx])
  | false =>
   have:List.lookup x (r.map fun (n,k)=>if (k == NameKind.free && env.scope.kind == .function && env.kindOf n == some .cell) then (n,NameKind.cell) else (n,k)) = some kd:=by
    by_cases hc:(k == NameKind.free && env.scope.kind == .function && env.kindOf n == some .cell) = true
    ·simp only [hc,if_true,List.lookup_cons,hx] at h;exact h
    ·have CL:(k == NameKind.free && env.scope.kind == .function && env.kindOf n == some .cell) = false:=by simpa using hc
     simp only [CL,Bool.false_eq_true,if_false,List.lookup_cons,hx] at h;exact h
   rw [List.lookup_cons,hx]
   exact fF this
theorem dj {env:Env}:∀ {names:List (Str × NameKind)} {x:Str},names.lookup x = some .free ->
  (names.map fun (n,k)=>if (k == NameKind.free && env.scope.kind == .function && env.kindOf n == some .cell) then (n,NameKind.cell) else (n,k)).lookup x = some .free \/
  (names.map fun (n,k)=>if (k == NameKind.free && env.scope.kind == .function && env.kindOf n == some .cell) then (n,NameKind.cell) else (n,k)).lookup x = some .cell
 | [],_,h=>by simp at h
 | (n,k) :: r,x,h=>by
  rw [List.map_cons]
  cases hx:x == n with
  | true =>
   rw [List.lookup_cons,hx] at h
   cases h
   by_cases hc:(NameKind.free == NameKind.free && env.scope.kind == .function && env.kindOf n == some .cell) = true
   ·simp only [hc,if_true,List.lookup_cons,hx];exact .inr trivial
   ·have CL:(NameKind.free == NameKind.free && env.scope.kind == .function && env.kindOf n == some .cell) = false:=by simpa using hc
    simp only [CL,Bool.false_eq_true,if_false,List.lookup_cons,hx];exact .inl trivial
  | false =>
   rw [List.lookup_cons,hx] at h
   by_cases hc:(k == NameKind.free && env.scope.kind == .function && env.kindOf n == some .cell) = true
   ·simp only [hc,if_true,List.lookup_cons,hx];exact dj h
   ·have CL:(k == NameKind.free && env.scope.kind == .function && env.kindOf n == some .cell) = false:=by simpa using hc
    simp only [CL,Bool.false_eq_true,if_false,List.lookup_cons,hx];exact dj h
theorem dR {names:List (Str × NameKind)} {x:Str} {kd:NameKind} (h:names.lookup x = some kd):(x,kd) ∈ names:=PySem.mem_of_lookup h
end DI
end
section
namespace DI
open PySem PySem.Spec PyProof.Rows L2
structure kF (S:Sx) (n:Nat) (t:Tg) (caps:List Nat) (target:Expr) (sc:Scope):Prop where
 kind:sc.kind = .function
 Ca:∀ y ∈ sc.names,y.2 ≠ .cell
 loc:∀ y ∈ sc.names,y.2 = .local -> sc.names.lookup y.1 = some .local
 free:∀ x,(x,NameKind.free) ∈ sc.names -> S.sc.names.lookup x = some .cell \/ S.sc.names.lookup x = some .free
 n:n = (bL target).length
 tl:∀ x ∈ bL target,sc.names.lookup x = some .local
 nd:(bL target ++ gk S caps).Nodup
 eu:∀ i ∈ caps,∃ x,S.N[i]? = some x /\ sc.names.lookup x = some .free
 tg:(∃ x p,t = .nm 0 /\ target = .Name x p) \/ (∃ es k p,t = .tp (List.range es.length) /\ target = .Tuple es k p /\ es.all isNm = true)
theorem rV {S:Sx} {n:Nat} {t:Tg} {caps:List Nat} {target:Expr} {sc:Scope} (h:t4 S n t caps target sc = true):kF S n t caps target sc:=by
 unfold t4 at h
 simp only [Bool.and_eq_true,decide_eq_true_eq,List.all_eq_true,Bool.or_eq_true] at h
 obtain ⟨⟨⟨⟨⟨⟨h1,h2⟩,h3⟩,h4⟩,h5⟩,h6⟩,h7⟩:=h
 refine ⟨h1,fun y hy=>(h2 y hy).1.1,fun y hy hk=>?_,fun x hx=>?_,h3,h4,h5,fun i hi=>?_,?_⟩
 ·rcases (h2 y hy).1.2 with z | z
  ·exact absurd hk z
  ·exact z
 ·rcases (h2 _ hx).2 with (z | z) | z
  ·exact absurd rfl z
  ·exact .inl z
  ·exact .inr z
 ·have:=h6 i hi
  split at this
  ·rename_i x e;exact ⟨x,e,of_decide_eq_true this⟩
  ·cases this
 ·cases t with
  | nm i =>
   obtain ⟨g1,g2⟩:=au h7
   obtain rfl:i = 0:=of_decide_eq_true g1
   cases target <;> first | (cases g2;done) | exact .inl ⟨_,_,rfl,rfl⟩
  | tp is =>
   obtain ⟨es,hv,g⟩:=aS h7
   obtain ⟨k,p,rfl⟩:=kI hv
   obtain ⟨g1,g2⟩:=au g
   obtain rfl:is = _:=of_decide_eq_true g1
   exact .inr ⟨es,k,p,rfl,rfl,g2⟩
theorem vX {S:Sx}:∀ {caps:List Nat},(∀ i ∈ caps,∃ x,S.N[i]? = some x) -> (gk S caps).length = caps.length /\ ∀ (j i:Nat),caps[j]? = some i -> (gk S caps)[j]? = S.N[i]?
 | [],_=>⟨rfl,fun j i h=>by simp at h⟩
 | i :: caps,h=>by
  obtain ⟨x,hx⟩:=h i List.mem_cons_self
  obtain ⟨h1,h2⟩:=vX (caps:=caps) fun j hj=>h j (List.mem_cons_of_mem _ hj)
  have e:gk S (i :: caps) = x :: gk S caps:=by unfold gk;rw [List.filterMap_cons,hx]
  rw [e]
  refine ⟨by simp [h1],fun j k hj=>?_⟩
  cases j with
  | zero=>simp at hj;subst hj;simp [hx]
  | succ j=>simp at hj ⊢;exact h2 j k hj
section
variable {X:Cx} {S:Sx} {k:Nat} {Φ:az} {pins:List (Addr × Obj)} {σ:St} {H2:Hp} {s₂:Shared}
def qm (n:Nat) (caps:List Nat) (σ:St):St:=List.replicate n none ++ caps.map fun i=>σ[i]?.getD none
def eV (aj:List Value) (n:Nat):Obj:={ cls:=.type "list",data:=.seq aj.toArray n }
theorem Gf {n:Nat} {t:Tg} {caps:List Nat} {target:Expr} {sc:Scope} {cl:List (Str × Addr)} {fp:List Addr} (L:Lk X S k Φ) (co:kF S n t caps target sc) (I2:Inv X pins σ H2 s₂)
  (mX:∀ x c,cl.lookup x = some c -> X.env.cells.lookup x = some c) (xc:∀ x,(x,NameKind.free) ∈ sc.names -> ∃ c,cl.lookup x = some c) (Fx:∀ b ∈ fp,qa X pins H2 b) (J1:∀ b ∈ fp,b < s₂.heap.objs.size) :
  (eF X (bL target ++ gk S caps) sc cl (s₂.heap.objs.size + 1) s₂ H2 fp).Ok:=by
 have Wi:=I2.lK
 refine ⟨I2.ok.mod,co.kind,I2.ok.glob,I2.ok.blt,Nat.le_succ _,fun x y c h1 h2=>I2.ok.inj x y c (mX x c h1) (mX y c h2),fun x hx=>?_,(fun _ _ z=>by cases z),I2.ok.hd,I2.ok.frames,.inl rfl,fun b hb=>⟨?_,fun x c e=>(Fx b hb).2.2.2.2.1 x c (mX x c e)⟩,I2.bs,Nat.le_trans I2.ok.Hx I2.sz,fun b o e hb=>?_,fun b hb z=>?_,I2.stack,I2.x6⟩
 ·have JR:(relabel sc X.env).names.lookup x = some .cell \/ (relabel sc X.env).names.lookup x = some .free:=hx
  rcases JR with JR | JR
  ·rcases fF JR with z | z
   ·exact absurd rfl (co.Ca _ (dR z))
   ·exact xc x (dR z.2)
  ·rcases fF JR with z | z
   ·exact xc x (dR z)
   ·cases z.1
 ·exact Nat.ne_of_lt (Nat.lt_succ_of_lt (J1 b hb))
 ·rcases (Fx b hb).2.2.2.1 with z | z
  ·exact I2.ok.B_ b o e z
  ·exact absurd (Nat.lt_of_lt_of_le (Heap.lt_size e) (Nat.le_trans I2.ok.Hx z)) (Nat.lt_irrefl _)
 ·rcases List.mem_cons.mp (Wi b z) with w | w
  ·exact (Fx b hb).2.1 w
  ·exact (Fx b hb).2.2.1 w
theorem Cv {n:Nat} {t:Tg} {caps:List Nat} {target:Expr} {sc:Scope} {cl:List (Str × Addr)} {fp:List Addr} {h₁:Heap} {tk:Nat} (L:Lk X S k Φ) (co:kF S n t caps target sc) (I2:Inv X pins σ H2 s₂)
  (mX:∀ x c,cl.lookup x = some c -> X.env.cells.lookup x = some c) (xc:∀ x,(x,NameKind.free) ∈ sc.names -> ∃ c,cl.lookup x = some c) (Fx:∀ b ∈ fp,qa X pins H2 b) (J1:∀ b ∈ fp,b < s₂.heap.objs.size)
  (A3:h₁.Ns (s₂.heap.objs.size + 1) fun _=>none) (old:∀ b o,s₂.heap.get? b = some o -> h₁.get? b = some o) (fg:h₁.get? s₂.heap.objs.size = some (eV [] 0)) :
  Inv (eF X (bL target ++ gk S caps) sc cl (s₂.heap.objs.size + 1) s₂ H2 fp) [(s₂.heap.objs.size,eV [] 0)] (qm n caps σ) H2 { s₂ with heap:=h₁,toks:=tk }:=by
 have o6:∀ i ∈ caps,∃ x,S.N[i]? = some x:=fun i hi=>let ⟨x,e,_⟩:=co.eu i hi;⟨x,e⟩
 obtain ⟨cl1,cl2⟩:=vX o6
 refine ⟨Gf L co I2 mX xc Fx J1,rfl,I2.bare,Un.kept old,⟨_,A3,fun i x v e1 e2 e3=>?_⟩,fun x c e=>?_,I2.dq.fresh (Nat.le_succ _),fun x c e=>I2.j7 x c (mX x c e),fun p hp=>?_,I2.dq.kept old,?_⟩
 ·unfold qm at e2
  have hi:n <= i:=by
   by_cases hi:i < n
   ·rw [List.getElem?_append_left (by simpa using hi),List.getElem?_replicate,if_pos hi] at e2;cases e2
   ·omega
  have L_:(bL target ++ gk S caps)[i]? = some x:=e1
  rw [List.getElem?_append_right (by rw [<- co.n];exact hi),<- co.n] at L_
  rw [List.getElem?_append_right (by simpa using hi),List.length_replicate,List.getElem?_map] at e2
  cases hc:caps[i - n]? with
  | none=>rw [hc] at e2;cases e2
  | some ci =>
   rw [hc] at e2
   rw [cl2 _ _ hc] at L_
   obtain ⟨x',OZ,QU⟩:=co.eu ci (List.mem_of_getElem? hc)
   rw [OZ] at L_;cases L_
   have e2':σ[ci]? = some (some v):=by
    have O3:σ[ci]?.getD none = some v:=Option.some.inj e2
    cases q:σ[ci]? with
    | none=>rw [q] at O3;cases O3
    | some o=>rw [q] at O3;simp at O3;rw [O3]
   have We:Lp X.env.scope x:=by
    unfold Lp;rw [L.sc]
    rcases co.free x (dR QU) with z | z
    ·exact .inr (.inl z)
    ·exact .inr (.inr z)
   obtain ⟨m,hn,hl⟩:=I2.loc
   obtain ⟨u,r,lk⟩:=hl ci x v (by rw [L.N];exact OZ) e2' We
   refine ⟨u,r,.inr ⟨?_,?_⟩⟩
   ·rcases dj (env:=X.env) QU with z | z
    ·exact .inr z
    ·exact .inl z
   ·have hcx:∃ c,X.env.cells.lookup x = some c /\ s₂.heap.IsCell c (some u):=by
     rcases lk with ⟨z,_⟩ | ⟨_,z⟩
     ·have z':X.env.scope.names.lookup x = some .local:=z
      rw [L.sc] at z'
      rcases co.free x (dR QU) with w | w <;> (rw [w] at z';cases z')
     ·exact z
    obtain ⟨c,ec,o,ho,hd⟩:=hcx
    obtain ⟨c',ec'⟩:=xc x (dR QU)
    have:=mX x c' ec'
    rw [ec] at this;cases this
    exact ⟨c,ec',o,old _ _ ho,hd⟩
 ·obtain ⟨v,o,ho,hd⟩:=I2.cell x c (mX x c e)
  exact ⟨v,o,old _ _ ho,hd⟩
 ·have xb:p = (s₂.heap.objs.size,eV [] 0):=by simpa [eF] using hp
  subst xb
  refine ⟨fg,I2.dq.fresh (Nat.le_refl _),Nat.ne_of_lt (Nat.lt_succ_self _),fun z=>?_,fun v z=>by cases z⟩
  rcases List.mem_cons.mp (I2.lK _ z) with w | w
  ·exact absurd w (Nat.ne_of_gt I2.lt)
  ·exact I2.Ji (Nat.le_refl _) w
 ·show (qm n caps σ).length = (bL target ++ gk S caps).length
  unfold qm
  rw [List.length_append,List.length_append,List.length_replicate,List.length_map,cl1,co.n]
end
end DI
end
section
namespace DI
open PySem PySem.Spec PyProof.Rows L2
theorem af.snoc {T:jZ} {N:i3} {k:aI}:∀ {n:Nat} {vs:List V} {ds:List D} {v:V} {d:D},af T N k n vs ds -> Rep T N ((n + ds.length) :: k) v d -> af T N k n (vs ++ [v]) (ds ++ [d])
 | n,_,_,_,_,.nil,h=>.cons h .nil
 | n,_,_,_,_,.cons (ds:=ds) h t,r=>.cons h (af.snoc t (by
  have e:n + (ds.length + 1) = n + 1 + ds.length:=by omega
  rw [List.length_cons,e] at r;exact r))
open Classical in
theorem ck.snoc {K:PySem.W.Frag} {G R:Addr -> Prop} {τ:Addr -> Option aI} {fv:List Nat} {H H1 H2:Hp} {v:V} {d:D} {vs:List V} {ds:List D} (e1:ak H H1) (e2:ak H1 H2) (h:ck K G R τ fv H H1 vs ds) (t:bJ K G R τ fv H1 H2 v d) :
  ck K G R τ fv H H2 (vs ++ [v]) (ds ++ [d]):=by
 obtain ⟨τ1,f1,h1⟩:=h
 obtain ⟨τ2,f2,h2⟩:=t
 refine ⟨fun p=>if H1 p = none then (τ2 p).map (· ++ [ds.length]) else τ1 p,fun p q hq=>?_,af.snoc (h1.imp (q:=[]) (q':=[]) (fun _ _ h=>aG.same e2 h) fun c p xs f h=>?_) ((Nat.zero_add ds.length).symm ▸ h2.imp (q:=[]) (q':=[ds.length]) (fun _ _ h=>h) fun c p xs f h=>?_)⟩
 ·dsimp only at hq
  by_cases hp:H1 p = none
  ·exact e1.free hp
  ·rw [if_neg hp] at hq;exact f1 p q hq
 ·have h':=nd.same e2 h
  cases f with
  | ow =>
   refine ⟨h'.1,?_⟩
   show (if H1 p = none then (τ2 p).map (· ++ [ds.length]) else τ1 p) = _
   rw [if_neg (h.1.ne)];exact h.2
  | fz=>exact h'
  | al=>exact h'
  | sc=>exact h'
 ·cases f with
  | ow =>
   refine ⟨h.1,?_⟩
   show (if H1 p = none then (τ2 p).map (· ++ [ds.length]) else τ1 p) = _
   rw [if_pos (f2 p _ h.2),h.2];simp
  | fz=>exact h
  | al=>exact h
  | sc=>exact h
structure Yl (K:PySem.W.Frag) (J:It) (R:Addr -> Prop) (H1:Hp) (items:List D):Prop where
 go:∀ i H',ak H1 H' -> i < items.length -> J.go i H'
 wc:∀ i H' x nj,ak H1 H' -> i < items.length -> J.wc i H' x nj -> ak H' nj /\ ∃ d,items[i]? = some d /\ Rep (aG K nj) (nd K R (fun _=>False) (fun _=>none) nj) [] x d
 stop:∀ i H',ak H1 H' -> items.length <= i -> J.stop i H'
section
variable {X:Cx} {S:Sx} {k:Nat} {F:Addr -> Prop} {Φ:az}
def lM (X:Cx) (F:Addr -> Prop) (τ:Addr -> Option aI) (fv:List Nat) (H2:Hp) (p:Addr):Prop:=H2 p ≠ none /\ kl (gP X F) τ fv p
theorem wG {R:Addr -> Prop} {τ τt:Addr -> Option aI} {ρ:aA} {σ:St} {H H2:Hp} {fv fv':List Nat} (Si:SI X F R τ ρ σ H) (fr:∀ p q,τt p = some q -> H p = none) (hs:∀ i ∈ fv,i ∈ fv') (kp kq:aI) (p:Addr) (xs:Nd) (f:Fl)
  (h:nd X.K R (kl (gP X F) τ fv) τt H2 kp p xs f):nd X.K (lM X F τ fv' H2) (fun _=>False) (fun _=>none) H2 kq p xs (aN f):=by
 cases f with
 | ow=>exact ⟨h.1,h.1.ne,.inr (Si.same.free (fr p _ h.2)),fun c i e=>absurd (fr p _ h.2) (Si.th p _ e)⟩
 | fz=>exact ⟨h.1,h.1.ne,Si.rf p h.2,fun c i e=>by rw [Si.rt p h.2] at e;cases e⟩
 | al=>exact ⟨h.1,h.1.ne,h.2.mono hs⟩
 | sc=>exact h
theorem DW {a:Addr} {xs:List V} {items:List D} {R:Addr -> Prop} {H1:Hp} {q:aI} (hl:dY X.K H1 a xs) (rs:af (aG X.K H1) (nd X.K R (fun _=>False) (fun _=>none) H1) q 0 xs items):Yl X.K (Mi X.K a) R H1 items where
 go:=fun i H' e hi=>⟨xs,xs[i]'(by rw [rs.length];exact hi),e.seq hl,List.getElem?_eq_getElem _⟩
 wc:=fun i H' x nj e hi y=>by
  obtain ⟨rfl,y⟩:=y
  obtain ⟨d,hd,rd⟩:=rs.Ay (y xs (e.seq hl))
  refine ⟨ak.refl _,d,hd,?_⟩
  have:=Rep.jd (g:=id) (fun _ _ h=>h) nd.pv rd []
  rw [eL] at this
  exact this.imp (fun _ _ h=>aG.same e h) fun _ _ _ _ h=>nd.same e h
 stop:=fun i H' e hi=>⟨xs,e.seq hl,by rw [rs.length];exact hi⟩
theorem HH {a:Addr} {xs:List V} {items:List D} {R:Addr -> Prop} {H1:Hp} {q:aI} (hl:aG X.K H1 a xs) (rs:af (aG X.K H1) (nd X.K R (fun _=>False) (fun _=>none) H1) q 0 xs items):Yl X.K (Mh X.K a) R H1 items where
 go:=fun i H' e hi=>⟨xs,xs[i]'(by rw [rs.length];exact hi),aG.same e hl,List.getElem?_eq_getElem _⟩
 wc:=fun i H' x nj e hi y=>by
  obtain ⟨rfl,y⟩:=y
  obtain ⟨d,hd,rd⟩:=rs.Ay (y xs (aG.same e hl))
  refine ⟨ak.refl _,d,hd,?_⟩
  have:=Rep.jd (g:=id) (fun _ _ h=>h) nd.pv rd []
  rw [eL] at this
  exact this.imp (fun _ _ h=>aG.same e h) fun _ _ _ _ h=>nd.same e h
 stop:=fun i H' e hi=>⟨xs,aG.same e hl,by rw [rs.length];exact hi⟩
theorem HI {lo:Int} {n:Nat} {R:Addr -> Prop} {H1:Hp}:Yl X.K (AZ lo n) R H1 ((List.range n).map fun (k:Nat)=>D.int (lo + (k:Int))) where
 go:=fun i H' e hi=>by simpa [AZ] using hi
 wc:=fun i H' x nj e hi y=>by
  obtain ⟨rfl,rfl⟩:=y
  have nF:i < n:=by simpa using hi
  exact ⟨ak.refl _,.int (lo + i),by rw [List.getElem?_map,List.getElem?_range nF];rfl,.int _⟩
 stop:=fun i H' e hi=>by simpa [AZ] using hi
theorem BB {n:Nat} {t:Tg} {caps fv:List Nat} {target:Expr} {sc:Scope} {cl:List (Str × Addr)} {fp:List Addr} {R:Addr -> Prop} {τ:Addr -> Option aI} {ρ:aA} {σ:St} {H2:Hp} {s₂:Shared} {C:Addr} (Si:SI X F R τ ρ σ H2) (hs:∀ i ∈ caps,i ∈ fv) :
  SI (eF X (bL target ++ gk S caps) sc cl C s₂ H2 fp) (kl (gP X F) τ fv) (lM X F τ fv H2) (fun _=>none) (aT n caps ρ) (qm n caps σ) H2:=by
 refine ⟨by simp [aT,qm],fun i d hi=>?_,fun _ _=>rfl,fun p h=>h.1,fun p h=>.inl h.2,fun _ _ h=>by simp at h,fun _ _ h=>by simp at h,ak.refl _⟩
 unfold aT at hi
 have hn:n <= i:=by
  by_cases hn:i < n
  ·rw [List.getElem?_append_left (by simpa using hn),List.getElem?_replicate,if_pos hn] at hi;cases hi
  ·omega
 rw [List.getElem?_append_right (by simpa using hn),List.length_replicate,List.getElem?_map] at hi
 cases hc:caps[i - n]? with
 | none=>rw [hc] at hi;cases hi
 | some ci =>
  rw [hc] at hi
  have nF:(ρ[ci]?.getD none).map (aC aN) = some d:=Option.some.inj hi
  have hr:∃ d0,ρ[ci]? = some (some d0) /\ aC aN d0 = d:=by
   cases q:ρ[ci]? with
   | none=>rw [q] at nF;cases nF
   | some o =>
    cases o with
    | none=>rw [q] at nF;cases nF
    | some d0=>rw [q] at nF;exact ⟨d0,rfl,Option.some.inj nF⟩
  obtain ⟨d0,h0,rfl⟩:=hr
  obtain ⟨v,hv,rv⟩:=Si.rep ci d0 h0
  refine ⟨v,?_,Rep.jd (fun _ _ h=>h) (fun kp kq p xs f h=>?_) ((rv.imp (q:=[ci]) (q':=[ci]) (N':=fun q p xs f=>nd X.K R (fun _=>False) τ H2 q p xs f /\ (f = .ow -> ∃ c,q = c ++ [ci])) (fun _ _ h=>h) fun c p xs f h=>⟨h,fun _=>⟨c,rfl⟩⟩)) [i]⟩
  ·unfold qm
   rw [List.getElem?_append_right (by simpa using hn),List.length_replicate,List.getElem?_map,hc]
   simp [hv]
  ·obtain ⟨h,hq⟩:=h
   cases f with
   | ow =>
    obtain ⟨c,rfl⟩:=hq rfl
    refine ⟨h.1,h.1.ne,.inr (Si.t0 p _ h.2),fun c' i' e=>?_⟩
    rw [h.2] at e
    have:=congrArg List.getLast? (Option.some.inj e)
    simp at this;subst this
    exact hs _ (List.mem_of_getElem? hc)
   | fz=>exact ⟨h.1,h.1.ne,Si.rf p h.2,fun c i e=>by rw [Si.rt p h.2] at e;cases e⟩
   | al=>exact h.2.elim
   | sc=>exact h
theorem Cc:∀ {es:List Expr},es.all isNm = true -> ∃ xs:List (Str × Pos),es = xs.map fun x=>Expr.Name x.1 x.2
 | [],_=>⟨[],rfl⟩
 | e :: es,h=>by
  rw [List.all_cons,Bool.and_eq_true] at h
  obtain ⟨xs,rfl⟩:=Cc h.2
  cases e <;> simp [isNm] at h
  exact ⟨(_,_) :: xs,rfl⟩
theorem wA (xs:List (Str × Pos)):(xs.map fun x=>Expr.Name x.1 x.2).filterMap (fun e=>match e with | .Name x _=>some x | _=>none) = xs.map (·.1):=by
 induction xs with
 | nil=>rfl
 | cons x xs ih=>simp [ih]
def CZ (i:Nat):Nat -> Gv
 | 0=>Ki
 | n + 1=>C0 (rP i) (CZ (i + 1) n)
theorem yp {X:Cx} (hN:X.N.Nodup):∀ (xs:List (Str × Pos)) (i:Nat),(∀ (j:Nat) x,xs[j]? = some x -> X.N[i + j]? = some x.1 /\ X.env.scope.names.lookup x.1 = some .local) ->
  Mg X (xs.map fun x=>Expr.Name x.1 x.2) (CZ i xs.length) /\ (assignEach (xs.map fun x=>Expr.Name x.1 x.2) X.env).length = xs.length /\ (assignEach (xs.map fun x=>Expr.Name x.1 x.2) X.env).findIdx? (·.1) = none
 | [],_,_=>⟨yo,rfl,rfl⟩
 | x :: xs,i,h=>by
  obtain ⟨h1,h2,h3⟩:=yp hN xs (i + 1) fun j y hy=>by
   have:=h (j + 1) y (by simpa using hy)
   rwa [show i + (j + 1) = i + 1 + j by omega] at this
  obtain ⟨g1,g2⟩:=h 0 x rfl
  refine ⟨uZ (sO hN g1 (.inl g2) (.inr g2)) h1 rfl,?_,?_⟩
  ·show (_ :: assignEach _ X.env).length = _
   rw [List.length_cons,h2];rfl
  ·show (((false,assign (.Name x.1 x.2) X.env) :: assignEach (xs.map fun x=>Expr.Name x.1 x.2) X.env)).findIdx? (·.1) = none
   rw [List.findIdx?_cons]
   simp [h3]
end
end DI
end
section
namespace DI
open PySem PySem.Spec PyProof.Rows L2
section
variable {X:Cx} {F R:Addr -> Prop} {τ:Addr -> Option aI} {ρ:aA} {σ σ':St} {H:Hp}
theorem SI.MX {i:Nat} {v:V} {d:D} (Si:SI X F R τ ρ σ H) (rp:Rep (aG X.K H) (nd X.K R (fun _=>False) (fun _=>none) H) [] v d) (hi:i < ρ.length):SI X F R τ (ρ.set i (some d)) (σ.set i (some v)) H:=by
 refine ⟨by simp [Si.len],fun j d' hj=>?_,Si.rt,Si.rh,Si.rf,Si.th,Si.t0,Si.same⟩
 by_cases j6:j = i
 ·subst j6
  rw [List.getElem?_set_self hi] at hj
  cases hj
  refine ⟨v,List.getElem?_set_self (by rw [<- Si.len];exact hi),rp.imp (q':=[j]) (fun _ _ h=>h) fun c p xs f h=>?_⟩
  cases f with
  | ow=>exact nomatch h.2
  | fz=>exact h
  | al=>exact h
  | sc=>exact h
 ·rw [List.getElem?_set_ne (Ne.symm j6)] at hj
  obtain ⟨w,hw,qe⟩:=Si.rep j d' hj
  exact ⟨w,by rw [List.getElem?_set_ne (Ne.symm j6)];exact hw,qe⟩
theorem SI.sig (Si:SI X F R τ ρ σ H) (hl:σ'.length = σ.length) (h:∀ (i:Nat) d,ρ[i]? = some (some d) -> σ'[i]? = σ[i]?):SI X F R τ ρ σ' H :=
 ⟨by rw [hl];exact Si.len,fun i d hi=>let ⟨v,hv,r⟩:=Si.rep i d hi;⟨v,by rw [h i d hi];exact hv,r⟩,Si.rt,Si.rh,Si.rf,Si.th,Si.t0,Si.same⟩
theorem om {Q:St -> Hp -> Prop} (σ0:St) (hi:Nat):∀ {m i:Nat} {vs:List V} {ds:List D} {kp:aI} {q:Nat} {σ:St} {ρ ρ':aA},i + m = hi -> af (aG X.K H) (nd X.K R (fun _=>False) (fun _=>none) H) kp q vs ds -> SI X F R τ ρ σ H -> iU (List.range' i m) ds ρ = ok ρ' ->
  σ.length = σ0.length -> (∀ j,hi <= j -> σ[j]? = σ0[j]?) -> (∀ σ',σ'.length = σ0.length -> (∀ j,hi <= j -> σ'[j]? = σ0[j]?) -> SI X F R τ ρ' σ' H -> Q σ' H) -> CZ i m vs σ H Q
 | 0,_,_,_,_,_,σ,_,_,_,.nil,Si,e,h1,h2,hq=>by
  cases e
  exact ⟨rfl,hq σ h1 h2 Si⟩
 | 0,_,_,_,_,_,_,_,_,_,.cons _ _,_,e,_,_,_=>by cases e
 | m + 1,_,_,_,_,_,_,_,_,_,.nil,_,e,_,_,_=>by cases e
 | m + 1,i,_,_,_,_,σ,ρ,_,him,.cons (v:=v) (d:=d) h t,Si,e,h1,h2,hq=>by
  change (if _ then _ else _) = _ at e
  split at e
  ·rename_i nF
   have hJ:=Si.MX (i:=i) (Rep.sU h) nF
   refine ⟨_,_,rfl,om σ0 hi (by omega) t hJ e (by simpa using h1) (fun j hj=>?_) hq⟩
   rw [List.getElem?_set_ne (by omega)];exact h2 j hj
  ·cases e
end
section
variable {X:Cx} {S:Sx} {k:Nat} {F:Addr -> Prop} {Φ:az}
theorem HR {n:Nat} {t:Tg} {caps:List Nat} {target:Expr} {sc:Scope} {cl:List (Str × Addr)} {fp:List Addr} {s₂:Shared} {H2:Hp} {C:Addr} (Oy:X.calm = true) (co:kF S n t caps target sc) :
  ∃ g,PG (eF X (bL target ++ gk S caps) sc cl C s₂ H2 fp) target g /\ ∀ (F' R':Addr -> Prop) (x:V) (d:D) (σ':St) (nj:Hp) (Q:St -> Hp -> Prop) (ρb ρ1:aA),
   SI (eF X (bL target ++ gk S caps) sc cl C s₂ H2 fp) F' R' (fun _=>none) ρb σ' nj -> Rep (aG X.K nj) (nd X.K R' (fun _=>False) (fun _=>none) nj) [] x d -> aH d9 d = false -> cA t d ρb = ok ρ1 ->
   (∀ σ2,σ2.length = σ'.length -> (∀ j,n <= j -> σ2[j]? = σ'[j]?) -> SI (eF X (bL target ++ gk S caps) sc cl C s₂ H2 fp) F' R' (fun _=>none) ρ1 σ2 nj -> Q σ2 nj) -> g x σ' nj Q:=by
 have J0:∀ x ∈ bL target,(relabel sc X.env).names.lookup x = some .local:=fun x hx=>lookup_relabel_local (co.tl x hx)
 rcases co.tg with ⟨x,p,rfl,rfl⟩ | ⟨es,kk,p,rfl,rfl,Aq⟩
 ·have hn:n = 1:=co.n
  subst hn
  refine ⟨rP 0,sO co.nd rfl (.inl (J0 x (List.mem_singleton.mpr rfl:x ∈ [x]))) (.inr (J0 x (List.mem_singleton.mpr rfl:x ∈ [x]))),fun F' R' v d σ' nj Q ρb ρ1 Si rp _ e hq=>?_⟩
  simp only [cA] at e
  split at e
  ·rename_i hi
   cases e
   refine hq _ (by simp) (fun j hj=>?_) (Si.MX rp hi)
   rw [List.getElem?_set_ne (by omega)]
  ·cases e
 ·obtain ⟨xs,rfl⟩:=Cc Aq
  have hN:bL (.Tuple (xs.map fun x=>Expr.Name x.1 x.2) kk p) = xs.map (·.1):=wA xs
  have hn:n = xs.length:=by rw [co.n,hN,List.length_map]
  have:=yp (X:=eF X (bL (.Tuple (xs.map fun x=>Expr.Name x.1 x.2) kk p) ++ gk S caps) sc cl C s₂ H2 fp) co.nd xs 0 (fun j y hy=>by
   refine ⟨?_,J0 y.1 (by rw [hN];exact List.mem_map.mpr ⟨y,List.mem_of_getElem? hy,rfl⟩)⟩
   show (bL (.Tuple (xs.map fun x=>Expr.Name x.1 x.2) kk p) ++ gk S caps)[0 + j]? = _
   have hj:j < xs.length:=by
    by_cases hj:j < xs.length
    ·exact hj
    ·rw [List.getElem?_eq_none (by omega)] at hy;cases hy
   rw [hN,Nat.zero_add,List.getElem?_append_left (by simpa using hj),List.getElem?_map,hy];rfl)
  obtain ⟨h1,h2,h3⟩:=this
  refine ⟨_,BU Oy h1 h2 h3,fun F' R' v d σ' nj Q ρb ρ1 Si rp ho e hq=>?_⟩
  cases d <;> try (simp [cA] at e;done)
  rename_i ds
  simp only [cA] at e
  split at e
  ·cases e
  ·cases rp with
   | @tup _ a ys _ hp rs =>
    rw [List.length_map] at e
    have e':iU (List.range' 0 xs.length) ds ρb = ok ρ1:=by rw [<- List.range_eq_range'];exact e
    refine ⟨a,ys,rfl,hp,?_,om (X:=eF X (bL (.Tuple (xs.map fun x=>Expr.Name x.1 x.2) kk p) ++ gk S caps) sc cl C s₂ H2 fp) σ' n (by omega) rs Si e' rfl (fun _ _=>rfl) hq⟩
    rw [rs.length]
    have:∀ (is:List Nat) (ds:List D) (ρ ρ':aA),iU is ds ρ = ok ρ' -> ds.length = is.length:=by
     intro is
     induction is with
     | nil=>intro ds ρ ρ' e;cases ds with | nil=>rfl | cons _ _=>cases e
     | cons i is ih=>intro ds ρ ρ' e;cases ds with
      | nil=>cases e
      | cons d ds =>
       change (if _ then _ else _) = _ at e
       split at e
       ·simp [ih ds _ _ e]
       ·cases e
    rw [this _ _ _ _ e',List.length_range']
theorem owF:∀ f:Fl,d9 (aN f) = false:=by intro f;cases f <;> rfl
mutual
theorem EV:∀ d:D,aH d9 (aC aN d) = false
 | .bC=>by simp [aC,aH]
 | .bl _=>by simp [aC,aH]
 | .int _=>by simp [aC,aH]
 | .tup ds=>by simp [aC,aH,gJ ds]
 | .lst f ds=>by simp [aC,aH,gJ ds,owF]
 | .cx f ks vs=>by simp [aC,aH,gJ vs,owF]
theorem gJ:∀ ds:List D,aw d9 (ah aN ds) = false
 | []=>by simp [ah,aw]
 | d :: ds=>by simp [ah,aw,EV d,gJ ds]
end
theorem yH {P:Program} {w:World} {H:Hp} {h:Heap} {a:Addr} {o:HO} (x:mv P w H h) (hn:H a = none) (new:cN P w (upd H a o) h a o):mv P w (upd H a o) h:=fun b u e=>by
 by_cases hb:b = a
 ·subst hb;rw [aK] at e;cases e;exact new
 ·rw [aD hb] at e
  exact (x b u e).kP (fun c v _ q=>q) (fun c q=>by rw [aD (cc q hn)];exact q) fun c xs q=>by rw [aD (cc q hn)];exact q
structure CAt (X X':Cx) (F' R':Addr -> Prop) (n:Nat) (base:aA) (σ0:St) (fp:List Addr) (tn:Nat -> Heap -> Prop) (H2:Hp) (D:Addr) (items:List DI.D) (bind:DI.D -> O aA) (test:aA -> O Bool) (el:aA -> O DI.D) (all:List DI.D) (m:Nat) (s':Shared):Prop where
 ex:∃ (i:Nat) (vs:List V) (aj:List Value) (nn:Nat) (σ':St) (H':Hp) (dn rest:List DI.D),m = items.length - i /\ i <= items.length /\ Inv X' [(D,eV aj nn)] σ' H' s' /\ tn i s'.heap /\ (∀ b ∈ fp,H' b = none) /\ Vals vs aj /\ ak H2 H' /\
  SI X' F' R' (fun _=>none) base σ' H' /\ ck X.K (gP X' F') R' (fun _=>none) [] H2 H' vs dn /\ gT bind test el (items.drop i) = ok rest /\ dn ++ rest = all
end
end DI
end
section
namespace DI
open PySem PySem.Spec PyProof.Rows L2
theorem ck.go {K:PySem.W.Frag} {G R:Addr -> Prop} {τ:Addr -> Option aI} {fv:List Nat} {H H1 H2:Hp} {vs:List V} {ds:List D} (h:ck K G R τ fv H H1 vs ds) (e:ak H1 H2):ck K G R τ fv H H2 vs ds :=
 let ⟨τt,h1,h2⟩:=h;⟨τt,h1,h2.imp (fun _ _ h=>aG.same e h) fun _ _ _ _ h=>nd.same e h⟩
theorem oK:∀ {ds:List D} {d:D},aw d9 ds = false -> d ∈ ds -> aH d9 d = false
 | [],_,_,h=>nomatch h
 | e :: ds,d,h,hm=>by
  rw [aw,Bool.or_eq_false_iff] at h
  rcases List.mem_cons.mp hm with rfl | z
  ·exact h.1
  ·exact oK h.2 z
theorem zL {d:D} {items:List D} (h:mP d = ok items):∀ d ∈ items,aH d9 d = false:=by
 unfold mP at h
 split at h
 ·cases h;exact fun d hd=>oK (gJ _) hd
 ·cases h
theorem w5 {Φ:az} {ik:IK} {xs items:List D} (h:dN Φ ik xs = ok items):∀ d ∈ items,aH d9 d = false:=by
 cases ik with
 | dt p=>obtain ⟨d,_,h⟩:=ag h;exact zL h
 | mU =>
  cases xs with
  | nil=>cases h
  | cons x t=>cases x <;> first | (cases h;done) | (cases t with
   | cons _ _=>cases h
   | nil =>
    obtain ⟨_,h⟩:=rL h
    subst h
    intro d hd
    obtain ⟨k,_,rfl⟩:=List.mem_map.mp hd
    rfl)
 | seq =>
  cases xs with
  | nil=>cases h
  | cons x t=>cases x <;> first | (cases h;done) | (cases t with
   | cons _ _=>cases h
   | nil=>cases h;exact fun d hd=>oK (gJ _) hd)
theorem w9 {n:Nat} {caps:List Nat} {ρ:aA} {i:Nat} {d:D} (h:(aT n caps ρ)[i]? = some (some d)):n <= i:=by
 unfold aT at h
 by_cases hn:i < n
 ·rw [List.getElem?_append_left (by simpa using hn),List.getElem?_replicate,if_pos hn] at h;cases h
 ·omega
section
variable {X:Cx} {S:Sx} {k:Nat} {F:Addr -> Prop} {Φ:az}
theorem Cm {n:Nat} {t:Tg} {caps:List Nat} {target:Expr} {sc:Scope} {cl:List (Str × Addr)} {fp:List Addr} {s₂:Shared} {H2:Hp} {C:Addr} (L:Lk X S k Φ) (co:kF S n t caps target sc) :
  Lk (eF X (bL target ++ gk S caps) sc cl C s₂ H2 fp) (S.inner target caps sc) k Φ:=by
 refine ⟨?_,rfl,co.nd,L.calm,L.room,L.bl,fun f x h=>⟨(L.fn f x h).ex⟩,L.cs,L.pr⟩
 show relabel sc X.env = uW sc S.sc
 rw [<- L.sc];rfl
theorem vN (L:Lk X S k Φ) {n:Nat} {t:Tg} {caps:List Nat} {ik:IK} {es a_:List CE} {elt:CE} {target iter iZ:Expr} {ifs:List Expr} {sc:Scope} {pos:Pos} (co:kF S n t caps target sc) (A3:rH iter = true)
    (hE:∀ (X':Cx) (F':Addr -> Prop),Lk X' (S.inner target caps sc) k Φ -> PE X' iZ (tD X' F' Φ elt))
    (hC:(a_ = [] /\ ifs = []) \/ ∃ c e,a_ = [c] /\ ifs = [e] /\ ∀ (X':Cx) (F':Addr -> Prop),Lk X' (S.inner target caps sc) k Φ -> PT X' e (hX X' F' Φ c))
    (hI:∀ (pins:List (Addr × Obj)) (s:Shared) (σ:St) (H:Hp) (R:Addr -> Prop) (τ:Addr -> Option aI) (ρ:aA) (xs items:List D),Inv X pins σ H s -> SI X F R τ ρ σ H -> c_ Φ es ρ = ok xs -> dN Φ ik xs = ok items -> ∀ Rr:It -> Hp -> Prop,
      (∀ J H2,ak H H2 -> Yl X.K J (lM X F τ (caps ++ du es) H2) H2 items -> Rr J H2) -> wpAny (model X.prog X.w) X.A (eval iter X.env) (fun v s1=>wpAny (model X.prog X.w) X.A (pyIter v) (DA X pins σ target Rr) X.xe s1) X.xe s)
    {use:Option (Value -> Sem Unit)} {Post:Value -> Shared -> Prop} {pins:List (Addr × Obj)} {s:Shared} {σ:St} {H:Hp} {R:Addr -> Prop} {τ:Addr -> Option aI} {ρ:aA} {d:D} {Xb:Pos} (I:Inv X pins σ H s) (Si:SI X F R τ ρ σ H) (ev:aO Φ (.comp n t caps ik es a_ elt) ρ = ok d)
    (Oa:∀ (acc C:Addr) (H1:Hp) (s1:Shared) (m:Str -> Option Value),s1.heap.Ns C m -> (C ≠ X.env.locals /\ X.s₀.heap.objs.size <= C /\ (∀ x c,X.env.cells.lookup x = some c -> c ≠ C) /\ (∀ p ∈ X.pn ++ pins,p.1 ≠ C) /\ H1 C = none) -> (∀ h',Heap.SameBut C s1.heap h' -> Inv X pins σ H1 { s1 with heap:=h' }) -> ak H H1 ->
      bJ X.K (gP X F) R τ (gO (.comp n t caps ik es a_ elt)) H H1 (.ref acc) d -> compPost (model X.prog X.w) X.A X.xe use Post (.ref acc) C (.ok .next) s1) :
    wpAny (model X.prog X.w) X.A (comprehension (.ListComp iZ [⟨target,iter,ifs,0⟩] sc pos) sc X.env Xb (newList []) false (eval iter X.env) use) Post X.xe s:=by
  obtain ⟨xs,df,ev⟩:=ag ev
  obtain ⟨items,xq,ev⟩:=ag ev
  obtain ⟨ds,KS,ev⟩:=ag ev
  simp only [Hg] at ev
  obtain ⟨o6,rfl⟩:=ev
  have Oh:=w5 xq
  obtain ⟨cl,Ox,mX,xc⟩:=xC (env:=X.env) (sc:=sc) (fun x hx=>I.ok.has x (by
    show X.env.scope.names.lookup x = some .cell \/ X.env.scope.names.lookup x = some .free
    rw [L.sc];exact co.free x hx))
  have o5:∀ x,foldedSetIterable iter X.env x = pure x:=by intro x;cases iter <;> first | rfl | (cases A3;done)
  refine wpAny_comprehension_free (use:=use) rfl o5 Ox co.kind co.loc (wpAny_mono (hI pins s σ H R τ ρ xs items I Si df xq (fun J H2=>ak H H2 /\ Yl X.K J (lM X F τ (caps ++ du es) H2) H2 items) (fun J H2 e y=>⟨e,y⟩)) (fun xv s₁ h₁=>wpAny_mono h₁ (fun VY s₂ h₂=>?_) fun _ _ e=>e) fun _ _ e=>e)
  obtain ⟨it,fp,tn,J,H2,rfl,I2,T,MS,f2,e2,yl⟩:=h₂
  have wb:=Si.go e2
  have J1:∀ b ∈ fp,b < s₂.heap.objs.size:=fun b hb=>let ⟨o,ho,_⟩:=T.obj 0 _ MS b hb;Heap.lt_size ho
  refine wpAny_newObj_type (wpAny_newFunctionEnv co.Ca (by intro y hy;simp at hy) (fun h₁ tj o4=>?_) co.kind)
  dsimp only at tj o4 ⊢
  generalize WQ:s₂.heap.push { cls:=.type "list",dict:=none,data:=.seq ([]:List Value).toArray } = G2 at tj o4 ⊢
  have hGC:G2.objs.size = s₂.heap.objs.size + 1:=by rw [<- WQ,Heap.size_push]
  have QY:s₂.heap.objs.size ≠ s₂.heap.objs.size + 1:=Nat.ne_of_lt (Nat.lt_succ_self _)
  rw [hGC] at tj o4
  have old:∀ b o,s₂.heap.get? b = some o -> h₁.get? b = some o:=fun b o e=>o4.extBut b o (Nat.ne_of_lt (Nat.lt_succ_of_lt (Heap.lt_size e))) (Heap.get?_push_of_some _ (WQ ▸ Heap.get?_push_of_some _ e))
  have fg:h₁.get? s₂.heap.objs.size = some (eV [] 0):=o4.extBut _ _ QY (Heap.get?_push_of_some _ (WQ ▸ Heap.get?_push_size _ rfl))
  let X':=eF X (bL target ++ gk S caps) sc cl (s₂.heap.objs.size + 1) s₂ H2 fp
  let F':=kl (gP X F) τ (caps ++ du es)
  let R':=lM X F τ (caps ++ du es) H2
  have L':Lk X' (S.inner target caps sc) k Φ:=Cm L co
  have I4:=fun tk=>Cv (h₁:=h₁) (tk:=tk) L co I2 mX xc f2 J1 (by simpa using tj) old fg
  have S4:SI X' F' R' (fun _=>none) (aT n caps ρ) (qm n caps σ) H2:=BB (t:=t) wb (fun i hi=>by simp [hi])
  obtain ⟨g,hg,CJ⟩:=HR (X:=X) (S:=S) (cl:=cl) (fp:=fp) (s₂:=s₂) (H2:=H2) (C:=s₂.heap.objs.size + 1) L.calm co
  have WR:s₂.heap.objs.size ∉ X'.fs:=fun z=>by
    rcases List.mem_cons.mp (I2.lK _ z) with w | w
    · exact absurd w (Nat.ne_of_gt I2.lt)
    · exact I2.Ji (Nat.le_refl _) w
  have J4:∀ x c,cl.lookup x = some c -> c ≠ s₂.heap.objs.size:=fun x c e=>by
    obtain ⟨v,q⟩:=I2.cell x c (mX x c e)
    exact Nat.ne_of_lt q.lt
  have Fw:∀ b ∈ fp,b ≠ X'.env.locals /\ b ∉ X'.fs /\ (b ∈ X'.ex \/ X'.s₀.heap.objs.size <= b) /\ (∀ x c,X'.env.cells.lookup x = some c -> c ≠ b):=fun b hb =>
    ⟨Nat.ne_of_lt (Nat.lt_succ_of_lt (J1 b hb)),fun z=>by
      rcases List.mem_cons.mp (I2.lK b z) with w | w
      · exact (f2 b hb).2.1 w
      · exact (f2 b hb).2.2.1 w,.inl hb,fun x c e=>(f2 b hb).2.2.2.2.1 x c (mX x c e)⟩
  have Oo:∀ b ∈ fp,b ≠ s₂.heap.objs.size:=fun b hb=>Nat.ne_of_lt (J1 b hb)
  have fin:∀ (vs:List V) (aj:List Value) (nn:Nat) (σ':St) (H':Hp) (s1:Shared),Inv X' [(s₂.heap.objs.size,eV aj nn)] σ' H' s1 -> Vals vs aj -> ak H2 H' -> ck X.K (gP X' F') R' (fun _=>none) [] H2 H' vs ds ->
      compPost (model X.prog X.w) X.A X.xe use Post (.ref s₂.heap.objs.size) (s₂.heap.objs.size + 1) (.ok .next) s1:=by
    intro vs aj nn σ' H' s1 I1 rv sm Ew
    obtain ⟨m,hn,_⟩:=I1.loc
    obtain ⟨pD,nD,_,_,_⟩:=I1.pin (s₂.heap.objs.size,eV aj nn) (List.mem_append_right _ List.mem_cons_self)
    have bs:=I1.base
    have Ha:∀ b o,s₂.heap.get? b = some o -> b ≠ s₂.heap.objs.size + 1:=fun b o e=>Nat.ne_of_lt (Nat.lt_succ_of_lt (Heap.lt_size e))
    have neD:∀ b o,s₂.heap.get? b = some o -> b ≠ s₂.heap.objs.size:=fun b o e=>Nat.ne_of_lt (Heap.lt_size e)
    have Ru:∀ b u,H' b = some u -> upd H' s₂.heap.objs.size (.lst vs) b = some u:=fun b u e=>by rw [aD (cc e nD)];exact e
    have hlen:vs.length <= sizeLine:=by
      obtain ⟨_,_,rr⟩:=Ew
      have hz:sizeLine = 16777216:=sizeLine_eq
      have hc:eu = 1000000:=rfl
      rw [rr.length];omega
    have IX:∀ h',Heap.SameBut (s₂.heap.objs.size + 1) s1.heap h' -> Inv X pins σ (upd H' s₂.heap.objs.size (.lst vs)) { s1 with heap:=h' }:=fun h' CA=>by
      have un:Un (A6 X.stack) fp H2 (upd H' s₂.heap.objs.size (.lst vs)) s₂.heap h' :=
        ⟨fun b o e n hb hx=>CA.extBut b o (Ha b o e) (bs.keep b o e n hb hx),
         fun b o e n hb hx=>let ⟨sl,q⟩:=bs.slot b o e n hb hx;⟨sl,CA.extBut b _ (Ha b o e) q⟩,
         fun b o e n hx=>by rw [aD (neD b o e)];exact bs.free b o e n hx,
         fun b o e hx=>let ⟨o',q⟩:=bs.there b o e hx;⟨o',CA.extBut b _ (Ha b o e) q⟩,
         fun b xs e=>Ru b _ (bs.so b xs e),fun b o u e=>Ru b _ (bs.qH b o u e),fun b ps e=>let ⟨more,q⟩:=bs.su b ps e;⟨more,Ru b _ q⟩⟩
      have Wr:mv X.prog X.w H' h':=fun a o e=>(I1.dq a o e).kP (fun b u hb q=>CA.extBut b u (by
        rintro rfl
        have hf:H' (s₂.heap.objs.size + 1) = none:=I1.free
        rcases hb with z | z
        · rw [<- z,hf] at e;cases e
        · rw [hf] at z;cases z) q) (fun _ q=>q) fun _ _ q=>q
      have Wq:mv X.prog X.w (upd H' s₂.heap.objs.size (.lst vs)) h':=yH Wr nD ⟨hlen,aj,nn,rv,CA.extBut _ _ QY pD⟩
      exact I2.PY (ch:=fp) I1.os un Wq I1.bare fun b hb=>⟨(f2 b hb).2.2.2.1,(f2 b hb).2.1,(f2 b hb).2.2.2.2.1,(f2 b hb).2.2.2.2.2⟩
    have eS:ak H' (upd H' s₂.heap.objs.size (.lst vs)):=ak.upd nD
    obtain ⟨τt,fr,rs⟩:=Ew
    have Vb:s₂.heap.objs.size + 1 ≠ s₂.heap.objs.size:=Nat.succ_ne_self _
    refine Oa s₂.heap.objs.size (s₂.heap.objs.size + 1) _ s1 m hn ⟨Nat.ne_of_gt (Nat.lt_succ_of_lt I2.lt),Nat.le_succ_of_le I2.sz,fun x c e=>?_,fun p hp=>?_,?_⟩ IX ((e2.trans sm).trans eS) ⟨fun q=>if q = s₂.heap.objs.size then some [] else τt q,fun q z hz=>?_,.lst ⟨aK,by simp⟩ (af.map (q:=[]) (q':=[]) (fun _ _ h=>aG.same eS h) (fun c p ys f h=>?_) rs [] rfl)⟩
    · obtain ⟨v,z⟩:=I2.cell x c e
      exact Nat.ne_of_lt (Nat.lt_succ_of_lt z.lt)
    · exact Nat.ne_of_lt (Nat.lt_succ_of_lt (Heap.lt_size (I2.pin p hp).1))
    · rw [aD Vb];exact I1.free
    · by_cases xa:q = s₂.heap.objs.size
      · rw [xa];exact e2.free (sm.free nD)
      · simp only [xa,if_false] at hz;exact e2.free (fr q z hz)
    · have h':=nd.same eS h
      have ZU:∀ p,gP X' F' p -> kl (gP X F) τ (caps ++ du es) p:=fun p hp=>hp.elim id fun z=>⟨.inr (wb.same.free z),fun c i e=>absurd z (wb.th p _ e)⟩
      cases f with
      | ow =>
        have xa:p ≠ s₂.heap.objs.size:=by
          intro z;subst z
          exact h.1.ne nD
        refine ⟨h'.1,?_⟩
        show (if p = s₂.heap.objs.size then some [] else τt p) = _
        rw [if_neg xa];exact h'.2
      | fz=>exact ⟨h'.1,h'.2.2⟩
      | al=>exact ⟨h'.1,ZU p h'.2.1⟩
      | sc=>exact h'
  have tst:∀ (P:List (Addr × Obj)) (ρ1:aA) (b:Bool) (σ2:St) (H5:Hp) (s6:Shared),iW Φ a_ ρ1 = ok b -> Inv X' P σ2 H5 s6 -> SI X' F' R' (fun _=>none) ρ1 σ2 H5 ->
      wpAny (model X.prog X.w) X.A (forIn ifs true fun c r=>if r = true then do let ok <- isTrue c X'.env (eval c X'.env);pure (ForInStep.yield ok) else pure (ForInStep.yield r)) (fun TN s7=>TN = b /\ ∃ H7,Inv X' P σ2 H7 s7 /\ ak H5 H7) (fun _ _=>False) s6:=by
    intro P ρ1 b σ2 H5 s6 eb I6 S6
    rcases hC with ⟨rfl,rfl⟩ | ⟨c,e,rfl,rfl,hPT⟩
    · rw [iW] at eb;cases eb
      exact wpAny_tests_nil ⟨rfl,H5,I6,ak.refl _⟩
    · rw [iW] at eb
      obtain ⟨b',eb',eb⟩:=ag eb
      have hb:b' = b:=by
        cases b' with
        | true=>rw [if_pos rfl,iW] at eb;cases eb;rfl
        | false=>rw [if_neg (by simp)] at eb;cases eb;rfl
      subst hb
      refine wpAny_tests_one (wpAny_mono (hPT X' F' L' P s6 σ2 H5 (fun b'' H7=>b'' = b' /\ ak H5 H7) I6 ⟨R',_,ρ1,b',S6,eb',fun H7 e7=>⟨rfl,e7⟩⟩) (fun b'' s7 ⟨H7,I7,hb,e7⟩=>⟨hb,H7,I7,e7⟩) fun _ _ e=>e)
  have loop:∀ tk,codeAny (model X.prog X.w) X.A (.compLoop (.ListComp iZ [⟨target,iter,ifs,0⟩] sc pos) 0 (.ref it) (.ref s₂.heap.objs.size) X'.env)
      (compPost (model X.prog X.w) X.A X.xe use Post (.ref s₂.heap.objs.size) (s₂.heap.objs.size + 1)) { s₂ with heap:=h₁,toks:=tk }:=by
    intro tk
    refine tQ (CAt X X' F' R' n (aT n caps ρ) (qm n caps σ) fp tn H2 s₂.heap.objs.size items (fun d=>cA t d (aT n caps ρ)) (fun ρ'=>iW Φ a_ ρ') (fun ρ'=>aO Φ elt ρ') ds) ?_ items.length
      ⟨0,[],[],0,qm n caps σ,H2,[],ds,rfl,Nat.zero_le _,I4 tk,T.keep _ _ _ MS (fun b _ o e=>old b o e),fun b hb=>(f2 b hb).1,.nil,ak.refl _,S4,.nil,by rw [List.drop_zero];exact KS,rfl⟩
    rintro m s' ⟨i,vs,aj,nn,σ',H',dn,rest,hm,hi,I',mM,fr',rv,sm,hJ,Ew,fH,eall⟩
    have Kk:∀ b ∈ fp,qa X' [(s₂.heap.objs.size,eV aj nn)] H' b:=fun b hb=>⟨fr' b hb,(Fw b hb).1,(Fw b hb).2.1,(Fw b hb).2.2.1,(Fw b hb).2.2.2,fun p hp=>by
      have xb:p = (s₂.heap.objs.size,eV aj nn):=by simpa [X',eF] using hp
      rw [xb];exact (Oo b hb).symm⟩
    by_cases i4:i < items.length
    · refine wpAny_mono (T.item X' rfl rfl rfl L.calm i _ s' σ' H' (fun _ _=>False) I' Kk mM (yl.go i H' sm i4)) (fun r s1 h4=>?_) fun _ _ e=>e
      obtain ⟨u,hr,h4⟩:=h4
      subst hr
      refine wpAny_mono h4 (fun _ s5 h5=>?_) fun _ _ e=>e
      obtain ⟨x,H5,I5,r5,y5,H_,Xa⟩:=h5
      obtain ⟨e5,dd,hd,rd⟩:=yl.wc i H' x H5 sm i4 y5
      have Z1:=I5.pinned (fp:=fp) (fun b hb=>⟨Xa b hb,(Kk b hb).2⟩) (T.obj _ _ H_)
      have vp:items.drop i = dd :: items.drop (i + 1):=by
        rw [List.drop_eq_getElem_cons i4]
        rw [List.getElem?_eq_getElem i4] at hd
        cases hd;rfl
      rw [vp,gT] at fH
      obtain ⟨ρ1,eb,fH⟩:=ag fH
      obtain ⟨bb,et,fH⟩:=ag fH
      refine wpAny_mono (hg _ s5 σ' H5 x u (fun σ2 H6=>H6 = H5 /\ σ2.length = σ'.length /\ (∀ j,n <= j -> σ2[j]? = σ'[j]?) /\ SI X' F' R' (fun _=>none) ρ1 σ2 H5) Z1 r5
        (CJ F' R' x dd σ' H5 _ (aT n caps ρ) ρ1 (hJ.go e5) rd (Oh dd (List.mem_of_getElem? hd)) eb fun σ2 g1 g2 g3=>⟨rfl,g1,g2,g3⟩)) (fun _ s6 h6=>?_) fun _ _ e=>e
      obtain ⟨σ2,H6,I6,rfl,g1,g2,S6⟩:=h6
      refine wpAny_mono (tst _ ρ1 bb σ2 H6 s6 et I6 S6) (fun TN s7 h7=>?_) fun _ _ e=>e
      obtain ⟨rfl,H7,I7,e7⟩:=h7
      have Rw:∀ {P:List (Addr × Obj)} {σ3:St} {H8:Hp} {s8:Shared},Inv X' (P ++ ja fp s5.heap) σ3 H8 s8 -> tn (i + 1) s8.heap /\ ∀ b ∈ fp,H8 b = none:=fun {P σ3 H8 s8} I8 =>
        ⟨T.keep _ _ _ H_ fun b hb o e=>(I8.pin (b,o) (List.mem_append_right _ (List.mem_append_right _ (ic hb e)))).1,fun b hb=>by
          obtain ⟨o,e,_⟩:=T.obj _ _ H_ b hb
          exact (I8.pin (b,o) (List.mem_append_right _ (List.mem_append_right _ (ic hb e)))).2.1⟩
      have Hz:∀ {H8:Hp},ak H7 H8 -> SI X' F' R' (fun _=>none) (aT n caps ρ) σ2 H8:=fun {H8} e8=>(hJ.go ((e5.trans e7).trans e8)).sig g1 fun j d hj=>g2 j (w9 hj)
      cases TN with
      | false =>
        rw [if_neg (by simp)] at fH ⊢
        exact ⟨items.length - (i + 1),by omega,i + 1,vs,aj,nn,σ2,H7,dn,rest,rfl,i4,I7.kK,(Rw I7).1,(Rw I7).2,rv,(sm.trans e5).trans e7,Hz (ak.refl _),Ew.go (e5.trans e7),fH,eall⟩
      | true =>
        rw [if_pos rfl] at fH ⊢
        obtain ⟨y,ey,fH⟩:=ag fH
        obtain ⟨ys,xm,fH⟩:=ag fH
        cases fH
        refine wpAny_mono (hE X' F' L' _ s7 σ2 H7 (fun v H8=>ak H7 H8 /\ bJ X.K (gP X' F') R' (fun _=>none) [] H7 H8 v y) I7 ⟨R',_,ρ1,y,S6.go e7,ey,fun v H8 e8 r8=>⟨e8,?_⟩⟩) (fun u8 s8 h8=>?_) fun _ _ e=>e
        · obtain ⟨τt,fr,rr⟩:=r8
          exact ⟨τt,fr,rr.imp (q:=[]) (q':=[]) (fun _ _ h=>h) fun c p ys f h=>h.mono id (fun h=>⟨h.1,fun _ _ e=>by cases e⟩) id⟩
        · obtain ⟨v8,H8,I8,rv8,e8,r8⟩:=h8
          obtain ⟨pD,nD,_,_,_⟩:=I8.pin (s₂.heap.objs.size,eV aj nn) (List.mem_append_right _ (List.mem_append_left _ List.mem_cons_self))
          have hlen:aj.length <= 1000000:=by
            obtain ⟨_,_,rr⟩:=Ew
            have h1:dn.length <= ds.length:=by rw [<- eall,List.length_append];omega
            have hc:eu = 1000000:=rfl
            rw [<- rv.length,rr.length];omega
          have hz:sizeLine = 16777216:=sizeLine_eq
          refine call_meets PySem.F.slot_list_append ⟨_,pD,rfl⟩ PySem.F.entry_list_append (PySem.F.args_list_append_2 _ _) (PySem.list_append s₂.heap.objs.size aj.toArray nn u8 (by rw [List.size_toArray];omega)) ⟨pD,?_⟩
          have q:=PySem.IsL.update pD (fun x=>x.push u8)
          have N9:aj.toArray.push u8 = (aj ++ [u8]).toArray:=by simp
          rw [N9] at q
          obtain ⟨QL,q'⟩:∃ QL,(s8.heap.update s₂.heap.objs.size (Obj.mapSeq fun x=>x.push u8)).get? s₂.heap.objs.size = some (eV (aj ++ [u8]) QL):=⟨_,q⟩
          have I8d:Inv X' (ja fp s5.heap) σ2 H8 s8:=I8.jK fun p hp=>I8.pin p (List.mem_append_right _ (List.mem_append_right _ hp))
          have I8t:Inv X' (ja fp s5.heap) σ2 H8 { s8 with heap:=s8.heap.update s₂.heap.objs.size (Obj.mapSeq fun x=>x.push u8),toks:=s8.toks } :=
            I8d.turned (it:=s₂.heap.objs.size) (fun b o hb e=>(Heap.get?_update_other s8.heap (Obj.mapSeq fun x=>x.push u8) (Ne.symm hb)).trans e) nD QY (.inr (Nat.le_refl _)) J4 fun p hp=>by
              have xb:p ∈ ja fp s5.heap:=by simpa [X',eF] using hp
              exact Oo p.1 (rG xb).1
          have kp:=Rw (P:=[]) (by rw [List.nil_append];exact I8t)
          refine ⟨items.length - (i + 1),by omega,i + 1,vs ++ [v8],aj ++ [u8],QL,σ2,H8,dn ++ [y],ys,rfl,i4,I8t.jK (fun p hp=>?_),kp.1,kp.2,rv.append (.cons rv8 .nil),((sm.trans e5).trans e7).trans e8,Hz e8,ck.snoc ((sm.trans e5).trans e7) e8 (Ew.go (e5.trans e7)) r8,xm,by rw [List.append_assoc];exact eall⟩
          have xb:p = (s₂.heap.objs.size,eV (aj ++ [u8]) QL):=by simpa using hp
          rw [xb]
          exact ⟨q',nD,QY,WR,fun v z=>by cases z⟩
    · refine wpAny_mono (T.done X' rfl rfl rfl L.calm i _ s' σ' H' (fun _ _=>False) I' Kk mM (yl.stop i H' sm (by omega))) (fun r s1 h1=>?_) fun _ _ e=>e
      obtain ⟨hr,I1⟩:=h1
      subst hr
      have Wv:items.drop i = []:=List.drop_eq_nil_of_le (by omega)
      rw [Wv,gT] at fH
      cases fH
      rw [List.append_nil] at eall
      subst eall
      exact fin vs aj nn σ' H' s1 I1 rv sm Ew
  have key:=fun tk=>codeAny_compStart_list (loop tk) (T.self X.A 0 _ _ _ (T.keep _ _ _ MS fun b _ o e=>old b o e) (loop tk))
  rw [hGC]
  exact key _
theorem En (L:Lk X S k Φ) {n:Nat} {t:Tg} {caps:List Nat} {ik:IK} {es a_:List CE} {elt:CE} {target iter iZ:Expr} {ifs:List Expr} {sc:Scope} {pos:Pos} (co:kF S n t caps target sc) (A3:rH iter = true)
  (hE:∀ (X':Cx) (F':Addr -> Prop),Lk X' (S.inner target caps sc) k Φ -> PE X' iZ (tD X' F' Φ elt))
  (hC:(a_ = [] /\ ifs = []) \/ ∃ c e,a_ = [c] /\ ifs = [e] /\ ∀ (X':Cx) (F':Addr -> Prop),Lk X' (S.inner target caps sc) k Φ -> PT X' e (hX X' F' Φ c))
  (hI:∀ (pins:List (Addr × Obj)) (s:Shared) (σ:St) (H:Hp) (R:Addr -> Prop) (τ:Addr -> Option aI) (ρ:aA) (xs items:List D),Inv X pins σ H s -> SI X F R τ ρ σ H -> c_ Φ es ρ = ok xs -> dN Φ ik xs = ok items -> ∀ Rr:It -> Hp -> Prop,
   (∀ J H2,ak H H2 -> Yl X.K J (lM X F τ (caps ++ du es) H2) H2 items -> Rr J H2) -> wpAny (model X.prog X.w) X.A (eval iter X.env) (fun v s1=>wpAny (model X.prog X.w) X.A (pyIter v) (DA X pins σ target Rr) X.xe s1) X.xe s) :
  PE X (.ListComp iZ [⟨target,iter,ifs,0⟩] sc pos) (tD X F Φ (.comp n t caps ik es a_ elt)):=by
 intro pins s σ H Q I hq
 obtain ⟨R,τ,ρ,d,Si,ev,hq⟩:=hq
 rw [eval_ListComp]
 refine vN L co A3 hE hC hI (use:=none) (Post:=EP X pins σ Q) I Si ev fun acc C H1 s1 m hn _ IX sm rt=>?_
 exact ⟨m,hn,fun h' CA=>⟨.ref acc,H1,IX h' CA,rfl,hq _ _ sm rt⟩⟩
end
end DI
end
section
namespace DI
open PySem PySem.Spec PyProof.Rows L2
section
variable {X:Cx} {pins:List (Addr × Obj)} {s:Shared} {σ:L2.St} {H:Hp}
theorem vk {A:Around} {E:Value -> Shared -> Prop} {l:Addr} {items:Array Value} {prog:Program} {w:World} {Q:Value -> Shared -> Prop} {s:Shared} (hl:s.heap.IsList l items)
  (h:∀ s₂:Shared,s₂ = { s with heap:=s.heap.push { cls:=.type "list_iterator",data:=.fields #[.ref l,.int 0 0] } } -> s₂.heap.IsListIter s.heap.objs.size l 0 /\ s₂.heap.IsList l items -> (∀ b ∈ [s.heap.objs.size,l],b < s₂.heap.objs.size) -> l ≠ s.heap.objs.size -> Q (.ref s.heap.objs.size) s₂) :
  wpAny (model prog w) A (pyIter (.ref l)) Q E s:=by
 have i4:l < s.heap.objs.size:=by obtain ⟨_,e,_⟩:=hl;exact Heap.lt_size e
 refine wpAny_pyIter_list hl (h _ rfl ⟨⟨_,Heap.get?_push_size _ rfl,rfl,rfl⟩,hl.push _⟩ (fun b hb=>?_) (Nat.ne_of_lt i4))
 have hz:(s.heap.push { cls:=.type "list_iterator",data:=.fields #[.ref l,.int 0 0] }).objs.size = s.heap.objs.size + 1:=Heap.size_push ..
 have xf:b = s.heap.objs.size \/ b = l:=by simpa using hb
 show b < _
 rw [hz]
 rcases xf with e | e
 ·rw [e];exact Nat.lt_succ_self _
 ·rw [e];exact Nat.lt_succ_of_lt i4
theorem vi {h':Heap} {o₀:Obj} {s:Shared} (hk:∀ b o,b ∉ [s.heap.objs.size] -> (s.heap.push o₀).get? b = some o -> h'.get? b = some o):∀ b o,s.heap.get? b = some o -> h'.get? b = some o:=fun b o e =>
 hk b o (fun hm=>absurd ((by simpa using hm:b = s.heap.objs.size) ▸ Heap.lt_size e) (Nat.lt_irrefl _)) (Heap.get?_push_of_some _ e)
theorem eK {h:Heap} {a:Addr} {aj:Array Value} (p:PlainL h a aj):h.IsList a aj:=let ⟨o,n,h1,h2,_,h4⟩:=p;⟨o,h1,h2,n,h4⟩
theorem mC (val:Nat -> Int) (ns:List Int) (hv:∀ i,val i = ns.getD i 0):∀ k,k <= ns.length -> preSum val k = (ns.take k).sum
 | 0,_=>by simp [preSum]
 | k + 1,h=>by
  have hk:k < ns.length:=by omega
  rw [preSum,mC val ns hv k (by omega),hv k,List.take_add_one,List.sum_append]
  simp [List.getD,hk]
theorem AR (hc:X.calm = true):gg X (.builtin "sum") (fun xs H Q=>∃ (p:Addr) (ns:List Int),xs = [.ref p] /\ dY X.K H p (ns.map V.int) /\ Q (.int ns.sum) H):=by
 intro pins s σ H xs us Q I r h
 obtain ⟨p,ns,rfl,hq,q⟩:=h
 obtain ⟨u,rfl,ru⟩:=r.one
 cases ru
 obtain ⟨aj,rv,pl,hz⟩:=I.list hq
 have hlen:aj.length = ns.length:=by have:=rv.length;simpa using this.symm
 refine call_sum_walkG (vk (eK pl) fun s₂ e st Fx Wz=>?_)
 subst e
 refine ⟨_,_,_,_,_,_,fun i=>ns.getD i 0,rfl,Walks.list (A:=X.A.in1) (I.ok.hd hc) _ p Wz aj.toArray,st,Fx,fun i v hP=>?_,fun h' tk t' hk=>?_⟩
 ·have hv:aj[i]? = some v:=by simpa using hP
  have hi:i < aj.length:=by
   by_cases z:i < aj.length
   ·exact z
   ·rw [List.getElem?_eq_none (by omega)] at hv;cases hv
  have hn:(ns.map V.int)[i]? = some (.int (ns.getD i 0)):=by
   rw [List.getElem?_map,List.getElem?_eq_getElem (by omega)]
   simp [List.getD,show i < ns.length by omega]
  obtain ⟨u,hu,ru⟩:=rv.get hn
  rw [hv] at hu
  cases hu
  exact ru
 ·refine ⟨.int ns.sum,H,I.kept (t':=tk) (vi hk),⟨t',?_⟩,q⟩
  have hz:preSum (fun i=>ns.getD i 0) aj.toArray.size = ns.sum:=by
   rw [List.size_toArray,hlen,mC _ ns (fun _=>rfl) _ (Nat.le_refl _),List.take_length]
  rw [hz]
theorem range_all {α:Type} (l:List α) (f:α -> Bool) (tr:Nat -> Bool) (h:∀ i a,l[i]? = some a -> tr i = f a):(List.range l.length).all tr = l.all f:=by
 rw [Bool.eq_iff_iff,List.all_eq_true,List.all_eq_true]
 constructor
 ·intro z a ha
  obtain ⟨i,hi,e⟩:=List.mem_iff_getElem.mp ha
  have:=z i (List.mem_range.mpr hi)
  rw [h i a (by rw [List.getElem?_eq_getElem hi,e])] at this
  exact this
 ·intro z i hi
  have hi:=List.mem_range.mp hi
  rw [h i l[i] (List.getElem?_eq_getElem hi)]
  exact z _ (List.getElem_mem hi)
theorem AU (hc:X.calm = true):gg X (.builtin "all") (fun xs H Q=>∃ (p:Addr) (bs:List Bool),xs = [.ref p] /\ dY X.K H p (bs.map V.bl) /\ Q (.bl (bs.all id)) H):=by
 intro pins s σ H xs us Q I r h
 obtain ⟨p,bs,rfl,hq,q⟩:=h
 obtain ⟨u,rfl,ru⟩:=r.one
 cases ru
 obtain ⟨aj,rv,pl,hz⟩:=I.list hq
 have hlen:aj.length = bs.length:=by have:=rv.length;simpa using this.symm
 refine call_all_walk (vk (eK pl) fun s₂ e st Fx Wz=>?_)
 subst e
 refine ⟨_,_,_,_,_,_,fun i=>bs.getD i false,rfl,Walks.list (A:=X.A.in1) (I.ok.hd hc) _ p Wz aj.toArray,st,fun i v s' Q' E' hP hQ=>?_,fun h' tk hk=>?_⟩
 ·have hv:aj[i]? = some v:=by simpa using hP
  have hi:i < aj.length:=by
   by_cases z:i < aj.length
   ·exact z
   ·rw [List.getElem?_eq_none (by omega)] at hv;cases hv
  have hn:(bs.map V.bl)[i]? = some (.bl (bs.getD i false)):=by
   rw [List.getElem?_map,List.getElem?_eq_getElem (by omega)]
   simp [List.getD,show i < bs.length by omega]
  obtain ⟨u,hu,ru⟩:=rv.get hn
  rw [hv] at hu
  cases hu
  cases ru
  exact wpAny_truthy_bool hQ
 ·refine ⟨.bl (bs.all id),H,I.kept (t':=tk) (vi hk),?_,q⟩
  show Value.bool _ = Value.bool _
  rw [List.size_toArray,hlen,range_all bs id _ fun i a e=>by simp [List.getD,e]]
end
end DI
end
section
namespace DI
open PySem PySem.Spec PyProof.Rows L2
section
variable {prog:Program} {w:World} {A:Around} {E:Value -> Shared -> Prop} {s:Shared}
theorem pJ {l:Addr} {vs:List Value} {Q:List Value -> Shared -> Prop} {o:Obj} {n:Nat} (ho:s.heap.get? l = some o) (hc:o.cls = .type "tuple") (hd:o.data = .seq vs.toArray n)
  (h:Q vs { s with heap:=(s.heap.push (seqObj "list" #[] 0)).update s.heap.objs.size (Obj.mapSeq (· ++ vs.toArray)) }) (hsz:vs.length <= sizeLine):wpAny (model prog w) A (collect (.ref l)) Q E s:=by
 unfold collect
 refine wpAny_bind (wpAny_runValue (codeAny_builtin entry_proto_collect' ?_))
 show wpAny _ _ (newList [] >>= fun z=>again (.builtin "list.__iadd__" ⟨[z,.ref l],[]⟩)) _ _ s
 refine wpAny_bind (wpAny_newList (wpAny_pure ⟨Code.quiet_builtin _ (by decide +kernel),codeAny_builtin entry_list_iadd' ?_⟩))
 have z1:(s.heap.push (seqObj "list" #[] 0)).get? l = some o:=Heap.get?_push_of_some _ ho
 have z2:(s.heap.push (seqObj "list" #[] 0)).get? s.heap.objs.size = some (seqObj "list" #[] 0):=Heap.get?_push_size _ rfl
 show wpAny _ _ (Builtin.List.listExtendWith (.ref s.heap.objs.size) (.ref l) (.ref s.heap.objs.size)) _ _ ({ s with heap:=s.heap.push (seqObj "list" #[] 0) }:Shared)
 unfold Builtin.List.listExtendWith
 refine wpAny_bind (wpAny_typeOf (T:="tuple") ⟨o,z1,hc⟩ ?_)
 rw [if_pos (by rw [show (Value.type "tuple" == Value.type "tuple") = true from rfl,Bool.or_true])]
 refine wpAny_bind (listItems_at z1 hd (wpAny_bind (listItems_at z2 rfl ?_)))
 rw [if_neg (by simp)]
 refine wpAny_bind (listUpdate_at z2 rfl ?_ (Nat.zero_le _) (by
  show (#[] ++ vs.toArray).size <= sizeLine + 1
  rw [Array.size_append,List.size_toArray]
  exact Nat.le_succ_of_le (by simpa using hsz)))
 refine wpAny_pure ?_
 show wpAny (model prog w) A (load s.heap.objs.size >>= fun o=>match o.data with
   | .seq xs _=>pure xs.toList
   | _=>unsupported "internal:collect") Q E ({ s with heap:=(s.heap.push (seqObj "list" #[] 0)).update s.heap.objs.size (Obj.mapSeq (· ++ vs.toArray)) }:Shared)
 refine wpAny_bind (wpAny_load (get?_update_seq z2 _) ?_)
 show wpAny _ _ (pure ((#[]:Array Value) ++ vs.toArray).toList) Q E _
 rw [show ((#[]:Array Value) ++ vs.toArray).toList = vs by simp]
 exact wpAny_pure h
theorem qk {l:Addr} {vs:List Value} {ns:List Int} {Q:Value -> Shared -> Prop} {o:Obj} {n:Nat} (ho:s.heap.get? l = some o) (hc:o.cls = .type "tuple") (hd:o.data = .seq vs.toArray n) (hI:IntsAre vs ns) (ur:vs.length < 64)
  (h:∀ (out:Array Value) (lF:List Int),IntsAre out.toList lF -> lF.Perm ns -> lF.Pairwise (· <= ·) -> Q (.ref (s.heap.objs.size + 1)) { s with heap:=sortedAll s.heap vs out }):wpAny (model prog w) A (call (.builtin "sorted") [.ref l]) Q E s:=by
 refine Calls.call_function_entry kind_sorted plain_sorted entry_sorted (args_sorted1 _) ?_
 unfold Builtin.«sorted»
 have hz:vs.length <= sizeLine:=by rw [sizeLine_eq];omega
 refine wpAny_bind (m:=checkCount "sorted" 1 1 _) (wpAny_pure (wpAny_bind (pJ ho hc hd (wpAny_bind (wpAny_newList ?_)) hz)))
 have e1:((s.heap.push (seqObj "list" #[] 0)).update s.heap.objs.size (Obj.mapSeq (· ++ vs.toArray))).objs.size = s.heap.objs.size + 1:=by rw [Heap.size_update,size_push']
 have e2:(((s.heap.push (seqObj "list" #[] 0)).update s.heap.objs.size (Obj.mapSeq (· ++ vs.toArray))).push (seqObj "list" vs.toArray 0)).get? (s.heap.objs.size + 1) = some (seqObj "list" vs.toArray 0):=by
  rw [<- e1];exact Heap.get?_push_size _ rfl
 show wpAny _ _ _ _ _ ({ s with heap:=((s.heap.push (seqObj "list" #[] 0)).update s.heap.objs.size (Obj.mapSeq (· ++ vs.toArray))).push (seqObj "list" vs.toArray 0) }:Shared)
 rw [e1]
 refine wpAny_bind (wpAny_holding (wpAny_call_entry slot_list_sort ⟨_,e2,rfl⟩ entry_list_sort (list_sort_tree e2 hI ur fun out lF a1 a2 a3=>⟨_,rfl,wpAny_pure ⟨_,rfl,h out lF a1 a2 a3⟩⟩) (args_list_sort _)))
end
theorem sortI_perm (ns:List Int):(sortI ns).Perm ns:=List.mergeSort_perm ..
theorem Bz (ns:List Int):(sortI ns).Pairwise (· <= ·):=by
 have:=List.pairwise_mergeSort (le:=fun a b:Int=>decide (a <= b)) (by intro a b c;simp;omega) (by intro a b;simp;omega) ns
 unfold sortI
 simpa using this
theorem d_:∀ {vs:List Value} {ns:List Int},Vals (ns.map V.int) vs -> IntsAre vs ns
 | _,[],h=>by cases h;exact .nil
 | _,n :: ns,h=>by
  cases h with
  | cons r t=>obtain ⟨tk,rfl⟩:=r;exact .cons n tk (d_ t)
theorem t8 {X:Cx}:gg X (.builtin "sorted") (fun xs H Q=>∃ (p:Addr) (ns:List Int),xs = [.ref p] /\ (dY X.K H p (ns.map V.int) \/ aG X.K H p (ns.map V.int)) /\ ns.length < 64 /\ ∀ l,H l = none -> Q (.ref l) (upd H l (.lst ((sortI ns).map V.int)))):=by
 intro pins s σ H xs us Q I r h
 obtain ⟨p,ns,rfl,hq,ur,q⟩:=h
 obtain ⟨u,rfl,ru⟩:=r.one
 cases ru
 have fin:∀ (vs:List Value) (out:Array Value) (lF:List Int),IntsAre out.toList lF -> lF.Perm ns -> lF.Pairwise (· <= ·) -> EP X pins σ Q (.ref (s.heap.objs.size + 1)) { s with heap:=sortedAll s.heap vs out }:=by
  intro vs out lF h1 h2 h3
  obtain rfl:lF = sortI ns:=PySem.W.ksm_same (h2.trans (sortI_perm ns).symm) h3 (Bz ns)
  obtain ⟨e,he⟩:=sortedAll_at s.heap vs out
  have hn:H (s.heap.objs.size + 1) = none:=I.dq.fresh (Nat.le_succ _)
  refine ⟨.ref (s.heap.objs.size + 1),upd H (s.heap.objs.size + 1) (.lst ((sortI ns).map V.int)),I.laid (t':=s.toks) (fun b u z=>sortedAll_old z) (Nat.le_succ _) ⟨?_,out.toList,e,ft h1,by simpa using he⟩,rfl,q _ hn⟩
  rw [List.length_map,(sortI_perm ns).length_eq,sizeLine_eq]
  omega
 rcases hq with hq | hq
 ·obtain ⟨aj,rv,pl,hz⟩:=I.list hq
  have hl:aj.length < 64:=by rw [<- rv.length];simpa using ur
  exact sorted_ints (eK pl) (d_ rv) hl fun out lF h1 h2 h3=>fin aj out lF h1 h2 h3
 ·obtain ⟨aj,rv,⟨o,ho,hc,n,hd⟩,hz⟩:=I.tuple hq
  have hl:aj.length < 64:=by rw [<- rv.length];simpa using ur
  exact qk ho hc hd (d_ rv) hl fun out lF h1 h2 h3=>fin aj out lF h1 h2 h3
end DI
end
section
namespace DI
open PySem PySem.Spec PyProof.Rows L2
theorem Bk:isSubtype (.type "tuple") (.type "set") = pure false:=by rw [isSubtype_type];kernel_rfl
theorem uB:isSubtype (.type "tuple") (.type "frozenset") = pure false:=by rw [isSubtype_type];kernel_rfl
abbrev mO (led:Bool):Obj:={ cls:=.type "set",dict:=none,data:=.set #[] 0 (.fresh 0 0 led) }
abbrev dist (ns:List Int):List Int:=firstMet (fun i=>ns.getD i 0) ns.length
section
variable {prog:Program} {w:World} {A:Around} {E:Value -> Shared -> Prop} {s:Shared}
theorem wF {l:Addr} {aj:List Value} {ns:List Int} {Q:Value -> Shared -> Prop} (hh:A.handled = none) (hl:s.heap.IsTuple l aj.toArray) (hi:IntsAre aj ns) (hb:aj.length + 1 < scanBound)
  (h:∀ (h':Heap) (tk:Nat),h'.SetOf (intKind prog w) s.heap.objs.size (fun k=>(dist ns).any (· == k)) (dist ns).length -> (∀ b o,b < s.heap.objs.size -> s.heap.get? b = some o -> h'.get? b = some o) -> Q (.ref s.heap.objs.size) { s with heap:=h',toks:=tk }) :
  wpAny (model prog w) A (call (.type "set") [.ref l]) Q E s:=by
 have hnl:aj.length = ns.length:=hi.length
 obtain ⟨c,tl,k1⟩:=F.called_set.mro
 have k2:=F.called_set.made
 have k3:=F.called_set.sub
 have k4:=F.called_set.notType
 have k5:=F.called_set.canCreate
 have k6:=F.typeCall_set_1 (.ref l)
 refine wpAny_call (codeAny_of_tree (show wpAny _ _ (callAny (.type "set") _) _ _ _ from wpAny_pure ⟨Code.quiet_builtin _ (by decide +kernel),codeAny_builtin F.entry_type_call ?_⟩))
 rw [Around.under_plain (weight_type_call_type "set" [.ref l] []) rfl]
 repeat (any_goals (first | assumption | wp_step))
 refine codeAny_mono (code_set_new_1 (.ref l) (E:=E) (Q₁:=fun z s₁=>∃ led:Bool,z = .ref s.heap.objs.size /\ s₁ = { s with heap:=s.heap.push (mO led) }) fun led=>⟨led,rfl,rfl⟩) fun r s₁ hr=>?_
 cases r with
 | error e=>exact hr
 | ok fl =>
  cases fl with
  | next=>exact hr.elim
  | brk=>exact hr.elim
  | cont=>exact hr.elim
  | ret z =>
   obtain ⟨led,rfl,rfl⟩:=hr
   have g1:(s.heap.push (mO led)).get? s.heap.objs.size = some (mO led):=Heap.get?_push_size _ rfl
   have g2:Shared.TypeIs { s with heap:=s.heap.push (mO led) } (.ref s.heap.objs.size) "set":=⟨_,g1,rfl⟩
   have g3:=F.called_set.init.lookup
   have g4:=F.called_set.init.bind (.ref s.heap.objs.size)
   repeat (any_goals (first | assumption | wp_step))
   refine codeAny_mono (codeAny_call_builtin (R:=wants (fun r s₂=>r = .none /\ ∃ h' tk,s₂ = { s with heap:=h',toks:=tk } /\ h'.SetOf (intKind prog w) s.heap.objs.size (fun k=>(dist ns).any (· == k)) (dist ns).length /\ ∀ b o,b < s.heap.objs.size -> s.heap.get? b = some o -> h'.get? b = some o) E) F.called_set.init.plain F.entry_set_init (check_set_init_1 g2 ?_)) fun r₂ s₂ vn=>?_
   ·obtain ⟨ot,hot,hct,nt,hdt⟩:=hl
    obtain ⟨oc,od,odt,DF⟩:=ot
    simp only at hct hdt
    subst hct
    subst hdt
    have u1:(s.heap.push (mO led)).get? l = some { cls:=.type "tuple",dict:=od,data:=.seq aj.toArray nt,slots:=DF }:=Heap.get?_push_of_some _ hot
    have u2:=Bk
    have u3:=uB
    have u4:(Value.type "tuple" == Value.type "dict") = false:=by decide
    have u5:(s.heap.push (mO led)).IsTuple l aj.toArray:=⟨_,u1,rfl,nt,rfl⟩
    unfold Builtin.«set.__init__» noKeywords Builtin.Frozenset.updateFrom
    generalize hPI:pyIter = PI
    wp_walk
    subst hPI
    refine wpAny_pyIter_tuple u5 (wpAny_bind (wpAny_runValue ?_))
    have u6:l < s.heap.objs.size:=Heap.lt_size hot
    have u7:A.in1.in1.in1.handled = none:=by simp [hh]
    have hz:(s.heap.push (mO led)).objs.size = s.heap.objs.size + 1:=Heap.size_push ..
    have u8:l ≠ (s.heap.push (mO led)).objs.size:=by rw [hz];exact Nat.ne_of_lt (Nat.lt_succ_of_lt u6)
    have u9:s.heap.objs.size ∉ [(s.heap.push (mO led)).objs.size,l]:=by
     rw [hz]
     intro m
     simp at m
     exact absurd m (Nat.ne_of_gt u6)
    have v1:∀ (i:Nat) (v:Value),aj.toArray[i]? = some v -> ∃ t,v = .int ((fun i=>ns.getD i 0) i) t:=fun i v hv=>hi.int_at i v (by simpa using hv)
    refine codeAny_set_update_loopS ((Walks.tuple u7 _ l u8 aj.toArray).toS) s.heap.objs.size u9 (fun i=>ns.getD i 0) v1 (by rw [List.size_toArray];exact hb) (aj.toArray.size - 0) 0 _ (by omega) (Nat.zero_le _) ⟨⟨_,Heap.get?_push_size _ rfl,rfl,rfl⟩,u5.push _⟩ ?hS0 ?hR
    case hS0 =>
     have y1:((s.heap.push (mO led)).push { cls:=.type "tuple_iterator",data:=.fields #[.ref l,.int 0 0] }).get? s.heap.objs.size = some (mO led):=Heap.get?_push_of_some _ g1
     exact SetOf_congr ((setObjOf_fresh (knd:=intKind prog w) led).setOf y1 (by unfold scanBound;omega)) (fun _=>rfl) rfl
    case hR =>
     intro s' hm Aw
     obtain ⟨h',g',d',tk',TK⟩:=s'
     cases (show g' = s.gens from hm.gens)
     cases (show d' = s.drawn from hm.drawn)
     cases (show TK = s.os from hm.os)
     have Aw:h'.SetOf (intKind prog w) s.heap.objs.size (fun k=>(dist ns).any (· == k)) (dist ns).length:=by
      have e:aj.toArray.size = ns.length:=by rw [List.size_toArray,hnl]
      rw [e] at Aw
      exact Aw
     refine wpAny_pure (show wpAny _ _ (ret Value.none) _ _ _ from wpAny_pure ⟨rfl,h',tk',rfl,Aw,fun b o hb e=>hm.heap b o (fun m=>?_) (Heap.get?_push_of_some _ (Heap.get?_push_of_some _ e))⟩)
     rcases List.mem_cons.mp m with m | m
     ·exact Nat.ne_of_lt hb m
     ·have m:b = (s.heap.push (mO led)).objs.size:=by simpa using m
      rw [hz] at m
      exact Nat.ne_of_lt (Nat.lt_succ_of_lt hb) m
   ·cases r₂ with
    | error e=>exact vn
    | ok OV =>
     cases OV with
     | ret r =>
      obtain ⟨rfl,h',tk,rfl,Aw,hk'⟩:=vn
      repeat (any_goals (first | assumption | wp_step))
      exact h _ _ Aw hk'
     | next=>exact vn.elim
     | brk=>exact vn.elim
     | cont=>exact vn.elim
end
theorem Dh (ns:List Int):dist ns = vJ ns:=by
 unfold dist firstMet vJ
 have e:(List.range ns.length).map (fun i=>ns.getD i 0) = ns:=by
  refine List.ext_getElem (by simp) fun i h1 h2=>?_
  simp at h1
  simp [h1]
 rw [e]
 rfl
def rLs (K:PySem.W.Frag):List V -> Hp -> VK -> Prop:=fun xs H Q=>∃ (p:Addr) (ns:List Int),xs = [.ref p] /\ aG K H p (ns.map V.int) /\ ns.length < 4000 /\ Q (.int (vJ ns).length) H
theorem boot_set:bootBuiltins ("set" : Str) = some (.type "set"):=by decide +kernel
theorem EG {X:Cx} {e:Expr} {t:TA} {p p' pos pos':Pos} (hc:X.calm = true) (WD:Gl X ("len" : Str)) (hm1:X.mg ("len" : Str) = none) (hg2:Gl X ("set" : Str)) (hm2:X.mg ("set" : Str) = none) (ha:PA X [e] t)
  (rM:∀ es,starEach (e :: es) X.env = (false,eval e X.env) :: starEach es X.env):PE X (.Call (.Name ("len" : Str) p) [.Call (.Name ("set" : Str) p') [e] [] pos'] [] pos) (ML (rLs X.K) t):=by
 intro pins s σ H Q I h
 refine wpAny_Call_Name_kw (eW I WD hm1 PySem.boot_len ?_ (by decide) (by decide))
 refine PyProof.Rows.callWith_builtin1 ?_ rfl rfl
 show wpAny _ _ (spliced ((false,eval (.Call (.Name ("set" : Str) p') [e] [] pos') X.env) :: [])) _ _ s
 refine Calls.spliced_cons ?_
 refine wpAny_Call_Name_kw (eW I hg2 hm2 boot_set ?_ (by decide) (by decide))
 refine PyProof.Rows.callWith_type1 (di (ha pos' pins s σ H _ I h) fun us s1 ⟨vs,H1,I1,r1,q1⟩=>?_) (rM _) rfl
 obtain ⟨a,ns,rfl,hq,hl,q⟩:=q1
 obtain ⟨u,rfl,ru⟩:=r1.one
 cases ru
 obtain ⟨aj,rv,it,hz⟩:=I1.tuple hq
 have hle:aj.length = ns.length:=by rw [<- rv.length];simp
 refine wF (I1.ok.hd hc) it (d_ rv) (by unfold scanBound;omega) fun h' tk hS kp=>Calls.spliced_nil ?_
 rw [Dh] at hS
 obtain ⟨o,es,ep,tb,g1,g2,g3,_,_,g6,g7,g8⟩:=hS
 refine call_len_set g1 g2 g3 g7 (by unfold scanBound at g6;omega) ?_
 exact ⟨.int (vJ ns).length,H1,I1.kept (t':=tk + 1 + 1) fun b u z=>kp b u (Heap.lt_size z) z,⟨_,by rw [g8]⟩,q⟩
end DI
end
section
namespace DI
open PySem PySem.Spec PyProof.Rows L2
section
variable {X:Cx} {S:Sx} {k:Nat} {F:Addr -> Prop} {Φ:az}
theorem Lk.u40 (L:Lk X S k Φ):X.A.units + 40 < cLine:=by have:=L.room.units;omega
def Qx (K:PySem.W.Frag) (neg:Bool):R2:=fun v u H Q=>∃ (d d':D) (N N':i3) (k k':aI),Rep (aG K H) N k v d /\ Rep (aG K H) N' k' u d' /\ (∀ q p xs f,N q p (.l xs) f -> dY K H p xs) /\ (∀ q p xs f,N' q p (.l xs) f -> dY K H p xs) /\ dZ 40 d = true /\ dZ 40 d' = true /\
 Q (.bl (if neg then !lj d d' else lj d d')) H
theorem Jb (hu:X.A.units + 40 < cLine):km X (compareOp .Eq) (Qx X.K false):=by
 intro pins s σ H x y v u Q I rx ry h
 obtain ⟨d,d',N,N',k,k',r1,r2,n1,n2,o1,o2,q⟩:=h
 exact (alike I n1 n2 40 X.A r1 r2 o1 o2 rx ry hu).rc X.prog X.w X.xe _ ⟨.bl _,H,I,rfl,q⟩
theorem I_ (hu:X.A.units + 40 < cLine):km X (compareOp .NotEq) (Qx X.K true):=by
 intro pins s σ H x y v u Q I rx ry h
 obtain ⟨d,d',N,N',k,k',r1,r2,n1,n2,o1,o2,q⟩:=h
 exact (alike I n1 n2 40 X.A r1 r2 o1 o2 rx ry hu).ne X.prog X.w X.xe _ ⟨.bl _,H,I,rfl,q⟩
theorem BJ {T T':jZ} {N N':i3} {k k':aI} {v v':V} {d d':D} (h:Rep T N k v d) (h':Rep T' N' k' v' d') (f:iV d = true) (f':iV d' = true):jk v = true /\ DN v v' = lj d d':=by
 cases h <;> first | (cases f;done) | (cases h' <;> first | (cases f';done) | exact ⟨rfl,by simp [DN,lj]⟩)
theorem rB {T:jZ} {N:i3} {k:aI} {v:V} {d:D} (h:Rep T N k v d) (f:iV d = true):jk v = true:=by
 cases h <;> first | (cases f;done) | rfl
theorem sJ {T T':jZ} {N N':i3} {k':aI} {v:V} {d:D} (hv:Rep T' N' k' v d) (f:iV d = true):∀ {k:aI} {n:Nat} {xs:List V} {ds:List D},af T N k n xs ds -> ds.all iV = true -> xs.all jk = true /\ QP v xs = inD d ds
 | _,_,_,_,.nil,_=>⟨rfl,rfl⟩
 | _,_,_,_,.cons h t,fs=>by
  rw [List.all_cons,Bool.and_eq_true] at fs
  obtain ⟨h1,h2⟩:=sJ hv f t fs.2
  obtain ⟨g1,g2⟩:=BJ h hv fs.1 f
  refine ⟨by rw [List.all_cons,g1,h1];rfl,?_⟩
  unfold QP at h2 ⊢
  rw [List.any_cons,g2,h2];rfl
def IA (K:PySem.W.Frag) (op:A8):R2:=match op with
 | .eq=>Qx K false
 | .ne=>Qx K true
 | .lt=>BM fun i j=>.bl (decide (i < j))
 | .le=>BM fun i j=>.bl (decide (i <= j))
 | .gt=>BM fun i j=>.bl (decide (j < i))
 | .ge=>BM fun i j=>.bl (decide (j <= i))
 | .NW=>fun x y H Q=>y = .bC /\ Q (.bl (decide (x = .bC))) H
 | .B8=>fun x y H Q=>y = .bC /\ Q (.bl (!decide (x = .bC))) H
 | .Hf=>SO K false
theorem B5 (L:Lk X S k Φ) (op:A8):km X (compareOp (TM op)) (IA X.K op):=by
 cases op with
 | eq=>exact Jb L.u40
 | ne=>exact I_ L.u40
 | lt=>exact Np
 | le=>exact Nq
 | gt=>exact Nr
 | ge=>exact Nt
 | NW=>exact Ja
 | B8=>exact EM
 | Hf=>exact Aa
theorem Cb {op:CmpOp} {r:Expr} (h:rH r = true):behindInMarks op r = false:=by
 cases r <;> first | rfl | (cases h;done)
theorem nK {op:A8} {x y d:D} (Oc:op = .lt \/ op = .le \/ op = .gt \/ op = .ge) (h:fS op x y = ok d):∃ i j,x = .int i /\ y = .int j:=by
 cases x with
 | int i=>cases y with
  | int j=>exact ⟨i,j,rfl,rfl⟩
  | _=>rcases Oc with rfl | rfl | rfl | rfl <;> cases h
 | _=>rcases Oc with rfl | rfl | rfl | rfl <;> cases h
theorem vO {op:A8} {a b:CE} {σ:St} {H:Hp} {Q:VK} (hq:tD X F Φ (.cmp op a b) σ H Q):GL (IA X.K op) (tD X F Φ a) (tD X F Φ b) σ H Q:=by
 obtain ⟨R,τ,ρ,d,Si,ev,hq⟩:=hq
 obtain ⟨x,ex,ev⟩:=ag ev
 obtain ⟨y,ey,ev⟩:=ag ev
 refine tD.intro Si ex fun v H1 e1 r1=>tD.intro (Si.go e1) ey fun u H2 e2 r2=>?_
 have e:=e1.trans e2
 have rv:=r1.go e2
 have ru:=r2
 obtain ⟨τ1,f1,p1⟩:=rv
 obtain ⟨τ2,f2,p2⟩:=ru
 have sq:∀ {A:Addr -> Prop} {τ:Addr -> Option aI} (q:aI) (p:Addr) (xs:List V) (f:Fl),nd X.K R A τ H2 q p (.l xs) f -> dY X.K H2 p xs:=fun q p xs f h=>h.sq
 cases op with
 | eq =>
  obtain ⟨hc,ev⟩:=rL ev
  ·subst ev
   rw [Bool.and_eq_true] at hc
   exact ⟨x,y,_,_,_,_,p1,p2,sq,sq,hc.1,hc.2,hq _ H2 e .bl⟩
 | ne =>
  obtain ⟨hc,ev⟩:=rL ev
  ·subst ev
   rw [Bool.and_eq_true] at hc
   exact ⟨x,y,_,_,_,_,p1,p2,sq,sq,hc.1,hc.2,hq _ H2 e .bl⟩
 | lt=>obtain ⟨i,j,rfl,rfl⟩:=nK (by simp) ev;cases ev;cases p1;cases p2;exact ⟨_,_,rfl,rfl,hq _ H2 e .bl⟩
 | le=>obtain ⟨i,j,rfl,rfl⟩:=nK (by simp) ev;cases ev;cases p1;cases p2;exact ⟨_,_,rfl,rfl,hq _ H2 e .bl⟩
 | gt=>obtain ⟨i,j,rfl,rfl⟩:=nK (by simp) ev;cases ev;cases p1;cases p2;exact ⟨_,_,rfl,rfl,hq _ H2 e .bl⟩
 | ge=>obtain ⟨i,j,rfl,rfl⟩:=nK (by simp) ev;cases ev;cases p1;cases p2;exact ⟨_,_,rfl,rfl,hq _ H2 e .bl⟩
 | NW =>
  cases y <;> simp [fS] at ev
  cases p2
  refine ⟨rfl,hq _ H2 e ?_⟩
  cases ev
  cases p1 <;> exact .bl
 | B8 =>
  cases y <;> simp [fS] at ev
  cases p2
  refine ⟨rfl,hq _ H2 e ?_⟩
  cases ev
  cases p1 <;> exact .bl
 | Hf =>
  simp only [fS] at ev
  split at ev
  ·rename_i ds hi
   split at ev
   ·rename_i hc
    rw [Bool.and_eq_true] at hc
    cases ev
    cases p2 with
    | tup h rs=>cases hi;obtain ⟨g1,g2⟩:=sJ p1 hc.1 rs hc.2;exact ⟨_,_,rfl,.inr h,rB p1 hc.1,g1,by rw [g2];exact hq _ H2 e .bl⟩
    | lst h rs=>cases hi;obtain ⟨g1,g2⟩:=sJ p1 hc.1 rs hc.2;exact ⟨_,_,rfl,.inl h.sq,rB p1 hc.1,g1,by rw [g2];exact hq _ H2 e .bl⟩
    | _=>cases hi
   ·cases ev
  ·cases ev
theorem Bq {c:CE} {σ:St} {H:Hp} {Q:Bool -> Hp -> Prop} (h:hX X F Φ c σ H Q):tB (tD X F Φ c) σ H Q:=by
 obtain ⟨R,τ,ρ,b,Si,ev,hq⟩:=h
 unfold wj at ev
 obtain ⟨d,ed,et⟩:=ag ev
 refine tD.intro Si ed fun v H' e r=>?_
 cases d <;> simp [hV] at et
 cases et
 exact ⟨_,r.Al,hq H' e⟩
theorem cV {c:CE} {e:Expr} (h:PE X e (tD X F Φ c)) (he:∀ whole,isTrue e X.env whole = (do let v <- whole;standAt e.pos;holding [v] (truthy v))):PT X e (hX X F Φ c) :=
 PT.imp (ID h he) fun _ _ _ h=>Bq h
theorem zJ {op:A8} {a b:CE} {σ:St} {H:Hp} {Q:Bool -> Hp -> Prop} (h:hX X F Φ (.cmp op a b) σ H Q):GJ (GL (IA X.K op) (tD X F Φ a) (tD X F Φ b)) σ H Q :=
 vO (Bq h)
theorem dictAt {pins:List (Addr × Obj)} {σ:St} {H:Hp} {s:Shared} {p:Addr} {cs:List (List Int)} {as:List Addr} {xs:List V} {ep:Nat} (I:Inv X pins σ H s) (h:H p = some (.ext (DO p cs as xs ep))):∃ o,s.heap.get? p = some o /\ o.cls = .type "dict":=by
 obtain ⟨⟨zs,o,es,_,_,_,ho,hx,_⟩,_⟩:=(show cN X.prog X.w H s.heap p (.ext (DO p cs as xs ep)) from I.dq p _ h)
 exact ⟨o,ho,hx.1⟩
theorem Jz (L:Lk X S k Φ) (t:Ty):gg X (.builtin "isinstance") (fun xs H Q=>∃ (x:V) (d:D) (N:i3) (k:aI),xs = [x,.ty (tyName t)] /\ Rep (aG X.K H) N k x d /\ (∀ q p xs f,N q p (.l xs) f -> dY X.K H p xs) /\ (∀ q p cs as xs ep f,N q p (.d cs as xs ep) f -> H p = some (.ext (DO p cs as xs ep))) /\ Q (.bl (dX t d)) H):=by
 intro pins s σ H xs us Q I r h
 obtain ⟨x,d,N,k,rfl,rp,hN,hND,q⟩:=h
 obtain ⟨u,w',rfl,ru,qe⟩:=vals2 r
 cases (show w' = Value.type (tyName t) from qe)
 have kt:=Fe X.K t
 have fin:∀ b:Bool,b = dX t d -> ∀ tk,EP X pins σ Q (.bool b) { s with toks:=tk }:=fun b e tk=>⟨.bl b,H,I.tok tk,rfl,by rw [e];exact q⟩
 cases rp with
 | bC=>cases ru;exact PySem.W.kia_one PySem.W.kitx_none I.A2 True.intro (kt "NoneType" (by simp [kinds])) (fun z=>nomatch z) (fin _ (by cases t <;> rfl))
 | bl b=>cases ru;exact PySem.W.kia_one PySem.W.kitx_bool I.A2 True.intro (kt "bool" (by simp [kinds])) (fun z=>nomatch z) (fin _ (by cases t <;> rfl))
 | int i=>obtain ⟨t',rfl⟩:=ru;exact PySem.W.kia_one PySem.W.kitx_int I.A2 True.intro (kt "int" (by simp [kinds])) (fun z=>nomatch z) (fin _ (by cases t <;> rfl))
 | tup h _ =>
  cases ru
  obtain ⟨aj,_,⟨o,h1,h2,_⟩,_⟩:=I.tuple h
  exact PySem.W.kia_one PySem.W.kitx_tuple I.A2 ⟨o,h1,h2⟩ (kt "tuple" (by simp [kinds])) (fun z=>nomatch z) (fin _ (by cases t <;> rfl))
 | lst h _ =>
  cases ru
  obtain ⟨aj,_,⟨o,n,h1,h2,_⟩,_⟩:=I.list (hN _ _ _ _ h)
  exact PySem.W.kia_one PySem.W.kitx_list I.A2 ⟨o,h1,h2⟩ (kt "list" (by simp [kinds])) (fun z=>nomatch z) (fin _ (by cases t <;> rfl))
 | cx h _ _ =>
  cases ru
  obtain ⟨o,h1,h2⟩:∃ o,s.heap.get? _ = some o /\ o.cls = .type "dict":=dictAt I (hND _ _ _ _ _ _ _ h)
  exact PySem.W.kia_one PySem.W.kitx_dict I.A2 ⟨o,h1,h2⟩ (kt "dict" (by simp [kinds])) (fun z=>nomatch z) (fin _ (by cases t <;> rfl))
theorem Gj (t:Ty):bootBuiltins (tyName t:Str) = some (.type (tyName t)):=by
 cases t <;> decide +kernel
theorem q_ (t:Ty):(tyName t:Str) ≠ "__name__" /\ ((tyName t:Str) == ("__debug__" : Str)) = false:=by
 cases t <;> decide +kernel
theorem Io (L:Lk X S k Φ) {a:CE} {t:Ty} {e:Expr} {p p' pos:Pos} (hf:g_ S.sc ("isinstance" : Str) = true) (WG:("isinstance" : Str) ∈ S.bl) (hg:g_ S.sc (tyName t:Str) = true) (WC:(tyName t:Str) ∈ S.bl)
  (ha:PE X e (tD X F Φ a)) (rM:∀ es,starEach (e :: es) X.env = (false,eval e X.env) :: starEach es X.env):PE X (.Call (.Name ("isinstance" : Str) p) [e,.Name (tyName t:Str) p'] [] pos) (tD X F Φ (.qf a t)):=by
 have hT:PE X (.Name (tyName t:Str) p') (tC (.ty (tyName t))):=EJ (L.gl hg) (L.bl _ WC) (Gj t) rfl (q_ t).1 (q_ t).2
 refine PE.imp (fE (Jz L t) (L.gl hf) (L.bl _ WG) PyProof.Rows.boot_isinstance (d7 ha (d7 hT ib) (rM _)) (he:=rM _)) fun σ H Q hq=>?_
 obtain ⟨R,τ,ρ,d,Si,ev,hq⟩:=hq
 obtain ⟨x,ex,ev⟩:=ag ev
 cases ev
 refine tD.intro Si ex fun v H1 e1 r1=>?_
 obtain ⟨τ1,f1,p1⟩:=r1
 exact ⟨v,x,_,_,rfl,p1,fun q p xs f h=>h.sq,fun q p cs as xs ep f h=>h.dat,hq _ H1 e1 .bl⟩
theorem JF:@DI.Ah = @L2.Ah:=rfl
theorem MY (L:Lk X S k Φ) {a b:CE} {e i:Expr} {pos:Pos} (ha:PE X e (tD X F Φ a)) (hb:PE X i (tD X F Φ b)) (hp:nX i):PE X (.Subscript e i pos) (tD X F Φ (.ix a b)):=by
 refine PE.imp (G6 (Fg.or JE) ha hb hp) fun σ H Q hq=>?_
 obtain ⟨R,τ,ρ,d,Si,ev,hq⟩:=hq
 obtain ⟨x,ex,ev⟩:=ag ev
 obtain ⟨y,ey,ev⟩:=ag ev
 refine tD.intro Si ex fun v H1 e1 r1=>tD.intro (Si.go e1) ey fun u H2 e2 r2=>?_
 have ee:=e1.trans e2
 have rv:=(r1.go e2).mono (fv':=gO (.ix a b)) fun j hj=>List.mem_append_left _ hj
 have item:∀ {q:aI} {xs:List V} {ds:List D} {τt:Addr -> Option aI} {j:Int},(∀ p q,τt p = some q -> H p = none) -> af (aG X.K H2) (nd X.K R (kl (gP X F) τ (gO (.ix a b))) τt H2) q 0 xs ds -> v5 ds j = ok d -> ∃ w,L2.Me xs j = some w /\ Q w H2:=by
  intro q xs ds τt j fr rs h
  unfold v5 at h
  split at h
  ·rename_i d' hd
   cases h
   cases hx:DI.Ah ds.length j with
   | none=>rw [hx] at hd;cases hd
   | some m =>
    rw [hx] at hd
    obtain ⟨w,hw,qe⟩:=rs.get (show ds[m]? = some d' from hd)
    refine ⟨w,?_,hq w H2 ee ⟨fun _=>none,fun _ _ h=>by simp at h,qe.fb Si fr⟩⟩
    unfold L2.Me
    rw [<- JF,rs.length,hx];exact hw
  ·cases h
 cases y with
 | int j =>
  obtain ⟨τt,fr,rp⟩:=rv
  cases r2.isInt
  cases x with
  | tup ds =>
   cases rp with
   | @tup _ p xs _ h rs=>obtain ⟨w,h1,h2⟩:=item fr rs ev;exact .inr ⟨p,xs,j,w,rfl,rfl,h,h1,h2⟩
  | lst f ds =>
   cases rp with
   | @lst _ p xs _ _ h rs=>obtain ⟨w,h1,h2⟩:=item fr rs ev;exact .inl ⟨p,xs,j,w,rfl,rfl,h.sq,h1,h2⟩
  | _=>cases ev
 | _=>cases x <;> cases ev
theorem pB:∀ (cs:List CE) {ρ:aA} {ds:List D},c_ Φ cs ρ = ok ds -> ds.length = cs.length
 | [],_,_,h=>by cases h;rfl
 | c :: cs,_,_,h=>by
  obtain ⟨x,_,h⟩:=ag h
  obtain ⟨xs,hx,h⟩:=ag h
  cases h
  simp [pB cs hx]
theorem Ii {cs:List CE} {es:List Expr} {n:Nat} {pos:Pos} (h:PA X es (uF X F Φ cs)) (hl:cs.length <= 1000):PE X (.Tuple es n pos) (tD X F Φ (.tup cs)):=by
 refine PE.imp (IM h) fun σ H Q hq=>?_
 obtain ⟨R,τ,ρ,d,Si,ev,hq⟩:=hq
 obtain ⟨ds,KS,ev⟩:=ag ev
 cases ev
 refine ⟨R,τ,ρ,ds,Si,KS,fun vs H1 e1 r1=>?_⟩
 obtain ⟨τt,fr,rs⟩:=r1
 have hz:sizeLine = 16777216:=sizeLine_eq
 refine ⟨by rw [rs.length,pB cs KS];omega,fun p hp=>?_⟩
 have es:ak H1 (upd H1 p (.tup vs)):=ak.upd hp
 exact hq _ _ (e1.trans es) ⟨τt,fr,.tup (aG.of aK) (rs.imp (fun _ _ h=>aG.same es h) fun _ _ _ _ h=>nd.same es h)⟩
theorem Il {cs:List CE} {es:List Expr} {pos:Pos} (h:PA X es (uF X F Φ cs)) (hl:cs.length <= 1000):PE X (.List es pos) (tD X F Φ (.lst cs)):=by
 refine PE.imp (IS h) fun σ H Q hq=>?_
 obtain ⟨R,τ,ρ,d,Si,ev,hq⟩:=hq
 obtain ⟨ds,KS,ev⟩:=ag ev
 cases ev
 refine ⟨R,τ,ρ,ds,Si,KS,fun vs H1 e1 r1=>?_⟩
 obtain ⟨τt,fr,rs⟩:=r1
 have hz:sizeLine = 16777216:=sizeLine_eq
 refine ⟨by rw [rs.length,pB cs KS];omega,fun p hp=>?_⟩
 have es:ak H1 (upd H1 p (.lst vs)):=ak.upd hp
 refine hq _ _ (e1.trans es) ⟨fun q=>if q = p then some [] else τt q,fun q z hq=>?_,.lst ⟨aK,by simp⟩ (rs.imp (fun _ _ h=>aG.same es h) fun c q xs f h=>?_)⟩
 ·by_cases xa:q = p
  ·subst xa;exact e1.free hp
  ·simp only [xa,if_false] at hq;exact fr q z hq
 ·have h':=nd.same es h
  cases f with
  | ow =>
   have xa:q ≠ p:=by
    intro z;subst z
    exact h.1.ne hp
   exact ⟨h'.1,by simp only [xa,if_false];exact h'.2⟩
  | fz=>exact h'
  | al=>exact h'
  | sc=>exact h'
theorem Eo (L:Lk X S k Φ) {f:Nat} {x:Str} {cs:List CE} {y:Expr} {ys:List Expr} {p pos:Pos} (hf:S.fn f = some x) (hg:g_ S.sc x = true) (hn:oM x = true) (ha:PA X (y :: ys) (uF X F Φ cs))
  (rM:∀ es,starEach (y :: es) X.env = (false,eval y X.env) :: starEach es X.env) (hpl:∀ pos,(backTo pos (starEach ys X.env)).any (·.1) = false):PE X (.Call (.Name x p) (y :: ys) [] pos) (tD X F Φ (.call f cs)):=by
 obtain ⟨a,fd,ps,Fo,hm,hk,hb,hl⟩:=(L.fn f x hf).ex
 unfold oM at hn
 simp only [Bool.and_eq_true,Bool.not_eq_true'] at hn
 refine PE.imp (EI Fo L.room (L.gl hg) hm hk hb .nil (Nl (X:=X)) ha hn.1.1 (rM _) (hpl _)) fun σ H Q hq=>?_
 obtain ⟨R,τ,ρ,d,Si,ev,hq⟩:=hq
 obtain ⟨xs,df,ev⟩:=ag ev
 obtain ⟨r,er,ev⟩:=ag ev
 cases ev
 refine ⟨R,τ,ρ,xs,Si,df,fun vs H1 e1 r1=>?_⟩
 obtain ⟨τt,fr,rs⟩:=r1
 have fresh:∀ p,H p = none -> kl (gP X F) τ (du cs) p:=fun p hp=>⟨.inr (Si.same.free hp),fun c i e=>absurd hp (Si.th p _ e)⟩
 have hR:∀ p,R p -> kl (gP X F) τ (du cs) p:=fun p hp=>⟨Si.rf p hp,fun c i e=>by rw [Si.rt p hp] at e;cases e⟩
 rw [List.append_nil]
 refine ⟨kl (gP X F) τ (du cs),ah aN xs,r,by rw [rs.length,<- hl _ _ er,av,List.length_map],af.jd (fun _ _ h=>h) (fun k k' p xs f h=>?_) rs _ _,er,fun v H2 e2 rr=>?_⟩
 ·cases f with
  | ow=>exact ⟨h.1,fresh p (fr p _ h.2)⟩
  | fz=>exact ⟨h.1,hR p h.2⟩
  | al=>exact h
  | sc=>exact h
 ·obtain ⟨τ2,L8,rp⟩:=rr
  refine hq v H2 (e1.trans e2) ⟨τ2,fun p q h=>e1.free (L8 p q h),Rep.map (q:=[]) (q':=[]) (fun _ _ h=>h) (fun c p xs f h=>?_) rp [] rfl⟩
  cases f with
  | ow=>exact h
  | fz=>exact ⟨h.1,h.2.elim id fun z=>fresh p (e1.free z)⟩
  | al=>exact h.2.elim
  | sc=>exact h
def rBf (K:PySem.W.Frag) (f:Bf):List V -> Hp -> VK -> Prop:=match f with
 | .len=>fun xs H Q=>∃ p ys,xs = [.ref p] /\ (dY K H p ys \/ aG K H p ys) /\ Q (.int ys.length) H
 | .abs=>fun xs H Q=>∃ i,xs = [.int i] /\ Q (.int (if i < 0 then -i else i)) H
 | .Cw=>fun xs H Q=>(∃ i,xs = [.int i] /\ Q (.int i) H) \/ ∃ k,xs = [.bl k] /\ Q (.int (if k then 1 else 0)) H
 | .list1=>fun xs H Q=>∃ p ys,xs = [.ref p] /\ (dY K H p ys \/ aG K H p ys) /\ ∀ l,H l = none -> Q (.ref l) (upd H l (.lst ys))
 | .tuple1=>fun xs H Q=>∃ p ys,xs = [.ref p] /\ ((dY K H p ys /\ ∀ l,H l = none -> Q (.ref l) (upd H l (.tup ys))) \/ (aG K H p ys /\ Q (.ref p) H))
 | .gh=>fun xs H Q=>∃ (p:Addr) (ns:List Int),xs = [.ref p] /\ dY K H p (ns.map V.int) /\ Q (.int ns.sum) H
 | .all1=>fun xs H Q=>∃ (p:Addr) (bs:List Bool),xs = [.ref p] /\ dY K H p (bs.map V.bl) /\ Q (.bl (bs.all id)) H
 | .ia=>fun xs H Q=>∃ (p:Addr) (ns:List Int),xs = [.ref p] /\ (dY K H p (ns.map V.int) \/ aG K H p (ns.map V.int)) /\ ns.length < 64 /\ ∀ l,H l = none -> Q (.ref l) (upd H l (.lst ((sortI ns).map V.int)))
theorem af.one {T:jZ} {N:i3} {k:aI} {n:Nat} {vs:List V} {d:D} (h:af T N k n vs [d]):∃ v,vs = [v] /\ Rep T N (n :: k) v d:=by
 cases h with
 | cons h t=>cases t;exact ⟨_,rfl,h⟩
theorem af.two {T:jZ} {N:i3} {k:aI} {n:Nat} {vs:List V} {d e:D} (h:af T N k n vs [d,e]):∃ v w,vs = [v,w] /\ Rep T N (n :: k) v d /\ Rep T N ((n + 1) :: k) w e:=by
 cases h with
 | cons h t=>obtain ⟨w,rfl,h'⟩:=t.one;exact ⟨_,_,rfl,h,h'⟩
theorem af.ints1 {T:jZ} {N:i3} {k:aI} {n:Nat} {vs:List V} {i:Int} (h:af T N k n vs [.int i]):vs = [.int i]:=by
 obtain ⟨v,rfl,z⟩:=h.one;cases z;rfl
theorem af.ints2 {T:jZ} {N:i3} {k:aI} {n:Nat} {vs:List V} {i j:Int} (h:af T N k n vs [.int i,.int j]):vs = [.int i,.int j]:=by
 obtain ⟨v,w,rfl,z,z'⟩:=h.two;cases z;cases z';rfl
def Bf.one:Bf -> Bool
 | _=>true
theorem Hy {f:Bf} {xs:List D} {d:D} (hf:f.one = true) (h:pT f xs = ok d):∃ x,xs = [x]:=by
 cases xs with
 | nil=>cases f <;> cases h
 | cons x xs=>cases xs with
  | nil=>exact ⟨x,rfl⟩
  | cons y ys=>cases f <;> first | (cases hf;done) | (cases x <;> cases h)
theorem af.ofInts {T:jZ} {N:i3} {k:aI}:∀ {ns:List Int} {n:Nat} {vs:List V},af T N k n vs (ns.map D.int) -> vs = ns.map V.int
 | [],_,_,h=>by cases h;rfl
 | i :: ns,_,_,h=>by
  cases h with
  | cons h t=>cases h;rw [af.ofInts t];rfl
theorem af.G9 {T:jZ} {N:i3} {k:aI}:∀ {ns:List Bool} {n:Nat} {vs:List V},af T N k n vs (ns.map D.bl) -> vs = ns.map V.bl
 | [],_,_,h=>by cases h;rfl
 | i :: ns,_,_,h=>by
  cases h with
  | cons h t=>cases h;rw [af.G9 t];rfl
theorem jL {T:jZ} {N:i3} {k:aI}:∀ (ns:List Int) {n:Nat},af T N k n (ns.map V.int) (ns.map D.int)
 | [],_=>.nil
 | i :: ns,_=>.cons (.int i) (jL ns)
theorem Gk {f:Bf} {cs:List CE} {σ:St} {H:Hp} {Q:VK} (hq:tD X F Φ (.bf f cs) σ H Q):ML (rBf X.K f) (uF X F Φ cs) σ H Q:=by
 obtain ⟨R,τ,ρ,d,Si,ev,hq⟩:=hq
 obtain ⟨xs,df,ev⟩:=ag ev
 refine ⟨R,τ,ρ,xs,Si,df,fun vs H1 e1 r1=>?_⟩
 obtain ⟨τt,fr,rs⟩:=r1
 cases f with
 | len =>
  obtain ⟨x,rfl⟩:=Hy rfl ev
  obtain ⟨v,rfl,rv⟩:=rs.one
  cases x with
  | tup ds=>cases ev;cases rv with | tup h r=>exact ⟨_,_,rfl,.inr h,by rw [r.length];exact hq _ H1 e1 .int⟩
  | lst f ds=>cases ev;cases rv with | lst h r=>exact ⟨_,_,rfl,.inl h.sq,by rw [r.length];exact hq _ H1 e1 .int⟩
  | _=>cases ev
 | abs =>
  obtain ⟨x,rfl⟩:=Hy rfl ev
  cases x with
  | int i=>cases ev;cases rs.ints1;exact ⟨_,rfl,hq _ H1 e1 .int⟩
  | _=>cases ev
 | Cw =>
  obtain ⟨x,rfl⟩:=Hy rfl ev
  obtain ⟨v,rfl,rv⟩:=rs.one
  cases x with
  | int i=>cases ev;cases rv;exact .inl ⟨_,rfl,hq _ H1 e1 .int⟩
  | bl i=>cases ev;cases rv;exact .inr ⟨_,rfl,hq _ H1 e1 .int⟩
  | _=>cases ev
 | list1 =>
  obtain ⟨x,rfl⟩:=Hy rfl ev
  obtain ⟨v,rfl,rv⟩:=rs.one
  cases x with
  | tup ds =>
   cases ev
   cases rv with
   | tup h r =>
    refine ⟨_,_,rfl,.inr h,fun l hl=>?_⟩
    exact hq _ _ (e1.trans (ak.upd hl)) (bJ.sR (e1.free hl) (e1.trans (ak.upd hl)) aK ((r.fb Si fr).imp (fun _ _ h=>aG.same (ak.upd hl) h) fun _ _ _ _ h=>nd.same (ak.upd hl) h))
  | lst f ds =>
   cases ev
   cases rv with
   | lst h r =>
    refine ⟨_,_,rfl,.inl h.sq,fun l hl=>?_⟩
    exact hq _ _ (e1.trans (ak.upd hl)) (bJ.sR (e1.free hl) (e1.trans (ak.upd hl)) aK ((r.fb Si fr).imp (fun _ _ h=>aG.same (ak.upd hl) h) fun _ _ _ _ h=>nd.same (ak.upd hl) h))
  | _=>cases ev
 | tuple1 =>
  obtain ⟨x,rfl⟩:=Hy rfl ev
  obtain ⟨v,rfl,rv⟩:=rs.one
  cases x with
  | tup ds =>
   cases ev
   cases rv with
   | tup h r =>
    exact ⟨_,_,rfl,.inr ⟨h,hq _ H1 e1 ⟨fun _=>none,fun _ _ h=>by simp at h,.tup h (r.fb Si fr)⟩⟩⟩
  | lst f ds =>
   cases ev
   cases rv with
   | lst h r =>
    refine ⟨_,_,rfl,.inl ⟨h.sq,fun l hl=>?_⟩⟩
    exact hq _ _ (e1.trans (ak.upd hl)) ⟨fun _=>none,fun _ _ h=>by simp at h,.tup (aG.of aK) ((r.fb Si fr).imp (fun _ _ h=>aG.same (ak.upd hl) h) fun _ _ _ _ h=>nd.same (ak.upd hl) h)⟩
  | _=>cases ev
 | gh =>
  obtain ⟨x,rfl⟩:=Hy rfl ev
  obtain ⟨v,rfl,rv⟩:=rs.one
  cases x with
  | lst f ds =>
   have ev:(match intsOf ds with | some ns=>ok (.int ns.sum) | none=>none) = ok d:=ev
   cases hn:intsOf ds with
   | none=>rw [hn] at ev;cases ev
   | some ns =>
    rw [hn] at ev
    cases ev
    cases eE hn
    cases rv with
    | lst h r=>cases r.ofInts;exact ⟨_,ns,rfl,h.sq,hq _ H1 e1 .int⟩
  | _=>cases ev
 | all1 =>
  obtain ⟨x,rfl⟩:=Hy rfl ev
  obtain ⟨v,rfl,rv⟩:=rs.one
  cases x with
  | lst f ds =>
   have ev:(match jr ds with | some bs=>ok (.bl (bs.all id)) | none=>none) = ok d:=ev
   cases hn:jr ds with
   | none=>rw [hn] at ev;cases ev
   | some ns =>
    rw [hn] at ev
    cases ev
    cases vY hn
    cases rv with
    | lst h r=>cases r.G9;exact ⟨_,ns,rfl,h.sq,hq _ H1 e1 .bl⟩
  | _=>cases ev
 | ia =>
  obtain ⟨x,rfl⟩:=Hy rfl ev
  obtain ⟨v,rfl,rv⟩:=rs.one
  have fin:∀ ds,rl ds = ok d -> ∃ ns:List Int,ds = ns.map D.int /\ ns.length < 64 /\ ∀ l,H1 l = none -> Q (.ref l) (upd H1 l (.lst ((sortI ns).map V.int))):=by
   intro ds e
   unfold rl at e
   split at e
   ·rename_i ns hn
    split at e
    ·rename_i ur
     cases e
     refine ⟨ns,eE hn,ur,fun l hl=>hq _ _ (e1.trans (ak.upd hl)) (bJ.sR (e1.free hl) (e1.trans (ak.upd hl)) aK (jL _))⟩
    ·cases e
   ·cases e
  cases x with
  | tup ds =>
   obtain ⟨ns,rfl,ur,q⟩:=fin ds ev
   cases rv with
   | tup h r=>cases r.ofInts;exact ⟨_,ns,rfl,.inr h,ur,q⟩
  | lst f ds =>
   obtain ⟨ns,rfl,ur,q⟩:=fin ds ev
   cases rv with
   | lst h r=>cases r.ofInts;exact ⟨_,ns,rfl,.inl h.sq,ur,q⟩
  | _=>cases ev
theorem MZ (L:Lk X S k Φ) {f:Bf} {cs:List CE} {y:Expr} {ys:List Expr} {p pos:Pos} (hg:g_ S.sc (ub f:Str) = true) (hb:(ub f:Str) ∈ S.bl) (ha:PA X (y :: ys) (uF X F Φ cs))
  (rM:∀ es,starEach (y :: es) X.env = (false,eval y X.env) :: starEach es X.env) (hpl:∀ pos,(backTo pos (starEach ys X.env)).any (·.1) = false):PE X (.Call (.Name (ub f:Str) p) (y :: ys) [] pos) (tD X F Φ (.bf f cs)):=by
 refine PE.imp (t:=ML (rBf X.K f) (uF X F Φ cs)) ?_ fun σ H Q hq=>Gk hq
 cases f with
 | len=>exact fE ua (L.gl hg) (L.bl _ hb) PySem.boot_len ha (he:=rM _) (hpl:=hpl _)
 | abs=>exact fE Du (L.gl hg) (L.bl _ hb) (by decide +kernel) ha (he:=rM _) (hpl:=hpl _)
 | Cw=>exact lR AS (L.gl hg) (L.bl _ hb) (by decide +kernel) ha (he:=rM _) (hpl:=hpl _)
 | list1=>exact lR t_ (L.gl hg) (L.bl _ hb) (by decide +kernel) ha (he:=rM _) (hpl:=hpl _)
 | tuple1=>exact lR qS (L.gl hg) (L.bl _ hb) (by decide +kernel) ha (he:=rM _) (hpl:=hpl _)
 | gh=>exact fE (AR L.calm) (L.gl hg) (L.bl _ hb) (by decide +kernel) ha (he:=rM _) (hpl:=hpl _)
 | ia=>exact fE t8 (L.gl hg) (L.bl _ hb) (by decide +kernel) ha (he:=rM _) (hpl:=hpl _)
 | all1=>exact fE (AU L.calm) (L.gl hg) (L.bl _ hb) (by decide +kernel) ha (he:=rM _) (hpl:=hpl _)
theorem Em (L:Lk X S k Φ) {a:CE} {e:Expr} {p p' pos pos':Pos} (hf:g_ S.sc ("len" : Str) = true) (WG:("len" : Str) ∈ S.bl) (hg:g_ S.sc ("set" : Str) = true) (WC:("set" : Str) ∈ S.bl)
  (ha:PE X e (tD X F Φ a)) (rM:∀ es,starEach (e :: es) X.env = (false,eval e X.env) :: starEach es X.env):PE X (.Call (.Name ("len" : Str) p) [.Call (.Name ("set" : Str) p') [e] [] pos'] [] pos) (tD X F Φ (.lT a)):=by
 refine PE.imp (EG L.calm (L.gl hf) (L.bl _ WG) (L.gl hg) (L.bl _ WC) (d7 ha ib (rM _)) rM) fun σ H Q hq=>?_
 obtain ⟨R,τ,ρ,d,Si,ev,hq⟩:=hq
 obtain ⟨x,ex,ev⟩:=ag ev
 refine tD.intro Si ex fun v H1 e1 r1=>?_
 obtain ⟨τ1,f1,rv⟩:=r1
 cases x with
 | tup ds =>
  simp only [yy] at ev
  split at ev
  ·rename_i ns hn
   split at ev
   ·rename_i hl
    cases ev
    cases eE hn
    cases rv with
    | tup h r=>cases r.ofInts;exact ⟨_,ns,rfl,h,hl,hq _ H1 e1 .int⟩
   ·cases ev
  ·cases ev
 | _=>cases ev
theorem Ij {a:CE} {e:Expr} {pos:Pos} (h:PE X e (tD X F Φ a)):PE X (.UnaryOp .Not e pos) (tD X F Φ (.not a)):=by
 refine PE.imp (IP h) fun σ H Q hq=>?_
 obtain ⟨R,τ,ρ,d,Si,ev,hq⟩:=hq
 obtain ⟨b,eb,ev⟩:=ag ev
 obtain ⟨x,ex,eb⟩:=ag eb
 cases ev
 refine tD.intro Si ex fun v H1 e1 r1=>?_
 cases x <;> simp [hV] at eb
 cases eb
 exact ⟨_,r1.Al,hq _ H1 e1 .bl⟩
theorem HZ {a:CE} {e:Expr} {pos:Pos} (h:PT X e (hX X F Φ a)):PT X (.UnaryOp .Not e pos) (hX X F Φ (.not a)):=by
 refine PT.imp (IE h) fun σ H Q hq=>?_
 obtain ⟨R,τ,ρ,b,Si,ev,hq⟩:=hq
 unfold wj at ev
 obtain ⟨d,ed,ev⟩:=ag ev
 obtain ⟨c,ec,ed⟩:=ag ed
 cases ed
 have XT:b = !c:=by
  have e2:ok (!c) = ok b:=ev
  exact (Except.ok.inj (Option.some.inj e2)).symm
 subst XT
 exact ⟨R,τ,ρ,c,Si,ec,fun H' e=>hq H' e⟩
theorem Im {c a b:CE} {t x y:Expr} {pos:Pos} (hc:PT X t (hX X F Φ c)) (ha:PE X x (tD X F Φ a)) (hb:PE X y (tD X F Φ b)):PE X (.IfExp t x y pos) (tD X F Φ (.ite c a b)):=by
 refine PE.imp (B1 hc ha hb) fun σ H Q hq=>?_
 obtain ⟨R,τ,ρ,d,Si,ev,hq⟩:=hq
 obtain ⟨w,ew,ev⟩:=ag ev
 refine ⟨R,τ,ρ,w,Si,ew,fun H1 e1=>?_⟩
 cases w with
 | true=>exact tD.intro (Si.go e1) ev fun v H' e r=>hq v H' (e1.trans e) ((r.old e1).mono fun i hi=>by simp [gO,hi])
 | false=>exact tD.intro (Si.go e1) ev fun v H' e r=>hq v H' (e1.trans e) ((r.old e1).mono fun i hi=>by simp [gO,hi])
theorem H9 {c a b:CE} {t x y:Expr} {pos:Pos} (hc:PT X t (hX X F Φ c)) (ha:PT X x (hX X F Φ a)) (hb:PT X y (hX X F Φ b)):PT X (.IfExp t x y pos) (hX X F Φ (.ite c a b)):=by
 intro pins s σ H Q I hq
 obtain ⟨R,τ,ρ,d,Si,ev,hq⟩:=hq
 unfold wj at ev
 obtain ⟨x',OZ,et⟩:=ag ev
 obtain ⟨w,ew,ev⟩:=ag OZ
 refine isTrue_IfExp (di (hc pins s σ H (fun w' H1=>w' = w /\ ak H H1) I ⟨R,τ,ρ,w,Si,ew,fun H1 e1=>⟨rfl,e1⟩⟩) fun w' s1 ⟨H1,I1,hw,e1⟩=>?_)
 subst hw
 cases w' with
 | true=>exact ha pins s1 σ H1 Q I1 ⟨R,τ,ρ,d,Si.go e1,by unfold wj;rw [show aO Φ a ρ = ok x' from ev];exact et,fun H' e=>hq H' (e1.trans e)⟩
 | false=>exact hb pins s1 σ H1 Q I1 ⟨R,τ,ρ,d,Si.go e1,by unfold wj;rw [show aO Φ b ρ = ok x' from ev];exact et,fun H' e=>hq H' (e1.trans e)⟩
theorem Ik {a:CE} {e:Expr} {pos:Pos} (h:PE X e (tD X F Φ a)):PE X (.UnaryOp .USub e pos) (tD X F Φ (.neg a)):=by
 refine PE.imp (Ni HP h) fun σ H Q hq=>?_
 obtain ⟨R,τ,ρ,d,Si,ev,hq⟩:=hq
 obtain ⟨x,ex,ev⟩:=ag ev
 refine tD.intro Si ex fun v H1 e1 r1=>?_
 cases x <;> simp [EX] at ev
 cases ev
 exact ⟨_,r1.isInt,hq _ H1 e1 .int⟩
theorem Gn {c:CE} {σ:St} {H:Hp} {Q:VK} (hq:tD X F Φ (.and [c]) σ H Q):tD X F Φ c σ H Q:=by
 obtain ⟨R,τ,ρ,d,Si,ev,hq⟩:=hq
 obtain ⟨b,eb,ev⟩:=ag ev
 obtain ⟨x,ex,eb⟩:=ag eb
 cases ev
 refine tD.intro Si ex fun v H1 e1 r1=>?_
 cases x <;> simp [hV] at eb
 cases eb
 rw [r1.Al];exact hq _ H1 e1 .bl
theorem IZ {c:CE} {σ:St} {H:Hp} {Q:VK} (hq:tD X F Φ (.or [c]) σ H Q):tD X F Φ c σ H Q:=by
 obtain ⟨R,τ,ρ,d,Si,ev,hq⟩:=hq
 obtain ⟨b,eb,ev⟩:=ag ev
 obtain ⟨x,ex,eb⟩:=ag eb
 cases ev
 refine tD.intro Si ex fun v H1 e1 r1=>?_
 cases x <;> simp [hV] at eb
 cases eb
 rw [r1.Al];exact hq _ H1 e1 .bl
theorem Dx {c:CE} {σ:St} {H:Hp} {Q:Bool -> Hp -> Prop} (hq:hX X F Φ (.and [c]) σ H Q):hX X F Φ c σ H Q:=by
 obtain ⟨R,τ,ρ,d,Si,ev,hq⟩:=hq
 unfold wj at ev
 obtain ⟨b,eb,ev⟩:=ag ev
 obtain ⟨x,ex,eb⟩:=ag eb
 cases eb;cases ev
 exact ⟨R,τ,ρ,_,Si,ex,hq⟩
theorem EK {c:CE} {σ:St} {H:Hp} {Q:Bool -> Hp -> Prop} (hq:hX X F Φ (.or [c]) σ H Q):hX X F Φ c σ H Q:=by
 obtain ⟨R,τ,ρ,d,Si,ev,hq⟩:=hq
 unfold wj at ev
 obtain ⟨b,eb,ev⟩:=ag ev
 obtain ⟨x,ex,eb⟩:=ag eb
 cases eb;cases ev
 exact ⟨R,τ,ρ,_,Si,ex,hq⟩
theorem Dy {c c':CE} {cs:List CE} {σ:St} {H:Hp} {Q:VK} (hq:tD X F Φ (.and (c :: c' :: cs)) σ H Q):GP (tD X F Φ c) (tD X F Φ (.and (c' :: cs))) σ H Q:=by
 obtain ⟨R,τ,ρ,d,Si,ev,hq⟩:=hq
 obtain ⟨b,eb,ev⟩:=ag ev
 obtain ⟨x,ex,eb⟩:=ag eb
 refine tD.intro Si ex fun v H1 e1 r1=>?_
 cases x <;> simp [hV] at eb
 cases eb
 refine ⟨_,r1.Al,?_⟩
 cases b with
 | true =>
  rw [if_pos rfl] at ev ⊢
  exact tD.intro (Si.go e1) ev fun v H' e r=>hq v H' (e1.trans e) ((r.old e1).mono fun i hi=>List.mem_append_right _ hi)
 | false =>
  rw [if_neg (by simp)] at ev ⊢
  cases ev
  exact hq _ H1 e1 .bl
theorem EL {c c':CE} {cs:List CE} {σ:St} {H:Hp} {Q:VK} (hq:tD X F Φ (.or (c :: c' :: cs)) σ H Q):MF (tD X F Φ c) (tD X F Φ (.or (c' :: cs))) σ H Q:=by
 obtain ⟨R,τ,ρ,d,Si,ev,hq⟩:=hq
 obtain ⟨b,eb,ev⟩:=ag ev
 obtain ⟨x,ex,eb⟩:=ag eb
 refine tD.intro Si ex fun v H1 e1 r1=>?_
 cases x <;> simp [hV] at eb
 cases eb
 refine ⟨_,r1.Al,?_⟩
 cases b with
 | false =>
  rw [if_neg (by simp)] at ev ⊢
  exact tD.intro (Si.go e1) ev fun v H' e r=>hq v H' (e1.trans e) ((r.old e1).mono fun i hi=>List.mem_append_right _ hi)
 | true =>
  rw [if_pos rfl] at ev ⊢
  cases ev
  exact hq _ H1 e1 .bl
theorem AW {c c':CE} {cs:List CE} {σ:St} {H:Hp} {Q:Bool -> Hp -> Prop} (hq:hX X F Φ (.and (c :: c' :: cs)) σ H Q):MM (hX X F Φ c) (hX X F Φ (.and (c' :: cs))) σ H Q:=by
 obtain ⟨R,τ,ρ,d,Si,ev,hq⟩:=hq
 unfold wj at ev
 obtain ⟨x,ex,et⟩:=ag ev
 obtain ⟨b,eb,ev⟩:=ag ex
 refine ⟨R,τ,ρ,b,Si,eb,fun H1 e1=>?_⟩
 cases b with
 | true =>
  rw [if_pos rfl] at ev ⊢
  exact ⟨R,τ,ρ,d,Si.go e1,by unfold wj;rw [show aO Φ (.and (c' :: cs)) ρ = ok x from ev];exact et,fun H' e=>hq H' (e1.trans e)⟩
 | false =>
  rw [if_neg (by simp)] at ev ⊢
  cases ev;cases et
  exact hq H1 e1
theorem B3 {c c':CE} {cs:List CE} {σ:St} {H:Hp} {Q:Bool -> Hp -> Prop} (hq:hX X F Φ (.or (c :: c' :: cs)) σ H Q):tOr (hX X F Φ c) (hX X F Φ (.or (c' :: cs))) σ H Q:=by
 obtain ⟨R,τ,ρ,d,Si,ev,hq⟩:=hq
 unfold wj at ev
 obtain ⟨x,ex,et⟩:=ag ev
 obtain ⟨b,eb,ev⟩:=ag ex
 refine ⟨R,τ,ρ,b,Si,eb,fun H1 e1=>?_⟩
 cases b with
 | false =>
  rw [if_neg (by simp)] at ev ⊢
  exact ⟨R,τ,ρ,d,Si.go e1,by unfold wj;rw [show aO Φ (.or (c' :: cs)) ρ = ok x from ev];exact et,fun H' e=>hq H' (e1.trans e)⟩
 | true =>
  rw [if_pos rfl] at ev ⊢
  cases ev;cases et
  exact hq H1 e1
theorem kN {σ:St} {H:Hp} {Q:List V -> Hp -> Prop} (hq:uF X F Φ [] σ H Q):MH σ H Q:=by
 obtain ⟨R,τ,ρ,d,Si,ev,hq⟩:=hq
 cases ev
 exact hq _ H (ak.refl H) .nil
theorem gI {c:CE} {cs:List CE} {σ:St} {H:Hp} {Q:List V -> Hp -> Prop} (hq:uF X F Φ (c :: cs) σ H Q):GO (tD X F Φ c) (uF X F Φ cs) σ H Q:=by
 obtain ⟨R,τ,ρ,d,Si,ev,hq⟩:=hq
 obtain ⟨x,ex,ev⟩:=ag ev
 obtain ⟨xs,df,ev⟩:=ag ev
 cases ev
 refine tD.intro Si ex fun v H1 e1 r1=>⟨R,τ,ρ,xs,Si.go e1,df,fun vs H2 e2 r2=>hq _ H2 (e1.trans e2) (ck.cons e1 e2 (r1.mono fun i hi=>List.mem_append_left _ hi) (r2.mono fun i hi=>List.mem_append_right _ hi))⟩
theorem cv {c:CE} {e:Expr} (h:bW S c e = true) (es:List Expr) (env:Env):starEach (e :: es) env = (false,eval e env) :: starEach es env:=by
 cases e <;> first | rfl | (cases c <;> exact (Bool.false_ne_true h).elim)
theorem xG:∀ {cs:List CE} {es:List Expr},bI S cs es = true -> ∀ (pos:Pos) (env:Env),(backTo pos (starEach es env)).any (·.1) = false
 | [],[],_,_,_=>rfl
 | [],_ :: _,h,_,_=>by exact (Bool.false_ne_true h).elim
 | _ :: _,[],h,_,_=>by exact (Bool.false_ne_true h).elim
 | c :: cs,e :: es,h,pos,env=>by
  replace h:=au h
  rw [cv h.1]
  have:=xG h.2 pos env
  unfold backTo at this ⊢
  simp only [List.map_cons,List.any_cons,Bool.false_or]
  exact this
theorem rW {c:CE} {e:Expr} (h:bW S c e = true):nX e:=by
 intro o i
 cases e <;> first | rfl | (cases c <;> exact (Bool.false_ne_true h).elim)
theorem BD {j:Nat} {pos:Pos}:PE X (.Constant .none j pos) (tD X F Φ .bC):=PE.imp IQ fun σ H Q ⟨R,τ,ρ,d,Si,ev,hq⟩=>by cases ev;exact hq _ H (ak.refl H) .bC
theorem GV {b:Bool} {j:Nat} {pos:Pos}:PE X (.Constant (.bool b) j pos) (tD X F Φ (.bl b)):=PE.imp Nk fun σ H Q ⟨R,τ,ρ,d,Si,ev,hq⟩=>by cases ev;exact hq _ H (ak.refl H) .bl
theorem BE {i:Int} {j:Nat} {pos:Pos}:PE X (.Constant (.int i) j pos) (tD X F Φ (.int i)):=PE.imp IT fun σ H Q ⟨R,τ,ρ,d,Si,ev,hq⟩=>by cases ev;exact hq _ H (ak.refl H) .int
theorem JJ (L:Lk X S k Φ) {es:List CE} {y target:Expr} {caps:List Nat} {p JO:Pos} (g1:g_ S.sc ("range" : Str) = true) (g2:("range" : Str) ∈ S.bl) (pa:PA X [y] (uF X F Φ es)) (Aq:bI S es [y] = true)
  (pins:List (Addr × Obj)) (s:Shared) (σ:St) (H:Hp) (R:Addr -> Prop) (τ:Addr -> Option aI) (ρ:aA) (xs items:List D) (I:Inv X pins σ H s) (Si:SI X F R τ ρ σ H) (df:c_ Φ es ρ = ok xs) (xq:dN Φ .mU xs = ok items) (Rr:It -> Hp -> Prop)
  (hR:∀ J H2,ak H H2 -> Yl X.K J (lM X F τ (caps ++ du es) H2) H2 items -> Rr J H2) :
  wpAny (model X.prog X.w) X.A (eval (.Call (.Name ("range" : Str) p) [y] [] JO) X.env) (fun v s1=>wpAny (model X.prog X.w) X.A (pyIter v) (DA X pins σ target Rr) X.xe s1) X.xe s:=by
 match es,Aq with
 | [c],Aq =>
  replace Aq:=au Aq
  refine rE (L.gl g1) (L.bl _ g2) pa (cv Aq.1 _ _) pins s σ H Rr I ⟨R,τ,ρ,xs,Si,df,fun vs H1 e1 rv=>?_⟩
  obtain ⟨τt,fr,rs⟩:=rv
  obtain ⟨n,rfl⟩:∃ n,xs = [.int n]:=by
   cases xs with
   | nil=>cases xq
   | cons x t=>cases x <;> first | (cases xq;done) | (cases t with | nil=>exact ⟨_,rfl⟩ | cons _ _=>cases xq)
  cases rs.ints1
  ·obtain ⟨⟨c1,c2⟩,xq⟩:=rL xq
   subst xq
   have o6:(eu:Int) = 1000000:=rfl
   refine ⟨n,rfl,by omega,by omega,hR _ H1 e1 ?_⟩
   have:=HI (X:=X) (lo:=0) (n:=n.toNat) (R:=lM X F τ (caps ++ du [c]) H1) (H1:=H1)
   simpa using this
 | [],Aq=>exact (Bool.false_ne_true Aq).elim
 | _ :: _ :: _,Aq=>exact (Bool.false_ne_true (au Aq).2).elim
theorem JI (L:Lk X S k Φ) {c:CE} {y target:Expr} {caps:List Nat} (pe:PE X y (tD X F Φ c))
  (pins:List (Addr × Obj)) (s:Shared) (σ:St) (H:Hp) (R:Addr -> Prop) (τ:Addr -> Option aI) (ρ:aA) (xs items:List D) (I:Inv X pins σ H s) (Si:SI X F R τ ρ σ H) (df:c_ Φ [c] ρ = ok xs) (xq:dN Φ .seq xs = ok items) (Rr:It -> Hp -> Prop)
  (hR:∀ J H2,ak H H2 -> Yl X.K J (lM X F τ (caps ++ du [c]) H2) H2 items -> Rr J H2) :
  wpAny (model X.prog X.w) X.A (eval y X.env) (fun v s1=>wpAny (model X.prog X.w) X.A (pyIter v) (DA X pins σ target Rr) X.xe s1) X.xe s:=by
 obtain ⟨x,ex,df⟩:=ag df
 obtain ⟨xs',XQ,df⟩:=ag df
 cases XQ
 cases df
 have hfv:∀ i ∈ gO c,i ∈ caps ++ du [c]:=fun i hi=>List.mem_append_right _ (List.mem_append_left _ hi)
 cases x with
 | tup ds =>
  cases xq
  refine BS pe pins s σ H Rr I (tD.intro Si ex fun v H1 e1 rv=>?_)
  obtain ⟨τt,fr,rp⟩:=rv
  cases rp with
  | @tup _ p ys _ hp rs=>exact ⟨p,rfl,⟨ys,hp⟩,hR _ H1 e1 (HH (q:=[]) hp (af.jd (fun _ _ h=>h) (wG Si fr hfv) rs _ _))⟩
 | lst f ds =>
  cases xq
  refine yn pe pins s σ H Rr I (tD.intro Si ex fun v H1 e1 rv=>?_)
  obtain ⟨τt,fr,rp⟩:=rv
  cases rp with
  | @lst _ p ys _ _ hp rs=>exact ⟨p,rfl,⟨ys,hp.sq⟩,hR _ H1 e1 (DW (q:=[]) hp.sq (af.jd (fun _ _ h=>h) (wG Si fr hfv) rs _ _))⟩
 | _=>cases xq
theorem Ml {fv fv':List Nat} {R:Addr -> Prop} {τ:Addr -> Option aI} {ρ:aA} {σ:St} {H H2:Hp} {vs:List V} {xs items:List D} {J:It} (Si:SI X F R τ ρ σ H) (hs:∀ i ∈ fv,i ∈ fv') (r:ck X.K (gP X F) R τ fv H H2 vs xs) (y:Mf X.K J H2 vs xs items) :
  Yl X.K J (lM X F τ fv' H2) H2 items:=by
 obtain ⟨τt,fr,rs⟩:=r
 have at':∀ H',ak H2 H' -> af (aG X.K H') (nd X.K (lM X F τ fv' H2) (fun _=>False) (fun _=>none) H') [] 0 vs (ah aN xs):=fun H' e =>
  (af.jd (T':=aG X.K H2) (fun _ _ h=>h) (wG Si fr hs) rs [] 0).imp (fun _ _ h=>aG.same e h) fun _ _ _ _ h=>nd.same e h
 have st:∀ H',ak H2 H' -> si X.K H2 vs xs H':=fun H' e=>⟨⟨_,at' H2 (ak.refl H2),fun p o _ h=>e p o h⟩,fun _ _ h=>aG.same e h⟩
 exact ⟨fun i H' e hi=>y.go i H' _ (st H' e) (at' H' e) hi,fun i H' x nj e hi hy=>y.wc i H' _ x nj (st H' e) (at' H' e) hi hy,fun i H' e hi=>y.stop i H' _ (st H' e) (at' H' e) hi⟩
theorem JL (L:Lk X S k Φ) {p:Nat} {es:List CE} {args:List Expr} {y target:Expr} {caps:List Nat} (hp:S.px.pi p S.sc S.bl y = some args) (ht:(decide (1100 <= p) || ie target) = true) (hs:qU X F Φ es args)
  (pins:List (Addr × Obj)) (s:Shared) (σ:St) (H:Hp) (R:Addr -> Prop) (τ:Addr -> Option aI) (ρ:aA) (xs items:List D) (I:Inv X pins σ H s) (Si:SI X F R τ ρ σ H) (df:c_ Φ es ρ = ok xs) (xq:dN Φ (.dt p) xs = ok items) (Rr:It -> Hp -> Prop)
  (hR:∀ J H2,ak H H2 -> Yl X.K J (lM X F τ (caps ++ du es) H2) H2 items -> Rr J H2) :
  wpAny (model X.prog X.w) X.A (eval y X.env) (fun v s1=>wpAny (model X.prog X.w) X.A (pyIter v) (DA X pins σ target Rr) X.xe s1) X.xe s:=by
 obtain ⟨d,ed,ei⟩:=ag (show bd (Φ p xs) mP = ok items from xq)
 exact L.pr.i X _ _ k L.pX p y args hp F es target ht hs pins s σ H R τ ρ xs d items I Si df ed ei Rr fun J H2 vs e2 r yz=>hR J H2 e2 (Ml Si (fun i hi=>by simp [hi]) r yz)
theorem vL {S':Sx} {a_:List CE} {ifs:List Expr} (h3:a_.length <= 1) (h4:bI S' a_ ifs = true)
  (Fy:∀ (X':Cx) (F':Addr -> Prop),Lk X' S' k Φ -> ∀ (j:Nat) (c:CE) (e:Expr),a_[j]? = some c -> ifs[j]? = some e -> PE X' e (tD X' F' Φ c) /\ PT X' e (hX X' F' Φ c)) :
  (a_ = [] /\ ifs = []) \/ ∃ c e,a_ = [c] /\ ifs = [e] /\ ∀ (X':Cx) (F':Addr -> Prop),Lk X' S' k Φ -> PT X' e (hX X' F' Φ c):=by
 cases a_ with
 | nil=>cases ifs with
  | nil=>exact .inl ⟨rfl,rfl⟩
  | cons _ _=>exact (Bool.false_ne_true h4).elim
 | cons c cs=>cases cs with
  | cons _ _=>simp at h3
  | nil=>cases ifs with
   | nil=>exact (Bool.false_ne_true h4).elim
   | cons e ifs=>cases ifs with
    | cons _ _=>exact (Bool.false_ne_true (au h4).2).elim
    | nil=>exact .inr ⟨c,e,rfl,rfl,fun X' F' L'=>(Fy X' F' L' 0 c e rfl rfl).2⟩
def O9 (S:Sx) (ik:IK) (es:List CE) (target iter:Expr):Bool:=match ik with
 | .mU=>aR (eA iter) fun w=>decide (w.1 = ("range" : Str)) && g_ S.sc w.1 && decide (w.1 ∈ S.bl) && aR (one w.2) fun y=>bI S es [y]
 | .seq=>bI S es [iter]
 | .dt p=>QF iter && (decide (1100 <= p) || ie target) && aR (S.px.pi p S.sc S.bl iter) fun xs=>bI S es xs
theorem Cr (L:Lk X S k Φ) {ik:IK} {es:List CE} {target iter:Expr} {caps:List Nat} (Aq:∀ l,bI S es l = true -> PA X l (uF X F Φ es))
  (Fy:∀ l,bI S es l = true -> ∀ (j:Nat) (c:CE) (e:Expr),es[j]? = some c -> l[j]? = some e -> PE X e (tD X F Φ c) /\ PT X e (hX X F Φ c)) (Ob:∀ l,bI S es l = true -> qU X F Φ es l) (h6:O9 S ik es target iter = true) :
  ∀ (pins:List (Addr × Obj)) (s:Shared) (σ:St) (H:Hp) (R:Addr -> Prop) (τ:Addr -> Option aI) (ρ:aA) (xs items:List D),Inv X pins σ H s -> SI X F R τ ρ σ H -> c_ Φ es ρ = ok xs -> dN Φ ik xs = ok items -> ∀ (Rr:It -> Hp -> Prop),
   (∀ J H2,ak H H2 -> Yl X.K J (lM X F τ (caps ++ du es) H2) H2 items -> Rr J H2) ->
   wpAny (model X.prog X.w) X.A (eval iter X.env) (fun v s1=>wpAny (model X.prog X.w) X.A (pyIter v) (DA X pins σ target Rr) X.xe s1) X.xe s:=by
 cases ik with
 | mU =>
  obtain ⟨⟨x,as⟩,hv,h6⟩:=aS h6
  obtain ⟨p,JO,rfl⟩:=cQ hv
  obtain ⟨Kd,g3⟩:=au h6
  obtain ⟨Kc,g2⟩:=au Kd
  obtain ⟨Kb,g1⟩:=au Kc
  obtain rfl:x = _:=of_decide_eq_true Kb
  obtain ⟨y,hu,FF⟩:=aS g3
  obtain rfl:as = [y]:=cm hu
  exact JJ L g1 (of_decide_eq_true g2) (Aq _ FF) FF
 | seq =>
  have Wo:=Fy _ h6
  cases es with
  | nil=>exact (Bool.false_ne_true h6).elim
  | cons c cs=>cases cs with
   | cons _ _=>exact (Bool.false_ne_true (au h6).2).elim
   | nil=>exact JI L (Wo 0 c _ rfl rfl).1
 | dt p =>
  obtain ⟨h6,g3⟩:=au h6
  obtain ⟨xs,ha,FF⟩:=aS g3
  exact JL L ha (au h6).2 (Ob _ FF)
mutual
theorem aJ:∀ (c:CE) (X:Cx) (S:Sx) (F:Addr -> Prop) (L:Lk X S k Φ) (e:Expr),bW S c e = true -> PE X e (tD X F Φ c) /\ PT X e (hX X F Φ c)
 | .dt p cs,X,S,F,L,e,h=>by
  obtain ⟨args,ha,hb⟩:=aS (au h).2
  exact L.pr.e X _ _ k L.pX p e args ha F cs (jJ cs X S F L args hb)
 | .bC,X,S,F,L,e,h=>by
  obtain ⟨c,hv,il⟩:=aS h
  obtain ⟨j,p,rfl⟩:=Bh hv
  obtain rfl:=Ai il
  exact ⟨BD,cV BD fun _=>rfl⟩
 | .bl b,X,S,F,L,e,h=>by
  obtain ⟨c,hv,il⟩:=aS h
  obtain ⟨j,p,rfl⟩:=Bh hv
  obtain rfl:=Cu il
  exact ⟨GV,cV GV fun _=>rfl⟩
 | .int i,X,S,F,L,e,h=>by
  obtain ⟨c,hv,il⟩:=aS h
  obtain ⟨j,p,rfl⟩:=Bh hv
  obtain rfl:=Aj il
  exact ⟨BE,cV BE fun _=>rfl⟩
 | .v i,X,S,F,L,e,h=>by
  obtain ⟨x,hv,h'⟩:=aS h
  obtain ⟨p,rfl⟩:=lI hv
  have:=Sz (F:=F) L h
  exact ⟨this,cV this fun _=>rfl⟩
 | .glo x i,X,S,F,L,e,h=>by
  obtain ⟨y,hv,il⟩:=aS h
  obtain ⟨pos,rfl⟩:=lI hv
  obtain ⟨lU,h3⟩:=au il
  obtain ⟨qy,h2⟩:=au lU
  obtain ⟨CT,h1⟩:=au qy
  obtain rfl:=of_decide_eq_true CT
  obtain ⟨u,hm,r⟩:=L.cs _ _ (of_decide_eq_true h2)
  have this:PE X (.Name y pos) (tD X F Φ (.glo y i)):=PE.imp (yq (v:=.int i) (L.gl h1) hm r (oJ h3)) fun σ H Q ⟨R,τ,ρ,d,Si,ev,hq⟩=>by cases ev;exact hq _ H (ak.refl H) .int
  exact ⟨this,cV this fun _=>rfl⟩
 | .glt x zs,X,S,F,L,e,h=>by
  obtain ⟨y,hv,il⟩:=aS h
  obtain ⟨pos,rfl⟩:=lI hv
  obtain ⟨lU,h3⟩:=au il
  obtain ⟨qy,h2⟩:=au lU
  obtain ⟨CT,h1⟩:=au qy
  obtain rfl:=of_decide_eq_true CT
  obtain ⟨u,hm,a,o,aj,n,rfl,q1,q2,q3,q4,q5⟩:=L.cs _ _ (of_decide_eq_true h2)
  have this:PE X (.Name y pos) (tD X F Φ (.glt y zs)):=PE.imp (yq (v:=.ref a) (L.gl h1) hm rfl (oJ h3)) fun σ H Q ⟨R,τ,ρ,d,Si,ev,hq⟩=>by
   cases ev
   exact hq _ H (ak.refl H) ⟨fun _=>none,fun _ _ h=>by simp at h,.tup (.inr ⟨o,aj,n,q1,q2,q3,q4,q5⟩) (jL zs)⟩
  exact ⟨this,cV this fun _=>rfl⟩
 | .bin op a b,X,S,F,L,e,h=>by
  obtain ⟨⟨l,o,r⟩,hv,il⟩:=aS h
  obtain ⟨pos,rfl⟩:=D8 hv
  obtain ⟨lU,h2⟩:=au il
  obtain ⟨qy,h1⟩:=au lU
  obtain rfl:o = Nu op:=of_decide_eq_true qy
  have:=Ip (F:=F) (pos:=pos) L (op:=op) (aJ a X S F L _ h1).1 (aJ b X S F L _ h2).1
  exact ⟨this,cV this fun _=>rfl⟩
 | .neg a,X,S,F,L,e,h=>by
  obtain ⟨⟨o,x⟩,hv,il⟩:=aS h
  obtain ⟨pos,rfl⟩:=Bd hv
  obtain ⟨lU,h1⟩:=au il
  obtain rfl:o = .USub:=of_decide_eq_true lU
  have:=Ik (F:=F) (Φ:=Φ) (pos:=pos) (aJ a X S F L _ h1).1
  exact ⟨this,cV this fun _=>rfl⟩
 | .not a,X,S,F,L,e,h=>by
  obtain ⟨⟨o,x⟩,hv,il⟩:=aS h
  obtain ⟨pos,rfl⟩:=Bd hv
  obtain ⟨lU,h1⟩:=au il
  obtain rfl:o = .Not:=of_decide_eq_true lU
  exact ⟨Ij (aJ a X S F L _ h1).1,HZ (aJ a X S F L _ h1).2⟩
 | .and cs,X,S,F,L,e,h=>by
  obtain ⟨⟨o,vs⟩,hv,il⟩:=aS h
  obtain ⟨pos,rfl⟩:=uy hv
  obtain ⟨lU,h1⟩:=au il
  obtain rfl:o = .And:=of_decide_eq_true lU
  exact ⟨(lL cs X S F L vs h1 pos).1,(lL cs X S F L vs h1 pos).2.pt⟩
 | .or cs,X,S,F,L,e,h=>by
  obtain ⟨⟨o,vs⟩,hv,il⟩:=aS h
  obtain ⟨pos,rfl⟩:=uy hv
  obtain ⟨lU,h1⟩:=au il
  obtain rfl:o = .Or:=of_decide_eq_true lU
  exact ⟨(oi cs X S F L vs h1 pos).1,(oi cs X S F L vs h1 pos).2.pt⟩
 | .ite c a b,X,S,F,L,e,h=>by
  obtain ⟨⟨t,x,y⟩,hv,il⟩:=aS h
  obtain ⟨pos,rfl⟩:=HN hv
  obtain ⟨lU,h2⟩:=au il
  obtain ⟨h0,h1⟩:=au lU
  exact ⟨Im (aJ c X S F L _ h0).2 (aJ a X S F L _ h1).1 (aJ b X S F L _ h2).1,H9 (aJ c X S F L _ h0).2 (aJ a X S F L _ h1).2 (aJ b X S F L _ h2).2⟩
 | .cmp op a b,X,S,F,L,e,h=>by
  obtain ⟨⟨l,os,rs⟩,hv,il⟩:=aS h
  obtain ⟨pos,rfl⟩:=xW hv
  obtain ⟨lU,h2⟩:=au il
  obtain ⟨qy,h1⟩:=au lU
  obtain ⟨r,hr,W0⟩:=aS h2
  obtain ⟨OP,h3⟩:=au W0
  obtain rfl:os = [TM op]:=of_decide_eq_true qy
  obtain rfl:rs = [r]:=cm hr
  exact ⟨PE.imp (yr (B5 L op) (aJ a X S F L _ h1).1 (aJ b X S F L _ OP).1 (Cb h3)) fun _ _ _ qy=>vO qy,PT.imp (yh (B5 L op) (aJ a X S F L _ h1).1 (aJ b X S F L _ OP).1 (Cb h3)) fun _ _ _ qy=>zJ qy⟩
 | .qf a t,X,S,F,L,e,h=>by
  obtain ⟨⟨f,as⟩,hv,il⟩:=aS h
  obtain ⟨p,pos,rfl⟩:=cQ hv
  obtain ⟨lU,h5⟩:=au il
  obtain ⟨qy,h2⟩:=au lU
  obtain ⟨CT,h1⟩:=au qy
  obtain rfl:f = _:=of_decide_eq_true CT
  obtain ⟨⟨e,g⟩,hw,FD⟩:=aS h5
  obtain rfl:as = [e,g]:=j9 hw
  obtain ⟨OM,h6⟩:=au FD
  obtain ⟨x,hn,Kd⟩:=aS h6
  obtain ⟨p',rfl⟩:∃ p,g = .Name x p:=lI hn
  obtain ⟨Kc,h4⟩:=au Kd
  obtain ⟨Kb,h3⟩:=au Kc
  obtain rfl:=of_decide_eq_true Kb
  have:=Io (F:=F) (p:=p) (p':=p') (pos:=pos) L h1 (of_decide_eq_true h2) h3 (of_decide_eq_true h4) (aJ a X S F L _ OM).1 (fun es=>cv OM es _)
  exact ⟨this,cV this fun _=>rfl⟩
 | .call f cs,X,S,F,L,e,h=>by
  obtain ⟨⟨x,as⟩,hv,il⟩:=aS h
  obtain ⟨p,pos,rfl⟩:=cQ hv
  obtain ⟨lU,h4⟩:=au il
  obtain ⟨qy,h3⟩:=au lU
  obtain ⟨h1,h2⟩:=au qy
  obtain ⟨⟨y,ys⟩,hu,tu⟩:=aS h4
  obtain rfl:as = y :: ys:=Bi hu
  cases cs with
  | nil=>exact (Bool.false_ne_true tu).elim
  | cons c Hw =>
   have ON:=au tu
   have:=Eo (F:=F) (p:=p) (pos:=pos) L (of_decide_eq_true h1) h2 h3 (fB (c :: Hw) X S F L (y :: ys) tu) (fun es=>cv ON.1 es _) (fun pos=>xG ON.2 pos _)
   exact ⟨this,cV this fun _=>rfl⟩
 | .bf f cs,X,S,F,L,e,h=>by
  obtain ⟨⟨x,as⟩,hv,il⟩:=aS h
  obtain ⟨p,pos,rfl⟩:=cQ hv
  obtain ⟨lU,h4⟩:=au il
  obtain ⟨qy,h3⟩:=au lU
  obtain ⟨CT,h2⟩:=au qy
  obtain rfl:x = _:=of_decide_eq_true CT
  obtain ⟨⟨y,ys⟩,hu,tu⟩:=aS h4
  obtain rfl:as = y :: ys:=Bi hu
  cases cs with
  | nil=>exact (Bool.false_ne_true tu).elim
  | cons c Hw =>
   have ON:=au tu
   have:=MZ (F:=F) (p:=p) (pos:=pos) L h2 (of_decide_eq_true h3) (fB (c :: Hw) X S F L (y :: ys) tu) (fun es=>cv ON.1 es _) (fun pos=>xG ON.2 pos _)
   exact ⟨this,cV this fun _=>rfl⟩
 | .lT a,X,S,F,L,e,h=>by
  obtain ⟨⟨x,as⟩,hv,il⟩:=aS h
  obtain ⟨p,pos,rfl⟩:=cQ hv
  obtain ⟨lU,h4⟩:=au il
  obtain ⟨qy,h2⟩:=au lU
  obtain ⟨CT,h1⟩:=au qy
  obtain rfl:x = _:=of_decide_eq_true CT
  obtain ⟨y,hu,tu⟩:=aS h4
  obtain rfl:as = [y]:=cm hu
  obtain ⟨⟨z,bs⟩,hw,h4_3⟩:=aS tu
  obtain ⟨p',pos',rfl⟩:=cQ hw
  obtain ⟨WV,h5⟩:=au h4_3
  obtain ⟨WU,h6⟩:=au WV
  obtain ⟨WT,h3⟩:=au WU
  obtain rfl:z = _:=of_decide_eq_true WT
  obtain ⟨u,Wf,FD⟩:=aS h5
  obtain rfl:bs = [u]:=cm Wf
  have:=Em (F:=F) (p:=p) (p':=p') (pos:=pos) (pos':=pos') L h1 (of_decide_eq_true h2) h3 (of_decide_eq_true h6) (aJ a X S F L _ FD).1 (fun es=>cv FD es _)
  exact ⟨this,cV this fun _=>rfl⟩
 | .ix a b,X,S,F,L,e,h=>by
  obtain ⟨⟨l,r⟩,hv,il⟩:=aS h
  obtain ⟨pos,rfl⟩:=kJ hv
  obtain ⟨h1,h2⟩:=au il
  have:=MY (F:=F) (pos:=pos) L (aJ a X S F L _ h1).1 (aJ b X S F L _ h2).1 (rW h2)
  exact ⟨this,cV this fun _=>rfl⟩
 | .tup cs,X,S,F,L,e,h=>by
  obtain ⟨es,hv,il⟩:=aS h
  obtain ⟨n,pos,rfl⟩:=kI hv
  obtain ⟨h1,h2⟩:=au il
  have:=Ii (F:=F) (n:=n) (pos:=pos) (fB cs X S F L es h1) (of_decide_eq_true h2)
  exact ⟨this,cV this fun _=>rfl⟩
 | .lst cs,X,S,F,L,e,h=>by
  obtain ⟨es,hv,il⟩:=aS h
  obtain ⟨pos,rfl⟩:=D1 hv
  obtain ⟨h1,h2⟩:=au il
  have:=Il (F:=F) (pos:=pos) (fB cs X S F L es h1) (of_decide_eq_true h2)
  exact ⟨this,cV this fun _=>rfl⟩
 | .comp n t caps ik es a_ elt,X,S,F,L,e,h=>by
  obtain ⟨⟨iZ,gens,sc⟩,hv,il⟩:=aS h
  obtain ⟨pos,rfl⟩:=Be hv
  obtain ⟨⟨target,iter,ifs,a⟩,hg,lU⟩:=aS il
  obtain rfl:gens = _:=cm hg
  obtain ⟨qy,h6⟩:=au lU
  obtain ⟨CT,h5⟩:=au qy
  obtain ⟨h_5,h4⟩:=au CT
  obtain ⟨h_6,h3⟩:=au h_5
  obtain ⟨h_7,h2⟩:=au h_6
  obtain ⟨h_8,h1⟩:=au h_7
  obtain rfl:a = 0:=of_decide_eq_true h_8
  have Fy:=fun (X':Cx) (F':Addr -> Prop) (L':Lk X' (S.inner target caps sc) k Φ)=>i8 a_ X' _ F' L' ifs h4
  have this:PE X (.ListComp iZ [⟨target,iter,ifs,0⟩] sc pos) (tD X F Φ (.comp n t caps ik es a_ elt)) :=
   En L (rV h1) h2 (fun X' F' L'=>(aJ elt X' _ F' L' iZ h5).1) (vL (of_decide_eq_true h3) h4 Fy) (Cr L (fun l=>fB es X S F L l) (fun l=>i8 es X S F L l) (fun l=>jJ es X S F L l) h6)
  exact ⟨this,cV this fun _=>rfl⟩
theorem i8:∀ (cs:List CE) (X:Cx) (S:Sx) (F:Addr -> Prop) (L:Lk X S k Φ) (es:List Expr),bI S cs es = true -> ∀ (j:Nat) (c:CE) (e:Expr),cs[j]? = some c -> es[j]? = some e -> PE X e (tD X F Φ c) /\ PT X e (hX X F Φ c)
 | [],X,S,F,L,_,_=>fun j c e h _=>by simp at h
 | _ :: _,X,S,F,L,[],h=>by exact (Bool.false_ne_true h).elim
 | c :: cs,X,S,F,L,e :: es,h=>fun j c' e' hc he=>by
  replace h:=au h
  cases j with
  | zero=>simp at hc he;subst hc he;exact aJ c X S F L e h.1
  | succ j=>exact i8 cs X S F L es h.2 j c' e' (by simpa using hc) (by simpa using he)
theorem jJ:∀ (cs:List CE) (X:Cx) (S:Sx) (F:Addr -> Prop) (L:Lk X S k Φ) (es:List Expr),bI S cs es = true -> qU X F Φ cs es
 | [],X,S,F,L,[],_=>trivial
 | [],X,S,F,L,_ :: _,h=>by exact (Bool.false_ne_true h).elim
 | _ :: _,X,S,F,L,[],h=>by exact (Bool.false_ne_true h).elim
 | c :: cs,X,S,F,L,e :: es,h=>by
  replace h:=au h
  exact ⟨(aJ c X S F L e h.1).1,fun l=>cv h.1 l _,rW h.1,jJ cs X S F L es h.2⟩
theorem fB:∀ (cs:List CE) (X:Cx) (S:Sx) (F:Addr -> Prop) (L:Lk X S k Φ) (es:List Expr),bI S cs es = true -> PA X es (uF X F Φ cs)
 | [],X,S,F,L,[],_=>PA.imp ib fun _ _ _ h=>kN h
 | [],X,S,F,L,_ :: _,h=>by exact (Bool.false_ne_true h).elim
 | _ :: _,X,S,F,L,[],h=>by exact (Bool.false_ne_true h).elim
 | c :: cs,X,S,F,L,e :: es,h=>by
  replace h:=au h
  exact PA.imp (d7 (aJ c X S F L e h.1).1 (fB cs X S F L es h.2) (cv h.1 es _)) fun _ _ _ h=>gI h
theorem lL:∀ (cs:List CE) (X:Cx) (S:Sx) (F:Addr -> Prop) (L:Lk X S k Φ) (es:List Expr),bI S cs es = true -> ∀ pos,PE X (.BoolOp .And es pos) (tD X F Φ (.and cs)) /\ PW X (.BoolOp .And es pos) (hX X F Φ (.and cs))
 | [],X,S,F,L,_,_,pos=>⟨fun _ _ _ _ _ _ ⟨_,_,_,_,_,ev,_⟩=>(by cases ev),fun _ _ _ _ _ _ _ ⟨_,_,_,_,_,ev,_⟩=>by cases ev⟩
 | [c],X,S,F,L,[e],h,pos=>by
  replace h:=au h
  exact ⟨PE.imp (B0 (aJ c X S F L e h.1).1) fun _ _ _ h=>Gn h,PW.imp (EC (aJ c X S F L e h.1).2) fun _ _ _ h=>Dx h⟩
 | [_],X,S,F,L,[],h,_=>by exact (Bool.false_ne_true h).elim
 | [_],X,S,F,L,_ :: _ :: _,h,_=>by exact (Bool.false_ne_true (au h).2).elim
 | _ :: _ :: _,X,S,F,L,[],h,_=>by exact (Bool.false_ne_true h).elim
 | _ :: _ :: _,X,S,F,L,[_],h,_=>by exact (Bool.false_ne_true (au h).2).elim
 | c :: c' :: cs,X,S,F,L,e :: e' :: es,h,pos=>by
  replace h:=au h
  have r:=lL (c' :: cs) X S F L (e' :: es) h.2 pos
  exact ⟨PE.imp (IU (aJ c X S F L e h.1).1 r.1) fun _ _ _ h=>Dy h,PW.imp (IC (aJ c X S F L e h.1).2 r.2) fun _ _ _ h=>AW h⟩
theorem oi:∀ (cs:List CE) (X:Cx) (S:Sx) (F:Addr -> Prop) (L:Lk X S k Φ) (es:List Expr),bI S cs es = true -> ∀ pos,PE X (.BoolOp .Or es pos) (tD X F Φ (.or cs)) /\ PW X (.BoolOp .Or es pos) (hX X F Φ (.or cs))
 | [],X,S,F,L,_,_,pos=>⟨fun _ _ _ _ _ _ ⟨_,_,_,_,_,ev,_⟩=>(by cases ev),fun _ _ _ _ _ _ _ ⟨_,_,_,_,_,ev,_⟩=>by cases ev⟩
 | [c],X,S,F,L,[e],h,pos=>by
  replace h:=au h
  exact ⟨PE.imp (B0 (aJ c X S F L e h.1).1) fun _ _ _ h=>IZ h,PW.imp (IB (aJ c X S F L e h.1).2) fun _ _ _ h=>EK h⟩
 | [_],X,S,F,L,[],h,_=>by exact (Bool.false_ne_true h).elim
 | [_],X,S,F,L,_ :: _ :: _,h,_=>by exact (Bool.false_ne_true (au h).2).elim
 | _ :: _ :: _,X,S,F,L,[],h,_=>by exact (Bool.false_ne_true h).elim
 | _ :: _ :: _,X,S,F,L,[_],h,_=>by exact (Bool.false_ne_true (au h).2).elim
 | c :: c' :: cs,X,S,F,L,e :: e' :: es,h,pos=>by
  replace h:=au h
  have r:=oi (c' :: cs) X S F L (e' :: es) h.2 pos
  exact ⟨PE.imp (Nj (aJ c X S F L e h.1).1 r.1) fun _ _ _ h=>EL h,PW.imp (Na (aJ c X S F L e h.1).2 r.2) fun _ _ _ h=>B3 h⟩
end
theorem i7 (L:Lk X S k Φ) (c:CE) (e:Expr) (h:bW S c e = true):PE X e (tD X F Φ c) /\ PT X e (hX X F Φ c):=aJ c X S F L e h
theorem oh (L:Lk X S k Φ) (cs:List CE) (es:List Expr) (h:bI S cs es = true):qU X F Φ cs es:=jJ cs X S F L es h
theorem x9 (L:Lk X S k Φ) (cs:List CE) (es:List Expr) (h:bI S cs es = true):PA X es (uF X F Φ cs):=fB cs X S F L es h
end
end DI
end
section
namespace DI
open PySem PySem.Spec PyProof.Rows L2
section
variable {X:Cx} {S:Sx} {k:Nat} {F:Addr -> Prop} {Φ:az}
theorem sx (L:Lk X S k Φ) (c:CE) (e:Expr) (h:bW S c e = true):PE X e (tK X F Φ c):=by
 by_cases hv:∃ i,c = .v i
 ·obtain ⟨i,rfl⟩:=hv
  obtain ⟨x,hx,ha⟩:=aS h
  obtain ⟨p,rfl⟩:=lI hx
  obtain ⟨hb,h3⟩:=au ha
  obtain ⟨h1,h2⟩:=au hb
  unfold oM at h3
  simp only [Bool.and_eq_true,Bool.not_eq_true'] at h3
  refine PE.imp (wQ (i:=i) (by rw [L.N];exact of_decide_eq_true h1) (L.Qk h2) h3.1.1 h3.1.2) fun σ H Q hq=>?_
  obtain ⟨R,τ,ρ,r,Si,ev,hq⟩:=hq
  simp only [jX] at ev
  split at ev
  ·rename_i d hd
   split at ev
   ·cases ev
    obtain ⟨v,τ',hv,hJ,rk⟩:=Si.move hd
    exact ⟨v,hv,hq v H R τ' (ak.refl H) (fun _ h=>h) hJ rk⟩
   ·rename_i ho
    cases ev
    obtain ⟨v,hv,rp⟩:=Si.rep i d hd
    exact ⟨v,hv,hq v H R τ (ak.refl H) (fun _ h=>h) Si (Ar rp (by simpa using ho))⟩
  ·cases ev
 ·refine PE.imp (i7 (F:=F) L c e h).1 fun σ H Q hq=>?_
  obtain ⟨R,τ,ρ,r,Si,ev,hq⟩:=hq
  have XT:bd (aO Φ c ρ) (fun d=>ok (keep c d ρ)) = ok r:=by
   cases c <;> first | exact ev | exact absurd ⟨_,rfl⟩ hv
  obtain ⟨d,ed,er⟩:=ag XT
  cases er
  refine tD.intro Si ed fun v H' e' r'=>?_
  obtain ⟨R',τ',h1,h2,h3⟩:=Hc Si e' r'
  exact hq v H' R' τ' e' h1 h2 h3
end
structure Kp (R:Addr -> Prop) (H:Hp) (R':Addr -> Prop) (H':Hp):Prop where
 r:∀ p,R p -> R' p
 l:∀ p (o:HO),R p -> H p = some o -> H' p = some o
 t:∀ p xs,H p = some (.tup xs) -> H' p = some (.tup xs)
 z:∀ p o u,H p = some (.ji o u) -> H' p = some (.ji o u)
theorem Kp.refl (R:Addr -> Prop) (H:Hp):Kp R H R H:=⟨fun _ h=>h,fun _ _ _ h=>h,fun _ _ h=>h,fun _ _ _ h=>h⟩
theorem Kp.of {R R':Addr -> Prop} {H H':Hp} (e:ak H H') (h:∀ p,R p -> R' p):Kp R H R' H':=⟨h,fun p xs _ h=>e _ _ h,fun p xs h=>e _ _ h,fun p o u h=>e _ _ h⟩
theorem Kp.trans {R R1 R2:Addr -> Prop} {H H1 H2:Hp} (a:Kp R H R1 H1) (b:Kp R1 H1 R2 H2):Kp R H R2 H2 :=
 ⟨fun p h=>b.r p (a.r p h),fun p xs h e=>b.l p xs (a.r p h) (a.l p xs h e),fun p xs h=>b.t p xs (a.t p xs h),fun p o u h=>b.z p o u (a.z p o u h)⟩
theorem Kp.Qs {K:PySem.W.Frag} {R R':Addr -> Prop} {H H':Hp} (a:Kp R H R' H') {p:Addr} {xs:List V} (h:aG K H p xs):aG K H' p xs:=by
 rcases h with (h | ⟨o,h⟩) | h
 ·exact .inl (.inl (a.t p xs h))
 ·exact .inl (.inr ⟨o,a.z p o _ h⟩)
 ·exact .inr h
theorem Kp.nd {K:PySem.W.Frag} {R R':Addr -> Prop} {H H':Hp} (a:Kp R H R' H') {q:aI} {p:Addr} {xs:Nd} {f:Fl} (h:DI.nd K R (fun _=>False) (fun _=>none) H q p xs f):DI.nd K R' (fun _=>False) (fun _=>none) H' q p xs f:=by
 cases f with
 | ow=>exact nomatch h.2
 | fz=>exact ⟨h.1.at fun o e=>a.l p o h.2 e,a.r p h.2⟩
 | al=>exact h.2.elim
 | sc =>
  obtain ⟨ys,rfl,h⟩:=h.GW
  exact h.elim (fun ⟨o,h⟩=>.inl ⟨o,a.z p o _ h⟩) .inr
theorem Kp.rep {K:PySem.W.Frag} {R R':Addr -> Prop} {H H':Hp} (a:Kp R H R' H') {k:aI} {v:V} {d:D} (h:Rep (aG K H) (DI.nd K R (fun _=>False) (fun _=>none) H) k v d):Rep (aG K H') (DI.nd K R' (fun _=>False) (fun _=>none) H') k v d :=
 h.imp (fun _ _ h=>a.Qs h) fun _ _ _ _ h=>a.nd h
theorem Kp.SG {K:PySem.W.Frag} {R R':Addr -> Prop} {H H':Hp} (a:Kp R H R' H') {k:aI} {n:Nat} {v:List V} {d:List D} (h:af (aG K H) (DI.nd K R (fun _=>False) (fun _=>none) H) k n v d):af (aG K H') (DI.nd K R' (fun _=>False) (fun _=>none) H') k n v d :=
 h.imp (fun _ _ h=>a.Qs h) fun _ _ _ _ h=>a.nd h
def Dz (X:Cx) (F:Addr -> Prop) (H':Hp) (v:V) (d:D):Prop:=∃ τt:Addr -> Option aI,(∀ p q,τt p = some q -> X.H₀ p = none) /\ Rep (aG X.K H') (nd X.K (gP X F) (fun _=>False) τt H') [] v d
theorem ju.ret {X:Cx} {F R:Addr -> Prop} {τ:Addr -> Option aI} {ρ:aA} {σ:St} {H:Hp} {v:V} {d:D} (Si:SI X F R τ ρ σ H) (h:ju X R τ H v d):Dz X F H v d:=by
 obtain ⟨τt,ht,rp⟩:=h
 exact ⟨τt,fun p q e=>(ht p q e).2.2.1,rp.imp (fun _ _ h=>h) fun _ _ _ _ h=>h.mono (fun h=>Si.rf _ h) id id⟩
def mK (X:Cx) (F:Addr -> Prop) (D:Ends) (R:Addr -> Prop) (H:Hp):Fo × aA -> Prop
 | (.nx,ρ')=>∀ σ' H' R' τ',SI X F R' τ' ρ' σ' H' -> Kp R H R' H' -> D.nx σ' H'
 | (.bk,ρ')=>∀ σ' H' R' τ',SI X F R' τ' ρ' σ' H' -> Kp R H R' H' -> D.bk σ' H'
 | (.ct,ρ')=>∀ σ' H' R' τ',SI X F R' τ' ρ' σ' H' -> Kp R H R' H' -> D.ct σ' H'
 | (.rt d,_)=>∀ v H',ak X.H₀ H' -> Dz X F H' v d -> D.rt v H'
def wd (X:Cx) (F:Addr -> Prop) (Φ:az) (c:CS):TS:=fun D σ H=>∃ R τ ρ r,SI X F R τ ρ σ H /\ tO Φ c ρ = ok r /\ mK X F D R H r
def qj (X:Cx) (F:Addr -> Prop) (Φ:az) (cs:List CS):TS:=fun D σ H=>∃ R τ ρ r,SI X F R τ ρ σ H /\ bM Φ cs ρ = ok r /\ mK X F D R H r
def Jv (sc:Scope) (x:Str):Bool:=decide (sc.names.lookup x = some .local) || decide (sc.names.lookup x = some .cell)
def ni (S:Sx) (i:Nat):Expr -> Bool
 | .Name x _=>decide (S.N[i]? = some x) && Jv S.sc x
 | _=>false
def Va:Expr -> Bool
 | .Name x _=>oM x
 | _=>true
def Dm (S:Sx):List Nat -> List Expr -> Bool
 | [],es=>match es with
  | []=>true
  | _ :: _=>false
 | i :: is,es=>match es with
  | []=>false
  | e :: es=>ni S i e && Dm S is es
def AN (S:Sx):Tg -> Expr -> Bool
 | .nm i,e=>ni S i e
 | .tp is,e=>aR (zE e) fun es=>Dm S is es
def ig:Expr -> Bool
 | .ListComp _ _ _ _=>true
 | _=>false
def isTup:Expr -> Bool
 | .Tuple _ _ _=>true
 | _=>false
def RP (S:Sx) (tg v:Expr):Bool:=match tg,v with
 | .Name x p,.ListComp _ _ sc pos=>(S.sc.names.lookup x == some .local) && (p.line == pos.line) && !(sc.names.any fun (n,k)=>n == x && (k == .local || k == .cell))
 | _,_=>false
def HM:Expr -> Option (Str × Pos)
 | .Name x p=>some (x,p)
 | _=>none
theorem xV {e:Expr} {x:Str} {p:Pos} (h:HM e = some (x,p)):e = .Name x p:=by
 cases e <;> first | (cases h;done) | (cases h;rfl)
def Dl (S:Sx) (i j:Nat) (tg v:Expr):Bool :=
 aR (zE tg) fun ts=>aR (two ts) fun t=>aR (HM t.1) fun x=>aR (HM t.2) fun y=>aR (zE v) fun vs=>aR (two vs) fun w =>
  decide (S.N[i]? = some x.1) && decide (S.N[j]? = some y.1) && decide (i ≠ j) && decide (S.sc.names.lookup x.1 = some .local) && decide (S.sc.names.lookup y.1 = some .local) && decide (x.1 ≠ y.1) &&
   decide (x.2.line = y.2.line) && !([w.1,w.2].all (foldedForSure 8)) && !([w.1,w.2].all (constantsAlone 8)) && decide (([w.1,w.2].any fun e=>match e with | .Starred ..=>true | _=>false) = false)
def O_ (S:Sx) (it:CI) (e:Expr):Bool:=match it with
 | .mU a=>aR (eA e) fun w=>decide (w.1 = ("range" : Str)) && g_ S.sc w.1 && decide (w.1 ∈ S.bl) && aR (one w.2) fun y=>bW S a y
 | .seq a=>bW S a e && rH e
 | .IL p es=>QF e && aR (S.px.pi p S.sc S.bl e) fun xs=>bI S es xs
def B7:CI -> Bool
 | .IL p _=>decide (1100 <= p)
 | _=>true
def zG:Stmt -> Option (List Expr × Expr)
 | .Assign ts v _=>some (ts,v)
 | _=>none
theorem nk {s:Stmt} {ts:List Expr} {v:Expr} (h:zG s = some (ts,v)):∃ p,s = .Assign ts v p:=by
 cases s <;> first | (cases h;done) | (cases h;exact ⟨_,rfl⟩)
def Mq:Stmt -> Option (Option Expr)
 | .Return v _=>some v
 | _=>none
theorem DZ {s:Stmt} {v:Option Expr} (h:Mq s = some v):∃ p,s = .Return v p:=by
 cases s <;> first | (cases h;done) | (cases h;exact ⟨_,rfl⟩)
def Mu:Stmt -> Option Expr
 | .Expr v _=>some v
 | _=>none
theorem wq {s:Stmt} {v:Expr} (h:Mu s = some v):∃ p,s = .Expr v p:=by
 cases s <;> first | (cases h;done) | (cases h;exact ⟨_,rfl⟩)
def Rt:Stmt -> Option (Expr × Operator × Expr)
 | .AugAssign o p v _=>some (o,p,v)
 | _=>none
theorem Ql {s:Stmt} {o v:Expr} {p:Operator} (h:Rt s = some (o,p,v)):∃ q,s = .AugAssign o p v q:=by
 cases s <;> first | (cases h;done) | (cases h;exact ⟨_,rfl⟩)
def Ms:Stmt -> Option (Expr × List Stmt × List Stmt)
 | .If t x y _=>some (t,x,y)
 | _=>none
theorem D2 {s:Stmt} {t:Expr} {x y:List Stmt} (h:Ms s = some (t,x,y)):∃ q,s = .If t x y q:=by
 cases s <;> first | (cases h;done) | (cases h;exact ⟨_,rfl⟩)
def Mp:Stmt -> Option (Expr × List Stmt × List Stmt)
 | .While t x y _=>some (t,x,y)
 | _=>none
theorem DY {s:Stmt} {t:Expr} {x y:List Stmt} (h:Mp s = some (t,x,y)):∃ q,s = .While t x y q:=by
 cases s <;> first | (cases h;done) | (cases h;exact ⟨_,rfl⟩)
def Mt:Stmt -> Option (Expr × Expr × List Stmt × List Stmt)
 | .For tg it x y _=>some (tg,it,x,y)
 | _=>none
theorem D3 {s:Stmt} {tg it:Expr} {x y:List Stmt} (h:Mt s = some (tg,it,x,y)):∃ q,s = .For tg it x y q:=by
 cases s <;> first | (cases h;done) | (cases h;exact ⟨_,rfl⟩)
def xX:Expr -> Option (Expr × Str × Pos)
 | .Attribute o a p=>some (o,a,p)
 | _=>none
theorem uz {e o:Expr} {a:Str} {p:Pos} (h:xX e = some (o,a,p)):e = .Attribute o a p:=by
 cases e <;> first | (cases h;done) | (cases h;rfl)
def sk:Expr -> Option (Expr × List Expr × List Keyword × Pos)
 | .Call f as ks p=>some (f,as,ks,p)
 | _=>none
theorem qZ {e f:Expr} {as:List Expr} {ks:List Keyword} {p:Pos} (h:sk e = some (f,as,ks,p)):e = .Call f as ks p:=by
 cases e <;> first | (cases h;done) | (cases h;rfl)
def isNil {α:Type}:List α -> Bool
 | []=>true
 | _ :: _=>false
theorem oX {α:Type} {l:List α} (h:isNil l = true):l = []:=by cases l <;> first | rfl | cases h
def Fn:Stmt -> Bool
 | .Raise _ _ _=>true
 | _=>false
def JN:Stmt -> Bool
 | .Pass _=>true
 | _=>false
theorem LM {s:Stmt} (h:JN s = true):∃ p,s = .Pass p:=by cases s <;> first | (cases h;done) | exact ⟨_,rfl⟩
def NY:Stmt -> Bool
 | .Break _=>true
 | _=>false
theorem NX {s:Stmt} (h:NY s = true):∃ p,s = .Break p:=by cases s <;> first | (cases h;done) | exact ⟨_,rfl⟩
def V6:Stmt -> Bool
 | .Continue _=>true
 | _=>false
theorem QO {s:Stmt} (h:V6 s = true):∃ p,s = .Continue p:=by cases s <;> first | (cases h;done) | exact ⟨_,rfl⟩
theorem zm {S:Sx} {i:Nat} {e:Expr} (h:ni S i e = true):∃ x p,e = .Name x p:=by
 cases e <;> first | exact ⟨_,_,rfl⟩ | exact (Bool.false_ne_true h).elim
theorem Fp {e:Expr} (h:isNm e = true):∃ x p,e = .Name x p:=by cases e <;> first | (cases h;done) | exact ⟨_,_,rfl⟩
theorem Ak {e:Expr} (h:ig e = true):∃ x g sc p,e = .ListComp x g sc p:=by cases e <;> first | (cases h;done) | exact ⟨_,_,_,_,rfl⟩
mutual
def O8 (S:Sx):CS -> Stmt -> Bool
 | .asg t e,s0=>aR (zG s0) fun z=>aR (one z.1) fun tg=>bW S e z.2 && AN S t tg && !(isTup z.2 && isTup tg) && (!ig z.2 || isNm tg)
 | .par i j a b,s0=>aR (zG s0) fun z=>aR (one z.1) fun tg=>bW S (.tup [a,b]) z.2 && Dl S i j tg z.2
 | .ret e,s0=>aR (Mq s0) fun z=>aR z fun v=>bW S e v
 | .rs _,s0=>Fn s0
 | .mut p i es,s0=>aR (S.px.pm p S.sc S.bl s0) fun z=>ni S i z.1 && Va z.1 && bI S es z.2
 | .app i e,s0=>aR (Mu s0) fun c=>aR (sk c) fun z=>isNil z.2.2.1 && aR (xX z.1) fun a=>decide (a.2.1 = ("append" : Str)) && ni S i a.1 && Va a.1 && (a.2.2.endLine == z.2.2.2.line) && aR (one z.2.1) fun v=>bW S e v
 | .setI i k e,s0=>aR (zG s0) fun z=>aR (one z.1) fun tg=>aR (n9 tg) fun w=>ni S i w.1 && Va w.1 && bW S k w.2 && bW S e z.2 && !ig z.2
 | .ex e,s0=>aR (Mu s0) fun v=>bW S e v && !ig v
 | .ifs c a b,s0=>aR (Ms s0) fun z=>bW S c z.1 && aL S a z.2.1 && aL S b z.2.2
 | .HK c b,s0=>aR (Mp s0) fun z=>isNil z.2.2 && bW S c z.1 && aL S b z.2.1
 | .fr t it b,s0=>aR (Mt s0) fun z=>isNil z.2.2.2 && AN S t z.1 && O_ S it z.2.1 && (ie z.1 || B7 it) && aL S b z.2.2.1
def aL (S:Sx):List CS -> List Stmt -> Bool
 | [],ss=>match ss with
  | []=>true
  | _ :: _=>false
 | c :: cs,ss=>match ss with
  | []=>false
  | s :: ss=>O8 S c s && aL S cs ss
end
structure Rk (px:Px) (Φ:az):Prop where
 m:∀ (X:Cx) (sc:Scope) (bl:List Str) (k:Nat),PX X sc bl k -> X.N.Nodup -> (∀ x,X.fn x = true) -> ∀ (p:Nat) (st:Stmt) (x:Str) (pos:Pos) (args:List Expr),px.pm p sc bl st = some (.Name x pos,args) -> ∀ (i:Nat),X.N[i]? = some x -> L2.Loc X.env.scope x -> PE X (.Name x pos) (Bp i) ->
  ∀ (F:Addr -> Prop) (cs:List CE),qU X F Φ cs args -> PS X st (wd X F Φ (.mut p i cs))
structure qV (X:Cx) (S:Sx) (k:Nat) (Φ:az):Prop extends Lk X S k Φ where
 FH:∀ x,X.fn x = true
 px:PassesOwn (model X.prog X.w) X.A X.env X.xe
 fk:S.sc.kind = .function
 pm:Rk S.px Φ
section
variable {X:Cx} {S:Sx} {k:Nat} {F:Addr -> Prop} {Φ:az}
theorem qV.loc (L:qV X S k Φ) {x:Str} (h:Jv S.sc x = true):L2.Loc X.env.scope x:=by
 unfold L2.Loc;rw [L.sc]
 unfold Jv at h
 rw [Bool.or_eq_true] at h
 exact h.imp of_decide_eq_true of_decide_eq_true
theorem GQ (L:qV X S k Φ) {x:Str} {p pos:Pos} {l:Nat} {elt:Expr} {gens:List Comprehension} {sc:Scope}:swapsWith (.ListComp elt gens sc pos) (some (.Name x p)) l X.env = pure (RP S (.Name x p) (.ListComp elt gens sc pos)):=by
 have hb:X.env.blockKind = .function:=by unfold Env.blockKind;rw [L.sc,L.fk];rfl
 have hk:(X.env.kindOf x == some .local) = (S.sc.names.lookup x == some .local):=by
  unfold Env.kindOf
  rw [L.sc]
 unfold swapsWith RP
 simp only [hb,hk]
 rfl
theorem pS {c:CE} {e:Expr} (h:bW S c e = true) (hc:ig e = false) (t:Option Expr) (l:Nat) (env:Env):swapsWith e t l env = pure false:=by
 cases e <;> first | rfl | (cases hc;done) | (cases c <;> exact (Bool.false_ne_true h).elim)
def W8:List Nat -> Gv
 | []=>Ki
 | i :: is=>C0 (rP i) (W8 is)
theorem BW (L:qV X S k Φ) {i:Nat} {e:Expr} (h:ni S i e = true):PG X e (rP i):=by
 cases e <;> try (exact (Bool.false_ne_true h).elim;done)
 replace h:=au h
 exact sO L.nd (by rw [L.N];exact of_decide_eq_true h.1) (L.loc h.2) (.inl (L.FH _))
theorem EW {i:Nat} {e:Expr} (h:ni S i e = true) (es:List Expr) (env:Env):assignEach (e :: es) env = (false,assign e env) :: assignEach es env:=by
 cases e <;> first | rfl | (exact (Bool.false_ne_true h).elim;done)
theorem BV (L:qV X S k Φ):∀ {is:List Nat} {es:List Expr},Dm S is es = true -> Mg X es (W8 is) /\ (assignEach es X.env).length = is.length /\ (assignEach es X.env).findIdx? (·.1) = none
 | [],[],_=>⟨yo,rfl,rfl⟩
 | [],_ :: _,h=>by exact (Bool.false_ne_true h).elim
 | _ :: _,[],h=>by exact (Bool.false_ne_true h).elim
 | i :: is,e :: es,h=>by
  replace h:=au h
  obtain ⟨h1,h2,h3⟩:=BV L h.2
  have he:=EW h.1 es X.env
  refine ⟨uZ (BW L h.1) h1 (by rw [he];rfl),by rw [he];simp [h2],?_⟩
  rw [he,List.findIdx?_cons]
  simp [h3]
theorem uK {H:Hp} {R:Addr -> Prop} {Q:St -> Hp -> Prop}:∀ {is:List Nat} {vs:List V} {ds:List D} {kp:aI} {n:Nat} {σ:St} {τ:Addr -> Option aI} {ρ ρ':aA},af (aG X.K H) (nd X.K R (fun _=>False) (fun _=>none) H) kp n vs ds -> SI X F R τ ρ σ H -> iU is ds ρ = ok ρ' ->
  (∀ σ' τ',SI X F R τ' ρ' σ' H -> Q σ' H) -> W8 is vs σ H Q
 | [],_,_,_,_,σ,τ,_,_,.nil,Si,e,hq=>by
  cases e
  exact ⟨rfl,hq σ τ Si⟩
 | [],_,_,_,_,_,_,_,_,.cons _ _,_,e,_=>by cases e
 | _ :: _,_,_,_,_,_,_,_,_,.nil,_,e,_=>by cases e
 | i :: is,_,_,_,_,σ,τ,ρ,_,.cons (v:=v) (d:=d) h t,Si,e,hq=>by
  change (if _ then _ else _) = _ at e
  split at e
  ·rename_i hi
   obtain ⟨τ',hJ⟩:=Si.set (i:=i) (ny (τ':=τ) (Rep.sU h)) hi
   exact ⟨_,_,rfl,uK t hJ e hq⟩
  ·cases e
theorem Bn (L:qV X S k Φ) {t:Tg} {tg:Expr} (h:AN S t tg = true):∃ g,PG X tg g /\ ∀ (v:V) (σ:St) (H:Hp) (Q:St -> Hp -> Prop) (R:Addr -> Prop) (τ:Addr -> Option aI) (ρ ρ':aA) (d:D),SI X F R τ ρ σ H -> ju X R τ H v d -> cA t d ρ = ok ρ' ->
  (∀ σ' τ',SI X F R τ' ρ' σ' H -> Q σ' H) -> g v σ H Q:=by
 cases t with
 | nm i =>
  refine ⟨rP i,BW L h,fun v σ H Q R τ ρ ρ' d Si rk e hq=>?_⟩
  simp only [cA] at e
  split at e
  ·rename_i hi
   cases e
   obtain ⟨τ',hJ⟩:=Si.set rk hi
   exact hq _ τ' hJ
  ·cases e
 | tp is =>
  obtain ⟨es,hx,ha⟩:=aS h
  obtain ⟨nn,pp,rfl⟩:=kI hx
  obtain ⟨h1,h2,h3⟩:=BV L ha
  refine ⟨_,BU L.calm h1 h2 h3,fun v σ H Q R τ ρ ρ' d Si rk e hq=>?_⟩
  cases d <;> try (simp [cA] at e;done)
  rename_i ds
  simp only [cA] at e
  split at e
  ·cases e
  ·rename_i ho
   obtain ⟨τt,ht,rp⟩:=rk
   cases rp with
   | @tup _ p xs _ hp rs =>
    have wN:af (aG X.K H) (nd X.K R (fun _=>False) (fun _=>none) H) [] 0 xs ds:=af.without (P:=d9) (fun _ _ h=>h) (fun k k' p xs f hf h=>by
     cases f with
     | ow=>cases hf
     | fz=>exact h
     | al=>exact h.2.elim
     | sc=>exact h) rs (by simpa using ho) _ _
    refine ⟨p,xs,rfl,hp,?_,uK wN Si e hq⟩
    rw [rs.length]
    have:∀ (is:List Nat) (ds:List D) (ρ ρ':aA),iU is ds ρ = ok ρ' -> ds.length = is.length:=by
     intro is
     induction is with
     | nil=>intro ds ρ ρ' e;cases ds with | nil=>rfl | cons _ _=>cases e
     | cons i is ih=>intro ds ρ ρ' e;cases ds with
      | nil=>cases e
      | cons d ds =>
       change (if _ then _ else _) = _ at e
       split at e
       ·simp [ih ds _ _ e]
       ·cases e
    exact this _ _ _ _ e
end
end DI
end
section
namespace DI
open PySem PySem.Spec PyProof.Rows L2
section
variable {X:Cx} {S:Sx} {k:Nat} {F:Addr -> Prop} {Φ:az}
theorem Bu (L:qV X S k Φ) {t:Tg} {e:CE} {tg v:Expr} {pos:Pos} (he:bW S e v = true) (ht:AN S t tg = true) (hp:(isTup v && isTup tg) = false) (Wh:swapsWithSole [tg] v pos.line X.env = pure false):PS X (.Assign [tg] v pos) (wd X F Φ (.asg t e)):=by
 obtain ⟨g,hg,CJ⟩:=Bn (F:=F) L ht
 have GG:(∃ x p,tg = .Name x p) \/ ∃ es n p,tg = .Tuple es n p:=by
  cases t with
  | nm i=>cases tg <;> first | exact .inl ⟨_,_,rfl⟩ | exact (Bool.false_ne_true ht).elim
  | tp is=>cases tg <;> first | exact .inr ⟨_,_,_,rfl⟩ | exact (Bool.false_ne_true ht).elim
 have each:(assignEach [tg] X.env).map (·.2) = [assign tg X.env]:=by
  rcases GG with ⟨x,p,rfl⟩ | ⟨es,n,p,rfl⟩ <;> rfl
 have hw:swappedStores [tg] v X.env = pure none:=by
  rcases GG with ⟨x,p,rfl⟩ | ⟨es,n,p,rfl⟩
  ·first | rfl | (cases v <;> rfl)
  ·cases v <;> first | rfl | exact absurd hp (by simp [isTup])
 refine PS.imp (BQ (sx (F:=F) L.toLk e v he) hg Wh hw each) fun D σ H hq=>?_
 obtain ⟨R,τ,ρ,r,Si,ev,hq⟩:=hq
 obtain ⟨r1,xo,ev⟩:=ag ev
 obtain ⟨ρ',eρ,ev⟩:=ag ev
 cases ev
 exact ⟨R,τ,ρ,r1,Si,xo,fun v H' R' τ' es hR hJ rk=>CJ v σ H' _ R' τ' r1.2 ρ' r1.1 hJ rk eρ fun σ' A9 Lr=>hq σ' H' R' A9 Lr (Kp.of es hR)⟩
theorem Ei (L:qV X S k Φ) {i n:Nat} {t:Tg} {caps:List Nat} {ik:IK} {es a_:List CE} {elt:CE} {x:Str} {p MV pos:Pos} {iZ:Expr} {gens:List Comprehension} {sc:Scope}
  (he:bW S (.comp n t caps ik es a_ elt) (.ListComp iZ gens sc pos) = true) (hn:ni S i (.Name x p) = true) (Wh:swapsWith (.ListComp iZ gens sc pos) (some (.Name x p)) MV.line X.env = pure true) :
  PS X (.Assign [.Name x p] (.ListComp iZ gens sc pos) MV) (wd X F Φ (.asg (.nm i) (.comp n t caps ik es a_ elt))):=by
 intro pins s σ H D I hq
 obtain ⟨R,τ,ρ,r,Si,ev,hq⟩:=hq
 obtain ⟨r1,xo,ev⟩:=ag ev
 obtain ⟨ρ',eρ,ev⟩:=ag ev
 cases ev
 have xo:bd (aO Φ (.comp n t caps ik es a_ elt) ρ) (fun d=>ok (keep (.comp n t caps ik es a_ elt) d ρ)) = ok r1:=xo
 obtain ⟨d,ed,xo⟩:=ag xo
 cases xo
 have hg:=BW L hn
 rw [exec_Assign_Name_used _ _ _ _ Wh]
 refine wpAny_bind (wpAny_standAt (wpAny_bind ?_))
 obtain ⟨⟨e0,g0,s0⟩,hv0,LP⟩:=aS he
 cases hv0
 obtain ⟨⟨target,iter,ifs,a⟩,WD,hz⟩:=aS LP
 obtain rfl:gens = _:=cm WD
 obtain ⟨hz,h6⟩:=au hz
 obtain ⟨hz,h5⟩:=au hz
 obtain ⟨hz,h4⟩:=au hz
 obtain ⟨hz,h3⟩:=au hz
 obtain ⟨hz,h2⟩:=au hz
 obtain ⟨hz,h1⟩:=au hz
 obtain rfl:a = 0:=of_decide_eq_true hz
 have hC:=vL (of_decide_eq_true h3) h4 (fun (X':Cx) (F':Addr -> Prop) (L':Lk X' (S.inner target caps sc) k Φ)=>i8 a_ X' _ F' L' ifs h4)
 have run:wpAny (model X.prog X.w) X.A (comprehension (.ListComp iZ [⟨target,iter,ifs,0⟩] sc pos) sc X.env (firstIterPos [⟨target,iter,ifs,0⟩] pos) (newList []) false (eval iter X.env) (some (assign (.Name x p) X.env))) (fun _ s'=>SP X pins D .next s') X.xe s:=by
  refine vN (F:=F) (k:=k) L.toLk (rV h1) h2 (fun X' F' L'=>(i7 (F:=F') L' elt iZ h5).1) hC ?_ (use:=some (assign (.Name x p) X.env)) (Post:=fun _ s'=>SP X pins D .next s') I Si ed ?_
  ·exact Cr L.toLk (fun l=>x9 (F:=F) L.toLk es l) (fun l=>i8 es X S F L.toLk l) (fun l=>oh L.toLk es l) h6
  ·intro acc C H1 s1 m A3 hc IX sm rt
   obtain ⟨c1,c2,c3,c4,c5⟩:=hc
   obtain ⟨R',τ',hR,hJ,rk⟩:=Hc (e:=.comp n t caps ik es a_ elt) Si sm rt
   have I1:Inv X pins σ H1 s1:=IX s1.heap (.refl ..)
   obtain ⟨oC,esC,epC,hoC,hdC,hrC⟩:=A3
   have cfs:C ∉ X.fs:=fun z=>by
    obtain ⟨_,o,ho,_⟩:=I1.ok.mZ.mem z
    exact absurd (Nat.lt_of_lt_of_le (Heap.lt_size ho) c2) (Nat.lt_irrefl _)
   have I2:Inv X ((C,oC) :: pins) σ H1 s1:=I1.jK fun q hq=>by
    rcases List.mem_cons.mp hq with rfl | hq
    ·exact ⟨hoC,c5,c1,cfs,fun v z=>by rw [hdC] at z;cases z⟩
    ·exact I1.pin q (List.mem_append_right _ hq)
   simp only [cA] at eρ
   split at eρ
   ·rename_i hi
    cases eρ
    obtain ⟨τ2,wb⟩:=hJ.set rk hi
    show wpAny _ _ (assign (.Name x p) X.env (.ref acc)) _ _ _
    refine wpAny_mono (hg ((C,oC) :: pins) s1 σ H1 (.ref acc) (.ref acc) (fun σ' H'=>σ' = σ.set i (some (.ref acc)) /\ H' = H1) I2 rfl ⟨rfl,rfl⟩) (fun _ s2 h2=>?_) fun _ _ z=>z
    obtain ⟨σ',H',I3,rfl,rfl⟩:=h2
    have hC3:=(I3.pin (C,oC) (List.mem_append_right _ List.mem_cons_self)).1
    refine ⟨m,⟨oC,esC,epC,hC3,hdC,hrC⟩,fun h' CA=>?_⟩
    have I4:Inv X pins (σ.set i (some (.ref acc))) H' s2:=I3.jK fun q hq=>I3.pin q (List.mem_append_right _ (List.mem_cons_of_mem _ hq))
    have I5:=I4.turned (t':=s2.toks) (h':=h') (it:=C) (fun b o hb e=>(CA.2 b hb).trans e) c5 c1 (.inr c2) c3 c4
    exact ⟨_,H',I5,hq _ H' R' τ2 wb (Kp.of sm hR)⟩
   ·cases eρ
 exact wpAny_bind (wpAny_mono run (fun _ s' h=>wpAny_pure (wpAny_pure h)) fun _ _ z=>z)
theorem Ia (L:qV X S k Φ) {e:CE} {v:Expr} {pos:Pos} (he:bW S e v = true):PS X (.Return (some v) pos) (wd X F Φ (.ret e)):=by
 refine PS.imp (IF (sx (F:=F) L.toLk e v he)) fun D σ H hq=>?_
 obtain ⟨R,τ,ρ,r,Si,ev,hq⟩:=hq
 obtain ⟨r1,xo,ev⟩:=ag ev
 cases ev
 exact ⟨R,τ,ρ,r1,Si,xo,fun v H' R' τ' es hR hJ rk=>hq v H' hJ.same (rk.ret hJ)⟩
theorem MU (L:qV X S k Φ) {e:CE} {v:Expr} {pos:Pos} (he:bW S e v = true) (Ww:ig v = false):PS X (.Expr v pos) (wd X F Φ (.ex e)):=by
 refine PS.imp (sN (i7 (F:=F) L.toLk e v he).1 (pS he Ww _ _ _)) fun D σ H hq=>?_
 obtain ⟨R,τ,ρ,r,Si,ev,hq⟩:=hq
 obtain ⟨d,ed,ev⟩:=ag ev
 cases ev
 exact tD.intro Si ed fun v H' es rv=>hq σ H' R τ (Si.go es) (Kp.of es fun _ h=>h)
theorem mK.from {D:Ends} {R R1:Addr -> Prop} {H H1:Hp} {r:Fo × aA} (h:mK X F D R H r) (kp:Kp R H R1 H1):mK X F D R1 H1 r:=by
 obtain ⟨fo,ρ'⟩:=r
 cases fo with
 | nx=>exact fun σ' H' R' τ' Si k2=>h σ' H' R' τ' Si (kp.trans k2)
 | bk=>exact fun σ' H' R' τ' Si k2=>h σ' H' R' τ' Si (kp.trans k2)
 | ct=>exact fun σ' H' R' τ' Si k2=>h σ' H' R' τ' Si (kp.trans k2)
 | rt d=>exact h
theorem MT (L:qV X S k Φ) {c:CE} {a b:List CS} {t:Expr} {x y:List Stmt} {pos:Pos} (hc:bW S c t = true) (ha:nY X x (qj X F Φ a)) (hb:nY X y (qj X F Φ b)):PS X (.If t x y pos) (wd X F Φ (.ifs c a b)):=by
 refine PS.imp (Nc (i7 (F:=F) L.toLk c t hc).2 ha hb) fun D σ H hq=>?_
 obtain ⟨R,τ,ρ,r,Si,ev,hq⟩:=hq
 obtain ⟨w,ew,ev⟩:=ag ev
 refine ⟨R,τ,ρ,w,Si,ew,fun H1 e1=>?_⟩
 cases w with
 | true=>rw [if_pos rfl] at ev ⊢;exact ⟨R,τ,ρ,r,Si.go e1,ev,hq.from (Kp.of e1 fun _ h=>h)⟩
 | false=>rw [if_neg (by simp)] at ev ⊢;exact ⟨R,τ,ρ,r,Si.go e1,ev,hq.from (Kp.of e1 fun _ h=>h)⟩
theorem Bt (L:qV X S k Φ) {c:CE} {b:List CS} {t:Expr} {x:List Stmt} {pos:Pos} (hc:bW S c t = true) (hb:nY X x (qj X F Φ b)):PS X (.While t x [] pos) (wd X F Φ (.HK c b)):=by
 refine PS.imp (BO L.px (i7 (F:=F) L.toLk c t hc).2 hb) fun D σ H hq=>?_
 obtain ⟨R,τ,ρ,r,Si,ev,hq⟩:=hq
 obtain ⟨n,hn⟩:=lS ev
 refine ⟨fun m σ' H'=>∃ R' τ' ρ',SI X F R' τ' ρ' σ' H' /\ Kp R H R' H' /\ cZ m _ ρ' = ok r,⟨n,R,τ,ρ,Si,Kp.refl R H,hn⟩,?_⟩
 rintro m σ1 H1 ⟨R1,τ1,ρ1,wk,k1,e1⟩
 cases m with
 | zero=>simp [cZ] at e1
 | succ m =>
  rw [cZ] at e1
  obtain ⟨st,es,e1⟩:=ag e1
  obtain ⟨w,ew,es⟩:=ag es
  refine ⟨R1,τ1,ρ1,w,wk,ew,fun H2 e2=>?_⟩
  cases w with
  | false =>
   rw [if_neg (by simp)] at es ⊢
   cases es
   cases e1
   exact hq σ1 H2 R1 τ1 (wk.go e2) (k1.trans (Kp.of e2 fun _ h=>h))
  | true =>
   rw [if_pos rfl] at es ⊢
   obtain ⟨⟨fo,ρ2⟩,eb,es⟩:=ag es
   refine ⟨fun σ' H'=>∃ R' τ' ρ',SI X F R' τ' ρ' σ' H' /\ Kp R H R' H' /\ cZ m _ ρ' = ok r,fun σ' H' h=>⟨m,Nat.lt_succ_self m,h⟩,R1,τ1,ρ1,(fo,ρ2),wk.go e2,eb,?_⟩
   have k2:Kp R H R1 H2:=k1.trans (Kp.of e2 fun _ h=>h)
   cases fo with
   | nx=>cases es;exact fun σ' H' R' τ' hJ k3=>⟨R',τ',ρ2,hJ,k2.trans k3,e1⟩
   | ct=>cases es;exact fun σ' H' R' τ' hJ k3=>⟨R',τ',ρ2,hJ,k2.trans k3,e1⟩
   | bk=>cases es;cases e1;exact fun σ' H' R' τ' hJ k3=>hq σ' H' R' τ' hJ (k2.trans k3)
   | rt d=>cases es;cases e1;exact hq
def lE (X:Cx) (F:Addr -> Prop) (Φ:az) (t:Tg) (b:List CS) (R1:Addr -> Prop) (H1:Hp) (r:Fo × aA) (items:List DI.D) (i:Nat) (σ:St) (H:Hp):Prop :=
 ∃ R' τ' ρ',SI X F R' τ' ρ' σ H /\ Kp R1 H1 R' H /\ fh (fun d ρ=>cA t d ρ) (fun ρ=>bM Φ b ρ) (items.drop i) ρ' = ok r
theorem pw {g:TG} {t:Tg} {b:List CS} {D:Ends} {R1:Addr -> Prop} {H1:Hp} {r:Fo × aA} {items:List DI.D} {xs:List V} {q:aI}
  (CJ:∀ (v:V) (σ:St) (H:Hp) (Q:St -> Hp -> Prop) (R:Addr -> Prop) (τ:Addr -> Option aI) (ρ ρ':aA) (d:DI.D),SI X F R τ ρ σ H -> ju X R τ H v d -> cA t d ρ = ok ρ' -> (∀ σ' τ',SI X F R τ' ρ' σ' H -> Q σ' H) -> g v σ H Q)
  (rs:af (aG X.K H1) (nd X.K R1 (fun _=>False) (fun _=>none) H1) q 0 xs items) (hq:mK X F D R1 H1 r) (i:Nat) (x:V) (σ:St) (H:Hp) (hx:xs[i]? = some x) (h:lE X F Φ t b R1 H1 r items i σ H) :
  g x σ H fun σ2 H2=>qj X F Φ b { D with nx:=lE X F Φ t b R1 H1 r items (i + 1),ct:=lE X F Φ t b R1 H1 r items (i + 1),bk:=D.nx } σ2 H2:=by
 obtain ⟨R',τ',ρ',Si,kp,ef⟩:=h
 obtain ⟨d,hd,rd⟩:=rs.Ay hx
 have hi:i < items.length:=by
  by_cases hi:i < items.length
  ·exact hi
  ·rw [List.getElem?_eq_none (by omega)] at hd;cases hd
 have vp:items.drop i = d :: items.drop (i + 1):=by
  rw [List.drop_eq_getElem_cons hi]
  rw [List.getElem?_eq_getElem hi] at hd
  cases hd;rfl
 rw [vp,fh] at ef
 obtain ⟨ρ1,e1,ef⟩:=ag ef
 obtain ⟨⟨fo,ρ2⟩,e2,ef⟩:=ag ef
 refine CJ x σ H _ R' τ' ρ' ρ1 d Si (ny (Rep.sU (kp.rep rd))) e1 fun σ' A9 hJ=>⟨R',A9,ρ1,(fo,ρ2),hJ,e2,?_⟩
 cases fo with
 | nx=>exact fun σ3 H3 R3 τ3 xP k3=>⟨R3,τ3,ρ2,xP,kp.trans k3,ef⟩
 | ct=>exact fun σ3 H3 R3 τ3 xP k3=>⟨R3,τ3,ρ2,xP,kp.trans k3,ef⟩
 | bk=>cases ef;exact fun σ3 H3 R3 τ3 xP k3=>hq σ3 H3 R3 τ3 xP (kp.trans k3)
 | rt d=>cases ef;exact hq
theorem nH {t:Tg} {b:List CS} {D:Ends} {R1:Addr -> Prop} {H1:Hp} {r:Fo × aA} {items:List DI.D} {n:Nat} (hn:n = items.length) (hq:mK X F D R1 H1 r) (σ:St) (H:Hp) (h:lE X F Φ t b R1 H1 r items n σ H):D.nx σ H:=by
 obtain ⟨R',τ',ρ',Si,kp,ef⟩:=h
 subst hn
 rw [List.drop_length,fh] at ef
 cases ef
 exact hq σ H R' τ' Si kp
theorem yU (ρ:aA):ji [] ρ = ρ:=by
 unfold ji
 apply List.ext_getElem?
 intro i
 rw [List.getElem?_mapIdx]
 cases ρ[i]? with
 | none=>rfl
 | some o=>simp
theorem yX {R:Addr -> Prop} {τ:Addr -> Option aI} {ρ:aA} {σ:St} {H H':Hp} {fv:List Nat} {v:V} {d:DI.D} (Si:SI X F R τ ρ σ H) (es:ak H H') (r:bJ X.K (gP X F) R τ fv H H' v d) :
  ∃ R' τ',(∀ p,R p -> R' p) /\ SI X F R' τ' (if aH bV d then ji fv ρ else ρ) σ H' /\ Rep (aG X.K H') (nd X.K R' (fun _=>False) (fun _=>none) H') [] v (aC aN d):=by
 by_cases ha:aH bV d = true
 ·rw [if_pos ha];exact tM Si es r
 ·rw [if_neg ha]
  have r':bJ X.K (gP X F) R τ [] H H' v d:=by
   obtain ⟨τt,fr,rp⟩:=r
   exact ⟨τt,fr,Rep.kG (P:=bV) (fun _ _ h=>h) (fun k p xs f hf h=>by
    cases f with
    | ow=>exact h
    | fz=>exact h
    | al=>cases hf
    | sc=>exact h) rp (by simpa using ha)⟩
  have:=tM Si es r'
  rw [yU] at this;exact this
theorem C1 {R:Addr -> Prop} {τ:Addr -> Option aI} {ρ:aA} {σ:St} {H H':Hp} {fv:List Nat} {vs:List V} {ds:List DI.D} (Si:SI X F R τ ρ σ H) (es:ak H H') (r:ck X.K (gP X F) R τ fv H H' vs ds) :
  ∃ R' τ',(∀ p,R p -> R' p) /\ SI X F R' τ' (if aw bV ds then ji fv ρ else ρ) σ H' /\ af (aG X.K H') (nd X.K R' (fun _=>False) (fun _=>none) H') [] 0 vs (ah aN ds):=by
 by_cases ha:aw bV ds = true
 ·rw [if_pos ha];exact vB Si es r
 ·rw [if_neg ha]
  have r':ck X.K (gP X F) R τ [] H H' vs ds:=by
   obtain ⟨τt,fr,rp⟩:=r
   exact ⟨τt,fr,af.kG (P:=bV) (fun _ _ h=>h) (fun k p xs f hf h=>by
    cases f with
    | ow=>exact h
    | fz=>exact h
    | al=>cases hf
    | sc=>exact h) rp (by simpa using ha)⟩
  have:=vB Si es r'
  rw [yU] at this;exact this
def wiP (X:Cx) (F:Addr -> Prop) (Φ:az) (p:Nat) (cs:List CE):TI:=fun σ H Rr=>∃ R τ ρ xs d items,SI X F R τ ρ σ H /\ c_ Φ cs ρ = ok xs /\ Φ p xs = ok d /\ mP d = ok items /\
 ∀ J H2 vs,ak H H2 -> ck X.K (gP X F) R τ (du cs) H H2 vs xs -> Mf X.K J H2 vs xs items -> Rr J H2
theorem Eh (L:qV X S k Φ) {t:Tg} {p:Nat} {cs:List CE} {b:List CS} {tg iter:Expr} {x:List Stmt} {pos:Pos} {args:List Expr} (ht:AN S t tg = true) (hi:S.px.pi p S.sc S.bl iter = some args) (hc:bI S cs args = true) (JV:QF iter = true) (htu:(decide (1100 <= p) || ie tg) = true) (hb:nY X x (qj X F Φ b)):PS X (.For tg iter x [] pos) (wd X F Φ (.fr t (.IL p cs) b)):=by
 obtain ⟨g,hg,CJ⟩:=Bn (F:=F) L ht
 have o5:∀ y,foldedSetIterable iter X.env y = pure y:=by
  intro y
  cases iter <;> first | rfl | (cases JV;done)
 have pi:PI X tg iter (wiP X F Φ p cs):=fun pins s σ H Rr I ⟨R,τ,ρ,xs,d,items,Si,df,ed,ei,hR⟩ =>
  L.pr.i X _ _ k L.toLk.pX p iter args hi F cs tg htu (oh L.toLk cs args hc) pins s σ H R τ ρ xs d items I Si df ed ei Rr hR
 refine PS.imp (sM L.px L.calm pi hg hb o5) fun D σ H hq=>?_
 obtain ⟨R,τ,ρ,r,Si,ev,hq⟩:=hq
 obtain ⟨⟨items,ρ1⟩,ei,ef⟩:=ag ev
 obtain ⟨xs,df,ei⟩:=ag ei
 obtain ⟨d,ed,ei⟩:=ag ei
 obtain ⟨VZ,ei',ei⟩:=ag ei
 cases ei
 refine ⟨R,τ,ρ,xs,d,items,Si,df,ed,ei',fun J H2 vs e2 Ew yz=>?_⟩
 obtain ⟨R',τ',hR,hJ,rs⟩:=C1 Si e2 Ew
 have yG:=hq.from (Kp.of e2 hR)
 refine ⟨fun i m σ' H'=>m = items.length - i /\ i <= items.length /\ lE X F Φ t b R' H2 r items i σ' H',⟨_,rfl,Nat.zero_le _,R',τ',_,hJ,Kp.refl R' H2,by rw [List.drop_zero];exact ef⟩,?_⟩
 rintro i m σ1 H1 ⟨rfl,hil,hf⟩
 obtain ⟨R1,τ1,ρ2,wk,k1,e1⟩:=id hf
 have Iy:=k1.SG rs
 have RQ:si X.K H2 vs xs H1:=⟨⟨R',rs,k1.l⟩,fun a ys h=>k1.Qs h⟩
 by_cases i4:i < items.length
 ·refine .inr ⟨yz.go i H1 R1 RQ Iy i4,fun σ' H'=>lE X F Φ t b R' H2 r items (i + 1) σ' H',fun σ' H' h=>⟨items.length - (i + 1),by omega,rfl,i4,h⟩,fun v H3 hy=>?_⟩
  obtain ⟨e3,dd,hd,rd⟩:=yz.wc i H1 R1 v H3 RQ Iy i4 hy
  have vp:items.drop i = dd :: items.drop (i + 1):=by
   rw [List.drop_eq_getElem_cons i4]
   rw [List.getElem?_eq_getElem i4] at hd
   cases hd;rfl
  rw [vp,fh] at e1
  obtain ⟨ρ3,eb,e1⟩:=ag e1
  obtain ⟨⟨fo,ρ4⟩,e4,e1⟩:=ag e1
  have k3:Kp R' H2 R1 H3:=k1.trans (Kp.of e3 fun _ h=>h)
  refine CJ v σ1 H3 _ R1 τ1 ρ2 ρ3 dd (wk.go e3) (ny rd) eb fun σ' A9 Lr=>⟨R1,A9,ρ3,(fo,ρ4),Lr,e4,?_⟩
  cases fo with
  | nx=>exact fun σ3 H4 R3 τ3 xP k4=>⟨R3,τ3,ρ4,xP,k3.trans k4,e1⟩
  | ct=>exact fun σ3 H4 R3 τ3 xP k4=>⟨R3,τ3,ρ4,xP,k3.trans k4,e1⟩
  | bk=>cases e1;exact fun σ3 H4 R3 τ3 xP k4=>yG σ3 H4 R3 τ3 xP (k3.trans k4)
  | rt d=>cases e1;exact yG
 ·exact .inl ⟨yz.stop i H1 R1 RQ Iy (by omega),nH (n:=i) (by omega) yG σ1 H1 hf⟩
theorem af.ints {T:jZ} {N:i3}:∀ (is:List Int) {k:aI} {n:Nat},af T N k n (is.map V.int) (is.map DI.D.int)
 | [],_,_=>.nil
 | i :: is,_,_=>.cons (.int i) (af.ints is)
theorem Ic (L:qV X S k Φ) {t:Tg} {it:CI} {b:List CS} {tg iter:Expr} {x:List Stmt} {pos:Pos} (ht:AN S t tg = true) (hi:O_ S it iter = true) (hnp:(ie tg || B7 it) = true) (hb:nY X x (qj X F Φ b)):PS X (.For tg iter x [] pos) (wd X F Φ (.fr t it b)):=by
 obtain ⟨g,hg,CJ⟩:=Bn (F:=F) L ht
 have o5:∀ y,foldedSetIterable iter X.env y = pure y:=by
  intro y
  cases iter <;> first | rfl | (cases it <;> first | exact (Bool.false_ne_true hi).elim | exact (Bool.false_ne_true (au hi).2).elim)
 have mU:∀ {lo:Int} {n:Nat} {D:Ends} {R:Addr -> Prop} {τ:Addr -> Option aI} {ρ:aA} {σ:St} {H H1:Hp} {r:Fo × aA},SI X F R τ ρ σ H -> ak H H1 -> mK X F D R H r ->
   fh (fun d ρ=>cA t d ρ) (fun ρ=>bM Φ b ρ) ((List.range n).map fun (k:Nat)=>DI.D.int (lo + (k:Int))) ρ = ok r ->
   ∃ W:Nat -> Nat -> L2.St -> Hp -> Prop,(∃ m,W 0 m σ H1) /\ ∀ i m σ H,W i m σ H ->
    ((AZ lo n).stop i H /\ D.nx σ H) \/ ((AZ lo n).go i H /\ ∃ N:L2.St -> Hp -> Prop,(∀ σ' H',N σ' H' -> ∃ m',m' < m /\ W (i + 1) m' σ' H') /\ ∀ x H',(AZ lo n).wc i H x H' -> g x σ H' fun σ2 H2=>qj X F Φ b { D with nx:=N,ct:=N,bk:=D.nx } σ2 H2):=by
  intro lo n D R τ ρ σ H H1 r Si e1 hq ef
  have rs:af (aG X.K H1) (nd X.K R (fun _=>False) (fun _=>none) H1) [] 0 ((List.range n).map fun (k:Nat)=>V.int (lo + (k:Int))) ((List.range n).map fun (k:Nat)=>DI.D.int (lo + (k:Int))):=by
   have:=af.ints (T:=aG X.K H1) (N:=nd X.K R (fun _=>False) (fun _=>none) H1) ((List.range n).map fun (k:Nat)=>lo + (k:Int)) (k:=[]) (n:=0)
   rw [List.map_map,List.map_map] at this;exact this
  have yG:=hq.from (Kp.of e1 (R':=R) fun _ h=>h)
  refine AE (lE X F Φ t b R H1 r _) ⟨R,τ,ρ,Si.go e1,Kp.refl R H1,by rw [List.drop_zero];exact ef⟩ (fun i σ' H' hin h=>?_) (fun σ' H' h=>nH (by simp) yG σ' H' h)
  exact pw CJ rs yG i (.int (lo + i)) σ' H' (by rw [List.getElem?_map,List.getElem?_range hin];rfl) h
 intro pins s σ H D I Wl
 cases it with
 | IL p cs =>
  obtain ⟨JV,hz⟩:=au hi
  obtain ⟨args,ha,QQ⟩:=aS hz
  exact Eh L ht ha QQ JV (by rw [Bool.or_comm];exact hnp) hb pins s σ H D I Wl
 | mU a =>
  obtain ⟨R,τ,ρ,r,Si,ev,hq⟩:=Wl
  obtain ⟨⟨items,ρ1⟩,ei,ef⟩:=ag ev
  obtain ⟨⟨y,as⟩,hv,hz⟩:=aS hi
  obtain ⟨p,JO,rfl⟩:=cQ hv
  obtain ⟨hz1,QQ⟩:=au hz
  obtain ⟨hz3,h2⟩:=au hz1
  obtain ⟨hz4,h1⟩:=au hz3
  obtain rfl:y = _:=of_decide_eq_true hz4
  obtain ⟨e,hu,h3⟩:=aS QQ
  obtain rfl:as = [e]:=cm hu
  have pa:PA X [e] (uF X F Φ [a]):=PA.imp (d7 (i7 (F:=F) L.toLk a e h3).1 ib (cv h3 _ _)) fun _ _ _ h=>by
   have:=gI h
   obtain ⟨R,τ,ρ,d,Si,ev,hq⟩:=this
   exact ⟨R,τ,ρ,d,Si,ev,fun v H' e r=>kN (hq v H' e r)⟩
  refine sM L.px L.calm (rE (L.gl h1) (L.bl _ (of_decide_eq_true h2)) pa (cv h3 _ _)) hg hb o5 pins s σ H D I ?_
  obtain ⟨d,ed,ei⟩:=ag ei
  cases d <;> try (simp at ei;done)
  rename_i n
  simp at ei
  obtain ⟨⟨c1,c2⟩,rfl,rfl⟩:=ei
  have o6:(eu:Int) = 1000000:=rfl
  refine ⟨R,τ,ρ,[.int n],Si,by show bd (aO Φ a ρ) _ = _;rw [ed];rfl,fun vs H1 e1 rv=>?_⟩
  obtain ⟨τt,fr,rs⟩:=rv
  cases rs.ints1
  ·refine ⟨n,rfl,by omega,by omega,?_⟩
   refine mU (lo:=0) Si e1 hq ?_
   simpa using ef
 | seq a =>
  obtain ⟨R,τ,ρ,r,Si,ev,hq⟩:=Wl
  obtain ⟨⟨items,ρ1⟩,ei,ef⟩:=ag ev
  replace hi:=au hi
  obtain ⟨d,ed,ei⟩:=ag ei
  have pe:=(i7 (F:=F) L.toLk a iter hi.1).1
  cases d <;> try (simp at ei;done)
  ·rename_i ds
   simp at ei
   obtain ⟨rfl,rfl⟩:=ei
   refine sM L.px L.calm (BS pe) hg hb o5 pins s σ H D I (tD.intro Si ed fun v H1 e1 rv=>?_)
   obtain ⟨R',τ',hR,hJ,rp⟩:=yX Si e1 rv
   rw [aC] at rp
   cases rp with
   | @tup _ p xs _ hp rs =>
    have yG:=hq.from (Kp.of e1 hR)
    refine ⟨p,rfl,⟨xs,hp⟩,FG (xs:=xs) (lE X F Φ t b R' H1 r (ah aN ds)) ⟨R',τ',_,hJ,Kp.refl R' H1,by rw [List.drop_zero];exact ef⟩ (fun i σ' H' _ h=>?_) (fun i x σ' H' hx h=>pw CJ rs yG i x σ' H' hx h) (fun σ' H' h=>nH (rs.length) yG σ' H' h)⟩
    obtain ⟨R2,τ2,ρ2,_,kp,_⟩:=h
    exact kp.Qs hp
  ·rename_i f ds
   simp at ei
   obtain ⟨rfl,rfl⟩:=ei
   refine sM L.px L.calm (yn pe) hg hb o5 pins s σ H D I (tD.intro Si ed fun v H1 e1 rv=>?_)
   obtain ⟨R',τ',hR,hJ,rp⟩:=yX Si e1 rv
   rw [aC] at rp
   cases rp with
   | @lst _ p xs _ _ hp rs =>
    have yG:=hq.from (Kp.of e1 hR)
    refine ⟨p,rfl,⟨xs,hp.sq⟩,C3 (xs:=xs) (lE X F Φ t b R' H1 r (ah aN ds)) ⟨R',τ',_,hJ,Kp.refl R' H1,by rw [List.drop_zero];exact ef⟩ (fun i σ' H' _ h=>?_) (fun i x σ' H' hx h=>pw CJ rs yG i x σ' H' hx h) (fun σ' H' h=>nH (rs.length) yG σ' H' h)⟩
    obtain ⟨R2,τ2,ρ2,_,kp,_⟩:=h
    exact (kp.nd hp).sq
theorem sZ {R R':Addr -> Prop} {τ':Addr -> Option aI} {ρ':aA} {σ:St} {H H1:Hp} {p:Addr} {q:aI} {n:Nd} {o:HO} (Si:SI X F R' τ' ρ' σ H1) (es:ak H H1) (hR:∀ p,R p -> R' p) (hp:fM H1 p n) (ht:τ' p = some q):Kp R H R' (upd H1 p o):=by
 obtain ⟨o0,LU,N_,LS⟩:=fM.some hp
 exact ⟨hR,fun a u ha e=>by
  have ne:a ≠ p:=fun z=>by subst z;rw [Si.rt _ (hR _ ha)] at ht;cases ht
  rw [aD ne];exact es _ _ e,fun a zs e=>by
  have e1:=es _ _ e
  have ne:a ≠ p:=fun z=>by subst z;rw [LU] at e1;cases e1;exact N_ _ rfl
  rw [aD ne];exact e1,fun a o u e=>by
  have e1:=es _ _ e
  have ne:a ≠ p:=fun z=>by subst z;rw [LU] at e1;cases e1;exact LS _ _ rfl
  rw [aD ne];exact e1⟩
theorem ju.go {R:Addr -> Prop} {τ:Addr -> Option aI} {H H':Hp} {v:V} {d:DI.D} (h:ju X R τ H v d) (e:ak H H'):ju X R τ H' v d :=
 let ⟨τt,h1,h2⟩:=h;⟨τt,fun p q z=>let ⟨a,b,c,d⟩:=h1 p q z;⟨a,b,c,ak.ne e d⟩,h2.imp (fun _ _ h=>aG.same e h) fun _ _ _ _ h=>nd.same e h⟩
theorem U_ (L:qV X S k Φ) {i:Nat} {o:Expr} (h:ni S i o = true) (hv:∀ x p,o = .Name x p -> oM x = true):∃ x p,o = .Name x p /\ X.N[i]? = some x /\ L2.Loc X.env.scope x /\ PE X o (Bp i):=by
 cases o <;> try (exact (Bool.false_ne_true h).elim;done)
 rename_i x p
 have hn:=hv x p rfl
 replace h:=au h
 unfold oM at hn
 simp only [Bool.and_eq_true,Bool.not_eq_true'] at hn
 have hN:X.N[i]? = some x:=by rw [L.N];exact of_decide_eq_true h.1
 have hl:=L.loc h.2
 exact ⟨x,p,rfl,hN,hl,wQ hN (hl.imp id .inl) hn.1.1 hn.1.2⟩
theorem za {e:CE} {ρ:aA} {r:DI.D × aA} {i:Nat} {ds:List DI.D} (h:jX Φ e ρ = ok r) (ho:r.2[i]? = some (some (.lst .ow ds))):ρ[i]? = some (some (.lst .ow ds)):=by
 by_cases hv:∃ j,e = .v j
 ·obtain ⟨j,rfl⟩:=hv
  simp only [jX] at h
  split at h
  ·split at h
   ·cases h
    by_cases j6:i = j
    ·subst j6
     rw [List.getElem?_set] at ho
     simp at ho
    ·rw [List.getElem?_set_ne (Ne.symm j6)] at ho;exact ho
   ·cases h;exact ho
  ·cases h
 ·have h':bd (aO Φ e ρ) (fun d=>ok (keep e d ρ)) = ok r:=by
   cases e <;> first | exact h | exact absurd ⟨_,rfl⟩ hv
  obtain ⟨d,_,er⟩:=ag h'
  cases er
  unfold keep at ho
  split at ho
  ·obtain ⟨d',h1,h2⟩:=yV _ _ _ _ ho
   split at h2
   ·cases d' <;> simp [aC] at h2
    rename_i f ds'
    cases f <;> simp [aN] at h2
   ·rw [h2];exact h1
  ·exact ho
theorem Ie (L:qV X S k Φ) {i:Nat} {e:CE} {x:Str} {v:Expr} {p p1 p2 pos:Pos} (hn:ni S i (.Name x p) = true) (hx:oM x = true) (he:bW S e v = true) (LX:(p1.endLine == p2.line) = true):PS X (.Expr (.Call (.Attribute (.Name x p) ("append" : Str) p1) [v] [] p2) pos) (wd X F Φ (.app i e)):=by
 obtain ⟨_,_,z,hN,hl,pe⟩:=U_ L hn (fun y q e=>by cases e;exact hx)
 cases z
 refine PS.imp (sN (G7 PySem.F.plainAttrs_list PySem.F.slot_list_append PySem.F.type_list_append Ac pe (d7 (sx (F:=F) L.toLk e v he) ib (cv he _ _)) (hfew:=by rw [cv he];rfl) (hline:=LX) (hs:=cv he _ _))) fun D σ H hq=>?_
 obtain ⟨R,τ,ρ,r,Si,ev,hq⟩:=hq
 obtain ⟨r1,xo,ev⟩:=ag ev
 split at ev
 ·rename_i ds ho
  split at ev
  ·rename_i hc
   cases ev
   have ho:=yt ho
   obtain ⟨a,xs,hv,ha,hxl,hta,_⟩:=Si.own (za xo ho)
   refine ⟨.ref a,hv,.inl ⟨rfl,_,dY.of ha⟩,R,τ,ρ,r1,Si,xo,fun w H1 R1 τ1 es hR wk rk=>?_⟩
   obtain ⟨a1,Ro,JT,Hl,Wc,Cz,Iy⟩:=wk.own ho
   rw [hv] at JT
   cases JT
   have hz:sizeLine = 16777216:=sizeLine_eq
   have o6:eu = 1000000:=rfl
   refine ⟨a,Ro,w,rfl,rfl,Hl,by omega,?_⟩
   obtain ⟨τ2,wb⟩:=wk.put (m:=ds.length) (g:=fun ys=>ys ++ [w]) ho hv Hl Cz Iy rk fun rs r=>af.GS rs (by simpa using r)
   exact hq σ _ R1 τ2 wb (sZ (n:=.l _) wk es hR Hl Cz)
  ·cases ev
 ·cases ev
theorem Eg (L:qV X S k Φ) {i:Nat} {c e:CE} {x:Str} {ke v:Expr} {p p1 pos:Pos} (hn:ni S i (.Name x p) = true) (hx:oM x = true) (hk:bW S c ke = true) (he:bW S e v = true) (Ww:ig v = false):PS X (.Assign [.Subscript (.Name x p) ke p1] v pos) (wd X F Φ (.setI i c e)):=by
 obtain ⟨_,_,z,hN,hl,pe⟩:=U_ L hn (fun y q e=>by cases e;exact hx)
 cases z
 have hw:swappedStores [.Subscript (.Name x p) ke p1] v X.env = pure none:=by cases v <;> rfl
 have ha:∀ u,assign (.Subscript (.Name x p) ke p1) X.env u = (do
   let ov <- holding [u] (eval (.Name x p) X.env)
   let iv <- holding [u,ov] (eval ke X.env)
   standAt p1
   holding [u,ov,iv] (setItem ov iv u)
   release [u,ov,iv] []):=by
  intro u
  cases ke <;> first | rfl | (cases c <;> exact (Bool.false_ne_true hk).elim)
 refine PS.imp (BQ (sx (F:=F) L.toLk e v he) (IJ pe (i7 (F:=F) L.toLk c ke hk).1 set_list ha) (by first | rfl | (cases v <;> rfl) | (unfold swapsWithSole;exact pS he Ww _ _ _)) hw rfl) fun D σ H hq=>?_
 obtain ⟨R,τ,ρ,r,Si,ev,hq⟩:=hq
 obtain ⟨r1,xo,ev⟩:=ag ev
 obtain ⟨n,en,ev⟩:=ag ev
 obtain ⟨d,ed,en⟩:=ag en
 have en:=Fq en
 subst en
 split at ev
 ·rename_i ds ho
  split at ev
  ·rename_i j hj
   cases ev
   have ho:=yt ho
   obtain ⟨a,xs,hv,ha,hxl,hta,_⟩:=Si.own (za xo ho)
   refine ⟨R,τ,ρ,r1,Si,xo,fun w H1 R1 τ1 es hR wk rk=>?_⟩
   refine ⟨.ref a,hv,tD.intro wk ed fun u H2 e2 ru=>?_⟩
   cases ru.isInt
   have wb:=wk.go e2
   obtain ⟨a2,HJ,QR,WM,Wb,N4,Ex⟩:=wb.own ho
   rw [hv] at QR
   cases QR
   refine ⟨a,HJ,n,j,rfl,rfl,WM,by rw [Wb];exact hj,?_⟩
   obtain ⟨τ3,xP⟩:=wb.put (m:=j) (g:=fun ys=>ys.set j w) ho hv WM N4 Ex (rk.go e2) fun rs r=>af.setAt (j:=j) rs (by simpa using r)
   exact hq σ _ R1 τ3 xP (sZ (n:=.l _) wb (es.trans e2) hR WM N4)
  ·cases ev
 ·cases ev
end
end DI
end
section
namespace DI
open PySem PySem.Spec PyProof.Rows L2
section
variable {X:Cx} {S:Sx} {k:Nat} {F:Addr -> Prop} {Φ:az}
theorem IH (x:Str) (p:Pos):(Expr.Name x p).pos = p:=rfl
theorem wB {env:Env} {x y:Str} {px py pt LB:Pos} {kt k2:Nat} {a b:Expr} (hk:env.scope.kind = .function) (hx:env.scope.names.lookup x = some .local) (hy:env.scope.names.lookup y = some .local) (hxy:x ≠ y) (hl:px.line = py.line)
  (h1:[a,b].all (foldedForSure 8) = false) (h2:[a,b].all (constantsAlone 8) = false) (h3:([a,b].any fun e=>match e with | .Starred ..=>true | _=>false) = false) :
  swappedStores [.Tuple [.Name x px,.Name y py] kt pt] (.Tuple [a,b] k2 LB) env = pure (some [x,y]):=by
 have hb:env.blockKind = .function:=by unfold Env.blockKind;rw [hk];rfl
 have kx:env.kindOf x = some .local:=hx
 have ky:env.kindOf y = some .local:=hy
 have e1:([x,y].eraseDups.length != [x,y].length) = false:=by
  have:¬ (y == x) = true:=by simp;exact fun z=>hxy z.symm
  have h':(y == x) = false:=by simpa using this
  simp [List.eraseDups_cons,List.filter,h',hxy]
 unfold swappedStores
 simp only [hb,h3,List.filterMap_cons,List.filterMap_nil,kx,ky,hl,IH,List.head?_cons,Option.map_some,Option.getD_some,h1,h2]
 simp only [beq_self_eq_true,Bool.and_self,if_true]
 rw [if_neg (by simp)]
 refine (if_neg ?_).trans ?_
 ·intro z;exact Bool.false_ne_true (h3.symm.trans z)
 rw [if_neg (by
  rw [e1]
  simp),if_neg Bool.false_ne_true,if_neg Bool.false_ne_true]
theorem oE {R R':Addr -> Prop} {A:Addr -> Prop} {τ τ':Addr -> Option aI} {H:Hp} {kp:aI} {v:V} {d:DI.D} (h:Rep (aG X.K H) (nd X.K R A τ H) kp v d) (hf:aH anyF d = false):ju X R' τ' H v d :=
 ⟨fun _=>none,fun _ _ h=>by simp at h,Rep.without (P:=anyF) (fun _ _ h=>h) (fun k k' p xs f hf h=>by cases hf) h hf _⟩
theorem Ib (L:qV X S k Φ) {i j:Nat} {a b:CE} {tg v:Expr} {pos:Pos} (he:bW S (.tup [a,b]) v = true) (hp:Dl S i j tg v = true):PS X (.Assign [tg] v pos) (wd X F Φ (.par i j a b)):=by
 obtain ⟨ts,JT,q1⟩:=aS hp
 obtain ⟨kt,pt,rfl⟩:=kI JT
 obtain ⟨⟨t1,t2⟩,QR,q2⟩:=aS q1
 obtain rfl:ts = [t1,t2]:=j9 QR
 obtain ⟨⟨x,px⟩,hv3,q3⟩:=aS q2
 obtain rfl:t1 = _:=xV hv3
 obtain ⟨⟨y,py⟩,hv4,q4⟩:=aS q3
 obtain rfl:t2 = _:=xV hv4
 obtain ⟨vs,hv5,q5⟩:=aS q4
 obtain ⟨k2,LB,rfl⟩:=kI hv5
 obtain ⟨⟨ea,eb⟩,hv6,q6⟩:=aS q5
 obtain rfl:vs = [ea,eb]:=j9 hv6
 ·obtain ⟨q7,Kf⟩:=au q6
  obtain ⟨q8,h9⟩:=au q7
  obtain ⟨q9,h8⟩:=au q8
  obtain ⟨SU,h7⟩:=au q9
  obtain ⟨q11,h6⟩:=au SU
  obtain ⟨q12,h5⟩:=au q11
  obtain ⟨q13,h4⟩:=au q12
  obtain ⟨q14,h3⟩:=au q13
  obtain ⟨h1,h2⟩:=au q14
  replace h1:S.N[i]? = some x:=of_decide_eq_true h1
  replace h2:S.N[j]? = some y:=of_decide_eq_true h2
  replace h3:=of_decide_eq_true h3
  replace h4:=of_decide_eq_true h4
  replace h5:=of_decide_eq_true h5
  replace h6:=of_decide_eq_true h6
  replace h7:=of_decide_eq_true h7
  replace h8:=oJ h8
  replace h9:=oJ h9
  replace Kf:=of_decide_eq_true Kf
  replace he:=au he
  have pa:=x9 (F:=F) L.toLk [a,b] [ea,eb] he.1
  refine PS.imp (IG L.calm L.nd (by rw [L.N];exact h1) (by rw [L.N];exact h2) h3 (by rw [L.sc];exact h4) (by rw [L.sc];exact h5) pa (wB (by rw [L.sc];exact L.fk) (by rw [L.sc];exact h4) (by rw [L.sc];exact h5) h6 h7 h8 h9 Kf)) fun D σ H hq=>?_
  obtain ⟨R,τ,ρ,r,Si,ev,hq⟩:=hq
  obtain ⟨d1,ed1,ev⟩:=ag ev
  obtain ⟨d2,ed2,ev⟩:=ag ev
  simp only [Hg] at ev
  obtain ⟨⟨f1,f2,l1,l2⟩,rfl⟩:=ev
  refine ⟨R,τ,ρ,[d1,d2],Si,by show bd (aO Φ a ρ) _ = _;rw [ed1];show bd (bd (aO Φ b ρ) _) _ = _;rw [ed2];rfl,fun vs H1 e1 rv=>?_⟩
  obtain ⟨τt,fr,rs⟩:=rv
  obtain ⟨v1,v2,rfl,r1,r2⟩:=rs.two
  ·obtain ⟨τ1,S1⟩:=(Si.go e1).set (i:=i) (oE r1 f1) l1
   obtain ⟨τ2,S2⟩:=S1.set (i:=j) (oE r2 f2) (by simpa using l2)
   exact ⟨v1,v2,rfl,hq _ H1 R τ2 S2 (Kp.of e1 fun _ h=>h)⟩
mutual
theorem Ig (L:qV X S k Φ):∀ (c:CS) (st:Stmt),O8 S c st = true -> PS X st (wd X F Φ c)
 | .asg t e,st,h=>by
  obtain ⟨⟨GG,v⟩,v1,q1⟩:=aS h
  obtain ⟨pos,rfl⟩:=nk v1
  obtain ⟨tg,v2,q2⟩:=aS q1
  obtain rfl:GG = [tg]:=cm v2
  obtain ⟨q3,h4⟩:=au q2
  obtain ⟨q4,h3⟩:=au q3
  obtain ⟨h1,h2⟩:=au q4
  have h1:bW S e v = true:=h1
  replace h3:(isTup v && isTup tg) = false:=oJ h3
  cases hc:ig v with
  | false=>exact Bu L h1 h2 h3 (pS h1 hc _ _ _)
  | true =>
   have h4:(!ig v || isNm tg) = true:=h4
   rw [hc] at h4
   obtain ⟨x,p,rfl⟩:=Fp h4
   obtain ⟨iZ,gens,sc,Mo,rfl⟩:=Ak hc
   cases e <;> try (exact (Bool.false_ne_true h1).elim)
   cases t with
   | tp is=>exact (Bool.false_ne_true h2).elim
   | nm i =>
    cases hb:RP S (.Name x p) (.ListComp iZ gens sc Mo) with
    | true=>exact Ei L h1 h2 (by rw [GQ L,hb])
    | false=>exact Bu L h1 h2 h3 (by
      show swapsWith (.ListComp iZ gens sc Mo) (some (.Name x p)) pos.line X.env = _
      rw [GQ L,hb])
 | .par i j a b,st,h=>by
  obtain ⟨⟨GG,v⟩,v1,q1⟩:=aS h
  obtain ⟨pos,rfl⟩:=nk v1
  obtain ⟨tg,v2,q2⟩:=aS q1
  obtain rfl:GG = [tg]:=cm v2
  exact Ib L (au q2).1 (au q2).2
 | .ret e,st,h=>by
  obtain ⟨z,v1,q1⟩:=aS h
  obtain ⟨pos,rfl⟩:=DZ v1
  obtain ⟨v,v2,q2⟩:=aS q1
  obtain rfl:z = some v:=v2
  exact Ia L q2
 | .rs c,st,h=>fun _ _ _ _ _ _ ⟨R,τ,ρ,r,Si,ev,hq⟩=>by cases ev
 | .ex e,st,h=>by
  obtain ⟨v,v1,q1⟩:=aS h
  obtain ⟨pos,rfl⟩:=wq v1
  exact MU L (au q1).1 (oJ (au q1).2)
 | .mut p i es,st,h=>by
  obtain ⟨⟨o,args⟩,ha,q1⟩:=aS h
  obtain ⟨q2,h3⟩:=au q1
  obtain ⟨h1,h2⟩:=au q2
  obtain ⟨x,pp,rfl,hN,hl,pe⟩:=U_ L h1 (fun y q e=>by cases e;exact h2)
  exact L.pm.m X _ _ k L.toLk.pX L.nd L.FH p st x pp args ha i hN hl pe F es (oh L.toLk es args h3)
 | .app i e,st,h=>by
  obtain ⟨c,v1,q1⟩:=aS h
  obtain ⟨pos,rfl⟩:=wq v1
  obtain ⟨⟨fn,as,ks,p2⟩,v2,q2⟩:=aS q1
  obtain rfl:c = _:=qZ v2
  obtain ⟨q3,q4⟩:=au q2
  obtain rfl:ks = []:=oX q3
  obtain ⟨⟨o,a,p1⟩,v3,q5⟩:=aS q4
  obtain rfl:fn = _:=uz v3
  obtain ⟨q6,q7⟩:=au q5
  obtain ⟨v,v4,h4⟩:=aS q7
  obtain rfl:as = [v]:=cm v4
  obtain ⟨q8,h5⟩:=au q6
  obtain ⟨q9,h2⟩:=au q8
  obtain ⟨SU,h1⟩:=au q9
  obtain rfl:a = _:=of_decide_eq_true SU
  obtain ⟨x,p,rfl⟩:∃ x p,o = .Name x p:=zm h1
  exact Ie L h1 h2 h4 h5
 | .setI i k e,st,h=>by
  obtain ⟨⟨GG,v⟩,v1,q1⟩:=aS h
  obtain ⟨pos,rfl⟩:=nk v1
  obtain ⟨tg,v2,q2⟩:=aS q1
  obtain rfl:GG = [tg]:=cm v2
  obtain ⟨⟨o,ke⟩,v3,q3⟩:=aS q2
  obtain ⟨p1,rfl⟩:=kJ v3
  obtain ⟨q4,h5⟩:=au q3
  obtain ⟨q5,h4⟩:=au q4
  obtain ⟨q6,h3⟩:=au q5
  obtain ⟨h1,h2⟩:=au q6
  obtain ⟨x,p,rfl⟩:∃ x p,o = .Name x p:=zm h1
  exact Eg L h1 h2 h3 h4 (oJ h5)
 | .ifs c a b,st,h=>by
  obtain ⟨⟨t,x,y⟩,v1,q1⟩:=aS h
  obtain ⟨pos,rfl⟩:=D2 v1
  obtain ⟨q2,h3⟩:=au q1
  obtain ⟨h1,h2⟩:=au q2
  exact MT L h1 (jI L a _ h2) (jI L b _ h3)
 | .HK c b,st,h=>by
  obtain ⟨⟨t,x,y⟩,v1,q1⟩:=aS h
  obtain ⟨pos,rfl⟩:=DY v1
  obtain ⟨q2,h3⟩:=au q1
  obtain ⟨h1,h2⟩:=au q2
  obtain rfl:y = []:=oX h1
  exact Bt L h2 (jI L b _ h3)
 | .fr t it b,st,h=>by
  obtain ⟨⟨tg,iter,x,y⟩,v1,q1⟩:=aS h
  obtain ⟨pos,rfl⟩:=D3 v1
  obtain ⟨q2,h5⟩:=au q1
  obtain ⟨q3,h4⟩:=au q2
  obtain ⟨q4,h3⟩:=au q3
  obtain ⟨h1,h2⟩:=au q4
  obtain rfl:y = []:=oX h1
  exact Ic L h2 h3 h4 (jI L b _ h5)
theorem jI (L:qV X S k Φ):∀ (cs:List CS) (MR:List Stmt),aL S cs MR = true -> nY X MR (qj X F Φ cs)
 | [],[],_=>nY.imp ED fun D σ H ⟨R,τ,ρ,r,Si,ev,hq⟩=>by cases ev;exact hq σ H R τ Si (Kp.refl R H)
 | [],_ :: _,h=>by exact (Bool.false_ne_true h).elim
 | _ :: _,[],h=>by exact (Bool.false_ne_true h).elim
 | c :: cs,st :: MR,h=>by
  replace h:=au h
  have h1:PS X st (wd X F Φ c):=Ig L c st h.1
  have h2:nY X MR (qj X F Φ cs):=jI L cs MR h.2
  refine nY.imp (BN h1 h2) fun D σ H hq=>?_
  obtain ⟨R,τ,ρ,r,Si,ev,hq⟩:=hq
  obtain ⟨⟨fo,ρ1⟩,e1,ev⟩:=ag ev
  refine ⟨R,τ,ρ,(fo,ρ1),Si,e1,?_⟩
  cases fo with
  | nx=>exact fun σ' H' R' τ' hJ kp=>⟨R',τ',ρ1,r,hJ,ev,hq.from kp⟩
  | bk=>cases ev;exact hq
  | ct=>cases ev;exact hq
  | rt d=>cases ev;exact hq
end
end
theorem vD {P:Program} {w:World} {K:PySem.W.Frag} {mg:Str -> Option Value} {base:Heap} {x qual:Str} {st:Stmt} {f:Addr} {fd:FuncData} {ps:List Str} {k:Nat} {N bl:List Str} {cs:List (Str × GK)} {px:Px} {FH:Nat -> Option Str} {Φ:az} {m:List D -> O D} {body:List CS}
  (Fu:Lu K x qual st f fd) (Sc:aq N ps (aa st)) (J3:aL ⟨aa st,N,FH,bl,cs,px⟩ body (ae st) = true) (JV:Gw px Φ) (Wm:Rk px Φ)
  (WJ:∀ y ∈ bl,mg y = none) (Fy:∀ y i,(y,i) ∈ cs -> ∃ u,mg y = some u /\ Rm K i u)
  (A5:∀ g y,FH g = some y -> ∃ (f:Addr) (fd:FuncData) (ps:List Str),ku P w K mg base DD k f fd ps (GR K ps.length (Φ g)) /\ mg y = some (.ref f) /\ PySem.W.keepIn K (.ref f) = true /\ Binds K fd ps [] /\ ∀ ds r,Φ g ds = ok r -> ds.length = ps.length)
  (hm:∀ ds r,m ds = ok r -> ds.length = ps.length /\ wM Φ N.length body ds = ok r):ku P w K mg base DD (k + 1) f fd ps (GR K ps.length m):=by
 refine Fu.ok (N:=N) Sc (fun vs H Q E ⟨_,_,_,h,_⟩=>h) fun mI A outer s H vs Q E hr DG=>?_
 obtain ⟨F,ds,r,hl,rs,er,hq⟩:=DG
 obtain ⟨hdl,w_⟩:=hm ds r er
 let X:=(xA DD P w K mg base N qual (aa st) f mI A outer s H E).Nw
 have L:qV X ⟨aa st,N,FH,bl,cs,px⟩ k Φ:=⟨⟨rfl,rfl,Sc.nd,rfl,hr,WJ,fun g y h=>⟨A5 g y h⟩,Fy,JV⟩,fun _=>rfl,PassesOwn.never,Sc.kind,Wm⟩
 refine ⟨qj X F Φ body,jI L body _ J3,?_⟩
 unfold wM at w_
 obtain ⟨⟨fo,ρ'⟩,eb,w_⟩:=ag w_
 have hpl:ps.length <= N.length:=by have:=congrArg List.length Sc.pre;rw [List.length_take] at this;omega
 have LQ:vs.length = ds.length:=rs.length
 refine ⟨fun p=>F p /\ H p ≠ none,fun _=>none,_,(fo,ρ'),⟨?_,fun i d hi=>?_,fun _ _=>rfl,fun p h=>h.2,fun p h=>.inl h.1,fun _ _ h=>by simp at h,fun _ _ h=>by simp at h,ak.refl H⟩,eb,?_⟩
 ·unfold L2.start
  simp [LQ]
 ·have hid:i < ds.length:=by
   by_cases nF:i < ds.length
   ·exact nF
   ·rw [List.getElem?_append_right (by simpa using nF)] at hi
    rw [List.getElem?_replicate] at hi
    split at hi <;> simp at hi
  rw [List.getElem?_append_left (by simpa using hid),List.getElem?_map] at hi
  have hd:ds[i]? = some d:=by
   cases q:ds[i]? with
   | none=>rw [q] at hi;cases hi
   | some z=>rw [q] at hi;simp at hi;rw [hi]
  obtain ⟨v,hv,rv⟩:=rs.get hd
  refine ⟨v,?_,rv.imp (q:=[0 + i]) (q':=[i]) (fun _ _ h=>h) fun c p xs f h=>?_⟩
  ·unfold L2.start
   rw [List.getElem?_append_left (by rw [List.length_map,LQ];exact hid),List.getElem?_map,hv];rfl
  ·cases f with
   | ow=>exact nomatch h.2
   | fz=>exact ⟨h.1,h.2,h.1.ne⟩
   | al=>exact h.2.elim
   | sc=>exact h
 ·cases fo with
  | nx =>
   cases w_
   exact fun σ' H' R' τ' hJ kp=>hq .bC H' hJ.same ⟨fun _=>none,fun _ _ h=>by simp at h,.bC⟩
  | bk=>simp at w_
  | ct=>simp at w_
  | rt d =>
   cases w_
   exact fun v H' es rr=>hq v H' es rr
structure Ent (P:Program) (w:World) (K:PySem.W.Frag) (mg:Str -> Option Value) (base:Heap) (k:Nat) (y:Str) (m:List D -> O D):Prop where
 ex:∃ (f:Addr) (fd:FuncData) (ps:List Str),ku P w K mg base DD k f fd ps (GR K ps.length m) /\ mg y = some (.ref f) /\ PySem.W.keepIn K (.ref f) = true /\ Binds K fd ps [] /\ ∀ ds r,m ds = ok r -> ds.length = ps.length
theorem Ent.up {P:Program} {w:World} {K:PySem.W.Frag} {mg:Str -> Option Value} {base:Heap} {k k':Nat} {y:Str} {m:List D -> O D} (h:Ent P w K mg base k y m) (hk:k <= k'):Ent P w K mg base k' y m:=by
 obtain ⟨f,fd,ps,h1,h2⟩:=h.ex
 exact ⟨f,fd,ps,h1.mono hk,h2⟩
theorem ent {P:Program} {w:World} {K:PySem.W.Frag} {mg:Str -> Option Value} {base:Heap} {x qual:Str} {st:Stmt} {f:Addr} {fd:FuncData} {ps:List Str} {k:Nat} {N bl:List Str} {cs:List (Str × GK)} {px:Px} {FH:Nat -> Option Str} {Φ:az} {m:List D -> O D} {body:List CS}
  (Fu:Lu K x qual st f fd) (hmg:mg x = some (.ref f)) (hb:Binds K fd ps []) (Sc:aq N ps (aa st)) (J3:aL ⟨aa st,N,FH,bl,cs,px⟩ body (ae st) = true) (JV:Gw px Φ) (Wm:Rk px Φ) (WJ:∀ y ∈ bl,mg y = none) (Fy:∀ y i,(y,i) ∈ cs -> ∃ u,mg y = some u /\ Rm K i u)
  (A5:∀ g y,FH g = some y -> Ent P w K mg base k y (Φ g)) (hm:∀ ds r,m ds = ok r -> ds.length = ps.length /\ wM Φ N.length body ds = ok r):Ent P w K mg base (k + 1) x m :=
 ⟨f,fd,ps,vD Fu Sc J3 JV Wm WJ Fy (fun g y h=>(A5 g y h).ex) hm,hmg,Fu.kp,hb,fun ds r h=>(hm ds r h).1⟩
def ai {α:Type} (P:α -> Prop):List α -> Prop
 | []=>True
 | a :: l=>P a /\ ai P l
theorem ai.mem {α:Type} {P:α -> Prop}:∀ {l:List α},ai P l -> ∀ a ∈ l,P a
 | [],_,_,h=>by cases h
 | _ :: _,h,_,hm=>(List.mem_cons.mp hm).elim (fun e=>e ▸ h.1) (ai.mem h.2 _)
theorem ai.tab {β:Type} {P:Nat -> β -> Prop}:∀ {l:List (Nat × β)},ai (fun p=>P p.1 p.2) l -> ∀ g y,l.lookup g = some y -> P g y
 | [],_,_,_,h=>by cases h
 | (k,b) :: l,h,g,y,e=>by
  rw [List.lookup_cons] at e
  cases hg:g == k with
  | true=>rw [hg] at e;cases e;rw [eq_of_beq hg];exact h.1
  | false=>rw [hg] at e;exact ai.tab h.2 g y e
theorem ai.two {β γ:Type} {P:β -> γ -> Prop} {l:List (β × γ)} (h:ai (fun p=>P p.1 p.2) l) (y:β) (i:γ) (hm:(y,i) ∈ l):P y i:=ai.mem h _ hm
theorem je {α:Type} {l:List α} (h:l.length = 1):∃ a,l = [a]:=List.length_eq_one_iff.mp h
theorem gj {α:Type} {l:List α} (h:l.length = 2):∃ a b,l = [a,b]:=by
 cases l with
 | nil=>cases h
 | cons a l=>obtain ⟨b,rfl⟩:=je (Nat.succ.inj h);exact ⟨a,b,rfl⟩
theorem sY {α:Type} {l:List α} (h:l.length = 3):∃ a b c,l = [a,b,c]:=by
 cases l with
 | nil=>cases h
 | cons a l=>obtain ⟨b,c,rfl⟩:=gj (Nat.succ.inj h);exact ⟨a,b,c,rfl⟩
theorem Vf {α:Type} {l:List α} (h:l.length = 4):∃ a b c d,l = [a,b,c,d]:=by
 cases l with
 | nil=>cases h
 | cons a l=>obtain ⟨b,c,d,rfl⟩:=sY (Nat.succ.inj h);exact ⟨a,b,c,d,rfl⟩
def oZ:List D -> Option (List Int)
 | []=>some []
 | .int i :: ds=>(oZ ds).map (i :: ·)
 | _ :: _=>none
theorem oY:∀ ns:List Int,oZ (ns.map D.int) = some ns
 | []=>rfl
 | n :: ns=>by simp [oZ,oY ns]
theorem vb:∀ {ds:List D} {ns:List Int},oZ ds = some ns -> ds = ns.map D.int
 | [],ns,h=>by simp [oZ] at h;subst h;rfl
 | d :: ds,ns,h=>by
  cases d <;> simp [oZ] at h
  obtain ⟨ms,h1,rfl⟩:=h
  rw [vb h1];rfl
def vf:List D -> O D
 | [.lst .sc ds]=>match oZ ds with
  | some ns=>if ns.length <= 63 then ok (.bl true) else none
  | none=>none
 | _=>none
theorem Fc {ns:List Int} (h:ns.length <= 63):vf [.lst .sc (ns.map D.int)] = ok (.bl true):=by
 simp [vf,oY,h]
theorem Ck {Φ:az} {n:Nat} {b:List CS} (h:∀ ns:List Int,ns.length <= 63 -> wM Φ n b [.lst .sc (ns.map D.int)] = ok (.bl true)):∀ ds r,vf ds = ok r -> ds.length = 1 /\ wM Φ n b ds = ok r:=by
 intro ds r e
 match ds,e with
 | [.lst .sc ds],e =>
  simp only [vf] at e
  split at e
  ·rename_i ns A3
   split at e
   ·rename_i hl
    cases e
    obtain rfl:=vb A3
    exact ⟨rfl,h ns hl⟩
   ·cases e
  ·cases e
theorem Jy (K:PySem.W.Frag) (H:Hp) (a:Addr) (ns:List Int) (m:List D -> O D) (hm:m [.lst .sc (ns.map D.int)] = ok (.bl true)) (hO:Gy H) (hS:dY K H a (ns.map V.int)):GR K 1 m [.ref a] H (fun v _=>v = .bl true) fun _ _ _=>False:=by
 refine ⟨fun _=>True,_,.bl true,rfl,.cons (.lst ?_ (af.ints ns)) .nil,hm,fun v H' _ ⟨τt,_,rp⟩=>by cases rp;rfl⟩
 rcases hS with (h | h) | h
 ·rcases hO a with z | ⟨o,xs,z⟩
  ·rw [h] at z;cases z
  ·rw [h] at z;cases z
 ·exact .inl h
 ·exact .inr h
end DI
end
section
namespace DI
open PySem PySem.Spec PyProof.Rows L2
section
variable {X:Cx} {pins:List (Addr × Obj)} {σ:St} {H:Hp} {s:Shared} {h':Heap}
theorem D9 {t':Nat} {ch:List Addr} (I:Inv X pins σ H s) (hf:∀ b ∈ ch,qa X pins H b) (k:∀ b u,b ∉ ch -> s.heap.get? b = some u -> h'.get? b = some u):Inv X pins σ H { s with heap:=h',toks:=t' }:=by
 have G_:∀ b u,H b = some u -> b ∉ ch:=fun b u e z=>by rw [(hf b z).1] at e;cases e
 refine I.step (g':=s.gens) (d':=s.drawn) (ch:=ch) (fun b hb=>⟨(hf b hb).2.2.2.1,(hf b hb).2.1,(hf b hb).2.2.2.2.1,(hf b hb).2.2.2.2.2⟩) (fun b o _ _ hc e _=>k b o hc e) (fun b o _ _ hc e _=>⟨o.slots,k b o hc e⟩) (fun _ _ _ _ n=>n)
  (fun b o hc e=>⟨o,k b o hc e⟩) (fun _ _ e=>e) (fun _ _ _ e=>e) (fun b ps e=>⟨#[],by rw [e];simp⟩) (fun m hm=>?_) (fun b u e=>?_) I.bare
 ·obtain ⟨o,es,ep,ho,r⟩:=hm
  exact ⟨o,es,ep,k _ o (fun z=>(hf _ z).2.1 rfl) ho,r⟩
 ·refine (I.dq b u e).kP (fun c v hc q=>k c v ?_ q) (fun _ q=>q) fun _ _ q=>q
  rcases hc with z | z
  ·rw [z];exact G_ b u e
  ·exact G_ c _ z
theorem D_ {t':Nat} {ch:List Addr} {T:Addr} {o:HO} (I:Inv X pins σ H s) (hf:∀ b ∈ ch,qa X pins H b) (k:∀ b u,b ∉ ch -> s.heap.get? b = some u -> h'.get? b = some u) (hT:s.heap.objs.size <= T) (new:cN X.prog X.w (upd H T o) h' T o) :
  Inv X pins σ (upd H T o) { s with heap:=h',toks:=t' }:=by
 have G_:∀ b u,H b = some u -> b ∉ ch:=fun b u e z=>by rw [(hf b z).1] at e;cases e
 have hn:H T = none:=I.dq.fresh hT
 have ne:∀ b (u:Obj),s.heap.get? b = some u -> b ≠ T:=fun b u e z=>absurd (Heap.lt_size e) (by rw [z];exact Nat.not_lt.mpr hT)
 have up:∀ b u,H b = some u -> upd H T o b = some u:=fun b u e=>by rw [aD (cc e hn)];exact e
 refine I.step (g':=s.gens) (d':=s.drawn) (ch:=ch) (fun b hb=>⟨(hf b hb).2.2.2.1,(hf b hb).2.1,(hf b hb).2.2.2.2.1,(hf b hb).2.2.2.2.2⟩) (fun b o _ _ hc e _=>k b o hc e) (fun b o _ _ hc e _=>⟨o.slots,k b o hc e⟩) (fun b u _ e n=>by rw [aD (ne b u e)];exact n)
  (fun b o hc e=>⟨o,k b o hc e⟩) (fun _ _ e=>up _ _ e) (fun _ _ _ e=>up _ _ e) (fun b ps e=>⟨#[],by rw [up _ _ e];simp⟩) (fun m hm=>?_) (yH (fun b u e=>?_) hn new) I.bare
 ·obtain ⟨o,es,ep,ho,r⟩:=hm
  exact ⟨o,es,ep,k _ o (fun z=>(hf _ z).2.1 rfl) ho,r⟩
 ·refine (I.dq b u e).kP (fun c v hc q=>k c v ?_ q) (fun _ q=>q) fun _ _ q=>q
  rcases hc with z | z
  ·rw [z];exact G_ b u e
  ·exact G_ c _ z
end
def Z0 (K:PySem.W.Frag) (a b:Addr):It :=
  ⟨fun i H=>∃ xs ys x y,dY K H a xs /\ dY K H b ys /\ xs[i]? = some x /\ ys[i]? = some y,
   fun i H v H'=>∃ T x y,(∀ xs,dY K H a xs -> xs[i]? = some x) /\ (∀ ys,dY K H b ys -> ys[i]? = some y) /\ H T = none /\ v = .ref T /\ H' = upd H T (.tup [x,y]),
   fun i H=>∃ xs ys,dY K H a xs /\ dY K H b ys /\ (xs.length <= i \/ ys.length <= i)⟩
theorem xZ {P:Program} {w:World} {H:Hp} {h:Heap} {T:Addr} {x y:V} {u v:Value} (rx:RelV x u) (ry:RelV y v) (e:h.get? T = some { cls:=.type "tuple",data:=.seq #[u,v] }):cN P w H h T (.tup [x,y]) :=
 ⟨by rw [sizeLine_eq];simp,[u,v],.cons rx (.cons ry .nil),⟨_,e,rfl,_,rfl⟩⟩
theorem dc {h:Heap} {a b:Addr} {o u:Obj} (ha:h.get? a = some o) (hb:h.get? b = some u) (hc:o.cls ≠ u.cls):a ≠ b:=fun z=>by
 subst z;rw [ha] at hb;cases hb;exact hc rfl
theorem Bj {P:Program} {w:World} {K:PySem.W.Frag} {elts:List Expr} {n1:Nat} {tp:Pos} {a b z TI TO i1 i2:Addr} (hTT:TI ≠ TO) (L4:i1 ≠ i2) :
  Turn P w K (.Tuple elts n1 tp) (Z0 K a b) [z,TI,TO,i1,i2] z (fun i h=>IsZip h z TI TO .none /\ IsPair h TI (.ref i1) (.ref i2) /\ (∃ x y,IsPair h TO x y) /\ h.IsListIter i1 a i /\ h.IsListIter i2 b i):=by
 have apart:∀ {h:Heap} {x y:Value} {xs ys:Array Value} {i:Nat},IsZip h z TI TO .none -> IsPair h TI (.ref i1) (.ref i2) -> IsPair h TO x y -> h.IsListIter i1 a i -> h.IsListIter i2 b i -> h.IsList a xs -> h.IsList b ys -> ZipApart z TI TO i1 i2 a b:=by
  intro h x y xs ys i hz hI hO l1 l2 ha hb
  obtain ⟨o1,e1,c1,_⟩:=l1
  obtain ⟨o2,e2,c2,_⟩:=l2
  obtain ⟨oa,ea,ca,_⟩:=ha
  obtain ⟨ob,eb,cb,_⟩:=hb
  exact ⟨dc hI hz (by simp),dc hO hz (by simp),dc e1 hz (by rw [c1];simp),dc e2 hz (by rw [c2];simp),hTT,dc hI e1 (by rw [c1];simp),dc hI e2 (by rw [c2];simp),dc hO e1 (by rw [c1];simp),dc hO e2 (by rw [c2];simp),L4,
   dc ea hz (by rw [ca];simp),dc ea hO (by rw [ca];simp),dc ea e1 (by rw [ca,c1];simp),dc ea e2 (by rw [ca,c2];simp),dc eb hz (by rw [cb];simp),dc eb hO (by rw [cb];simp),dc eb e1 (by rw [cb,c1];simp),dc eb e2 (by rw [cb,c2];simp)⟩
 refine ⟨by simp,fun i h st c hc=>?_,fun i h h' st k=>?_,?_,?_,fun A i s Q E st hQ=>wpAny_pyIter_zip st.1 hQ⟩
 ·obtain ⟨hz,hI,⟨x,y,hO⟩,⟨o1,e1,_,d1⟩,⟨o2,e2,_,d2⟩⟩:=st
  simp only [List.mem_cons,List.not_mem_nil,or_false] at hc
  rcases hc with rfl | rfl | rfl | rfl | rfl
  ·exact ⟨_,hz,fun v q=>by cases q⟩
  ·exact ⟨_,hI,fun v q=>by cases q⟩
  ·exact ⟨_,hO,fun v q=>by cases q⟩
  ·exact ⟨o1,e1,fun v q=>by rw [d1] at q;cases q⟩
  ·exact ⟨o2,e2,fun v q=>by rw [d2] at q;cases q⟩
 ·obtain ⟨hz,hI,⟨x,y,hO⟩,l1,l2⟩:=st
  exact ⟨k z (by simp) _ hz,k TI (by simp) _ hI,⟨x,y,k TO (by simp) _ hO⟩,l1.at fun o e=>k i1 (by simp) o e,l2.at fun o e=>k i2 (by simp) o e⟩
 ·intro X hP hw hK hc i pins s σ H E I hf st hg
  subst hP hw hK
  obtain ⟨xs,ys,x,y,q1,q2,ex,ey⟩:=hg
  obtain ⟨hz,hI,⟨x0,y0,hO⟩,l1,l2⟩:=st
  obtain ⟨aj,rv,p,_⟩:=I.list q1
  obtain ⟨its',A0,p',_⟩:=I.list q2
  obtain ⟨u,hu,ru⟩:=rv.get ex
  obtain ⟨u',Hj,ru'⟩:=A0.get ey
  have D:=apart hz hI hO l1 l2 p.isList p'.isList
  refine wpAny_pyNext_zip_item D hz hI hO l1 l2 p.isList p'.isList (x:=u) (y:=u') (by simpa using hu) (by simpa using Hj) fun h1 z1 o1 a1 b1 t1 Qq k1=>⟨_,rfl,?_⟩
  refine wpAny_letOwnedTupleGo_zip z1 fun h2 z2 LA=>?_
  have zne:s.heap.objs.size ≠ z:=Nat.ne_of_gt (Heap.lt_size hz)
  have kk:∀ c o,c ∉ [z,TI,TO,i1,i2] -> s.heap.get? c = some o -> h2.get? c = some o:=fun c o hc e=>by
   simp only [List.mem_cons,List.not_mem_nil,or_false,not_or] at hc
   exact LA.extBut c o hc.1 (k1 c o hc.1 hc.2.2.1 hc.2.2.2.1 hc.2.2.2.2 e)
  have hT:h2.get? s.heap.objs.size = some { cls:=.type "tuple",data:=.seq #[u,u'] }:=LA.extBut _ _ zne t1
  have hn:H s.heap.objs.size = none:=I.dq.fresh (Nat.le_refl _)
  refine ⟨.ref s.heap.objs.size,upd H s.heap.objs.size (.tup [x,y]),D_ (s:=s) (h':=h2) (t':=s.toks) I hf kk (Nat.le_refl _) (xZ ru ru' hT),rfl,⟨_,x,y,fun zs hz=>by rw [I.kX hz q1];exact ex,fun zs hz=>by rw [I.kX hz q2];exact ey,hn,rfl,rfl⟩,⟨z2,LA.extBut _ _ D.TIz (k1 _ _ D.TIz D.TITO D.TIi1 D.TIi2 hI),⟨_,_,LA.extBut _ _ D.TOz o1⟩,a1.extBut LA.extBut D.i1z,b1.extBut LA.extBut D.i2z⟩,fun c hc=>?_⟩
  rw [aD]
  ·exact (hf c hc).1
  ·intro z
   subst z
   simp only [List.mem_cons,List.not_mem_nil,or_false] at hc
   rcases hc with e | e | e | e | e
   ·exact absurd (Heap.lt_size hz) (by rw [<- e];exact Nat.lt_irrefl _)
   ·exact absurd (Heap.lt_size hI) (by rw [<- e];exact Nat.lt_irrefl _)
   ·exact absurd (Heap.lt_size hO) (by rw [<- e];exact Nat.lt_irrefl _)
   ·obtain ⟨_,w,_⟩:=l1;exact absurd (Heap.lt_size w) (by rw [<- e];exact Nat.lt_irrefl _)
   ·obtain ⟨_,w,_⟩:=l2;exact absurd (Heap.lt_size w) (by rw [<- e];exact Nat.lt_irrefl _)
 ·intro X hP hw hK hc i pins s σ H E I hf st hg
  subst hP hw hK
  obtain ⟨xs,ys,q1,q2,hl⟩:=hg
  obtain ⟨hz,hI,⟨x0,y0,hO⟩,l1,l2⟩:=st
  obtain ⟨aj,rv,p,_⟩:=I.list q1
  obtain ⟨its',A0,p',_⟩:=I.list q2
  have e1:=rv.length
  have e2:=A0.length
  refine wpAny_pyNext_zip_end (I.ok.hd hc) (apart hz hI hO l1 l2 p.isList p'.isList) hz hI hO l1 l2 p.isList p'.isList (by simp;omega) fun h1 k1=>⟨rfl,D9 (t':=s.toks) I hf fun c o hc e=>?_⟩
  simp only [List.mem_cons,List.not_mem_nil,or_false,not_or] at hc
  exact k1 c o hc.1 hc.2.2.1 hc.2.2.2.1 hc.2.2.2.2 e
theorem II {X:Cx} {e1 e2:Expr} {ta:TA} {elts:List Expr} {n1:Nat} {tp p pos:Pos} (hg:Gl X "zip") (hm:X.mg "zip" = none) (ha:PA X [e1,e2] ta) (hs:∀ es,starEach (e1 :: es) X.env = (false,eval e1 X.env) :: starEach es X.env) (LR:∀ es,starEach (e2 :: es) X.env = (false,eval e2 X.env) :: starEach es X.env) :
  PI X (.Tuple elts n1 tp) (.Call (.Name "zip" p) [e1,e2] [] pos) (fun σ H R=>ta σ H fun vs H1=>∃ a b,vs = [.ref a,.ref b] /\ (∃ xs,dY X.K H1 a xs) /\ (∃ ys,dY X.K H1 b ys) /\ R (Z0 X.K a b) H1):=by
 intro pins s σ H R I h
 refine Call_ (eW I hg hm boot_zip (PyProof.Rows.callWith_type1 (di (ha pos pins s σ H _ I h) fun us s1 ⟨vs,H1,I1,r1,q1⟩=>?_) (hs _) (by rw [LR];rfl)))
 obtain ⟨a,b,e,⟨xs,q1⟩,⟨ys,q2⟩,q⟩:=q1
 subst e
 obtain ⟨u,v,rfl,ru,rv⟩:=vals2 r1
 cases ru
 cases rv
 obtain ⟨aj,_,p1,_⟩:=I1.list q1
 obtain ⟨its',_,p2,_⟩:=I1.list q2
 refine call_zip_2 p1.isList p2.isList fun h' z t o l1 l2 sz k=>wpAny_pyIter_zip z ?_
 refine ⟨s1.heap.objs.size + 4,[s1.heap.objs.size + 4,s1.heap.objs.size + 2,s1.heap.objs.size + 3,s1.heap.objs.size,s1.heap.objs.size + 1],_,_,H1,rfl,I1.kept (t':=s1.toks) k,Bj (Nat.ne_of_lt (Nat.lt_succ_self _)) (Nat.ne_of_lt (Nat.lt_succ_self _)),⟨z,t,⟨_,_,o⟩,l1,l2⟩,fun b hb=>?_,q⟩
 have xf:s1.heap.objs.size <= b:=by
  simp only [List.mem_cons,List.not_mem_nil,or_false] at hb
  rcases hb with rfl | rfl | rfl | rfl | rfl <;> first | exact Nat.le_add_right .. | exact Nat.le_refl _
 exact I1.C2 xf (I1.dq.fresh xf)
def jo (sc:Scope) (bl:List Str) (e:Expr):Option (List Expr):=match eA e with
 | some z=>match two z.2 with
  | some _=>if z.1 = ("zip" : Str) /\ g_ sc z.1 = true /\ z.1 ∈ bl then some z.2 else none
  | none=>none
 | none=>none
theorem rX {sc:Scope} {bl:List Str} {e:Expr} {args:List Expr} (h:jo sc bl e = some args):∃ p pos a b,e = .Call (.Name ("zip" : Str) p) [a,b] [] pos /\ args = [a,b] /\ g_ sc ("zip" : Str) = true /\ ("zip" : Str) ∈ bl:=by
 unfold jo at h
 cases hv:eA e with
 | none=>rw [hv] at h;cases h
 | some z =>
  obtain ⟨x,as⟩:=z
  rw [hv] at h
  obtain ⟨p,pos,rfl⟩:=cQ hv
  have h:(match two as with | some _=>if x = ("zip" : Str) /\ g_ sc x = true /\ x ∈ bl then some as else none | none=>none) = some args:=h
  cases hw:two as with
  | none=>rw [hw] at h;cases h
  | some w =>
   obtain ⟨a,b⟩:=w
   rw [hw] at h
   have h:(if x = ("zip" : Str) /\ g_ sc x = true /\ x ∈ bl then some as else none) = some args:=h
   obtain rfl:=j9 hw
   by_cases hc:x = ("zip" : Str) /\ g_ sc x = true /\ x ∈ bl
   ·rw [if_pos hc] at h
    cases h
    obtain ⟨rfl,h1,h2⟩:=hc
    exact ⟨_,_,_,_,rfl,rfl,h1,h2⟩
   ·rw [if_neg hc] at h;cases h
theorem oH {X:Cx} {F:Addr -> Prop} {Φ:az} {cs:List CE} {a b:Expr} (h:qU X F Φ cs [a,b]):(∃ c d,cs = [c,d] /\ PE X a (tD X F Φ c) /\ PE X b (tD X F Φ d)) /\ PA X [a,b] (uF X F Φ cs) /\ (∀ es,starEach (a :: es) X.env = (false,eval a X.env) :: starEach es X.env) /\ (∀ es,starEach (b :: es) X.env = (false,eval b X.env) :: starEach es X.env):=by
 match cs,h with
 | [c,d],h =>
  obtain ⟨h1,h2,_,h3,h4,_,_⟩:=h
  exact ⟨⟨c,d,rfl,h1,h3⟩,PA.imp (d7 h1 (PA.imp (d7 h3 (PA.imp ib fun _ _ _ h=>kN h) (h4 _)) fun _ _ _ h=>gI h) (h2 _)) fun _ _ _ h=>gI h,h2,h4⟩
 | [],h=>exact h.elim
 | [_],h=>exact h.2.2.2.elim
 | _ :: _ :: _ :: _,h=>exact h.2.2.2.2.2.2.elim
theorem Rep.to0 {K:PySem.W.Frag} {R:Addr -> Prop} {H H':Hp} {k:aI} {v:V} {d:D} (e:ak H H') (h:Rep (aG K H) (nd K R (fun _=>False) (fun _=>none) H) k v d) {k':aI}:Rep (aG K H') (nd K R (fun _=>False) (fun _=>none) H') k' v d :=
 (Rep.sU h (k':=k')).imp (fun _ _ h=>aG.same e h) fun _ _ _ _ h=>nd.same e h
theorem DV {K:PySem.W.Frag} {p q:Addr} {f g:Fl} {a b:List D} {H2:Hp}:Mf K (Z0 K p q) H2 [.ref p,.ref q] [.lst f a,.lst g b] (ah aN (List.zipWith (fun x y=>.tup [x,y]) a b)):=by
 have len:(ah aN (List.zipWith (fun x y=>D.tup [x,y]) a b)).length = min a.length b.length:=by rw [av];simp
 have two:∀ {H':Hp} {R':Addr -> Prop},af (aG K H') (nd K R' (fun _=>False) (fun _=>none) H') [] 0 [.ref p,.ref q] (ah aN [.lst f a,.lst g b]) ->
   ∃ xs ys,dY K H' p xs /\ dY K H' q ys /\ af (aG K H') (nd K R' (fun _=>False) (fun _=>none) H') [0] 0 xs (ah aN a) /\ af (aG K H') (nd K R' (fun _=>False) (fun _=>none) H') [1] 0 ys (ah aN b):=by
  intro H' R' h
  rw [ah,aC,ah,aC,ah] at h
  cases h with
  | cons h t=>cases t with
   | cons h' t=>cases h with
    | lst h r=>cases h' with
     | lst h' r'=>exact ⟨_,_,h.sq,h'.sq,r,r'⟩
 refine ⟨fun i H' R' _ h hi=>?_,fun i H' R' x nj _ h hi hy=>?_,fun i H' R' _ h hi=>?_⟩
 ·obtain ⟨xs,ys,h1,h2,r1,r2⟩:=two h
  rw [len] at hi
  have l1:=r1.length
  have l2:=r2.length
  rw [av,List.length_map] at l1 l2
  exact ⟨xs,ys,xs[i]'(by omega),ys[i]'(by omega),h1,h2,List.getElem?_eq_getElem _,List.getElem?_eq_getElem _⟩
 ·obtain ⟨xs,ys,h1,h2,r1,r2⟩:=two h
  obtain ⟨T,u,v,g1,g2,hn,rfl,rfl⟩:=hy
  obtain ⟨d1,e1,p1⟩:=r1.Ay (g1 xs h1)
  obtain ⟨d2,e2,p2⟩:=r2.Ay (g2 ys h2)
  have es:ak H' (upd H' T (.tup [u,v])):=ak.upd hn
  refine ⟨es,.tup [d1,d2],?_,.tup (aG.of aK) (.cons (p1.to0 es) (.cons (p2.to0 es) .nil))⟩
  rw [av,List.getElem?_map] at e1 e2 ⊢
  obtain ⟨c1,q1,rfl⟩:=Option.map_eq_some_iff.mp e1
  obtain ⟨c2,q2,rfl⟩:=Option.map_eq_some_iff.mp e2
  rw [List.getElem?_zipWith,q1,q2]
  simp [aC,ah]
 ·obtain ⟨xs,ys,h1,h2,r1,r2⟩:=two h
  rw [len] at hi
  have l1:=r1.length
  have l2:=r2.length
  rw [av,List.length_map] at l1 l2
  exact ⟨xs,ys,h1,h2,by omega⟩
theorem HG {Φ:az} {n:Nat} (hΦ:Φ n = sj) {X:Cx} {sc:Scope} {bl:List Str} {k:Nat} (L:PX X sc bl k) {e:Expr} {args:List Expr} (he:jo sc bl e = some args) {F:Addr -> Prop} {cs:List CE} {tg:Expr} (ht:ie tg = true) (hs:qU X F Φ cs args)
  {pins:List (Addr × Obj)} {s:Shared} {σ:St} {H:Hp} {R:Addr -> Prop} {τ:Addr -> Option aI} {ρ:aA} {xs:List D} {d:D} {items:List D} (I:Inv X pins σ H s) (Si:SI X F R τ ρ σ H) (df:c_ Φ cs ρ = ok xs) (ed:Φ n xs = ok d) (ei:mP d = ok items) (Rr:It -> Hp -> Prop)
  (hR:∀ J H2 vs,ak H H2 -> ck X.K (gP X F) R τ (du cs) H H2 vs xs -> Mf X.K J H2 vs xs items -> Rr J H2) :
  wpAny (model X.prog X.w) X.A (eval e X.env) (fun v s1=>wpAny (model X.prog X.w) X.A (pyIter v) (DA X pins σ tg Rr) X.xe s1) X.xe s:=by
 obtain ⟨p,pos,a,b,rfl,rfl,h1,h2⟩:=rX he
 cases tg <;> try (cases ht;done)
 obtain ⟨_,pa,s1,s2⟩:=oH hs
 refine II (L.gl h1) (L.bl _ h2) pa s1 s2 pins s σ H Rr I ⟨R,τ,ρ,xs,Si,df,fun vs H1 e1 rv=>?_⟩
 have rv0:=rv
 obtain ⟨τt,fr,rs⟩:=rv
 rw [hΦ] at ed
 unfold sj at ed
 split at ed
 ·cases ed
  cases ei
  obtain ⟨v,w,rfl,rx,ry⟩:=rs.two
  cases rx with
  | lst hx _=>cases ry with
   | lst hy _=>exact ⟨_,_,rfl,⟨_,hx.sq⟩,⟨_,hy.sq⟩,hR _ H1 _ e1 rv0 DV⟩
 ·cases ed
end DI
end
section
namespace DI
open PySem PySem.Spec PyProof.Rows L2
end DI
end
section
namespace DI
open PySem PySem.Spec PyProof.Rows L2
section
variable {X:Cx}
end
def jq (f:Str) (sc:Scope) (bl:List Str) (e:Expr):Option (List Expr):=match eA e with
 | some z=>match one z.2 with
  | some _=>if z.1 = f /\ g_ sc z.1 = true /\ z.1 ∈ bl then some z.2 else none
  | none=>none
 | none=>none
theorem rY {f:Str} {sc:Scope} {bl:List Str} {e:Expr} {args:List Expr} (h:jq f sc bl e = some args):∃ p pos a,e = .Call (.Name f p) [a] [] pos /\ args = [a] /\ g_ sc f = true /\ f ∈ bl:=by
 unfold jq at h
 cases hv:eA e with
 | none=>rw [hv] at h;cases h
 | some z =>
  obtain ⟨x,as⟩:=z
  rw [hv] at h
  obtain ⟨p,pos,rfl⟩:=cQ hv
  have h:(match one as with | some _=>if x = f /\ g_ sc x = true /\ x ∈ bl then some as else none | none=>none) = some args:=h
  cases hw:one as with
  | none=>rw [hw] at h;cases h
  | some a =>
   rw [hw] at h
   have h:(if x = f /\ g_ sc x = true /\ x ∈ bl then some as else none) = some args:=h
   obtain rfl:=cm hw
   by_cases hc:x = f /\ g_ sc x = true /\ x ∈ bl
   ·rw [if_pos hc] at h
    cases h
    obtain ⟨rfl,h1,h2⟩:=hc
    exact ⟨_,_,_,rfl,rfl,h1,h2⟩
   ·rw [if_neg hc] at h;cases h
end DI
end
section
namespace DI
open PySem PySem.Spec PyProof.Rows L2
end DI
end
section
namespace DI
open PySem PySem.Spec PyProof.Rows L2
section
variable {prog:Program} {w:World} {A:Around} {E:Value -> Shared -> Prop} {s:Shared}
def uj (h:Heap) (vs:List Value) (nss:List (List Int)):Prop:=vs.length = nss.length /\ ∀ (i:Nat) (ns:List Int),nss[i]? = some ns -> ∃ t aj,vs[i]? = some (.ref t) /\ IsTup h t aj.toArray /\ IntsAre aj ns /\ ns ≠ []
theorem vg {fin:Bool} {Q:Bool -> Shared -> Prop}:∀ {aj Ff:List Value} {ns ms:List Int} (i:Nat),IntsAre aj ns -> IntsAre Ff ms -> fin = decide (aj.length < Ff.length) -> Q (HT.lexLt ns ms) s -> PySem.W.KatLex prog w A true fin Q (aj.zip Ff) i s
 | _,_,_,_,i,.nil,.nil,hf,h=>by subst hf;exact h
 | _,_,_,_,i,.nil,.cons _ _ _,hf,h=>by subst hf;exact h
 | _,_,_,_,i,.cons _ _ _,.nil,hf,h=>by subst hf;exact h
 | _,_,_,_,i,.cons (ns:=ns) a t h1,.cons (ns:=ms) b u h2,hf,h=>by
  rw [HT.dM] at h
  refine PySem.W.kat_cons (wpAny_eqBool_int (PySem.W.kat_go (fun e=>?_) fun e=>?_))
  ·have e:a = b:=by simpa using e
   rw [if_pos e] at h
   exact PySem.W.kat_yes (vg (i + 1) h1 h2 (by rw [hf];simp) h)
  ·have e:¬ a = b:=by simpa using e
   rw [if_neg e] at h
   refine PySem.W.kat_no ?_
   rw [Bool.true_and]
   cases i == 0 with
   | true=>exact oneLt_int h
   | false=>exact PySem.W.kat_one _ _ (lt_int h)
theorem uj.mono {h h':Heap} {vs:List Value} {nss:List (List Int)} (k:∀ b o,h.get? b = some o -> h'.get? b = some o) (t:uj h vs nss):uj h' vs nss :=
 ⟨t.1,fun i ns e=>let ⟨a,aj,e1,⟨o,ho,r⟩,e3⟩:=t.2 i ns e;⟨a,aj,e1,⟨o,k _ _ ho,r⟩,e3⟩⟩
end
end DI
end
section
namespace DI
open PySem PySem.Spec PyProof.Rows L2
def gi (ns:List Int):D:=.tup (ns.map D.int)
end DI
end
section
namespace DI
open PySem PySem.Spec PyProof.Rows L2
theorem af.Qb {T:jZ} {N:i3} {q:aI}:∀ {n:Nat} {vs ws:List V} {ds es:List D},af T N q n vs ds -> af T N q (n + ds.length) ws es -> af T N q n (vs ++ ws) (ds ++ es)
 | _,_,_,_,_,.nil,h=>h
 | n,_,_,_,_,.cons (ds:=ds) h t,h'=>.cons h (af.Qb t (by
   rw [List.length_cons,Nat.add_comm ds.length 1,<- Nat.add_assoc] at h';exact h'))
theorem Ej {K:PySem.W.Frag} {H:Hp} {p a:Addr} {xs ys:List V} {o:HO} (hp:H p = some (.lst xs)) (h:aG K H a ys):aG K (upd H p o) a ys:=by
 rcases h with (h | ⟨o',h⟩) | h
 ·exact .inl (.inl (by rw [aD (fun z=>by subst z;rw [hp] at h;cases h)];exact h))
 ·exact .inl (.inr ⟨o',by rw [aD (fun z=>by subst z;rw [hp] at h;cases h)];exact h⟩)
 ·exact .inr h
theorem yv {Φ:az} {n i:Nat} {cs:List CE} {xs:List D} {ρ:aA} {r:Fo × aA} (ev:wR Φ n i (oW cs xs ρ) = ok r) (ha:aw bV xs = false):∃ d d',ρ[i]? = some (some d) /\ Φ n (d :: xs) = ok d' /\ r = (.nx,ρ.set i (some d')):=by
 unfold oW at ev
 rw [if_neg (by rw [ha];exact Bool.false_ne_true)] at ev
 unfold wR at ev
 split at ev
 ·rename_i d hd
  obtain ⟨d',h1,h2⟩:=ag ev
  cases h2
  exact ⟨d,d',hd,h1,rfl⟩
 ·cases ev
theorem Cd {Φ:az} {n i:Nat} {cs:List CE} {xs:List D} {ρ:aA} {r:Fo × aA} (ev:wR Φ n i (oW cs xs ρ) = ok r) (ha:aw bV xs = true):∃ d d',Φ n (d :: ah aN xs) = ok d':=by
 unfold oW at ev
 rw [if_pos ha] at ev
 unfold wR at ev
 split at ev
 ·rename_i d hd
  obtain ⟨d',h1,h2⟩:=ag ev
  exact ⟨d,d',h1⟩
 ·cases ev
def IW:D -> Option (List D)
 | .lst f ds=>if d9 f then some ds else none
 | _=>none
theorem B2 {d:D} {ds:List D} (h:IW d = some ds):d = .lst .ow ds:=by
 cases d <;> first | (cases h;done) | skip
 rename_i f es
 have h:(if d9 f then some es else none) = some ds:=h
 cases f <;> first | (cases h;rfl) | (cases h;done)
def xn (xs:List D):O D:=match two xs with
 | some z=>match IW z.1 with
  | some ds=>match IW z.2 with
   | some es=>if aw anyF es = false /\ ds.length + es.length <= eu then ok (.lst .ow (ds ++ es)) else none
   | none=>none
  | none=>none
 | none=>none
theorem y_ {x y d:D} (h:xn [x,y] = ok d):∃ ds es,x = .lst .ow ds /\ y = .lst .ow es /\ aw anyF es = false /\ ds.length + es.length <= eu /\ d = .lst .ow (ds ++ es):=by
 have h:(match IW x with | some ds=>(match IW y with | some es=>if aw anyF es = false /\ ds.length + es.length <= eu then ok (.lst .ow (ds ++ es)) else none | none=>none) | none=>none) = ok d:=h
 cases h1:IW x with
 | none=>rw [h1] at h;cases h
 | some ds=>cases h2:IW y with
  | none=>rw [h1,h2] at h;cases h
  | some es =>
   rw [h1,h2] at h
   obtain ⟨⟨h3,h4⟩,h5⟩:=rL h
   exact ⟨ds,es,B2 h1,B2 h2,h3,h4,h5.symm⟩
def qY (m:Str) (st:Stmt):Option (Expr × List Expr):=match Mu st with
 | some c=>match sk c with
  | some z=>match xX z.1 with
   | some y=>if y.2.1 = m /\ z.2.2.1 = [] /\ (y.2.2.endLine == z.2.2.2.line) = true then some (y.1,z.2.1) else none
   | none=>none
  | none=>none
 | none=>none
theorem ux {m:Str} {st:Stmt} {o:Expr} {as:List Expr} (h:qY m st = some (o,as)):∃ p1 p2 pos,st = .Expr (.Call (.Attribute o m p1) as [] p2) pos /\ (p1.endLine == p2.line) = true:=by
 unfold qY at h
 cases h1:Mu st with
 | none=>rw [h1] at h;cases h
 | some c =>
  obtain ⟨pos,rfl⟩:=wq h1
  rw [h1] at h
  cases h2:sk c with
  | none=>simp only [h2] at h;cases h
  | some z =>
   obtain ⟨f,Rg,ks,p2⟩:=z
   obtain rfl:=qZ h2
   simp only [h2] at h
   cases h3:xX f with
   | none=>simp only [h3] at h;cases h
   | some y =>
    obtain ⟨o',a,p1⟩:=y
    obtain rfl:=uz h3
    simp only [h3] at h
    by_cases hc:a = m /\ ks = [] /\ (p1.endLine == p2.line) = true
    ·rw [if_pos hc] at h
     cases h
     obtain ⟨rfl,rfl,hl⟩:=hc
     exact ⟨p1,p2,pos,rfl,hl⟩
    ·rw [if_neg hc] at h;cases h
def xH (_:Scope) (_:List Str) (st:Stmt):Option (Expr × List Expr):=match qY ("extend" : Str) st with
 | some z=>match one z.2 with
  | some _=>some z
  | none=>none
 | none=>none
theorem KQ {Φ:az} {n:Nat} (hΦ:Φ n = xn) {X:Cx} {sc:Scope} {bl:List Str} {k:Nat} (L:PX X sc bl k) (hN:X.N.Nodup) (A5:∀ x,X.fn x = true) {st:Stmt} {x:Str} {pos:Pos} {args:List Expr} (he:xH sc bl st = some (.Name x pos,args))
  {i:Nat} (hi:X.N[i]? = some x) (hl:L2.Loc X.env.scope x) (pe:PE X (.Name x pos) (Bp i)) {F:Addr -> Prop} {cs:List CE} (hs:qU X F Φ cs args):PS X st (wd X F Φ (.mut n i cs)):=by
 unfold xH at he
 cases h1:qY ("extend" : Str) st with
 | none=>rw [h1] at he;cases he
 | some z =>
  rw [h1] at he
  obtain ⟨o,as⟩:=z
  cases h2:one as with
  | none=>simp only [h2] at he;cases he
  | some v =>
   simp only [h2] at he
   cases he
   obtain rfl:=cm h2
   obtain ⟨p1,p2,pos',rfl,LX⟩:=ux h1
   cases cs with
   | nil=>exact hs.elim
   | cons c cs=>cases cs with
    | cons _ _=>exact hs.2.2.2.elim
    | nil =>
     refine PS.imp (sN (G7 PySem.F.plainAttrs_list PySem.F.slot_list_extend PySem.F.type_list_extend Ab pe (d7 hs.1 ib (hs.2.1 _)) (hfew:=by rw [hs.2.1];rfl) (hline:=LX) (hs:=hs.2.1 _))) fun D σ H hq=>?_
     obtain ⟨R,τ,ρ,r,Si,ev,hq⟩:=hq
     obtain ⟨xs,df,ev⟩:=ag ev
     obtain ⟨y,ey,df⟩:=ag df
     cases df
     have key:∃ ds es,y = .lst .ow es /\ ρ[i]? = some (some (.lst .ow ds)) /\ aw anyF es = false /\ ds.length + es.length <= eu /\ r = (.nx,ρ.set i (some (.lst .ow (ds ++ es)))):=by
      cases hz:aw bV [y] with
      | true =>
       obtain ⟨d,d',h⟩:=Cd ev hz
       rw [hΦ] at h
       obtain ⟨ds,es,_,h3,_⟩:=y_ h
       cases y <;> first | (cases h3;done) | skip
       rename_i f L9
       cases f <;> cases h3
      | false =>
       obtain ⟨d,d',h,h',rfl⟩:=yv ev hz
       rw [hΦ] at h'
       obtain ⟨ds,es,rfl,rfl,h3,h4,rfl⟩:=y_ h'
       exact ⟨ds,es,rfl,h,h3,h4,rfl⟩
     obtain ⟨ds,es,rfl,ho,hf,hc,rfl⟩:=key
     obtain ⟨a,xs,hv,ha,hxl,hta,_⟩:=Si.own ho
     refine ⟨.ref a,hv,.inl ⟨rfl,_,dY.of ha⟩,tD.intro Si ey fun u H1 e1 ru=>?_⟩
     have wk:=Si.go e1
     obtain ⟨a1,Ro,JT,Hl,Wc,Cz,Iy⟩:=wk.own ho
     rw [hv] at JT
     cases JT
     obtain ⟨τt,fr,rp⟩:=ru
     cases rp with
     | @lst _ b zs _ _ hb rz =>
      have hz:sizeLine = 16777216:=sizeLine_eq
      have o6:eu = 1000000:=rfl
      have hzl:=rz.length
      refine ⟨a,b,Ro,zs,rfl,rfl,Hl,hb.1,by omega,?_⟩
      obtain ⟨τ2,wb⟩:=wk.put (m:=0) (g:=fun ys=>ys ++ zs) (v:=.int 0) (d:=.int 0) ho hv Hl Cz Iy ⟨fun _=>none,fun _ _ h=>by simp at h,.int 0⟩ fun rs _=>af.Qb rs (rz.without (P:=anyF) (fun _ _ h=>Ej Hl h) (fun _ _ _ _ _ h=>by cases h) hf _ _)
      exact hq σ _ R τ2 wb (sZ (n:=.l _) wk e1 (fun _ h=>h) Hl Cz)
end DI
end
section
namespace DI
open PySem PySem.Spec PyProof.Rows L2
end DI
end
section
namespace DI
open PySem PySem.Spec PyProof.Rows L2
abbrev ui (h:Heap) (z TI TO a:Addr) (f:Bool):Prop :=
 h.get? z = some { cls:=.type "zip",dict:=none,data:=.fields #[rawInt a,.bool f,.bool false,.ref TI,.ref TO],slots:=#[] }
section
variable {prog:Program} {w:World} {A:Around} {E:Value -> Shared -> Prop} {s:Shared}
theorem A_ {a:Addr} {o:Obj} {Q:Option Obj -> Shared -> Prop} (ho:s.heap.get? a = some o) (h:Q (some o) s):wpAny (model prog w) A (loadIfAlive a) Q E s:=by
 have h':Q (s.heap.get? a) s:=by rw [ho];exact h
 exact fun _ _ _=>h'
theorem xT {z TI TO a:Addr} {f:Bool} {oa:Obj} {Q:Bool -> Shared -> Prop} (hz:ui s.heap z TI TO a f) (ha:s.heap.get? a = some oa) (hQ:∀ h',ui h' z TI TO a true -> Heap.SameBut z s.heap h' -> Q false { s with heap:=h' }) :
  wpAny (model prog w) A (Builtin.SmallTypes.ownedTupleIsFree (.ref z)) Q E s:=by
 unfold Builtin.SmallTypes.ownedTupleIsFree
 refine wpAny_bind (wpAny_field hz rfl (x:=rawInt a) rfl ?_)
 show wpAny _ _ (loadIfAlive ((a:Int).toNat) >>= _) _ _ _
 rw [Int.toNat_natCast]
 refine wpAny_bind (A_ ha ?_)
 simp only [Option.isNone_some,Bool.false_eq_true,if_false]
 refine wpAny_bind (wpAny_field hz rfl (x:=.bool f) rfl ?_)
 cases f with
 | true =>
  rw [if_neg (show ¬ ((Value.bool true != Value.bool true) = true) from Bool.false_ne_true)]
  exact wpAny_pure (hQ s.heap hz (Heap.SameBut.refl _ _))
 | false =>
  rw [if_pos (show (Value.bool false != Value.bool true) = true from rfl)]
  exact wpAny_bind (wpAny_setField_rec hz (by simp) fun h₃ Oq mE=>wpAny_pure (hQ h₃ Oq mE))
theorem uv {z TI TO i1 i2 l1 l2 a:Addr} {f:Bool} {oa:Obj} {k1 k2:Nat} {xs ys:Array Value} {x y:Value} {Q:Value -> Shared -> Prop} (D:ZipApart z TI TO i1 i2 l1 l2)
  (hz:ui s.heap z TI TO a f) (ha:s.heap.get? a = some oa) (DL:IsPair s.heap TI (.ref i1) (.ref i2))
  (h1:s.heap.IsListIter i1 l1 k1) (h2:s.heap.IsListIter i2 l2 k2) (DJ:s.heap.IsList l1 xs) (Ao:s.heap.IsList l2 ys) (hx:xs[k1]? = some x) (hy:ys[k2]? = some y)
  (hQ:∀ h',ui h' z TI TO a true -> h'.IsListIter i1 l1 (k1 + 1) -> h'.IsListIter i2 l2 (k2 + 1) -> IsPair h' s.heap.objs.size x y -> h'.objs.size = s.heap.objs.size + 1 ->
   (∀ c o,c ≠ z -> c ≠ i1 -> c ≠ i2 -> s.heap.get? c = some o -> h'.get? c = some o) -> Q (.ref s.heap.objs.size) { s with heap:=h' }) :
  wpAny (model prog w) A (Builtin.«zip.__next__» ⟨[.ref z],[]⟩) (fun fin s'=>∃ v,fin = .done (.ret v) /\ Q v s') E s:=by
 show wpAny _ _ (field (.ref z) 2 >>= _) _ _ _
 refine wpAny_bind (wpAny_field hz rfl (x:=.bool false) rfl ?_)
 show wpAny _ _ (field (.ref z) 3 >>= _) _ _ _
 refine wpAny_bind (wpAny_field hz rfl (x:=.ref TI) rfl ?_)
 refine wpAny_bind (wpAny_seqItems DL rfl ?_)
 show wpAny _ _ (Builtin.SmallTypes.ownedTupleIsFree (.ref z) >>= _) _ _ _
 refine wpAny_bind (xT hz ha fun h₁ Hh fG=>?_)
 simp only [Bool.false_eq_true,if_false]
 refine wpAny_bind ?_
 rw [<- Array.forIn_toList]
 simp only [List.forIn_cons,List.forIn_nil]
 refine wpAny_bind (wpAny_bind (wpAny_holding ?_))
 show wpAny _ _ (Builtin.SmallTypes.nextOf (.ref i1) >>= _) _ _ _
 refine wpAny_bind (wpAny_nextOf_list_item (h1.extBut fG.extBut D.i1z) (DJ.extBut fG.extBut D.l1z) hx fun h₂ Hm jg=>wpAny_pure ?_)
 refine wpAny_pure ?_
 refine wpAny_bind (wpAny_bind (wpAny_holding ?_))
 show wpAny _ _ (Builtin.SmallTypes.nextOf (.ref i2) >>= _) _ _ _
 refine wpAny_bind (wpAny_nextOf_list_item ((h2.extBut fG.extBut D.i2z).extBut jg.extBut D.i12.symm) ((Ao.extBut fG.extBut D.l2z).extBut jg.extBut D.l2i1) hy fun h₃ OO mE=>wpAny_pure ?_)
 refine wpAny_pure ?_
 refine wpAny_pure ?_
 have hsz:h₃.objs.size = s.heap.objs.size:=by rw [mE.1,jg.1,fG.1]
 refine wpAny_bind (wpAny_newTuple ?_ (by show 2 <= _;rw [sizeLine_eq];decide))
 refine wpAny_pure ⟨_,rfl,?_⟩
 show Q (.ref h₃.objs.size) _
 have i4:∀ {c o},h₃.get? c = some o -> c ≠ h₃.objs.size:=fun e=>Nat.ne_of_lt (Heap.lt_size e)
 have hk:∀ c o,c ≠ z -> c ≠ i1 -> c ≠ i2 -> s.heap.get? c = some o -> (h₃.push { cls:=.type "tuple",data:=.seq #[x,y] }).get? c = some o:=fun c o c1 c2 c3 e=>Heap.get?_push_of_some _ (mE.extBut _ _ c3 (jg.extBut _ _ c2 (fG.extBut _ _ c1 e)))
 rw [hsz]
 refine hQ _ (Heap.get?_push_of_some _ (mE.extBut _ _ D.i2z.symm (jg.extBut _ _ D.i1z.symm Hh))) ((Hm.extBut mE.extBut D.i12).at fun o e=>Heap.get?_push_of_some _ e) (OO.at fun o e=>Heap.get?_push_of_some _ e) ?_ (by rw [Heap.size_push,hsz]) hk
 rw [<- hsz]
 exact Heap.get?_push_size _ rfl
theorem wm {z TI TO i1 i2 l1 l2 a:Addr} {f:Bool} {oa:Obj} {k1 k2:Nat} {xs ys:Array Value} {Q:Fin -> Shared -> Prop} (hh:A.handled = none) (D:ZipApart z TI TO i1 i2 l1 l2)
  (hz:ui s.heap z TI TO a f) (ha:s.heap.get? a = some oa) (DL:IsPair s.heap TI (.ref i1) (.ref i2))
  (h1:s.heap.IsListIter i1 l1 k1) (h2:s.heap.IsListIter i2 l2 k2) (DJ:s.heap.IsList l1 xs) (Ao:s.heap.IsList l2 ys) (vo:xs[k1]? = none \/ ys[k2]? = none)
  (hE:∀ h' e,(∀ c o,c ≠ z -> c ≠ i1 -> c ≠ i2 -> s.heap.get? c = some o -> h'.get? c = some o) -> (∃ o,h'.get? e = some o /\ o.cls = .type "StopIteration") -> E (.ref e) { s with heap:=h' }) :
  wpAny (model prog w) A (Builtin.«zip.__next__» ⟨[.ref z],[]⟩) Q E s:=by
 show wpAny _ _ (field (.ref z) 2 >>= _) _ _ _
 refine wpAny_bind (wpAny_field hz rfl (x:=.bool false) rfl ?_)
 show wpAny _ _ (field (.ref z) 3 >>= _) _ _ _
 refine wpAny_bind (wpAny_field hz rfl (x:=.ref TI) rfl ?_)
 refine wpAny_bind (wpAny_seqItems DL rfl ?_)
 show wpAny _ _ (Builtin.SmallTypes.ownedTupleIsFree (.ref z) >>= _) _ _ _
 refine wpAny_bind (xT hz ha fun h₁ Hh fG=>?_)
 simp only [Bool.false_eq_true,if_false]
 refine wpAny_bind ?_
 rw [<- Array.forIn_toList]
 simp only [List.forIn_cons,List.forIn_nil]
 refine wpAny_bind (wpAny_bind (wpAny_holding ?_))
 show wpAny _ _ (Builtin.SmallTypes.nextOf (.ref i1) >>= _) _ _ _
 cases hx:xs[k1]? with
 | none =>
  refine wpAny_bind (wpAny_nextOf_list_end hh (h1.extBut fG.extBut D.i1z) (DJ.extBut fG.extBut D.l1z) hx fun h₂ e jg he=>?_)
  exact hE h₂ e (fun c o c1 c2 c3 x=>jg _ _ c2 (fG.extBut _ _ c1 x)) he
 | some x =>
  have hy:ys[k2]? = none:=by rcases vo with h | h;rw [hx] at h;cases h;exact h
  refine wpAny_bind (wpAny_nextOf_list_item (h1.extBut fG.extBut D.i1z) (DJ.extBut fG.extBut D.l1z) hx fun h₂ Hm jg=>wpAny_pure ?_)
  refine wpAny_pure ?_
  refine wpAny_bind (wpAny_bind (wpAny_holding ?_))
  show wpAny _ _ (Builtin.SmallTypes.nextOf (.ref i2) >>= _) _ _ _
  refine wpAny_bind (wpAny_nextOf_list_end hh ((h2.extBut fG.extBut D.i2z).extBut jg.extBut D.i12.symm) ((Ao.extBut fG.extBut D.l2z).extBut jg.extBut D.l2i1) hy fun h₃ e mE he=>?_)
  exact hE h₃ e (fun c o c1 c2 c3 x=>mE _ _ c3 (jg.extBut _ _ c2 (fG.extBut _ _ c1 x))) he
theorem nZ {z TI TO i1 i2 l1 l2 a:Addr} {f:Bool} {oa:Obj} {k1 k2:Nat} {xs ys:Array Value} {x y:Value} {Q:Option Value -> Shared -> Prop} (D:ZipApart z TI TO i1 i2 l1 l2)
  (hz:ui s.heap z TI TO a f) (ha:s.heap.get? a = some oa) (DL:IsPair s.heap TI (.ref i1) (.ref i2))
  (h1:s.heap.IsListIter i1 l1 k1) (h2:s.heap.IsListIter i2 l2 k2) (DJ:s.heap.IsList l1 xs) (Ao:s.heap.IsList l2 ys) (hx:xs[k1]? = some x) (hy:ys[k2]? = some y)
  (hQ:∀ h',ui h' z TI TO a true -> h'.IsListIter i1 l1 (k1 + 1) -> h'.IsListIter i2 l2 (k2 + 1) -> IsPair h' s.heap.objs.size x y -> h'.objs.size = s.heap.objs.size + 1 ->
   (∀ c o,c ≠ z -> c ≠ i1 -> c ≠ i2 -> s.heap.get? c = some o -> h'.get? c = some o) -> Q (some (.ref s.heap.objs.size)) { s with heap:=h' }) :
  wpAny (model prog w) A (pyNext (.ref z)) Q E s:=by
 have hT:s.TypeIs (.ref z) "zip":=⟨_,hz,rfl⟩
 unfold pyNext
 exact wpAny_bind (wpAny_attempt (wpAny_callSpecial?_slot (name:=Str.ofString "__next__") hT PySem.F.slot_zip_next
  (wpAny_call_entry PySem.F.slot_zip_next hT PySem.F.entry_zip_next
   (uv D hz ha DL h1 h2 DJ Ao hx hy fun h' a1 a2 a3 a4 a5 a6=>wpAny_pure (hQ h' a1 a2 a3 a4 a5 a6)) (PySem.F.args_zip_next_1 _))))
theorem qg {z TI TO i1 i2 l1 l2 a:Addr} {f:Bool} {oa:Obj} {k1 k2:Nat} {xs ys:Array Value} {Q:Option Value -> Shared -> Prop} (hh:A.handled = none) (D:ZipApart z TI TO i1 i2 l1 l2)
  (hz:ui s.heap z TI TO a f) (ha:s.heap.get? a = some oa) (DL:IsPair s.heap TI (.ref i1) (.ref i2))
  (h1:s.heap.IsListIter i1 l1 k1) (h2:s.heap.IsListIter i2 l2 k2) (DJ:s.heap.IsList l1 xs) (Ao:s.heap.IsList l2 ys) (vo:xs[k1]? = none \/ ys[k2]? = none)
  (hQ:∀ h',(∀ c o,c ≠ z -> c ≠ i1 -> c ≠ i2 -> s.heap.get? c = some o -> h'.get? c = some o) -> Q none { s with heap:=h' }):wpAny (model prog w) A (pyNext (.ref z)) Q E s:=by
 have hT:s.TypeIs (.ref z) "zip":=⟨_,hz,rfl⟩
 unfold pyNext
 refine wpAny_bind (wpAny_attempt (wpAny_callSpecial?_slot (name:=Str.ofString "__next__") hT PySem.F.slot_zip_next
  (wpAny_call_entry PySem.F.slot_zip_next hT PySem.F.entry_zip_next (wm hh D hz ha DL h1 h2 DJ Ao vo fun h' e hk he=>?_) (PySem.F.args_zip_next_1 _))))
 obtain ⟨o,ho,hc⟩:=he
 refine wpAny_bind (wpAny_isInstance (T:="StopIteration") (b:=true) ⟨o,ho,hc⟩ isSubtype_stop ?_)
 exact wpAny_pure (hQ _ hk)
end
end DI
end
section
namespace DI
open PySem PySem.Spec PyProof.Rows L2
theorem HE:typeLookup (.type "zip") "__len__" = pure none:=by rw [typeLookup_type,builtinLookup_eq_fast];kernel_rfl
theorem Mj:typeLookup (.type "zip") "__length_hint__" = pure none:=by rw [typeLookup_type,builtinLookup_eq_fast];kernel_rfl
section
variable {prog:Program} {w:World} {A:Around} {E:Value -> Shared -> Prop} {s:Shared}
theorem DS {z:Addr} (hT:s.TypeIs (.ref z) "zip") {Q:Bool -> Shared -> Prop} (h:Q true s):wpAny (model prog w) A (Builtin.List.listLengthHint (.ref z)) Q E s:=by
 unfold Builtin.List.listLengthHint
 refine wpAny_bind (wpAny_specialOf hT HE ?_)
 refine wpAny_ite_split (fun xh=>absurd xh (by decide)) (fun _=>?_)
 refine wpAny_ite_split (fun xh=>absurd xh (by decide)) (fun _=>?_)
 refine wpAny_bind (wpAny_specialOf hT Mj ?_)
 exact wpAny_pure h
end
structure Zl (h:Heap) (z TI TO i1 i2 l1 l2 S:Addr) (xs ys:Array Value) (i:Nat):Prop where
 st:(IsZip h z TI TO .none /\ ∃ a b,IsPair h TO a b) \/ ∃ a f oa,ui h z TI TO a f /\ h.get? a = some oa /\ S < a
 ti:IsPair h TI (.ref i1) (.ref i2)
 w1:h.IsListIter i1 l1 i
 w2:h.IsListIter i2 l2 i
 q1:h.IsList l1 xs
 q2:h.IsList l2 ys
structure Below (z TI TO i1 i2 l1 l2 S:Addr):Prop where
 D:ZipApart z TI TO i1 i2 l1 l2
 z:z < S
 TI:TI < S
 TO:TO < S
 i1:i1 < S
 i2:i2 < S
 l1:l1 < S
 l2:l2 < S
section
variable {prog:Program} {w:World} {A:Around} {E:Value -> Shared -> Prop} {s:Shared} {z TI TO i1 i2 l1 l2 S:Addr} {xs ys:Array Value} {i:Nat}
theorem Zl.keep {h h':Heap} (B:Below z TI TO i1 i2 l1 l2 S) (Z:Zl h z TI TO i1 i2 l1 l2 S xs ys i) (hk:∀ b o,b ≠ S -> h.get? b = some o -> h'.get? b = some o):Zl h' z TI TO i1 i2 l1 l2 S xs ys i:=by
 have n:∀ {b},b < S -> b ≠ S:=fun h=>Nat.ne_of_lt h
 refine ⟨?_,hk _ _ (n B.TI) Z.ti,Z.w1.at fun o e=>hk _ o (n B.i1) e,Z.w2.at fun o e=>hk _ o (n B.i2) e,Z.q1.at fun o e=>hk _ o (n B.l1) e,Z.q2.at fun o e=>hk _ o (n B.l2) e⟩
 rcases Z.st with ⟨h1,a,b,h2⟩ | ⟨a,f,oa,h1,h2,h3⟩
 ·exact .inl ⟨hk _ _ (n B.z) h1,a,b,hk _ _ (n B.TO) h2⟩
 ·exact .inr ⟨a,f,oa,hk _ _ (n B.z) h1,hk _ _ (Nat.ne_of_gt h3) h2,h3⟩
theorem DQ {x y:Value} {Q:Option Value -> Shared -> Prop} (B:Below z TI TO i1 i2 l1 l2 S) (Z:Zl s.heap z TI TO i1 i2 l1 l2 S xs ys i) (hS:S < s.heap.objs.size) (hx:xs[i]? = some x) (hy:ys[i]? = some y)
  (hQ:∀ h',Zl h' z TI TO i1 i2 l1 l2 S xs ys (i + 1) -> IsPair h' s.heap.objs.size x y -> h'.objs.size = s.heap.objs.size + 1 -> (∀ c o,c ≠ z -> c ≠ TO -> c ≠ i1 -> c ≠ i2 -> s.heap.get? c = some o -> h'.get? c = some o) -> Q (some (.ref s.heap.objs.size)) { s with heap:=h' }) :
  wpAny (model prog w) A (pyNext (.ref z)) Q E s:=by
 have D:=B.D
 rcases Z.st with ⟨hz,a,b,L3⟩ | ⟨a,f,oa,hz,ha,hSa⟩
 ·refine wpAny_pyNext_zip_item D hz Z.ti L3 Z.w1 Z.w2 Z.q1 Z.q2 hx hy fun h' z1 o1 a1 b1 t1 Qq k1=>hQ h' ?_ t1 Qq k1
  exact ⟨.inr ⟨s.heap.objs.size,false,_,z1,t1,hS⟩,k1 _ _ D.TIz D.TITO D.TIi1 D.TIi2 Z.ti,a1,b1,Z.q1.at fun o e=>k1 _ o D.l1z D.l1TO D.l1i1 D.l1i2 e,Z.q2.at fun o e=>k1 _ o D.l2z D.l2TO D.l2i1 D.l2i2 e⟩
 ·refine nZ D hz ha Z.ti Z.w1 Z.w2 Z.q1 Z.q2 hx hy fun h' z1 a1 b1 t1 Qq k1=>hQ h' ?_ t1 Qq fun c o c1 _ c3 c4 e=>k1 c o c1 c3 c4 e
  have n:∀ {b},b < S -> a ≠ b:=fun h=>Nat.ne_of_gt (Nat.lt_trans h hSa)
  exact ⟨.inr ⟨a,true,oa,z1,k1 _ _ (n B.z) (n B.i1) (n B.i2) ha,hSa⟩,k1 _ _ D.TIz D.TIi1 D.TIi2 Z.ti,a1,b1,Z.q1.at fun o e=>k1 _ o D.l1z D.l1i1 D.l1i2 e,Z.q2.at fun o e=>k1 _ o D.l2z D.l2i1 D.l2i2 e⟩
theorem DT {Q:Option Value -> Shared -> Prop} (hh:A.handled = none) (B:Below z TI TO i1 i2 l1 l2 S) (Z:Zl s.heap z TI TO i1 i2 l1 l2 S xs ys i) (vo:xs[i]? = none \/ ys[i]? = none)
  (hQ:∀ h',(∀ c o,c ≠ z -> c ≠ TO -> c ≠ i1 -> c ≠ i2 -> s.heap.get? c = some o -> h'.get? c = some o) -> Q none { s with heap:=h' }):wpAny (model prog w) A (pyNext (.ref z)) Q E s:=by
 have D:=B.D
 rcases Z.st with ⟨hz,a,b,L3⟩ | ⟨a,f,oa,hz,ha,hSa⟩
 ·exact wpAny_pyNext_zip_end hh D hz Z.ti L3 Z.w1 Z.w2 Z.q1 Z.q2 vo hQ
 ·exact qg hh D hz ha Z.ti Z.w1 Z.w2 Z.q1 Z.q2 vo fun h' k=>hQ h' fun c o c1 _ c3 c4 e=>k c o c1 c3 c4 e
end
structure Qd (xs ys:Array Value) (lo:Addr) (h:Heap) (as:List Addr):Prop where
 above:∀ a ∈ as,lo < a
 nd:as.Nodup
 pairs:∀ (j:Nat) (a:Addr),as[j]? = some a -> ∃ x y,xs[j]? = some x /\ ys[j]? = some y /\ IsPair h a x y
section
variable {prog:Program} {w:World} {A:Around} {s:Shared} {R:Result -> Shared -> Prop} {z TI TO i1 i2 l1 l2 S:Addr} {xs ys:Array Value}
theorem DP (hh:A.handled = none) (B:Below z TI TO i1 i2 l1 l2 S) (hn:min xs.size ys.size <= sizeLine) (res:Value) {h₁:Heap}
  (hR:∀ h' tk acc c as,(∀ b o,b ≠ S -> b ≠ z -> b ≠ TO -> b ≠ i1 -> b ≠ i2 -> h₁.get? b = some o -> h'.get? b = some o) -> h'.get? S = some { cls:=.type "list",dict:=none,data:=.seq acc c,slots:=#[] } -> as.length = min xs.size ys.size -> Qd xs ys S h' as ->
   acc.toList = as.map Value.ref -> R (.ok (.ret res)) { s with heap:=h',toks:=tk }) :
  ∀ (k i:Nat) (h:Heap) (tk c:Nat) (acc:Array Value) (as:List Addr),min xs.size ys.size - i = k -> i <= min xs.size ys.size -> Zl h z TI TO i1 i2 l1 l2 S xs ys i -> (∀ b o,b ≠ S -> b ≠ z -> b ≠ TO -> b ≠ i1 -> b ≠ i2 -> h₁.get? b = some o -> h.get? b = some o) ->
   h.get? S = some { cls:=.type "list",dict:=none,data:=.seq acc c,slots:=#[] } -> acc.toList = as.map Value.ref -> as.length = i -> Qd xs ys S h as ->
   codeAny (model prog w) A (.builtin "list.extend.loop" ⟨[.ref S,.ref z,res],[]⟩) R { s with heap:=h,toks:=tk }:=by
 have nz:S ≠ z:=Nat.ne_of_gt B.z
 have nO:S ≠ TO:=Nat.ne_of_gt B.TO
 have n1:S ≠ i1:=Nat.ne_of_gt B.i1
 have n2:S ≠ i2:=Nat.ne_of_gt B.i2
 have Z_:∀ {a:Addr},S < a -> a ≠ z /\ a ≠ TO /\ a ≠ i1 /\ a ≠ i2:=fun h=>⟨Nat.ne_of_gt (Nat.lt_trans B.z h),Nat.ne_of_gt (Nat.lt_trans B.TO h),Nat.ne_of_gt (Nat.lt_trans B.i1 h),Nat.ne_of_gt (Nat.lt_trans B.i2 h)⟩
 intro k
 induction k with
 | zero =>
  intro i h tk c acc as hk hi Z CF hS fg OH hG
  refine codeAny_builtin PySem.F.entry_extend_loop ?_
  rw [Around.under_plainId PySem.F.plain_extend_loop _]
  show wpAny _ A.in1 (pyNext (.ref z) >>= _) _ _ _
  have vo:xs[i]? = none \/ ys[i]? = none:=by
   rcases Nat.le_total xs.size ys.size with q | q
   ·exact .inl (Array.getElem?_eq_none (by omega))
   ·exact .inr (Array.getElem?_eq_none (by omega))
  refine wpAny_bind (DT (s:={ s with heap:=h,toks:=tk }) (A:=A.in1) hh B Z vo fun h' he=>?_)
  refine wpAny_pure (hR h' tk acc c as (fun b o h1 h2 h3 h4 h5 e=>he b o h2 h3 h4 h5 (CF b o h1 h2 h3 h4 h5 e)) (he S _ nz nO n1 n2 hS) (by omega) ⟨hG.above,hG.nd,fun j a hj=>?_⟩ fg)
  obtain ⟨x,y,e1,e2,e3⟩:=hG.pairs j a hj
  obtain ⟨a1,a2,a3,a4⟩:=Z_ (hG.above a (List.mem_of_getElem? hj))
  exact ⟨x,y,e1,e2,he a _ a1 a2 a3 a4 e3⟩
 | succ k ih =>
  intro i h tk c acc as hk hi Z CF hS fg OH hG
  have i4:i < min xs.size ys.size:=by omega
  have hx:xs[i]? = some (xs[i]'(by omega)):=Array.getElem?_eq_getElem _
  have hy:ys[i]? = some (ys[i]'(by omega)):=Array.getElem?_eq_getElem _
  have hsz:acc.size = i:=by rw [<- Array.length_toList,fg,List.length_map,OH]
  have WO:S < h.objs.size:=Heap.lt_size hS
  refine codeAny_builtin PySem.F.entry_extend_loop ?_
  rw [Around.under_plainId PySem.F.plain_extend_loop _]
  show wpAny _ A.in1 (pyNext (.ref z) >>= _) _ _ _
  refine wpAny_bind (DQ (s:={ s with heap:=h,toks:=tk }) B Z WO hx hy fun h' Z' ht hz LY=>?_)
  dsimp only at ht hz LY ⊢
  have Aw:=LY S _ nz nO n1 n2 hS
  have up:∀ b o,b ≠ S -> h'.get? b = some o -> (h'.update S (Obj.mapSeq (·.push (Value.ref h.objs.size)))).get? b = some o:=fun b o hb e=>(Heap.get?_update_other _ _ (Ne.symm hb)).trans e
  show wpAny _ A.in1 (updateSeq S (·.push (Value.ref h.objs.size)) >>= _) _ _ _
  refine wpAny_bind ?_
  refine wpAny_updateSeq Aw rfl (wpAny_pure ⟨plainId_quiet PySem.F.plain_extend_loop _,ih (i + 1) _ tk _ (acc.push (Value.ref h.objs.size)) (as ++ [h.objs.size]) (by omega) i4 (Z'.keep B up)
   (fun b o h1 h2 h3 h4 h5 e=>up b o h1 (LY b o h2 h3 h4 h5 (CF b o h1 h2 h3 h4 h5 e))) (Heap.get?_update_self _ Aw rfl) (by rw [Array.toList_push,fg,List.map_append];rfl) (by rw [List.length_append,OH];rfl) ⟨?_,?_,?_⟩⟩) (by rw [hsz];omega) (by show (acc.push (Value.ref h.objs.size)).size <= sizeLine + 1;rw [Array.size_push,hsz];omega)
  ·intro a ha
   rcases List.mem_append.mp ha with ha | ha
   ·exact hG.above a ha
   ·rw [List.mem_singleton.mp ha];exact WO
  ·refine List.nodup_append.mpr ⟨hG.nd,List.nodup_cons.mpr ⟨List.not_mem_nil,List.nodup_nil⟩,fun a ha b hb e=>?_⟩
   rw [List.mem_singleton.mp hb] at e
   subst e
   obtain ⟨j,hj⟩:=List.mem_iff_getElem?.mp ha
   obtain ⟨_,_,_,_,e⟩:=hG.pairs j _ hj
   exact absurd (Heap.lt_size e) (Nat.lt_irrefl _)
  ·intro j b hj
   rcases Nat.lt_trichotomy j as.length with q | q | q
   ·rw [List.getElem?_append_left q] at hj
    obtain ⟨x',y',e1,e2,e3⟩:=hG.pairs j b hj
    have hb:=hG.above b (List.mem_of_getElem? hj)
    obtain ⟨a1,a2,a3,a4⟩:=Z_ hb
    exact ⟨x',y',e1,e2,up b _ (Nat.ne_of_gt hb) (LY b _ a1 a2 a3 a4 e3)⟩
   ·subst q
    have hb:h.objs.size = b:=by simpa using hj
    subst hb
    exact ⟨_,_,by rw [OH];exact hx,by rw [OH];exact hy,up _ _ (Nat.ne_of_gt WO) ht⟩
   ·have Of:(as ++ [h.objs.size])[j]? = none:=List.getElem?_eq_none (by rw [List.length_append,List.length_singleton];omega)
    rw [Of] at hj;cases hj
theorem zD (hh:A.handled = none) (B:Below z TI TO i1 i2 l1 l2 S) (hn:min xs.size ys.size <= sizeLine) (Z:Zl s.heap z TI TO i1 i2 l1 l2 S xs ys 0) (LP:IsZip s.heap z TI TO .none) (res:Value) (c₀:Nat) (hS:s.heap.get? S = some { cls:=.type "list",data:=.seq #[] c₀ })
  (hR:∀ h' tk acc c as,(∀ b o,b ≠ S -> b ≠ z -> b ≠ TO -> b ≠ i1 -> b ≠ i2 -> s.heap.get? b = some o -> h'.get? b = some o) -> h'.get? S = some { cls:=.type "list",dict:=none,data:=.seq acc c,slots:=#[] } -> as.length = min xs.size ys.size -> Qd xs ys S h' as ->
   acc.toList = as.map Value.ref -> R (.ok (.ret res)) { s with heap:=h',toks:=tk }) :
  wpAny (model prog w) A.in1 (Builtin.List.listExtendWith (.ref S) (.ref z) res)
   (fun fin s'=>match fin with | .done f=>R (.ok f) s' | .again c'=>c'.quiet = true /\ codeAny (model prog w) A c' R s') (fun e s'=>R (.error e) s') s:=by
 have hSz:S ≠ z:=Nat.ne_of_gt B.z
 have hT:s.TypeIs (.ref z) "zip":=⟨_,LP,rfl⟩
 unfold Builtin.List.listExtendWith
 refine wpAny_bind (wpAny_typeOf (T:="zip") hT ?_)
 have h1:Builtin.List.listSameRef (.ref S) (.ref z) = false:=by simp [Builtin.List.listSameRef,hSz]
 have h2:(Value.type "zip" == Value.type "list") = false:=by decide
 have h3:(Value.type "zip" == Value.type "tuple") = false:=by decide
 simp only [h1,h2,h3,Bool.or_false,Bool.false_eq_true,if_false]
 refine wpAny_bind (wpAny_pyIter_zip LP ?_)
 refine wpAny_bind (wpAny_holding (DS hT ?_))
 refine wpAny_ite_split (fun _=>?_) (fun xh=>absurd rfl xh)
 refine wpAny_bind (wpAny_rule ?_)
 refine wpAny_bind ?_
 show wpAny _ _ (updateSeq S (·.push .none) >>= fun _=>updateSeq S (·.pop)) _ _ _
 refine wpAny_bind (wpAny_updateSeq hS rfl ?_)
 have yI:=Heap.get?_update_self (Obj.mapSeq (·.push Value.none)) hS rfl
 refine wpAny_updateSeq (hz:=by seq_fits) yI rfl ?_
 have OJ:=Heap.get?_update_self (Obj.mapSeq (·.pop)) yI rfl
 have LD:∀ b o,b ≠ S -> s.heap.get? b = some o -> ((s.heap.update S (Obj.mapSeq (·.push Value.none))).update S (Obj.mapSeq (·.pop))).get? b = some o:=fun b o hb e=>(Heap.get?_update_other _ _ (Ne.symm hb)).trans ((Heap.get?_update_other _ _ (Ne.symm hb)).trans e)
 refine wpAny_pure ⟨plainId_quiet PySem.F.plain_extend_loop _,?_⟩
 exact DP hh B hn res (s:=s) (h₁:=s.heap) hR (min xs.size ys.size) 0 _ s.toks _ #[] [] (Nat.sub_zero _) (Nat.zero_le _) (Z.keep B LD) (fun b o h1 _ _ _ _ e=>LD b o h1 e) OJ rfl rfl ⟨(fun _ ha=>nomatch ha),List.nodup_nil,fun j a hj=>by simp at hj⟩
theorem DR (hh:A.handled = none) (B:Below z TI TO i1 i2 l1 l2 S) (hn:min xs.size ys.size <= sizeLine) (Z:Zl s.heap z TI TO i1 i2 l1 l2 S xs ys 0) (LP:IsZip s.heap z TI TO .none) (hS:s.heap.get? S = some { cls:=.type "list",data:=.seq #[] })
  (hR:∀ h' tk acc c as,(∀ b o,b ≠ S -> b ≠ z -> b ≠ TO -> b ≠ i1 -> b ≠ i2 -> s.heap.get? b = some o -> h'.get? b = some o) -> h'.get? S = some { cls:=.type "list",dict:=none,data:=.seq acc c,slots:=#[] } -> as.length = min xs.size ys.size -> Qd xs ys S h' as ->
   acc.toList = as.map Value.ref -> R (.ok (.ret .none)) { s with heap:=h',toks:=tk }) :
  wpAny (model prog w) A.in1 (Builtin.«list.__init__» ⟨[.ref S,.ref z],[]⟩)
   (fun fin s'=>match fin with | .done f=>R (.ok f) s' | .again c'=>c'.quiet = true /\ codeAny (model prog w) A c' R s') (fun e s'=>R (.error e) s') s:=by
 show wpAny _ _ (do let old <- Builtin.List.listItems (.ref S);Builtin.List.listUpdate (.ref S) (fun _=>#[]);letGo old.toList.reverse;Builtin.List.listExtendWith (.ref S) (.ref z) .none) _ _ s
 refine wpAny_bind ?_
 unfold Builtin.List.listItems
 refine wpAny_bind (wpAny_seqItems hS rfl (wpAny_pure ?_))
 show wpAny _ _ (updateSeq S (fun _=>#[]) >>= fun _=>letGo (#[]:Array Value).toList.reverse >>= fun _=>Builtin.List.listExtendWith (.ref S) (.ref z) .none) _ _ s
 refine wpAny_bind (wpAny_updateSeq hS rfl ?_)
 have yI:=Heap.get?_update_self (Obj.mapSeq (fun _=>(#[]:Array Value))) hS rfl
 have LD:∀ b o,b ≠ S -> s.heap.get? b = some o -> (s.heap.update S (Obj.mapSeq (fun _=>(#[]:Array Value)))).get? b = some o :=
  fun b o hb e=>(Heap.get?_update_other _ _ (Ne.symm hb)).trans e
 refine wpAny_bind (wpAny_letGo ?_)
 refine zD hh B hn (Z.keep B LD) (LD _ _ (Nat.ne_of_lt B.z) LP) .none _ yI fun h' tk acc c as hk Aw hl hG fg=>?_
 exact hR h' tk acc c as (fun b o h1 h2 h3 h4 h5 e=>hk b o h1 h2 h3 h4 h5 (LD b o h1 e)) Aw hl hG fg
end
section
variable {prog:Program} {w:World} {A:Around} {E:Value -> Shared -> Prop} {s:Shared} {z TI TO i1 i2 l1 l2:Addr} {xs ys:Array Value}
theorem DU {Q:Value -> Shared -> Prop} (hh:A.handled = none) (D:ZipApart z TI TO i1 i2 l1 l2) (hn:min xs.size ys.size <= sizeLine) (hz:IsZip s.heap z TI TO .none) (DL:IsPair s.heap TI (.ref i1) (.ref i2)) {a b:Value} (L3:IsPair s.heap TO a b) (h1:s.heap.IsListIter i1 l1 0) (h2:s.heap.IsListIter i2 l2 0) (q1:s.heap.IsList l1 xs) (q2:s.heap.IsList l2 ys)
  (hQ:∀ h' tk acc c as,(∀ b o,b ≠ z -> b ≠ TO -> b ≠ i1 -> b ≠ i2 -> s.heap.get? b = some o -> h'.get? b = some o) -> h'.get? s.heap.objs.size = some { cls:=.type "list",dict:=none,data:=.seq acc c,slots:=#[] } -> as.length = min xs.size ys.size -> Qd xs ys s.heap.objs.size h' as ->
   acc.toList = as.map Value.ref -> Q (.ref s.heap.objs.size) { s with heap:=h',toks:=tk }) :
  wpAny (model prog w) A (call (.type "list") [.ref z]) Q E s:=by
 refine callType_codes (Q₁:=fun obj s₁=>obj = .ref s.heap.objs.size /\ s₁ = { s with heap:=s.heap.push { cls:=.type "list",data:=.seq #[] } }) PySem.F.called_list (PySem.F.typeCall_list_1 _) PySem.F.entry_list_init
  (code_list_new _ ⟨rfl,rfl⟩) fun obj s₁ h₁=>?_
 obtain ⟨rfl,rfl⟩:=h₁
 have hS:(s.heap.push { cls:=.type "list",data:=.seq #[] }).get? s.heap.objs.size = some { cls:=.type "list",data:=.seq #[] }:=Heap.get?_push_size _ rfl
 have up:∀ b o,s.heap.get? b = some o -> (s.heap.push { cls:=.type "list",data:=.seq #[] }).get? b = some o:=fun b o e=>Heap.get?_push_of_some _ e
 have B:Below z TI TO i1 i2 l1 l2 s.heap.objs.size:=⟨D,Heap.lt_size hz,Heap.lt_size DL,Heap.lt_size L3,(by obtain ⟨_,e,_⟩:=h1;exact Heap.lt_size e),(by obtain ⟨_,e,_⟩:=h2;exact Heap.lt_size e),(by obtain ⟨_,e,_⟩:=q1;exact Heap.lt_size e),(by obtain ⟨_,e,_⟩:=q2;exact Heap.lt_size e)⟩
 refine ⟨⟨_,hS,rfl⟩,PySem.F.args_list_init_2 _ _,DR (A:=A.in1) hh B hn ⟨.inl ⟨up _ _ hz,a,b,up _ _ L3⟩,up _ _ DL,h1.at fun o e=>up _ o e,h2.at fun o e=>up _ o e,q1.at fun o e=>up _ o e,q2.at fun o e=>up _ o e⟩ (up _ _ hz) hS fun h' tk acc c as hk Aw hl hG fg=>?_⟩
 exact ⟨rfl,hQ h' tk acc c as (fun b o h2 h3 h4 h5 e=>hk b o (Nat.ne_of_lt (Heap.lt_size e)) h2 h3 h4 h5 (up b o e)) Aw hl hG fg⟩
end
end DI
end
section
namespace DI
open PySem PySem.Spec PyProof.Rows L2
theorem Inv.NR {X:Cx} {pins:List (Addr × Obj)} {σ:St} {H H':Hp} {s:Shared} {h':Heap} {t':Nat} (I:Inv X pins σ H s) (k:∀ b u,s.heap.get? b = some u -> h'.get? b = some u) (up:∀ b u,H b = some u -> H' b = some u)
  (nw:∀ b u,H' b = some u -> H b = some u \/ (s.heap.objs.size <= b /\ cN X.prog X.w H' h' b u)):Inv X pins σ H' { s with heap:=h',toks:=t' }:=by
 refine I.step (g':=s.gens) (d':=s.drawn) (ch:=[]) (fun b hb=>nomatch hb) (fun b o _ _ _ e _=>k b o e) (fun b o _ _ _ e _=>⟨o.slots,k b o e⟩) (fun b u _ e n=>?_)
  (fun b o _ e=>⟨o,k b o e⟩) (fun _ _ e=>up _ _ e) (fun _ _ _ e=>up _ _ e) (fun b ps e=>⟨#[],by rw [up _ _ e];simp⟩) (fun m hm=>?_) (fun b u e=>?_) I.bare
 ·cases q:H' b with
  | none=>rfl
  | some v =>
   rcases nw b v q with z | ⟨z,_⟩
   ·rw [n] at z;cases z
   ·exact absurd (Heap.lt_size e) (Nat.not_lt.mpr z)
 ·obtain ⟨o,es,ep,ho,r⟩:=hm
  exact ⟨o,es,ep,k _ o ho,r⟩
 ·rcases nw b u e with e | ⟨_,e⟩
  ·exact (I.dq b u e).kP (fun c v _ q=>k c v q) (fun _ q=>up _ _ q) fun _ _ q=>up _ _ q
  ·exact e
def qx (H:Hp):List (Addr × V × V) -> Hp
 | []=>H
 | q :: r=>upd (qx H r) q.1 (.tup [q.2.1,q.2.2])
theorem kY {H:Hp} {b:Addr} {u:HO} (e:H b = some u):∀ {r:List (Addr × V × V)},(∀ q ∈ r,H q.1 = none) -> qx H r b = some u
 | [],_=>e
 | q :: r,h=>by
  have hn:b ≠ q.1:=fun z=>by rw [z,h q List.mem_cons_self] at e;cases e
  show upd (qx H r) q.1 _ b = _
  rw [aD hn]
  exact kY e fun q hq=>h q (List.mem_cons_of_mem _ hq)
theorem yD {H:Hp}:∀ {r:List (Addr × V × V)},(r.map (·.1)).Nodup -> ∀ q ∈ r,qx H r q.1 = some (.tup [q.2.1,q.2.2])
 | [],_,_,h=>nomatch h
 | q' :: r,hn,q,h=>by
  show upd (qx H r) q'.1 _ q.1 = _
  have A4:=List.nodup_cons.mp hn
  rcases List.mem_cons.mp h with rfl | h
  ·exact aK
  ·have:q.1 ≠ q'.1:=fun z=>A4.1 (by show q'.1 ∈ _;rw [<- z];exact List.mem_map_of_mem h)
   rw [aD this]
   exact yD A4.2 q h
theorem vh {H:Hp} {b:Addr} {u:HO}:∀ {r:List (Addr × V × V)},qx H r b = some u -> H b = some u \/ ∃ q ∈ r,q.1 = b /\ u = .tup [q.2.1,q.2.2]
 | [],e=>.inl e
 | q :: r,e=>by
  replace e:upd (qx H r) q.1 (.tup [q.2.1,q.2.2]) b = some u:=e
  by_cases z:b = q.1
  ·subst z
   rw [aK] at e
   cases e
   exact .inr ⟨q,List.mem_cons_self,rfl,rfl⟩
  ·rw [aD z] at e
   rcases vh e with h | ⟨q',h1,h2⟩
   ·exact .inl h
   ·exact .inr ⟨q',List.mem_cons_of_mem _ h1,h2⟩
def tLZ (K:PySem.W.Frag) (ta:TA):TE:=fun σ H Q=>ta σ H fun vs H1=>∃ a b xs ys,vs = [.ref a,.ref b] /\ dY K H1 a xs /\ dY K H1 b ys /\
 ∀ (l:Addr) (r:List (Addr × V × V)),H1 l = none -> (∀ q ∈ r,H1 q.1 = none) -> (r.map (·.1)).Nodup -> l ∉ r.map (·.1) -> r.map (·.2) = xs.zip ys -> Q (.ref l) (upd (qx H1 r) l (.lst (r.map fun q=>V.ref q.1)))
theorem EF {X:Cx} {e1 e2:Expr} {ta:TA} {p pos p' pos':Pos} (hc:X.calm = true) (Om:Gl X "list") (Wx:X.mg "list" = none) (hg:Gl X "zip") (hm:X.mg "zip" = none) (ha:PA X [e1,e2] ta) (hs:∀ es,starEach (e1 :: es) X.env = (false,eval e1 X.env) :: starEach es X.env) (LR:∀ es,starEach (e2 :: es) X.env = (false,eval e2 X.env) :: starEach es X.env) :
  PE X (.Call (.Name "list" p') [.Call (.Name "zip" p) [e1,e2] [] pos] [] pos') (tLZ X.K ta):=by
 intro pins s σ H Q I h
 refine wpAny_Call_Name_kw (eW I Om Wx boot_list ?_)
 refine PyProof.Rows.callWith_type1 ?_
 show wpAny _ _ (spliced ((false,eval (.Call (.Name "zip" p) [e1,e2] [] pos) X.env) :: backTo pos' (starEach [] X.env))) _ _ s
 refine Calls.spliced_cons ?_
 refine Call_ (eW I hg hm boot_zip (PyProof.Rows.callWith_type1 (di (ha pos pins s σ H _ I h) fun us s1 ⟨vs,H1,I1,r1,q1⟩=>?_) (hs _) (by rw [LR];rfl)))
 obtain ⟨a,b,xs,ys,e,q1,q2,hq⟩:=q1
 subst e
 obtain ⟨u,v,rfl,ru,rv⟩:=vals2 r1
 cases ru
 cases rv
 obtain ⟨aj,rx,p1,hz1⟩:=I1.list q1
 obtain ⟨its',ry,p2,QQ⟩:=I1.list q2
 refine call_zip_2 p1.isList p2.isList fun h' z t o l1 l2 sz k=>Calls.spliced_nil ?_
 have DJ:h'.IsList a aj.toArray:=p1.isList.at fun o e=>k _ o e
 have Ao:h'.IsList b its'.toArray:=p2.isList.at fun o e=>k _ o e
 have cls:∀ {x y:Addr} {o u:Obj},h'.get? x = some o -> h'.get? y = some u -> o.cls ≠ u.cls -> x ≠ y:=fun h1 h2 h3=>dc h1 h2 h3
 have al:@LT.lt Nat _ a s1.heap.objs.size:=by obtain ⟨_,e,_⟩:=p1.isList;exact Heap.lt_size e
 have bl:@LT.lt Nat _ b s1.heap.objs.size:=by obtain ⟨_,e,_⟩:=p2.isList;exact Heap.lt_size e
 have D:ZipApart (s1.heap.objs.size + 4) (s1.heap.objs.size + 2) (s1.heap.objs.size + 3) s1.heap.objs.size (s1.heap.objs.size + 1) a b:=by
  constructor <;> first | exact Nat.ne_of_lt (by omega) | exact Nat.ne_of_gt (by omega)
 have lx:=rx.length
 have ly:=ry.length
 have hn:min aj.toArray.size its'.toArray.size <= sizeLine:=by simp;omega
 refine DU (s:={ s1 with heap:=h' }) (I1.ok.hd hc) D hn z t o l1 l2 DJ Ao fun h'' tk acc c as hk hS hl hG fg=>?_
 dsimp only at hk hS hG ⊢
 have hlen:as.length = (xs.zip ys).length:=by rw [hl,List.length_zip];simp;omega
 have keep:∀ b o,s1.heap.get? b = some o -> h''.get? b = some o:=fun b o e=>by
  have:@LT.lt Nat _ b s1.heap.objs.size:=Heap.lt_size e
  exact hk b o (Nat.ne_of_lt (by omega)) (Nat.ne_of_lt (by omega)) (Nat.ne_of_lt (by omega)) (Nat.ne_of_lt (by omega)) (k b o e)
 have fresh:∀ c,s1.heap.objs.size <= c -> H1 c = none:=fun c h=>I1.dq.fresh h
 have hS5:h'.objs.size = s1.heap.objs.size + 5:=sz
 let r:List (Addr × V × V):=as.zip (xs.zip ys)
 have r1:r.map (·.1) = as:=List.map_fst_zip (by omega)
 have r2:r.map (·.2) = xs.zip ys:=List.map_snd_zip (by omega)
 have xh:∀ c ∈ as,@LT.lt Nat _ h'.objs.size c:=hG.above
 have Wj:∀ q ∈ r,H1 q.1 = none:=fun q hq=>fresh _ (by have:=xh q.1 (by rw [<- r1];exact List.mem_map_of_mem hq);omega)
 have LX:H1 h'.objs.size = none:=fresh _ (by omega)
 have JZ:h'.objs.size ∉ r.map (·.1):=by rw [r1];exact fun z=>absurd (xh _ z) (Nat.lt_irrefl _)
 have DH:(r.map (·.1)).Nodup:=by rw [r1];exact hG.nd
 have CD:(as.map V.ref) = r.map fun q=>V.ref q.1:=by rw [<- r1,List.map_map];rfl
 refine ⟨.ref h'.objs.size,upd (qx H1 r) h'.objs.size (.lst (r.map fun q=>V.ref q.1)),?_,rfl,hq _ r LX Wj DH JZ r2⟩
 refine Inv.NR (s:=s1) (t':=tk) I1 keep (fun b u e=>?_) fun b u e=>?_
 ·rw [aD fun z=>by rw [z,LX] at e;cases e]
  exact kY e Wj
 ·by_cases zb:b = h'.objs.size
  ·subst zb
   rw [aK] at e
   cases e
   refine .inr ⟨by omega,?_,acc.toList,c,?_,by rw [Array.toArray_toList];exact hS⟩
   ·rw [<- CD,List.length_map,hlen,List.length_zip];omega
   ·rw [<- CD,fg]
    clear fg CD hG hl hlen r1 xh DH r r2 Wj JZ hS hk keep
    induction as with
    | nil=>exact .nil
    | cons a as ih=>exact .cons rfl ih
  ·rw [aD zb] at e
   rcases vh e with e | ⟨q,hq,rfl,rfl⟩
   ·exact .inl e
   ·have hm:q.1 ∈ as:=by rw [<- r1];exact List.mem_map_of_mem hq
    refine .inr ⟨by have:=xh _ hm;omega,?_⟩
    obtain ⟨j,hj⟩:=List.mem_iff_getElem?.mp hq
    have WB:as[j]? = some q.1 /\ (xs.zip ys)[j]? = some q.2:=by
     have:=List.getElem?_zip_eq_some.mp hj
     exact this
    obtain ⟨x,y,ex,ey,hp⟩:=hG.pairs j q.1 WB.1
    obtain ⟨e1,e2⟩:xs[j]? = some q.2.1 /\ ys[j]? = some q.2.2:=List.getElem?_zip_eq_some.mp WB.2
    obtain ⟨u1,Wg,SE⟩:=rx.get e1
    obtain ⟨u2,hu2,SD⟩:=ry.get e2
    rw [List.getElem?_toArray,Wg] at ex
    rw [List.getElem?_toArray,hu2] at ey
    cases ex
    cases ey
    exact xZ SE SD hp
end DI
end
section
namespace DI
open PySem PySem.Spec PyProof.Rows L2
def pairD (x y:D):D:=.tup [x,y]
def Jq (xs:List D):O D:=match two xs with
 | some z=>match z.1 with
  | .lst _ a=>match z.2 with
   | .lst _ b=>ok (.lst .ow (ah ba (List.zipWith pairD a b)))
   | _=>none
  | _=>none
 | none=>none
theorem Jp {x y d:D} (h:Jq [x,y] = ok d):∃ f a g b,x = .lst f a /\ y = .lst g b /\ d = .lst .ow (ah ba (List.zipWith pairD a b)):=by
 cases x <;> first | (cases h;done) | skip
 cases y <;> first | (cases h;done) | skip
 cases h
 exact ⟨_,_,_,_,rfl,rfl,rfl⟩
def zo (sc:Scope) (bl:List Str) (e:Expr):Option (List Expr):=match eA e with
 | some z=>match one z.2 with
  | some i=>if z.1 = ("list" : Str) /\ g_ sc z.1 = true /\ z.1 ∈ bl then jo sc bl i else none
  | none=>none
 | none=>none
theorem Dp {sc:Scope} {bl:List Str} {e:Expr} {args:List Expr} (h:zo sc bl e = some args):∃ p pos i,e = .Call (.Name ("list" : Str) p) [i] [] pos /\ g_ sc ("list" : Str) = true /\ ("list" : Str) ∈ bl /\ jo sc bl i = some args:=by
 unfold zo at h
 cases hv:eA e with
 | none=>rw [hv] at h;cases h
 | some z =>
  obtain ⟨x,as⟩:=z
  rw [hv] at h
  obtain ⟨p,pos,rfl⟩:=cQ hv
  have h2:(match one as with | some i=>if x = ("list" : Str) /\ g_ sc x = true /\ x ∈ bl then jo sc bl i else none | none=>none) = some args:=h
  clear h
  cases hw:one as with
  | none=>rw [hw] at h2;cases h2
  | some a =>
   rw [hw] at h2
   have h3:(if x = ("list" : Str) /\ g_ sc x = true /\ x ∈ bl then jo sc bl a else none) = some args:=h2
   clear h2
   obtain rfl:=cm hw
   by_cases hc:x = ("list" : Str) /\ g_ sc x = true /\ x ∈ bl
   ·rw [if_pos hc] at h3
    obtain ⟨rfl,h1,h2⟩:=hc
    exact ⟨_,_,_,rfl,h1,h2,h3⟩
   ·rw [if_neg hc] at h3;cases h3
theorem uU {T:jZ} {N:i3} (hN:∀ k k' p xs f,N k p xs f -> N k' p xs f):∀ {r:List (Addr × V × V)} {xs ys:List V} {a b:List D} {k1 k2 k:aI} {n1 n2 n:Nat},af T N k1 n1 xs a -> af T N k2 n2 ys b -> r.map (·.2) = xs.zip ys -> (∀ q ∈ r,T q.1 [q.2.1,q.2.2]) -> af T N k n (r.map fun q=>V.ref q.1) (List.zipWith pairD a b)
 | [],xs,ys,a,b,_,_,_,_,_,_,r1,r2,e,_=>by
  have l1:=r1.length
  have l2:=r2.length
  have e':=congrArg List.length e
  rw [List.length_zip] at e'
  have:List.zipWith pairD a b = []:=List.eq_nil_of_length_eq_zero (by rw [List.length_zipWith];simp at e';omega)
  rw [this]
  exact .nil
 | q :: r,xs,ys,a,b,k1,k2,k,n1,n2,n,r1,r2,e,ht=>by
  cases r1 with
  | nil=>cases e
  | cons h1 t1=>cases r2 with
   | nil=>cases e
   | cons h2 t2 =>
    have e1:q.2 = (_,_):=(List.cons.inj e).1
    have e2:=(List.cons.inj e).2
    refine .cons (.tup (ht q List.mem_cons_self) ?_) (uU hN t1 t2 e2 fun q hq=>ht q (List.mem_cons_of_mem _ hq))
    rw [e1]
    have m1:=Rep.jd (T':=T) (N':=N) (g:=id) (fun _ _ h=>h) hN h1 (0 :: n :: k)
    have m2:=Rep.jd (T':=T) (N':=N) (g:=id) (fun _ _ h=>h) hN h2 (1 :: n :: k)
    rw [eL] at m1 m2
    exact .cons m1 (.cons m2 .nil)
theorem eQ (g:Fl -> Fl):∀ a b:List D,ah g (List.zipWith pairD a b) = List.zipWith pairD (ah g a) (ah g b)
 | [],_=>by cases ‹List D› <;> rfl
 | _ :: _,[]=>rfl
 | x :: a,y :: b=>by
  show aC g (pairD x y) :: ah g (List.zipWith pairD a b) = _
  rw [eQ g a b];rfl
theorem NL {Φ:az} {n:Nat} (hΦ:Φ n = Jq) {X:Cx} {sc:Scope} {bl:List Str} {k:Nat} (L:PX X sc bl k) {e:Expr} {args:List Expr} (he:zo sc bl e = some args) {F:Addr -> Prop} {cs:List CE} (hs:qU X F Φ cs args):PE X e (tD X F Φ (.dt n cs)) /\ PT X e (hX X F Φ (.dt n cs)):=by
 obtain ⟨p,pos,i,rfl,h1,h2,hz⟩:=Dp he
 obtain ⟨p',pos',a,b,rfl,rfl,h3,h4⟩:=rX hz
 obtain ⟨⟨c,d,rfl,_,_⟩,pa,s1,s2⟩:=oH hs
 have this:PE X (.Call (.Name ("list" : Str) p) [.Call (.Name ("zip" : Str) p') [a,b] [] pos'] [] pos) (tD X F Φ (.dt n [c,d])):=by
  refine PE.imp (EF L.calm (L.gl h1) (L.bl _ h2) (L.gl h3) (L.bl _ h4) pa s1 s2) fun σ H Q hq=>?_
  obtain ⟨R,τ,ρ,d',Si,ev,hq⟩:=hq
  obtain ⟨xs,df,ev⟩:=ag ev
  rw [hΦ] at ev
  refine ⟨R,τ,ρ,xs,Si,df,fun vs H1 e1 r1=>?_⟩
  obtain ⟨τt,fr,rs⟩:=r1
  have hl:∃ x y,xs = [x,y]:=by
   unfold Jq at ev
   cases hw:two xs with
   | none=>rw [hw] at ev;cases ev
   | some z=>exact ⟨z.1,z.2,j9 hw⟩
  obtain ⟨x,y,rfl⟩:=hl
  obtain ⟨f,da,g,db,rfl,rfl,rfl⟩:=Jp ev
  obtain ⟨v,w,rfl,rx,ry⟩:=rs.two
  cases rx with
  | lst hx ax=>cases ry with
   | lst hy ay =>
    refine ⟨_,_,_,_,rfl,hx.sq,hy.sq,fun l r hl hr hn JZ hz=>hq _ _ ?_ ?_⟩
    ·intro b o e
     have e':=e1 b o e
     rw [aD fun z=>by rw [z,hl] at e';cases e']
     exact kY e' hr
    ·have sm:ak H1 (upd (qx H1 r) l (.lst (r.map fun q=>V.ref q.1))):=fun b o e=>by
      rw [aD fun z=>by rw [z,hl] at e;cases e]
      exact kY e hr
     refine bJ.sR (e1.free hl) (e1.trans sm) aK ?_
     rw [eQ]
     refine uU nd.pv ((ax.fb Si fr (k':=[]) (n':=0)).imp (fun _ _ h=>aG.same sm h) fun _ _ _ _ h=>nd.same sm h) ((ay.fb Si fr (k':=[]) (n':=0)).imp (fun _ _ h=>aG.same sm h) fun _ _ _ _ h=>nd.same sm h) hz fun q hq=>?_
     have yG:q.1 ≠ l:=fun z=>JZ (by rw [<- z];exact List.mem_map_of_mem hq)
     exact aG.of (by rw [aD yG];exact yD hn q hq)
 exact ⟨this,cV this fun _=>rfl⟩
end DI
end
section
namespace DI
open PySem PySem.Spec PyProof.Rows L2
def j8 (n:Int):List Int:=(List.range n.toNat).map fun (k:Nat)=>(k:Int)
def Ju (xs:List D):O D:=match one xs with
 | some x=>match x with
  | .int n=>if n <= eu /\ -eu <= n then ok (.lst .ow ((j8 n).map D.int)) else none
  | _=>none
 | none=>none
theorem Jt {xs:List D} {d:D} (h:Ju xs = ok d):∃ n:Int,xs = [.int n] /\ n <= eu /\ -eu <= n /\ d = .lst .ow ((j8 n).map D.int):=by
 unfold Ju at h
 cases hw:one xs with
 | none=>rw [hw] at h;cases h
 | some x =>
  obtain rfl:=cm hw
  rw [hw] at h
  cases x <;> first | (cases h;done) | skip
  rename_i n
  obtain ⟨⟨h1,h2⟩,h3⟩:=rL h
  exact ⟨n,rfl,h1,h2,h3.symm⟩
def zp (sc:Scope) (bl:List Str) (e:Expr):Option (List Expr):=match eA e with
 | some z=>match one z.2 with
  | some i=>if z.1 = ("list" : Str) /\ g_ sc z.1 = true /\ z.1 ∈ bl then jq ("range" : Str) sc bl i else none
  | none=>none
 | none=>none
theorem Dq {sc:Scope} {bl:List Str} {e:Expr} {args:List Expr} (h:zp sc bl e = some args):∃ p pos i,e = .Call (.Name ("list" : Str) p) [i] [] pos /\ g_ sc ("list" : Str) = true /\ ("list" : Str) ∈ bl /\ jq ("range" : Str) sc bl i = some args:=by
 unfold zp at h
 cases hv:eA e with
 | none=>rw [hv] at h;cases h
 | some z =>
  obtain ⟨x,as⟩:=z
  rw [hv] at h
  obtain ⟨p,pos,rfl⟩:=cQ hv
  have h2:(match one as with | some i=>if x = ("list" : Str) /\ g_ sc x = true /\ x ∈ bl then jq ("range" : Str) sc bl i else none | none=>none) = some args:=h
  clear h
  cases hw:one as with
  | none=>rw [hw] at h2;cases h2
  | some a =>
   rw [hw] at h2
   have h3:(if x = ("list" : Str) /\ g_ sc x = true /\ x ∈ bl then jq ("range" : Str) sc bl a else none) = some args:=h2
   clear h2
   obtain rfl:=cm hw
   by_cases hc:x = ("list" : Str) /\ g_ sc x = true /\ x ∈ bl
   ·rw [if_pos hc] at h3
    obtain ⟨rfl,h1,h2⟩:=hc
    exact ⟨_,_,_,rfl,h1,h2,h3⟩
   ·rw [if_neg hc] at h3;cases h3
def tLR (ta:TA):TE:=fun σ H Q=>ta σ H fun vs H1=>∃ n:Int,vs = [.int n] /\ n <= eu /\ -eu <= n /\ ∀ l,H1 l = none -> Q (.ref l) (upd H1 l (.lst ((j8 n).map V.int)))
theorem ft:∀ {ns:List Int} {us:List Value},us.length = ns.length -> (∀ (i:Nat) (u:Value),us[i]? = some u -> ∃ t,u = .int (ns.getD i 0) t) -> Vals (ns.map V.int) us
 | [],[],_,_=>.nil
 | [],_ :: _,h,_=>by simp at h
 | _ :: _,[],h,_=>by simp at h
 | n :: ns,u :: us,h,hu=>.cons (hu 0 u rfl) (ft (by simpa using h) fun i v hv=>hu (i + 1) v hv)
theorem zY {X:Cx} {e1:Expr} {ta:TA} {p pos p' pos':Pos} (hc:X.calm = true) (Om:Gl X "list") (Wx:X.mg "list" = none) (hg:Gl X "range") (hm:X.mg "range" = none) (ha:PA X [e1] ta) (hs:starEach [e1] X.env = [(false,eval e1 X.env)]) :
  PE X (.Call (.Name "list" p') [.Call (.Name "range" p) [e1] [] pos] [] pos') (tLR ta):=by
 intro pins s σ H Q I h
 refine wpAny_Call_Name_kw (eW I Om Wx boot_list ?_)
 refine PyProof.Rows.callWith_type1 ?_
 show wpAny _ _ (spliced ((false,eval (.Call (.Name "range" p) [e1] [] pos) X.env) :: backTo pos' (starEach [] X.env))) _ _ s
 refine Calls.spliced_cons ?_
 refine Call_ (eW I hg hm boot_range (PyProof.Rows.callWith_type1 (di (ha pos pins s σ H _ I h) fun us s1 ⟨vs,H1,I1,r1,q1⟩=>?_) hs rfl))
 obtain ⟨n,e,n1,n2,hq⟩:=q1
 subst e
 have n1':n <= 1000000:=n1
 have n2':-1000000 <= n:=n2
 cases r1 with
 | cons r rr =>
  cases rr
  obtain ⟨t,rfl⟩:=r
  refine call_range_1 (Calls.spliced_nil ?_)
  have e2:Builtin.Range.rangeSize 0 n 1 = ((n.toNat:Nat):Int):=by rw [rangeSize_one];split <;> omega
  refine call_list_range (I1.ok.hd hc) (IsRange.new ..) (small_one (by omega) (by omega) (by omega) (by omega)) e2 (by omega) fun h' tk Lo c' hk hS fg=>?_
  have keep:∀ b o,s1.heap.get? b = some o -> h'.get? b = some o:=fun b o e=>hk b o (Heap.get?_push_of_some _ e)
  have hsz:Lo.size = n.toNat:=fg.1
  refine ⟨.ref _,upd H1 _ (.lst ((j8 n).map V.int)),I1.laid (t':=tk) keep ?_ ⟨?_,Lo.toList,c',?_,?_⟩,rfl,hq _ (I1.dq.fresh ?_)⟩
  ·show s1.heap.objs.size <= (s1.heap.push _).objs.size
   simp [Heap.push]
  ·rw [sizeLine_eq];simp [j8];omega
  ·refine ft (by simp [j8,hsz]) fun i u hu=>?_
   have Hj:Lo[i]? = some u:=by simpa using hu
   have hi:i < n.toNat:=by rw [<- hsz];exact (Array.getElem?_eq_some_iff.mp Hj).1
   obtain ⟨t,rfl⟩:=fg.2 i u Hj
   refine ⟨t,?_⟩
   have:(j8 n).getD i 0 = (i:Int):=by unfold j8;simp [List.getD,hi]
   rw [this]
   congr 1
   omega
  ·rw [Array.toArray_toList];exact hS
  ·show s1.heap.objs.size <= (s1.heap.push _).objs.size
   simp [Heap.push]
theorem NM {Φ:az} {n:Nat} (hΦ:Φ n = Ju) {X:Cx} {sc:Scope} {bl:List Str} {k:Nat} (L:PX X sc bl k) {e:Expr} {args:List Expr} (he:zp sc bl e = some args) {F:Addr -> Prop} {cs:List CE} (hs:qU X F Φ cs args):PE X e (tD X F Φ (.dt n cs)) /\ PT X e (hX X F Φ (.dt n cs)):=by
 obtain ⟨p,pos,i,rfl,h1,h2,hz⟩:=Dq he
 obtain ⟨p',pos',a,rfl,rfl,h3,h4⟩:=rY hz
 cases cs with
 | nil=>exact hs.elim
 | cons c cs=>cases cs with
  | cons _ _=>exact hs.2.2.2.elim
  | nil =>
   have pa:PA X [a] (uF X F Φ [c]):=PA.imp (d7 hs.1 (PA.imp ib fun _ _ _ h=>kN h) (hs.2.1 _)) fun _ _ _ h=>gI h
   have this:PE X (.Call (.Name ("list" : Str) p) [.Call (.Name ("range" : Str) p') [a] [] pos'] [] pos) (tD X F Φ (.dt n [c])):=by
    refine PE.imp (zY L.calm (L.gl h1) (L.bl _ h2) (L.gl h3) (L.bl _ h4) pa (hs.2.1 _)) fun σ H Q hq=>?_
    obtain ⟨R,τ,ρ,d,Si,ev,hq⟩:=hq
    obtain ⟨xs,df,ev⟩:=ag ev
    rw [hΦ] at ev
    obtain ⟨m,rfl,m1,m2,rfl⟩:=Jt ev
    refine ⟨R,τ,ρ,_,Si,df,fun vs H1 e1 r1=>?_⟩
    obtain ⟨τt,fr,rs⟩:=r1
    obtain ⟨v,rfl,rv⟩:=rs.one
    cases rv
    refine ⟨m,rfl,m1,m2,fun l hl=>hq _ _ ?_ ?_⟩
    ·intro b o e
     have e':=e1 b o e
     rw [aD fun z=>by rw [z,hl] at e';cases e']
     exact e'
    ·refine bJ.sR (e1.free hl) (fun b o e=>?_) aK (jL _)
     have e':=e1 b o e
     rw [aD fun z=>by rw [z,hl] at e';cases e']
     exact e'
   exact ⟨this,cV this fun _=>rfl⟩
end DI
end
section
namespace DI
open PySem PySem.Spec PyProof.Rows L2
theorem af.Hu {T:jZ} {N:i3} {k:aI}:∀ (j:Nat) {n:Nat} {vs:List V} {ds:List D},af T N k n vs ds -> af T N k (n + j) (vs.drop j) (ds.drop j)
 | 0,_,_,_,h=>h
 | j + 1,_,_,_,.nil=>.nil
 | j + 1,n,_,_,.cons h t=>by
  rw [show n + (j + 1) = n + 1 + j by omega]
  exact af.Hu j t
theorem af.GI {T:jZ} {N:i3} {k:aI}:∀ (j:Nat) {n:Nat} {vs:List V} {ds:List D},af T N k n vs ds -> af T N k n (vs.take j) (ds.take j)
 | 0,_,_,_,_=>by rw [List.take_zero,List.take_zero];exact .nil
 | j + 1,_,_,_,.nil=>.nil
 | j + 1,n,_,_,.cons h t=>.cons h (af.GI j t)
def qK {α:Type} (b:Bool) (k:Nat) (xs:List α):List α:=if b then xs.drop k else xs.take k
def M6 (K:PySem.W.Frag) (b:Bool):V -> Option Int -> Option Int -> Hp -> VK -> Prop:=fun x lo hi H Q=>∃ (a:Addr) (xs:List V) (k:Nat),x = .ref a /\ dY K H a xs /\ lo = (if b then some (k:Int) else none) /\ hi = (if b then none else some (k:Int)) /\ k <= xs.length /\ ∀ p,H p = none -> Q (.ref p) (upd H p (.lst (qK b k xs)))
theorem yb {X:Cx} (b:Bool):ZX X (M6 X.K b):=by
 intro pins s σ H x v vl vu lo hi sl Q I rx hs pl pu h
 obtain ⟨a,xs,k,rfl,hx,rfl,rfl,hk,q⟩:=h
 cases rx
 obtain ⟨aj,r,G4,hz⟩:=I.list hx
 have hl:=eK G4
 have hlen:aj.length = xs.length:=r.length.symm
 refine ⟨"list",_,slot_list_getitem.lookup,hl.typeIs,wpAny_getItem_list_slice hl hs pl pu .none (by simp) ?_ (by rw [List.size_toArray,hlen];exact hz)⟩
 have e:slicePick aj.toArray (if b then some (k:Int) else none) (if b then none else some (k:Int)) none = (qK b k aj).toArray:=by
  cases b with
  | true=>exact slicePick_from aj.toArray k (by simp;omega)
  | false=>exact slicePick_upto aj.toArray k (by simp;omega)
 have rc:Vals (qK b k xs) (qK b k aj):=by
  cases b with
  | true=>exact r.drop k
  | false=>exact r.take k
 have lc:(qK b k xs).length <= xs.length:=by
  cases b with
  | true=>show (xs.drop k).length <= _;rw [List.length_drop];omega
  | false=>show (xs.take k).length <= _;rw [List.length_take];omega
 rw [e]
 exact ⟨.ref s.heap.objs.size,_,I.Jw (t':=s.toks) rc (Nat.le_trans lc hz),rfl,q _ I.fresh⟩
def cutD (b:Bool) (xs:List D):O D:=match two xs with
 | some z=>match z.1 with
  | .lst _ ds=>match z.2 with
   | .int k=>if 0 <= k /\ k <= ds.length then ok (.lst .ow (ah ba (qK b k.toNat ds))) else none
   | _=>none
  | _=>none
 | none=>none
theorem Ge {b:Bool} {x y d:D} (h:cutD b [x,y] = ok d):∃ (f:Fl) (ds:List D) (k:Nat),x = .lst f ds /\ y = .int k /\ k <= ds.length /\ d = .lst .ow (ah ba (qK b k ds)):=by
 cases x <;> first | (cases h;done) | (cases y <;> first | (cases h;done) | skip)
 obtain ⟨⟨h1,h2⟩,h3⟩:=rL h
 rename_i f ds k
 exact ⟨f,ds,k.toNat,rfl,by rw [Int.toNat_of_nonneg h1],by omega,h3.symm⟩
def D5 (b:Bool) (e:Expr):Option Expr:=match e with
 | .Slice lo hi st _=>match st with
  | none=>match b with
   | true=>match hi with
    | none=>lo
    | some _=>none
   | false=>match lo with
    | none=>hi
    | some _=>none
  | some _=>none
 | _=>none
theorem D4 {b:Bool} {e k:Expr} (h:D5 b e = some k):∃ p,e = .Slice (if b then some k else none) (if b then none else some k) none p:=by
 cases e <;> first | (cases h;done) | skip
 rename_i lo hi st p
 cases st with
 | some _=>cases h
 | none=>cases b with
  | true=>cases hi with
   | some _=>cases h
   | none=>cases h;exact ⟨p,rfl⟩
  | false=>cases lo with
   | some _=>cases h
   | none=>cases h;exact ⟨p,rfl⟩
def tZ (b:Bool) (_:Scope) (_:List Str) (e:Expr):Option (List Expr):=match n9 e with
 | some z=>match D5 b z.2 with
  | some k=>some [z.1,k]
  | none=>none
 | none=>none
theorem AO {b:Bool} {sc:Scope} {bl:List Str} {e:Expr} {args:List Expr} (h:tZ b sc bl e = some args):∃ a k p pos,e = .Subscript a (.Slice (if b then some k else none) (if b then none else some k) none p) pos /\ args = [a,k]:=by
 unfold tZ at h
 cases hv:n9 e with
 | none=>rw [hv] at h;cases h
 | some z =>
  obtain ⟨a,s⟩:=z
  rw [hv] at h
  obtain ⟨pos,rfl⟩:=kJ hv
  have h:(match D5 b s with | some k=>some [a,k] | none=>none) = some args:=h
  cases hw:D5 b s with
  | none=>rw [hw] at h;cases h
  | some k =>
   rw [hw] at h
   cases h
   obtain ⟨p,rfl⟩:=D4 hw
   exact ⟨a,k,p,pos,rfl,rfl⟩
theorem La {b:Bool} {Φ:az} {n:Nat} (hΦ:Φ n = cutD b) {X:Cx} {sc:Scope} {bl:List Str} {k:Nat} (L:PX X sc bl k) {e:Expr} {args:List Expr} (he:tZ b sc bl e = some args) {F:Addr -> Prop} {cs:List CE} (hs:qU X F Φ cs args):PE X e (tD X F Φ (.dt n cs)) /\ PT X e (hX X F Φ (.dt n cs)):=by
 obtain ⟨a,ke,p,pos,rfl,rfl⟩:=AO he
 cases cs with
 | nil=>exact hs.elim
 | cons c cs=>cases cs with
  | nil=>exact hs.2.2.2.elim
  | cons c' cs=>cases cs with
   | cons _ _=>exact hs.2.2.2.2.2.2.elim
   | nil =>
    obtain ⟨h1,_,_,h2,_,_,_⟩:=hs
    have this:PE X (.Subscript a (.Slice (if b then some ke else none) (if b then none else some ke) none p) pos) (tD X F Φ (.dt n [c,c'])):=by
     have go:∀ {tl th:TO},PO X (if b then some ke else none) tl -> PO X (if b then none else some ke) th -> (∀ (H1:Hp) (R:Addr -> Prop) (τ:Addr -> Option aI) (ρ:aA) (k:Nat) (σ:St) (Q:Option Int -> Option Int -> Hp -> Prop),SI X F R τ ρ σ H1 -> aO Φ c' ρ = ok (.int k) -> (∀ H2,ak H1 H2 -> Q (if b then some (k:Int) else none) (if b then none else some (k:Int)) H2) -> tl σ H1 fun l H2=>th σ H2 fun u H3=>Q l u H3) -> PE X (.Subscript a (.Slice (if b then some ke else none) (if b then none else some ke) none p) pos) (tD X F Φ (.dt n [c,c'])):=by
      intro tl th pl pu hh
      refine PE.imp (BY (yb b) h1 pl pu) fun σ H Q hq=>?_
      obtain ⟨R,τ,ρ,d,Si,ev,hq⟩:=hq
      obtain ⟨xs,df,ev⟩:=ag ev
      obtain ⟨x,ex,df⟩:=ag df
      obtain ⟨ys,xm,df⟩:=ag df
      cases df
      obtain ⟨y,ey,xm⟩:=ag xm
      cases xm
      rw [hΦ] at ev
      obtain ⟨f,ds,j,rfl,rfl,hj,rfl⟩:=Ge ev
      refine tD.intro Si ex fun v H1 e1 r1=>hh H1 R τ ρ j σ (fun l u H3=>M6 X.K b v l u H3 Q) (Si.go e1) ey fun H2 e2=>?_
      have r2:=(r1.go e2).mono (fv':=gO (.dt n [c,c'])) fun i hi=>List.mem_append_left _ hi
      obtain ⟨τt,fr,rp⟩:=r2
      cases rp with
      | @lst _ q xs _ _ hn rs =>
       have ee:=e1.trans e2
       refine ⟨q,xs,j,rfl,hn.sq,rfl,rfl,by rw [rs.length];exact hj,fun l hl=>hq _ _ (ee.trans (ak.upd hl)) (bJ.sR (ee.free hl) (ee.trans (ak.upd hl)) aK ?_)⟩
       have rc:∃ n',af (aG X.K H2) (nd X.K R (kl (gP X F) τ (gO (.dt n [c,c']))) τt H2) [] n' (qK b j xs) (qK b j ds):=by
        cases b with
        | true=>exact ⟨_,rs.Hu j⟩
        | false=>exact ⟨_,rs.GI j⟩
       obtain ⟨n',rc⟩:=rc
       exact (rc.fb Si fr).imp (fun _ _ h=>aG.same (ak.upd hl) h) fun _ _ _ _ h=>nd.same (ak.upd hl) h
     cases b with
     | true =>
      refine go (yk h2) ym fun H1 R τ ρ k σ Q Si ek hk=>tD.intro Si ek fun v H2 e2 r2=>?_
      cases r2.isInt
      exact ⟨k,rfl,hk H2 e2⟩
     | false =>
      refine go ym (yk h2) fun H1 R τ ρ k σ Q Si ek hk=>tD.intro Si ek fun v H2 e2 r2=>?_
      cases r2.isInt
      exact ⟨k,rfl,hk H2 e2⟩
    exact ⟨this,cV this fun _=>by cases b <;> rfl⟩
end DI
end
section
namespace DI
open PySem PySem.Spec PyProof.Rows L2
section
open PySem.SeqAt
open PySem.AutoSeq1 (wpAny_loadPart')
open PySem.MeetsSeq PySem.MeetsSeq2 PySem.MeetsSeq3
theorem BL (A:Around) (s:Shared) (a:Int) (t:Tok) (c:Int) (u:Tok) (prog:Program) (w:World) (E:Value -> Shared -> Prop) (Q:Value -> Shared -> Prop) (h:Q (.bool (decide (a ≥ c))) s):wpAny (model prog w) A (richCompare .GtE (.int a t) (.int c u)) Q E s :=
 (PyProof.Rows.ge_int h:wpAny (model prog w) A (compareOp .GtE (.int a t) (.int c u)) Q E s)
theorem Fd {vs ws:List Value} {ns ms:List Int} {m n:Nat} (h1:IntsAre vs ns) (h2:IntsAre ws ms) (hz:vs.zip ws = []) (hl:ns.length + n = ms.length + m):(!HT.lexLt ns ms) = decide (m ≥ n):=by
 cases h1 with
 | nil=>cases h2 with
  | nil=>simp only [List.length_nil] at hl;exact (decide_eq_true (by omega)).symm
  | cons c u h=>simp only [List.length_nil,List.length_cons] at hl;exact (decide_eq_false (by omega)).symm
 | cons a t h=>cases h2 with
  | nil=>simp only [List.length_nil,List.length_cons] at hl;exact (decide_eq_true (by omega)).symm
  | cons c u h=>rw [List.zip_cons_cons] at hz;cases hz
theorem qi (l b:Addr) (items dm:Array Value) (n n2:Nat) (dd zk:Option Addr) (sl we:Array (Option Value)) (ns ms:List Int) (hi:IntsAre items.toList ns) (hj:IntsAre dm.toList ms) :
  Meets (Builtin.«tuple.__ge__» ⟨[.ref l,.ref b],[]⟩) (fun _ R s=>s.heap.get? l = some { cls:=.type "tuple",dict:=dd,data:=.seq items n,slots:=sl } /\ s.heap.get? b = some { cls:=.type "tuple",dict:=zk,data:=.seq dm n2,slots:=we } /\ R (.ok (.ret (.bool (!HT.lexLt ns ms)))) s) :=
 .of_wp fun prog w A R s h=>by
  obtain ⟨hp,g,d,tk,os⟩:=s
  obtain ⟨hl,hb,h⟩:=h
  have f2:=AutoSeq1.sub_tuple_tuple
  have z1:items.size = ns.length:=by rw [<- hi.length];simp
  have z2:dm.size = ms.length:=by rw [<- hj.length];simp
  wp_walk using wpAny_loadPart' hl,wpAny_loadPart' hb,wpAny_forIn_list _ (fun rest b s'=>b.1 = none /\ s' = ⟨hp,g,d,tk,os⟩ /\ ∃ (vs ws:List Value) (lF A1:List Int),rest = vs.zip ws /\ IntsAre vs lF /\ IntsAre ws A1 /\ lF.length + dm.size = A1.length + items.size /\ R (.ok (.ret (.bool (!HT.lexLt lF A1)))) ⟨hp,g,d,tk,os⟩) _
  case turn =>
   rintro ⟨y,x⟩ rest b s' ⟨xf,rfl,vs,ws,lF,A1,hz,JS,Hi,hlen,hR⟩
   cases JS with
   | nil=>rw [List.zip_nil_left] at hz;cases hz
   | cons a t hvi'=>cases Hi with
    | nil=>rw [List.zip_nil_right] at hz;cases hz
    | cons c u hwi' =>
     rw [List.zip_cons_cons] at hz
     injection hz with Wa CB
     injection Wa with hy hx
     subst hy hx
     rw [HT.dM] at hR
     simp only [List.length_cons] at hlen
     obtain ⟨e,he,CG⟩:=HT.vF A.in1 ⟨hp,g,d,tk,os⟩ a t c u
     refine wpAny_bind (he prog w _ _ ?_)
     cases e with
     | true =>
      rw [if_pos (CG.mp rfl)] at hR
      wp_walk
      exact ⟨rfl,rfl,_,_,_,_,CB,hvi',hwi',by omega,hR⟩
     | false =>
      have Oi:¬ a = c:=fun q=>absurd (CG.mpr q) Bool.false_ne_true
      rw [if_neg Oi,show (!decide (a < c)) = decide (a ≥ c) by by_cases q:a < c <;> simp [q] <;> omega] at hR
      have Wk:=BL A.in1 ⟨hp,g,d,tk,os⟩ a t c u prog w
      wp_walk using Wk
      exact ⟨_,rfl,by simpa using hR⟩
  case fin =>
   rintro ⟨b1,b2⟩ s' ⟨xf,rfl,vs,ws,lF,A1,hz,JS,Hi,hlen,hR⟩
   simp only at xf
   subst xf
   rw [Fd JS Hi hz.symm hlen] at hR
   wp_walk
   exact ⟨_,rfl,by simpa [Builtin.Tuple.tupleCompareSizes] using hR⟩
  case h=>exact ⟨rfl,rfl,items.toList,dm.toList,ns,ms,rfl,hi,hj,by omega,h⟩
end
def M5 (K:PySem.W.Frag):R2:=fun x y H Q=>∃ a b ns ms,x = .ref a /\ y = .ref b /\ aG K H a (ns.map V.int) /\ aG K H b (ms.map V.int) /\ Q (.bl (!HT.lexLt ns ms)) H
theorem B4 {X:Cx} (hu:X.A.units < cLine):km X (compareOp .GtE) (M5 X.K):=by
 intro pins s σ H x y v u Q I rx ry h
 obtain ⟨a,b,ns,ms,rfl,rfl,ha,hb,q⟩:=h
 cases rx
 cases ry
 obtain ⟨aj,r1,⟨⟨cls,dd,data,sl⟩,ho,hc,n,hd⟩,_⟩:=I.tuple ha
 obtain ⟨mV,r2,⟨⟨Gg,zk,data2,we⟩,tf,hc2,n2,hd2⟩,_⟩:=I.tuple hb
 simp only at hc hd hc2 hd2
 subst hc hd hc2 hd2
 exact richCompare_meets_room (op:=.GtE) ⟨_,ho,rfl⟩ ⟨_,tf,rfl⟩ PySem.F.slot_tuple_ge PySem.F.entry_tuple_ge (PySem.F.args_tuple_ge_2 _ _) (qi a b aj.toArray mV.toArray n n2 dd zk sl we ns ms (intsAre_of r1) (intsAre_of r2))
  ⟨ho,tf,show Value.bool (!HT.lexLt ns ms) ≠ Value.notImplemented /\ EP X pins σ Q (.bool (!HT.lexLt ns ms)) s from ⟨(fun x=>nomatch x),⟨.bl _,H,I,rfl,q⟩⟩⟩ hu
def Hn (xs:List D):O D:=match two xs with
 | some z=>match z.1 with
  | .tup a=>match z.2 with
   | .tup b=>match intsOf a with
    | some ns=>match intsOf b with
     | some ms=>ok (.bl (!HT.lexLt ns ms))
     | none=>none
    | none=>none
   | _=>none
  | _=>none
 | none=>none
theorem Kg {x y d:D} (h:Hn [x,y] = ok d):∃ ns ms:List Int,x = .tup (ns.map D.int) /\ y = .tup (ms.map D.int) /\ d = .bl (!HT.lexLt ns ms):=by
 cases x <;> first | (cases h;done) | (cases y <;> first | (cases h;done) | skip)
 rename_i a b
 have h:(match intsOf a with | some ns=>(match intsOf b with | some ms=>ok (D.bl (!HT.lexLt ns ms)) | none=>none) | none=>none) = ok d:=h
 cases h1:intsOf a with
 | none=>rw [h1] at h;cases h
 | some ns=>cases h2:intsOf b with
  | none=>rw [h1,h2] at h;cases h
  | some ms =>
   rw [h1,h2] at h
   cases h
   exact ⟨ns,ms,by rw [eE h1],by rw [eE h2],rfl⟩
def zq (_:Scope) (_:List Str) (e:Expr):Option (List Expr):=match D7 e with
 | some z=>match one z.2.2 with
  | some r=>if z.2.1 = [.GtE] then some [z.1,r] else none
  | none=>none
 | none=>none
theorem Ds {sc:Scope} {bl:List Str} {e:Expr} {args:List Expr} (h:zq sc bl e = some args):∃ l r p,e = .Compare l [.GtE] [r] p /\ args = [l,r]:=by
 unfold zq at h
 cases hv:D7 e with
 | none=>rw [hv] at h;cases h
 | some z =>
  obtain ⟨l,os,rs⟩:=z
  rw [hv] at h
  obtain ⟨p,rfl⟩:=xW hv
  replace h:(match one rs with | some r=>if os = [.GtE] then some [l,r] else none | none=>none) = some args:=h
  cases hw:one rs with
  | none=>rw [hw] at h;cases h
  | some r =>
   rw [hw] at h
   replace h:(if os = [.GtE] then some [l,r] else none) = some args:=h
   obtain rfl:=cm hw
   by_cases hc:os = [.GtE]
   ·rw [if_pos hc] at h;cases h;subst hc;exact ⟨l,r,p,rfl,rfl⟩
   ·rw [if_neg hc] at h;cases h
theorem OR {Φ:az} {n:Nat} (hΦ:Φ n = Hn) {X:Cx} {sc:Scope} {bl:List Str} {k:Nat} (L:PX X sc bl k) {e:Expr} {args:List Expr} (he:zq sc bl e = some args) {F:Addr -> Prop} {cs:List CE} (hs:qU X F Φ cs args):PE X e (tD X F Φ (.dt n cs)) /\ PT X e (hX X F Φ (.dt n cs)):=by
 obtain ⟨l,r,p,rfl,rfl⟩:=Ds he
 have hu:X.A.units < cLine:=by have:=L.room.units;omega
 cases cs with
 | nil=>exact hs.elim
 | cons c cs=>cases cs with
  | nil=>exact hs.2.2.2.elim
  | cons c' cs=>cases cs with
   | cons _ _=>exact hs.2.2.2.2.2.2.elim
   | nil =>
    obtain ⟨h1,_,_,h2,_,_,_⟩:=hs
    have key:∀ {σ:St} {H:Hp} {R:Addr -> Prop} {τ:Addr -> Option aI} {ρ:aA} {d:D} {Q:VK},SI X F R τ ρ σ H -> aO Φ (.dt n [c,c']) ρ = ok d -> (∀ b H2,d = .bl b -> ak H H2 -> Q (.bl b) H2) -> GL (M5 X.K) (tD X F Φ c) (tD X F Φ c') σ H Q:=by
     intro σ H R τ ρ d Q Si ev hq
     obtain ⟨xs,df,ev⟩:=ag ev
     obtain ⟨x,ex,df⟩:=ag df
     obtain ⟨ys,xm,df⟩:=ag df
     cases df
     obtain ⟨y,ey,xm⟩:=ag xm
     cases xm
     rw [hΦ] at ev
     obtain ⟨ns,ms,rfl,rfl,rfl⟩:=Kg ev
     refine tD.intro Si ex fun v H1 e1 r1=>tD.intro (Si.go e1) ey fun u H2 e2 r2=>?_
     obtain ⟨_,_,p1⟩:=r1.go e2
     obtain ⟨_,_,p2⟩:=r2
     cases p1 with
     | tup t1 s1=>cases p2 with
      | tup t2 s2 =>
       cases s1.ofInts
       cases s2.ofInts
       exact ⟨_,_,ns,ms,rfl,rfl,t1,t2,hq _ H2 rfl (e1.trans e2)⟩
    refine ⟨PE.imp (yr (B4 hu) h1 h2 (B9 _)) fun σ H Q hq=>?_,PT.imp (yh (B4 hu) h1 h2 (B9 _)) fun σ H Q hq=>?_⟩
    ·obtain ⟨R,τ,ρ,d,Si,ev,hq⟩:=hq
     exact key Si ev fun b H2 e es=>hq _ H2 es (by subst e;exact .bl)
    ·obtain ⟨R,τ,ρ,b,Si,ev,hq⟩:=hq
     obtain ⟨d,ed,et⟩:=ag ev
     refine key Si ed fun b' H2 e es=>?_
     subst e
     cases et
     exact ⟨_,rfl,hq H2 es⟩
end DI
end
section
namespace DI
open PySem PySem.Spec PyProof.Rows L2 PySem.W
def cO {α:Type} (lt:Nat -> Nat -> Bool):KasT α -> α
 | .ret a=>a
 | .ask i j k=>cO lt (k (lt i j))
theorem gR {α β:Type} (lt:Nat -> Nat -> Bool) (f:α -> KasT β):∀ t:KasT α,cO lt (t.bind f) = cO lt (f (cO lt t))
 | .ret a=>rfl
 | .ask i j k=>gR lt f (k (lt i j))
section
def j0 {α:Type} (n:Nat) (lt:Nat -> Nat -> Bool):KasT α -> Prop
 | .ret _=>True
 | .ask i j k=>i < n /\ j < n /\ j0 n lt (k (lt i j))
end
theorem zy {α:Type} {cmp:Nat -> Nat -> (Bool -> Shared -> Prop) -> Shared -> Prop} {lt:Nat -> Nat -> Bool} {s:Shared} {n:Nat} (hc:∀ i j C,i < n -> j < n -> C (lt i j) s -> cmp i j C s) {Q:α -> Shared -> Prop} :
  ∀ (t:KasT α),j0 n lt t -> Q (cO lt t) s -> t.kasWp cmp Q s
 | .ret a,_,h=>h
 | .ask i j k,⟨h1,h2,h3⟩,h=>hc i j _ h1 h2 (zy hc (k (lt i j)) h3 h)
theorem fw {α β:Type} {lt:Nat -> Nat -> Bool} {n:Nat} {f:α -> KasT β}:∀ {t:KasT α},j0 n lt t -> j0 n lt (f (cO lt t)) -> j0 n lt (t.bind f)
 | .ret _,_,h=>h
 | .ask i j k,⟨h1,h2,h3⟩,h=>⟨h1,h2,fw h3 h⟩
structure Ord (lt:Nat -> Nat -> Bool) (n:Nat):Prop where
 tr:∀ a b c,a < n -> b < n -> c < n -> lt a b = true -> lt b c = true -> lt a c = true
 as:∀ a b,a < n -> b < n -> lt a b = true -> lt b a = false
 Qo:∀ a b,a < n -> b < n -> a ≠ b -> lt a b = true \/ lt b a = true
structure Arr (p:Array Nat) (n:Nat):Prop where
 sz:p.size = n
 pm:p.toList.Perm (List.range n)
section
variable {lt:Nat -> Nat -> Bool} {n:Nat} {p:Array Nat}
theorem Arr.bd (h:Arr p n) {i:Nat} (hi:i < n):p.getD i 0 < n:=by
 have nF:i < p.size:=by rw [h.sz];exact hi
 have:p.getD i 0 = p[i]:=by simp [Array.getD,nF]
 rw [this]
 have hm:p[i] ∈ p.toList:=Array.getElem_mem_toList nF
 exact List.mem_range.mp (h.pm.mem_iff.mp hm)
theorem Arr.inj (h:Arr p n) {i j:Nat} (hi:i < n) (hj:j < n) (e:p.getD i 0 = p.getD j 0):i = j:=by
 have nF:i < p.toList.length:=by rw [Array.length_toList,h.sz];exact hi
 have WB:j < p.toList.length:=by rw [Array.length_toList,h.sz];exact hj
 have nd:p.toList.Nodup:=h.pm.nodup_iff.mpr List.nodup_range
 have e1:p.getD i 0 = p.toList[i]:=by simp [Array.getD,show i < p.size by rw [h.sz];exact hi]
 have e2:p.getD j 0 = p.toList[j]:=by simp [Array.getD,show j < p.size by rw [h.sz];exact hj]
 rw [e1,e2] at e
 exact (List.getElem_inj nd).mp e
def Up (lt:Nat -> Nat -> Bool) (p:Array Nat) (k:Nat):Prop:=∀ i j,i < j -> j < k -> lt (p.getD i 0) (p.getD j 0) = true
def Dn (lt:Nat -> Nat -> Bool) (p:Array Nat) (k:Nat):Prop:=∀ i j,i < j -> j < k -> lt (p.getD j 0) (p.getD i 0) = true
theorem Up.snoc (O:Ord lt n) (h:Arr p n) {k:Nat} (hk:k < n) (h1:1 <= k) (u:Up lt p k) (hl:lt (p.getD (k - 1) 0) (p.getD k 0) = true):Up lt p (k + 1):=fun i j j6 hj=>by
 by_cases e:j = k
 ·subst e
  by_cases e2:i = j - 1
  ·subst e2;exact hl
  ·exact O.tr _ _ _ (h.bd (by omega)) (h.bd (by omega)) (h.bd hk) (u i (j - 1) (by omega) (by omega)) hl
 ·exact u i j j6 (by omega)
theorem Dn.snoc (O:Ord lt n) (h:Arr p n) {k:Nat} (hk:k < n) (h1:1 <= k) (u:Dn lt p k) (hl:lt (p.getD k 0) (p.getD (k - 1) 0) = true):Dn lt p (k + 1):=fun i j j6 hj=>by
 by_cases e:j = k
 ·subst e
  by_cases e2:i = j - 1
  ·subst e2;exact hl
  ·exact O.tr _ _ _ (h.bd hk) (h.bd (by omega)) (h.bd (by omega)) hl (u i (j - 1) (by omega) (by omega))
 ·exact u i j j6 (by omega)
theorem uf (O:Ord lt n) (h:Arr p n):∀ (f k:Nat),1 <= k -> k + f <= n -> Up lt p k -> j0 n lt (kas_asc p f k) /\ k <= cO lt (kas_asc p f k) /\ cO lt (kas_asc p f k) <= k + f /\ Up lt p (cO lt (kas_asc p f k))
 | 0,k,_,_,u=>⟨trivial,Nat.le_refl _,Nat.le_refl _,u⟩
 | f + 1,k,h1,hf,u=>by
  have a1:p.getD k 0 < n:=h.bd (by omega)
  have a2:p.getD (k - 1) 0 < n:=h.bd (by omega)
  cases c:lt (p.getD k 0) (p.getD (k - 1) 0) with
  | true =>
   have e:cO lt (kas_asc p (f + 1) k) = k:=by
    show cO lt (if lt (p.getD k 0) (p.getD (k - 1) 0) = true then .ret k else kas_asc p f (k + 1)) = k
    rw [c];rfl
   refine ⟨⟨a1,a2,?_⟩,by rw [e];exact Nat.le_refl _,by rw [e];omega,by rw [e];exact u⟩
   show j0 n lt (if lt (p.getD k 0) (p.getD (k - 1) 0) = true then .ret k else kas_asc p f (k + 1))
   rw [c];trivial
  | false =>
   have e:cO lt (kas_asc p (f + 1) k) = cO lt (kas_asc p f (k + 1)):=by
    show cO lt (if lt (p.getD k 0) (p.getD (k - 1) 0) = true then .ret k else kas_asc p f (k + 1)) = _
    rw [c];rfl
   have hl:lt (p.getD (k - 1) 0) (p.getD k 0) = true:=by
    rcases O.Qo _ _ a2 a1 (fun z=>absurd (h.inj (by omega) (by omega) z) (by omega)) with z | z
    ·exact z
    ·rw [c] at z;cases z
   obtain ⟨b1,b2,b3,b4⟩:=uf O h f (k + 1) (by omega) (by omega) (u.snoc O h (by omega) h1 hl)
   refine ⟨⟨a1,a2,?_⟩,by rw [e];omega,by rw [e];omega,by rw [e];exact b4⟩
   show j0 n lt (if lt (p.getD k 0) (p.getD (k - 1) 0) = true then .ret k else kas_asc p f (k + 1))
   rw [c];exact b1
theorem zi (O:Ord lt n) (h:Arr p n):∀ (f k:Nat),1 <= k -> k + f <= n -> Dn lt p k -> j0 n lt (kas_desc f p k 0) /\ ∃ m,cO lt (kas_desc f p k 0) = (p,m,0) /\ k <= m /\ m <= k + f /\ Dn lt p m
 | 0,k,_,_,u=>⟨trivial,k,rfl,Nat.le_refl _,Nat.le_refl _,u⟩
 | f + 1,k,h1,hf,u=>by
  have a1:p.getD k 0 < n:=h.bd (by omega)
  have a2:p.getD (k - 1) 0 < n:=h.bd (by omega)
  cases c:lt (p.getD k 0) (p.getD (k - 1) 0) with
  | true =>
   obtain ⟨b1,m,b2,b3,b4,b5⟩:=zi O h f (k + 1) (by omega) (by omega) (u.snoc O h (by omega) h1 c)
   have e:kas_desc (f + 1) p k 0 = .ask (p.getD k 0) (p.getD (k - 1) 0) fun c=>if c = true then (if (0:Nat) > 0 then kas_desc f (kas_rev p (k - (0 + 1)) k) (k + 1) 0 else kas_desc f p (k + 1) 0) else .ask (p.getD (k - 1) 0) (p.getD k 0) fun d=>if d = true then .ret (p,k,0) else kas_desc f p (k + 1) (0 + 1):=rfl
   rw [e]
   refine ⟨⟨a1,a2,?_⟩,m,?_,by omega,by omega,b5⟩
   ·rw [c];exact b1
   ·show cO lt (if lt (p.getD k 0) (p.getD (k - 1) 0) = true then _ else _) = _
    rw [c];exact b2
  | false =>
   have hl:lt (p.getD (k - 1) 0) (p.getD k 0) = true:=by
    rcases O.Qo _ _ a2 a1 (fun z=>absurd (h.inj (by omega) (by omega) z) (by omega)) with z | z
    ·exact z
    ·rw [c] at z;cases z
   have e:kas_desc (f + 1) p k 0 = .ask (p.getD k 0) (p.getD (k - 1) 0) fun c=>if c = true then (if (0:Nat) > 0 then kas_desc f (kas_rev p (k - (0 + 1)) k) (k + 1) 0 else kas_desc f p (k + 1) 0) else .ask (p.getD (k - 1) 0) (p.getD k 0) fun d=>if d = true then .ret (p,k,0) else kas_desc f p (k + 1) (0 + 1):=rfl
   rw [e]
   refine ⟨⟨a1,a2,?_⟩,k,?_,Nat.le_refl _,by omega,u⟩
   ·rw [c];exact ⟨a2,a1,by rw [hl];trivial⟩
   ·show cO lt (if lt (p.getD k 0) (p.getD (k - 1) 0) = true then _ else _) = _
    rw [c]
    show cO lt (if lt (p.getD (k - 1) 0) (p.getD k 0) = true then _ else _) = _
    rw [hl];rfl
theorem nG {p q:Array Nat} {i j:Nat} (h:p[i]? = q[j]?):p.getD i 0 = q.getD j 0:=by
 rw [Array.getD_eq_getD_getElem?,Array.getD_eq_getD_getElem?,h]
theorem Iz (h:Arr p n) {m:Nat} (hm:m <= n):Arr (kas_rev p 0 m) n /\ (Dn lt p m -> Up lt (kas_rev p 0 m) m):=by
 have hs:(kas_rev p 0 m).size = p.size:=mirror_size _ _ _ _
 refine ⟨⟨by rw [hs];exact h.sz,?_⟩,fun u i j j6 hj=>?_⟩
 ·have:=(mirror_perm p 0 m ((m - 0) / 2)).toList
  exact this.trans h.pm
 ·have g:∀ k,k < m -> (kas_rev p 0 m).getD k 0 = p.getD (m - 1 - k) 0:=fun k hk=>by
   refine nG ?_
   rw [show kas_rev p 0 m = mirror p 0 m ((m - 0) / 2) from rfl,getElem?_mirror_all (by rw [h.sz];exact hm),if_pos ⟨Nat.zero_le _,hk⟩]
   congr 1;omega
  rw [g i (by omega),g j hj]
  exact u (m - 1 - j) (m - 1 - i) (by omega) (by omega)
theorem Bo (O:Ord lt n) (h:Arr p n) {m:Nat} (h1:1 <= m) (hm:m <= n) (u:Dn lt p m):j0 n lt (kas_tail3 m n p) /\ ∃ r,cO lt (kas_tail3 m n p) = r /\ Arr r.2 n /\ 1 <= r.1 /\ r.1 <= n /\ Up lt r.2 r.1:=by
 obtain ⟨a1,a2⟩:=Iz (lt:=lt) h hm
 obtain ⟨b1,b2,b3,b4⟩:=uf O a1 (n - m) m h1 (by omega) (a2 u)
 unfold kas_tail3
 refine ⟨fw b1 trivial,_,rfl,?_⟩
 rw [gR]
 exact ⟨a1,Nat.le_trans h1 b2,by show cO lt _ <= n;omega,b4⟩
theorem Dk (O:Ord lt n) (h:Arr p n) (hn:2 <= n):j0 n lt (kas_count n p) /\ ∃ r,cO lt (kas_count n p) = r /\ Arr r.2 n /\ 1 <= r.1 /\ r.1 <= n /\ Up lt r.2 r.1:=by
 obtain ⟨b1,b2,b3,b4⟩:=uf O h (n - 1) 1 (Nat.le_refl _) (by omega) (fun i j _ _=>by omega)
 generalize hk:cO lt (kas_asc p (n - 1) 1) = k at *
 have key:∀ t:KasT (Nat × Array Nat),t = (if (k == n) = true then .ret (k,p) else if k > 1 then .ask (p.getD 0 0) (p.getD (k - 1) 0) fun c=>if c = true then .ret (k,p) else kas_descPart k n (kas_rev p 0 k) else kas_descPart k n p) ->
   j0 n lt t /\ ∃ r,cO lt t = r /\ Arr r.2 n /\ 1 <= r.1 /\ r.1 <= n /\ Up lt r.2 r.1:=by
  intro t ht
  by_cases e:k = n
  ·rw [if_pos (by simpa using e)] at ht
   subst ht
   exact ⟨trivial,(k,p),rfl,h,b2,by show k <= n;omega,b4⟩
  ·rw [if_neg (by simpa using e)] at ht
   by_cases e1:k > 1
   ·rw [if_pos e1] at ht
    subst ht
    have hl:lt (p.getD 0 0) (p.getD (k - 1) 0) = true:=b4 0 (k - 1) (by omega) (by omega)
    refine ⟨⟨h.bd (by omega),h.bd (by omega),by rw [hl];trivial⟩,(k,p),?_,h,b2,by omega,b4⟩
    show cO lt (if lt (p.getD 0 0) (p.getD (k - 1) 0) = true then _ else _) = _
    rw [hl];rfl
   ·rw [if_neg e1] at ht
    have hk1:k = 1:=by omega
    subst hk1
    subst ht
    have hl:lt (p.getD 1 0) (p.getD 0 0) = true:=by
     have a1:p.getD 1 0 < n:=h.bd (by omega)
     have a0:p.getD 0 0 < n:=h.bd (by omega)
     cases c:lt (p.getD 1 0) (p.getD 0 0) with
     | true=>rfl
     | false =>
      exfalso
      obtain ⟨f,hf⟩:∃ f,n - 1 = f + 1:=⟨n - 2,by omega⟩
      rw [hf] at hk
      have e':cO lt (kas_asc p (f + 1) 1) = cO lt (kas_asc p f 2):=by
       show cO lt (if lt (p.getD 1 0) (p.getD (1 - 1) 0) = true then .ret 1 else kas_asc p f 2) = _
       rw [show (1 - 1:Nat) = 0 from rfl,c];rfl
      rw [e'] at hk
      have u2:Up lt p 2:=fun i j j6 hj=>by
       have:i = 0 /\ j = 1:=by omega
       obtain ⟨rfl,rfl⟩:=this
       rcases O.Qo _ _ a0 a1 (fun z=>absurd (h.inj (by omega) (by omega) z) (by omega)) with z | z
       ·exact z
       ·rw [c] at z;cases z
      obtain ⟨_,c2,_,_⟩:=uf O h f 2 (by omega) (by omega) u2
      omega
    have d2:Dn lt p 2:=fun i j j6 hj=>by
     have:i = 0 /\ j = 1:=by omega
     obtain ⟨rfl,rfl⟩:=this
     exact hl
    obtain ⟨c1,m,c2,c3,c4,c5⟩:=zi O h (n - 2) 2 (by omega) (by omega) d2
    obtain ⟨t1,r,t2,t3⟩:=Bo O h (m:=m) (by omega) (by omega) c5
    unfold kas_descPart
    refine ⟨fw c1 ?_,r,?_,t3⟩
    ·rw [show (1 + 1:Nat) = 2 from rfl,show n - 2 = n - 2 from rfl,c2];exact t1
    ·rw [gR,show (1 + 1:Nat) = 2 from rfl,c2];exact t2
 have e:=key _ rfl
 refine ⟨?_,?_⟩
 ·unfold kas_count
  exact fw b1 (by rw [hk];exact e.1)
 ·unfold kas_count
  rw [gR,hk]
  exact e.2
theorem Arr.or (O:Ord lt n) (h:Arr p n) {i j:Nat} (hi:i < n) (hj:j < n) (e:i ≠ j) (c:lt (p.getD i 0) (p.getD j 0) = false):lt (p.getD j 0) (p.getD i 0) = true:=by
 rcases O.Qo _ _ (h.bd hi) (h.bd hj) (fun z=>e (h.inj hi hj z)) with z | z
 ·rw [c] at z;cases z
 ·exact z
theorem oF (O:Ord lt n) (h:Arr p n) {k:Nat} (hk:k < n) (u:Up lt p k):∀ (f l r:Nat),l <= r -> r <= k -> r - l <= f -> (∀ i,i < l -> lt (p.getD i 0) (p.getD k 0) = true) -> (∀ i,r <= i -> i < k -> lt (p.getD k 0) (p.getD i 0) = true) ->
  j0 n lt (kas_place p k f l r) /\ ∃ m,cO lt (kas_place p k f l r) = m /\ m <= k /\ (∀ i,i < m -> lt (p.getD i 0) (p.getD k 0) = true) /\ ∀ i,m <= i -> i < k -> lt (p.getD k 0) (p.getD i 0) = true
 | 0,l,r,hl,hr,hf,a,b=>by
  have:l = r:=by omega
  subst this
  exact ⟨trivial,l,rfl,hr,a,b⟩
 | f + 1,l,r,hl,hr,hf,a,b=>by
  have e:kas_place p k (f + 1) l r = if l ≥ r then .ret l else .ask (p.getD k 0) (p.getD ((l + r) / 2) 0) fun c=>if c = true then kas_place p k f l ((l + r) / 2) else kas_place p k f ((l + r) / 2 + 1) r:=rfl
  rw [e]
  by_cases JZ:l ≥ r
  ·rw [if_pos JZ]
   have:l = r:=by omega
   subst this
   exact ⟨trivial,l,rfl,hr,a,b⟩
  ·rw [if_neg JZ]
   have hm:l <= (l + r) / 2 /\ (l + r) / 2 < r:=by omega
   generalize (l + r) / 2 = m at *
   have b1:p.getD k 0 < n:=h.bd hk
   have b2:p.getD m 0 < n:=h.bd (by omega)
   cases c:lt (p.getD k 0) (p.getD m 0) with
   | true =>
    obtain ⟨c1,m',c2,c3⟩:=oF O h hk u f l m hm.1 (by omega) (by omega) a fun i h1 h2=>by
     by_cases e:i = m
     ·subst e;exact c
     ·exact O.tr _ _ _ b1 b2 (h.bd (by omega)) c (u m i (by omega) h2)
    refine ⟨⟨b1,b2,by rw [c];exact c1⟩,m',?_,c3⟩
    show cO lt (if lt (p.getD k 0) (p.getD m 0) = true then _ else _) = _
    rw [c];exact c2
   | false =>
    have wg:=h.or O hk (by omega) (by omega) c
    obtain ⟨c1,m',c2,c3⟩:=oF O h hk u f (m + 1) r (by omega) hr (by omega) (fun i hi=>by
     by_cases e:i = m
     ·subst e;exact wg
     ·exact O.tr _ _ _ (h.bd (by omega)) b2 b1 (u i m (by omega) (by omega)) wg) b
    refine ⟨⟨b1,b2,by rw [c];exact c1⟩,m',?_,c3⟩
    show cO lt (if lt (p.getD k 0) (p.getD m 0) = true then _ else _) = _
    rw [c];exact c2
theorem AV (h:Arr p n) {k m:Nat} (hk:k < n) (hm:m <= k) (u:Up lt p k) (a:∀ i,i < m -> lt (p.getD i 0) (p.getD k 0) = true) (b:∀ i,m <= i -> i < k -> lt (p.getD k 0) (p.getD i 0) = true) :
  Arr (bubble p k (k - m)) n /\ Up lt (bubble p k (k - m)) (k + 1):=by
 have hs:(bubble p k (k - m)).size = p.size:=bubble_size _ _ _
 refine ⟨⟨by rw [hs];exact h.sz,(bubble_perm p k (k - m)).toList.trans h.pm⟩,fun i j j6 hj=>?_⟩
 have g:∀ t,(bubble p k (k - m)).getD t 0 = if t = m then p.getD k 0 else if m < t /\ t <= k then p.getD (t - 1) 0 else p.getD t 0:=fun t=>by
  have e:=getElem?_bubble (xs:=p) (src:=k) (by rw [h.sz];exact hk) (k - m) (Nat.sub_le _ _) t
  rw [show k - (k - m) = m by omega] at e
  by_cases h1:t = m
  ·rw [if_pos h1] at e ⊢;exact nG e
  ·rw [if_neg h1] at e ⊢
   by_cases h2:m < t /\ t <= k
   ·rw [if_pos h2] at e ⊢;exact nG e
   ·rw [if_neg h2] at e ⊢;exact nG e
 rw [g i,g j]
 by_cases i1:i = m
 ·rw [if_pos i1,if_neg (by omega),if_pos (by omega)]
  exact b (j - 1) (by omega) (by omega)
 ·rw [if_neg i1]
  by_cases i2:m < i /\ i <= k
  ·rw [if_pos i2,if_neg (by omega),if_pos (by omega)]
   exact u (i - 1) (j - 1) (by omega) (by omega)
  ·rw [if_neg i2]
   by_cases j1:j = m
   ·rw [if_pos j1];exact a i (by omega)
   ·rw [if_neg j1]
    by_cases j2:m < j /\ j <= k
    ·rw [if_pos j2]
     by_cases e:i = j - 1
     ·omega
     ·exact u i (j - 1) (by omega) (by omega)
    ·rw [if_neg j2];exact u i j j6 (by omega)
end
theorem Dw {lt:Nat -> Nat -> Bool} {n:Nat} (O:Ord lt n):∀ (f:Nat) {p:Array Nat} {k:Nat},Arr p n -> k + f = n -> Up lt p k -> j0 n lt (kas_bin f p k) /\ Arr (cO lt (kas_bin f p k)) n /\ Up lt (cO lt (kas_bin f p k)) n
 | 0,p,k,h,hk,u=>⟨trivial,h,by rw [<- hk];exact u⟩
 | f + 1,p,k,h,hk,u=>by
  obtain ⟨a1,m,a2,a3,a4,a5⟩:=oF O h (k:=k) (by omega) u k 0 k (Nat.zero_le _) (Nat.le_refl _) (Nat.le_refl _) (fun i hi=>by omega) (fun i h1 h2=>by omega)
  obtain ⟨b1,b2⟩:=AV h (by omega) a3 u a4 a5
  obtain ⟨c1,c2,c3⟩:=Dw O f b1 (by omega) b2
  have e:kas_bin (f + 1) p k = (kas_place p k k 0 k).bind fun l=>kas_bin f (bubble p k (k - l)) (k + 1):=rfl
  rw [e]
  refine ⟨fw a1 (by rw [a2];exact c1),?_⟩
  rw [gR,a2]
  exact ⟨c2,c3⟩
theorem Ek {lt:Nat -> Nat -> Bool} {n:Nat} (O:Ord lt n) (hn:2 <= n):j0 n lt (kas_sort n) /\ Arr (cO lt (kas_sort n)) n /\ Up lt (cO lt (kas_sort n)) n:=by
 have h0:Arr (List.toArray (List.range n)) n:=⟨by simp,by simp⟩
 obtain ⟨a1,r,a2,a3,a4,a5,a6⟩:=Dk O h0 hn
 unfold kas_sort
 have key:∀ t,t = (if r.1 < n then kas_bin (n - max r.1 1) r.2 (max r.1 1) else .ret r.2) -> j0 n lt t /\ Arr (cO lt t) n /\ Up lt (cO lt t) n:=by
  intro t ht
  by_cases h:r.1 < n
  ·rw [if_pos h] at ht
   subst ht
   rw [show max r.1 1 = r.1 by omega]
   exact Dw O _ a3 (by omega) a6
  ·rw [if_neg h] at ht
   subst ht
   have:r.1 = n:=by omega
   exact ⟨trivial,a3,by rw [this] at a6;exact a6⟩
 have e:=key _ rfl
 refine ⟨fw a1 (by rw [a2];exact e.1),?_⟩
 rw [gR,a2]
 exact e.2
end DI
end
section
namespace DI
open PySem PySem.Spec PyProof.Rows L2
def qT (h:Heap) (vs:List Value) (nss:List (List Int)):Prop:=vs.length = nss.length /\ ∀ (i:Nat) (ns:List Int),nss[i]? = some ns -> ∃ t aj,vs[i]? = some (.ref t) /\ IsTup h t aj.toArray /\ IntsAre aj ns
theorem qT.mono {h h':Heap} {vs:List Value} {nss:List (List Int)} (k:∀ b o,h.get? b = some o -> h'.get? b = some o) (t:qT h vs nss):qT h' vs nss :=
 ⟨t.1,fun i ns e=>let ⟨a,aj,e1,⟨o,ho,r⟩,e3⟩:=t.2 i ns e;⟨a,aj,e1,⟨o,k _ _ ho,r⟩,e3⟩⟩
theorem qT.mem {h:Heap} {vs:List Value} {nss:List (List Int)} (t:qT h vs nss) {v:Value} (hv:v ∈ vs):∃ a aj ns,v = .ref a /\ IsTup h a aj.toArray /\ IntsAre aj ns:=by
 obtain ⟨i,hi⟩:=List.mem_iff_getElem?.mp hv
 have hl:i < nss.length:=by rw [<- t.1];exact (List.getElem?_eq_some_iff.mp hi).1
 obtain ⟨a,aj,e1,e2,e3⟩:=t.2 i _ (List.getElem?_eq_getElem hl)
 rw [hi] at e1
 cases e1
 exact ⟨a,aj,_,rfl,e2,e3⟩
section
variable {prog:Program} {w:World} {A:Around} {E:Value -> Shared -> Prop} {s:Shared}
theorem pA:∀ {vs:List Value} {nss:List (List Int)} {Q:List (Option Value) -> Shared -> Prop},qT s.heap vs nss -> (∀ fs:List (Option Value),fs.length = vs.length -> (∀ f ∈ fs,∀ v,f = some v -> ∃ n t,v = .int n t) -> Q fs s) -> wpAny (model prog w) A (vs.mapM firstOfTuple') Q E s
 | [],_,_,_,h=>by rw [List.mapM_nil];exact wpAny_pure (h [] rfl fun _ h=>nomatch h)
 | v :: vs,[],_,t,_=>by have:=t.1;simp at this
 | v :: vs,ns :: nss,Q,t,h=>by
  obtain ⟨a,aj,e,⟨o,ho,hc,n,hd⟩,hi⟩:=t.2 0 ns rfl
  cases e
  rw [List.mapM_cons]
  refine wpAny_bind ?_
  rw [PySem.W.kas_first_eq]
  refine wpAny_bind (PySem.W.Looks.here (show PySem.W.Looks (model prog w) s.heap (typeOf (.ref a)) o.cls from (PySem.W.Looks.ld ho).andThen .now) ?_)
  rw [hc,if_neg (by first | decide | simp)]
  refine wpAny_bind (listItems_at ho hd (wpAny_pure ?_))
  refine wpAny_bind (pA (vs:=vs) (nss:=nss) ⟨by simpa using t.1,fun i ms e=>t.2 (i + 1) ms e⟩ fun fs h1 h2=>wpAny_pure (h _ (by simp [h1]) fun f hf v hv=>?_))
  rcases List.mem_cons.mp hf with rfl | hf
  ·cases hi with
   | nil=>simp at hv
   | cons a' tk hi=>simp at hv;exact ⟨_,_,hv.symm⟩
  ·exact h2 f hf v hv
def HC (κ:SortKind):Prop:=κ = tuples' true \/ κ = general' \/ κ = oneType'
theorem kind_any {vs:List Value} {nss:List (List Int)} {Q:SortKind -> Shared -> Prop} (t:qT s.heap vs nss) (Oi:vs ≠ []) (h:∀ κ,HC κ -> Q κ s):wpAny (model prog w) A (keyKind' vs.toArray) Q E s:=by
 obtain ⟨v0,vr,rfl⟩:∃ v0 vr,vs = v0 :: vr:=by
  cases vs with
  | nil=>exact absurd rfl Oi
  | cons v0 vr=>exact ⟨v0,vr,rfl⟩
 rw [kat_kind_eq,List.mapM_toArray,map_eq_pure_bind]
 refine wpAny_bind (wpAny_bind (pA t fun fs hl hf=>wpAny_pure ?_))
 by_cases ha:(fs.toArray.all fun x=>x.isSome) = true
 ·rw [if_pos ha]
  refine wpAny_bind (wpAny_rule ?_)
  obtain ⟨gs,hg,hgi⟩:∃ gs:List Value,fs = gs.map some /\ ∀ v ∈ gs,∃ n t,v = .int n t:=by
   clear h hl t
   induction fs with
   | nil=>exact ⟨[],rfl,fun _ h=>nomatch h⟩
   | cons f fs ih =>
    simp only [List.all_toArray,List.all_cons,Bool.and_eq_true] at ha
    obtain ⟨gs,e1,e2⟩:=ih (fun f hf'=>hf f (List.mem_cons_of_mem _ hf')) (by simpa using ha.2)
    cases f with
    | none=>simp at ha
    | some v =>
     exact ⟨v :: gs,by rw [e1];rfl,fun u hu=>by
      rcases List.mem_cons.mp hu with rfl | hu
      ·exact hf _ List.mem_cons_self _ rfl
      ·exact e2 u hu⟩
  subst hg
  obtain ⟨g0,gr,rfl⟩:∃ g0 gr,gs = g0 :: gr:=by
   cases gs with
   | nil=>simp at hl
   | cons a b=>exact ⟨a,b,rfl⟩
  have hfm:(((g0 :: gr).map some).toArray.filterMap id) = (g0 :: gr).toArray:=by simp
  rw [hfm,oneTypeOnly'_eq,List.mapM_toArray,map_eq_pure_bind]
  refine wpAny_bind (wpAny_bind (wpAny_bind (PySem.W.kas_mapM (r:=Value.type "int") _ (fun v hv Q' hq=>by
   obtain ⟨n,t,rfl⟩:=hgi v hv
   exact (PySem.W.Looks.of_pure (M:=model prog w) rfl).here hq) (wpAny_pure ?_))))
  have CQ:((List.map (fun _=>Value.type "int") (g0 :: gr)).toArray.all fun x=>x == Value.type "int") = true:=by
   simp only [List.all_toArray,List.all_map,List.all_eq_true]
   intro _ _
   show (Value.type "int" == Value.type "int") = true
   decide
  have h0:(List.map (fun _=>Value.type "int") (g0 :: gr)).toArray[0]? = some (Value.type "int"):=by simp
  rw [h0]
  simp only [CQ,if_true]
  exact wpAny_pure (wpAny_pure (h _ (.inl rfl)))
 ·rw [if_neg ha]
  by_cases hb:((fs.toArray[0]?.bind id).isSome) = true
  ·rw [if_pos hb]
   exact wpAny_pure (h _ (.inr (.inl rfl)))
  ·rw [if_neg hb]
   rw [oneTypeOnly'_eq,List.mapM_toArray,map_eq_pure_bind]
   refine wpAny_bind (wpAny_bind (wpAny_bind (PySem.W.kas_mapM (r:=Value.type "tuple") _ (fun v hv Q' hq=>by
    obtain ⟨a,aj,ns,rfl,⟨o,ho,hc,_⟩,_⟩:=t.mem hv
    refine PySem.W.Looks.here (show PySem.W.Looks (model prog w) s.heap (typeOf (.ref a)) o.cls from (PySem.W.Looks.ld ho).andThen .now) ?_
    rw [hc];exact hq) (wpAny_pure ?_))))
   have CQ:((List.map (fun _=>Value.type "tuple") (v0 :: vr)).toArray.all fun x=>x == Value.type "tuple") = true:=by
    simp only [List.all_toArray,List.all_map,List.all_eq_true]
    intro _ _
    show (Value.type "tuple" == Value.type "tuple") = true
    decide
   have h0:(List.map (fun _=>Value.type "tuple") (v0 :: vr)).toArray[0]? = some (Value.type "tuple"):=by simp
   rw [h0]
   simp only [CQ,if_true]
   exact wpAny_pure (wpAny_pure (h _ (.inr (.inr rfl))))
theorem Jr {κ:SortKind} (hk:HC κ) (hu:A.units < cLine) {a b:Addr} {aj Ff:List Value} {ns ms:List Int} {Q:Bool -> Shared -> Prop} (ha:IsTup s.heap a aj.toArray) (hb:IsTup s.heap b Ff.toArray) (hi:IntsAre aj ns) (hj:IntsAre Ff ms) (h:Q (HT.lexLt ns ms) s) :
  wpAny (model prog w) A (keyLt' κ (.ref a) (.ref b)) Q E s:=by
 rcases hk with rfl | rfl | rfl
 ·obtain ⟨o,ho,_,n,hd⟩:=ha
  obtain ⟨o',gM,_,n',J2⟩:=hb
  exact PySem.W.kat_lt ho hd gM J2 (vg 0 hi hj (by simp) h)
 ·exact PySem.W.kat_one _ _ (HT.wW ha hb (by simpa using hi) (by simpa using hj) hu h)
 ·show wpAny (model prog w) A (oneLt' true (.ref a) (.ref b)) Q E s
  rw [oneLt'_eq]
  simp only [if_true]
  refine wpAny_bind (wpAny_cRoomFor hu ?_)
  obtain ⟨⟨cls,dd,data,sl⟩,ho,hc,n,hd⟩:=id ha
  obtain ⟨⟨Gg,zk,data2,we⟩,tf,hc2,n2,hd2⟩:=id hb
  simp only at hc hd hc2 hd2
  subst hc hd hc2 hd2
  refine wpAny_bind (wpAny_callSpecialIfBound?_slot (name:=Str.ofString "__lt__") ⟨_,ho,rfl⟩ PySem.F.slot_tuple_lt (call_meets PySem.F.slot_tuple_lt ⟨_,ho,rfl⟩ PySem.F.entry_tuple_lt (PySem.F.args_tuple_lt_2 _ _) (HT.j3 a b _ _ n n2 dd zk sl we ns ms (by simpa using hi) (by simpa using hj)) ⟨ho,tf,?_⟩))
  exact wpAny_truthy_bool h
end
end DI
end
section
namespace DI
open PySem PySem.Spec PyProof.Rows L2
def uq (h:Heap) (d:Addr) (es:Array DictEntry) (ep:Nat):Prop:=∃ o,h.get? d = some o /\ o.ExactDict /\ o.data = .dict es ep
section
variable {prog:Program} {w:World} {A:Around} {E:Value -> Shared -> Prop} {s:Shared} {d it:Addr} {es:Array DictEntry} {ep i:Nat}
theorem uq.typeIs (h:uq s.heap d es ep):s.TypeIs (.ref d) "dict":=let ⟨o,ho,hx,_⟩:=h;⟨o,ho,hx.1⟩
theorem zh {Q:Value -> Shared -> Prop} (hd:(d == sysModules) = false) (hm:uq s.heap d es ep)
  (hQ:Q (.ref s.heap.objs.size) { s with heap:=s.heap.push { cls:=.type "dict_keyiterator",data:=.fields #[.ref d,.int 0 0,.int es.size 0,.int ep 0] } }):wpAny (model prog w) A (pyIter (.ref d)) Q E s:=by
 have hT:=hm.typeIs
 obtain ⟨o,ho,hx,Ow⟩:=hm
 refine wpAny_pyIter_slot hT PySem.F.slot_dict_iter (wpAny_call_entry PySem.F.slot_dict_iter hT PySem.F.entry_dict_iter ?_ (PySem.F.args_dict_iter_1 _))
 unfold Builtin.«dict.__iter__» Builtin.Dict.dictSlotNone
 refine wpAny_bind (wpAny_bind (wpAny_notOrdered_dict hT (wpAny_pure ?_)))
 show wpAny _ _ (Builtin.Dict.showsAll d >>= _) _ _ s
 unfold Builtin.Dict.showsAll
 rw [if_neg (by rw [hd];exact Bool.false_ne_true)]
 refine wpAny_bind (wpAny_pure (wpAny_bind (wpAny_dictEntries ho Ow (wpAny_bind (wpAny_dictEpoch ho Ow ?_)))))
 exact wpAny_bind (wpAny_newObj_type (wpAny_pure ⟨_,rfl,"dict_keyiterator",_,⟨_,Heap.get?_push_size _ rfl,rfl⟩,PySem.F.slot_dict_keyiterator_next.lookup,hQ⟩))
theorem zg {Q:Option Value -> Shared -> Prop} (hit:s.heap.IsKeyIter it d i es.size ep) (hm:uq s.heap d es ep) (i4:i < es.size)
  (hQ:∀ h',h'.IsKeyIter it d (i + 1) es.size ep -> Heap.SameBut it s.heap h' -> Q (some es[i].key) { s with heap:=h' }):wpAny (model prog w) A (pyNext (.ref it)) Q E s:=by
 obtain ⟨o,ho,hc,hd⟩:=id hit
 obtain ⟨od,Od,CK,Ou⟩:=hm
 unfold pyNext
 refine wpAny_bind (wpAny_attempt (wpAny_callSpecial?_slot (name:=Str.ofString "__next__") hit.typeIs PySem.F.slot_dict_keyiterator_next (wpAny_call_entry PySem.F.slot_dict_keyiterator_next hit.typeIs PySem.F.entry_dict_keyiterator_next ?_ (PySem.F.args_dict_keyiterator_next_1 _))))
 refine wpAny_bind (wpAny_pure (wpAny_bind (wpAny_bind ?_)))
 first | refine wpAny_bind (wpAny_typeNameOfWhole_keyiter hit.typeIs (wpAny_pure ?_)) | refine wpAny_bind (wpAny_typeNameOf_keyiter hit.typeIs (wpAny_pure ?_))
 refine wpAny_bind (wpAny_fieldsOf ho hd ?_)
 simp only [show Builtin.Dict_items.ownsTuple "dict_keyiterator" = false by decide,Bool.false_eq_true,if_false]
 show wpAny _ _ (if (Value.ref d == Value.none) = true then _ else _) _ _ s
 rw [if_neg (show ¬ ((Value.ref d == Value.none) = true) from Bool.false_ne_true)]
 refine wpAny_bind (wpAny_pure (wpAny_bind (wpAny_dictEntries Od Ou ?_)))
 rw [if_neg (by simp)]
 refine wpAny_bind (wpAny_pure (wpAny_bind (wpAny_dictEpoch Od Ou ?_)))
 rw [if_neg (by simp)]
 refine wpAny_pure ?_
 simp only [show ¬ ((i:Int) < 0) from by omega,if_false,Int.toNat_natCast,Array.getElem?_eq_getElem i4]
 refine wpAny_bind ?_
 first | refine wpAny_bind (wpAny_typeNameOfWhole_keyiter hit.typeIs (wpAny_pure ?_)) | refine wpAny_bind (wpAny_typeNameOf_keyiter hit.typeIs (wpAny_pure ?_))
 refine wpAny_bind (wpAny_isOneOf_keyiter hit.typeIs ?_)
 show wpAny _ _ (setField (.ref it) 1 (rawInt ((i:Int) + 1)) >>= _) _ _ s
 refine wpAny_bind (wpAny_setField ho hd (by simp) ?_)
 have Fv:(s.heap.update it (Obj.mapFields (·.setIfInBounds 1 (rawInt ((i:Int) + 1))))).IsKeyIter it d (i + 1) es.size ep :=
  ⟨_,Heap.get?_update_self _ ho (Obj.isFreed_of_fields (Obj.data_mapFields hd _)),(Obj.cls_mapFields ..).trans hc,by rw [Obj.data_mapFields hd];simp [rawInt]⟩
 refine wpAny_bind (wpAny_holding (wpAny_bind (wpAny_isOneOf_keyiter (s:={ s with heap:=s.heap.update it (Obj.mapFields (·.setIfInBounds 1 (rawInt ((i:Int) + 1)))) }) Fv.typeIs ?_)))
 show wpAny _ _ (pure es[i].key) _ _ _
 exact wpAny_pure (wpAny_pure ⟨_,rfl,wpAny_pure (hQ _ Fv (Heap.SameBut.update ..))⟩)
theorem Dg {Q:Option Value -> Shared -> Prop} (hh:A.handled = none) (hit:s.heap.IsKeyIter it d i es.size ep) (hm:uq s.heap d es ep) (hge:es.size <= i)
  (hQ:∀ h',Heap.ExtBut it s.heap h' -> Q none { s with heap:=h' }):wpAny (model prog w) A (pyNext (.ref it)) Q E s:=by
 obtain ⟨o,ho,hc,hd⟩:=id hit
 obtain ⟨od,Od,CK,Ou⟩:=hm
 unfold pyNext
 refine wpAny_bind (wpAny_attempt (wpAny_callSpecial?_slot (name:=Str.ofString "__next__") hit.typeIs PySem.F.slot_dict_keyiterator_next (wpAny_call_entry PySem.F.slot_dict_keyiterator_next hit.typeIs PySem.F.entry_dict_keyiterator_next ?_ (PySem.F.args_dict_keyiterator_next_1 _))))
 refine wpAny_bind (wpAny_pure (wpAny_bind (wpAny_bind ?_)))
 first | refine wpAny_bind (wpAny_typeNameOfWhole_keyiter hit.typeIs (wpAny_pure ?_)) | refine wpAny_bind (wpAny_typeNameOf_keyiter hit.typeIs (wpAny_pure ?_))
 refine wpAny_bind (wpAny_fieldsOf ho hd ?_)
 simp only [show Builtin.Dict_items.ownsTuple "dict_keyiterator" = false by decide,Bool.false_eq_true,if_false]
 show wpAny _ _ (if (Value.ref d == Value.none) = true then _ else _) _ _ s
 rw [if_neg (show ¬ ((Value.ref d == Value.none) = true) from Bool.false_ne_true)]
 refine wpAny_bind (wpAny_pure (wpAny_bind (wpAny_dictEntries Od Ou ?_)))
 rw [if_neg (by simp)]
 refine wpAny_bind (wpAny_pure (wpAny_bind (wpAny_dictEpoch Od Ou ?_)))
 rw [if_neg (by simp)]
 refine wpAny_pure ?_
 simp only [show ¬ ((i:Int) < 0) from by omega,if_false,Int.toNat_natCast,Array.getElem?_eq_none hge]
 refine wpAny_bind ?_
 first | refine wpAny_bind (wpAny_typeNameOfWhole_keyiter hit.typeIs (wpAny_pure ?_)) | refine wpAny_bind (wpAny_typeNameOf_keyiter hit.typeIs (wpAny_pure ?_))
 show wpAny _ _ (setField (.ref it) 0 .none >>= _) _ _ s
 refine wpAny_bind (wpAny_setField ho hd (by simp) ?_)
 show wpAny _ _ (newExc (.type "StopIteration") [] >>= _) _ _ _
 refine wpAny_bind ?_
 simp only [newExc,newTuple]
 refine wpAny_bind (wpAny_newObj_type ?_ (by size_fits))
 refine wpAny_bind (m:=firstArgMember _ _) (wpAny_of_eq (a:=Value.none) (by first | rfl | (simp only [firstArgMember];rfl)) ?_)
 refine wpAny_newObj_type ?_ (by size_fits)
 simp only [raiseNew]
 refine wpAny_bind (wpAny_handled ?_)
 rw [show A.in1.handled = none from hh]
 refine wpAny_bind (wpAny_pure (wpAny_throw ?_))
 refine wpAny_bind (wpAny_isInstance (T:="StopIteration") (b:=true) ⟨_,Heap.get?_push_size _ rfl,rfl⟩ isSubtype_stop ?_)
 exact wpAny_pure (hQ _ (((Heap.SameBut.update ..).extBut.push _).push _))
end
end DI
end
section
namespace DI
open PySem PySem.Spec PyProof.Rows L2
theorem wZ:∀ a b c:List Int,HT.lexLt a b = true -> HT.lexLt b c = true -> HT.lexLt a c = true
 | [],[],_,h,_=>by rw [HT.j5] at h;cases h
 | [],_ :: _,[],_,h=>by rw [HT.cW] at h;cases h
 | [],_ :: _,_ :: _,_,_=>rfl
 | _ :: _,[],_,h,_=>by rw [HT.cW] at h;cases h
 | _ :: _,_ :: _,[],_,h=>by rw [HT.cW] at h;cases h
 | x :: a,y :: b,z :: c,h1,h2=>by
  rw [HT.dM] at *
  by_cases e1:x = y
  ·subst e1
   rw [if_pos rfl] at h1
   by_cases e2:x = z
   ·subst e2
    rw [if_pos rfl] at h2 ⊢
    exact wZ a b c h1 h2
   ·rw [if_neg e2] at h2 ⊢;exact h2
  ·rw [if_neg e1] at h1
   have l1:x < y:=of_decide_eq_true h1
   by_cases e2:y = z
   ·subst e2
    rw [if_neg (by omega)]
    exact decide_eq_true l1
   ·rw [if_neg e2] at h2
    have l2:y < z:=of_decide_eq_true h2
    rw [if_neg (by omega)]
    exact decide_eq_true (by omega)
theorem sX:∀ a b:List Int,HT.lexLt a b = true -> HT.lexLt b a = false
 | [],[],_=>rfl
 | [],_ :: _,_=>rfl
 | _ :: _,[],h=>by rw [HT.cW] at h;cases h
 | x :: a,y :: b,h=>by
  rw [HT.dM] at *
  by_cases e:x = y
  ·subst e
   rw [if_pos rfl] at h ⊢
   exact sX a b h
  ·rw [if_neg e] at h
   have l:x < y:=of_decide_eq_true h
   rw [if_neg (by omega)]
   exact decide_eq_false (by omega)
theorem nE:∀ a b:List Int,a ≠ b -> HT.lexLt a b = true \/ HT.lexLt b a = true
 | [],[],h=>absurd rfl h
 | [],_ :: _,_=>.inl rfl
 | _ :: _,[],_=>.inr rfl
 | x :: a,y :: b,h=>by
  rw [HT.dM,HT.dM]
  by_cases e:x = y
  ·subst e
   rw [if_pos rfl,if_pos rfl]
   exact nE a b fun z=>h (by rw [z])
  ·rw [if_neg e,if_neg (Ne.symm e)]
   rcases Int.lt_or_gt_of_ne e with l | l
   ·exact .inl (decide_eq_true l)
   ·exact .inr (decide_eq_true l)
def bK (nss:List (List Int)):List (List Int):=nss.mergeSort fun a b=>!HT.lexLt b a
def xS (nss:List (List Int)):Prop:=nss.Pairwise fun a b=>HT.lexLt a b = true
theorem yf:∀ {l m:List (List Int)},xS l -> xS m -> l.Perm m -> l = m
 | [],m,_,_,p=>(List.perm_nil.mp p.symm).symm
 | a :: l,[],_,_,p=>by have:=p.length_eq;simp at this
 | a :: l,b :: m,h1,h2,p=>by
  have e:a = b:=by
   have ha:a ∈ b :: m:=p.mem_iff.mp List.mem_cons_self
   have hb:b ∈ a :: l:=p.mem_iff.mpr List.mem_cons_self
   rcases List.mem_cons.mp ha with e | ha
   ·exact e
   ·rcases List.mem_cons.mp hb with e | hb
    ·exact e.symm
    ·have l1:=(List.pairwise_cons.mp h2).1 a ha
     have l2:=(List.pairwise_cons.mp h1).1 b hb
     rw [sX _ _ l1] at l2;cases l2
  subst e
  rw [yf (List.pairwise_cons.mp h1).2 (List.pairwise_cons.mp h2).2 (List.perm_cons a |>.mp p)]
theorem oj {nss:List (List Int)} (h:nss.Nodup):xS (bK nss):=by
 have p:(bK nss).Perm nss:=List.mergeSort_perm _ _
 have nd:(bK nss).Nodup:=p.nodup_iff.mpr h
 have sd:(bK nss).Pairwise fun a b=>(!HT.lexLt b a) = true:=List.pairwise_mergeSort (fun a b c h1 h2=>by
  cases e:HT.lexLt c a with
  | false=>rfl
  | true =>
   exfalso
   by_cases xh:b = c
   ·subst xh;rw [e] at h1;cases h1
   ·rcases nE b c xh with l | l
    ·rw [wZ _ _ _ l e] at h1;cases h1
    ·rw [l] at h2;cases h2) (fun a b=>by
  cases e:HT.lexLt b a with
  | false=>rfl
  | true=>rw [sX _ _ e];rfl) nss
 exact (sd.and nd).imp fun {a b} ⟨h1,h2⟩=>by
  rcases nE a b h2 with l | l
  ·exact l
  ·rw [l] at h1;cases h1
theorem Bx {nss l:List (List Int)} (h:nss.Nodup) (hr:xS l) (p:l.Perm nss):l = bK nss:=yf hr (oj h) (p.trans (List.mergeSort_perm _ _).symm)
def ltN (nss:List (List Int)) (i j:Nat):Bool:=HT.lexLt (nss.getD i []) (nss.getD j [])
theorem IY {nss:List (List Int)} (h:nss.Nodup):Ord (ltN nss) nss.length :=
 ⟨fun a b c _ _ _ h1 h2=>wZ _ _ _ h1 h2,fun a b _ _ h=>sX _ _ h,fun a b ha hb xh=>nE _ _ fun e=>xh (by
  have e1:nss.getD a [] = nss[a]:=by simp [ha]
  have e2:nss.getD b [] = nss[b]:=by simp [hb]
  rw [e1,e2] at e
  exact (List.getElem_inj h).mp e)⟩
theorem rg {nss:List (List Int)} (h:nss.Nodup) {p:Array Nat} (ha:Arr p nss.length) (hu:Up (ltN nss) p nss.length):(p.toList.map fun i=>nss.getD i []) = bK nss:=by
 refine Bx h ?_ ?_
 ·refine List.pairwise_iff_getElem.mpr fun i j hi hj j6=>?_
  simp only [List.length_map,Array.length_toList] at hi hj
  have:=hu i j j6 (by rw [<- ha.sz];exact hj)
  unfold ltN at this
  have e:∀ k (hk:k < p.size),p.getD k 0 = p[k]:=fun k hk=>by simp [Array.getD,hk]
  rw [e i hi,e j hj] at this
  simpa using this
 ·have e:nss = (List.range nss.length).map fun i=>nss.getD i []:=by
   refine List.ext_getElem (by simp) fun i h1 h2=>?_
   simp [h1]
  refine (ha.pm.map fun i=>nss.getD i []).trans ?_
  rw [<- e]
end DI
end
section
namespace DI
open PySem PySem.Spec PyProof.Rows L2
section
variable {prog:Program} {w:World} {A:Around} {E:Value -> Shared -> Prop} {s:Shared}
theorem Bw {a:Addr} {vs:List Value} {nss:List (List Int)} {n:Nat} {P:PySem.Fin -> Shared -> Prop} (hu:A.units < cLine) (ho:s.heap.get? a = some (seqObj "list" vs.toArray n)) (ur:vs.length < 64) (DH:nss.Nodup)
  (ht:qT (((s.heap.update a (Obj.mapSeq fun _=>#[])).push (seqObj "tuple" vs.toArray 0)).push (seqObj "list" #[] 0)) vs nss)
  (h:∀ p:Array Nat,Arr p vs.length -> (p.toList.map fun i=>nss.getD i []) = bK nss -> P (.done (.ret .none)) { s with heap:=sortedHeap s.heap a vs (List.toArray (p.toList.map fun i=>vs.getD i Value.none)) }) :
  wpAny (model prog w) A (Builtin.«list.sort» ⟨[.ref a],[]⟩) P E s:=by
 rw [list_sort_plain]
 have ha:a < s.heap.objs.size:=Heap.lt_size ho
 have hsz:vs.toArray.size = vs.length:=by simp
 have hz:vs.length <= sizeLine:=by rw [sizeLine_eq];omega
 have hl:=ht.1
 refine wpAny_bind (listItems_at ho rfl (wpAny_bind (listUpdate_at ho rfl ?_ (by rw [hsz];exact hz) (Nat.zero_le _))))
 obtain ⟨e1,LV⟩:∃ e1,(s.heap.update a (Obj.mapSeq fun _=>#[])).get? a = some (seqObj "list" #[] e1):=⟨_,get?_update_seq ho (fun _=>#[])⟩
 refine wpAny_bind (seqEpoch_at LV rfl (wpAny_bind (wpAny_newTuple (wpAny_bind (wpAny_newList (wpAny_holding ?_) (Nat.zero_le _))) (by simpa using hz))))
 have ho6:(((s.heap.update a (Obj.mapSeq fun _=>#[])).push (seqObj "tuple" vs.toArray 0)).push (seqObj "list" #[] 0)).get? a = some (seqObj "list" #[] e1):=Heap.get?_push_of_some _ (Heap.get?_push_of_some _ LV)
 show wpAny (model prog w) A _ P E ({ s with heap:=((s.heap.update a (Obj.mapSeq fun _=>#[])).push (seqObj "tuple" vs.toArray 0)).push (seqObj "list" #[] 0) }:Shared)
 dsimp only
 have fin:∀ (mM:SortSt) (p:Array Nat),Arr p vs.length -> (p.toList.map fun i=>nss.getD i []) = bK nss -> (arrOf mM).map (·.2) = List.toArray (p.toList.map fun i=>vs.getD i Value.none) -> failedOf mM = none -> wpAny (model prog w) A (do
   let touched:=(<- seqEpoch a) != e1
   Builtin.List.listUpdate (.ref a) fun _=>(arrOf mM).map (·.2)
   if let some e:=failedOf mM then rule "list.sort.comparison-raised";throw e
   if touched then rule "list.sort.modified";raiseError "ValueError" "list modified during sort"
   ret .none) P E ({ s with heap:=((s.heap.update a (Obj.mapSeq fun _=>#[])).push (seqObj "tuple" vs.toArray 0)).push (seqObj "list" #[] 0) }:Shared):=by
  intro mM p hp hs hA hF
  refine wpAny_bind (seqEpoch_at ho6 rfl ?_)
  rw [hA]
  refine wpAny_bind (listUpdate_at ho6 rfl ?_ (Nat.zero_le _) (by rw [List.size_toArray,List.length_map,Array.length_toList,hp.sz];exact Nat.le_succ_of_le hz))
  rw [hF]
  simp only [bne_self_eq_false,Bool.false_eq_true,if_false]
  exact wpAny_pure (h p hp hs)
 by_cases h2:vs.toArray.size < 2
 ·rw [if_pos h2,if_pos h2]
  refine wpAny_bind (wpAny_pure ?_)
  rw [StateT.run_pure]
  refine wpAny_bind (wpAny_pure ?_)
  rw [hsz] at h2
  have WN:Arr (List.toArray (List.range vs.length)) vs.length:=⟨by simp,by simp⟩
  refine fin (SortSt.mk' general' (vs.toArray.zip vs.toArray) #[] 7 none) (List.toArray (List.range vs.length)) WN ?_ ?_ rfl
  ·rw [hl] at WN ⊢
   exact rg DH WN fun i j j6 hj=>by omega
  ·apply Array.toList_inj.mp
   show (Array.map (·.2) (vs.toArray.zip vs.toArray)).toList = _
   rw [Array.toList_map,show (vs.toArray.zip vs.toArray) = pairsOf vs from rfl,pairsOf_toList,List.map_snd_zip (Nat.le_refl _)]
   refine List.ext_getElem (by simp) fun i h1 h2=>?_
   simp [h1]
 ·rw [if_neg h2,if_neg h2]
  rw [hsz] at h2
  refine wpAny_bind (kind_any ht (fun z=>by rw [z] at h2;simp at h2) fun κ hk=>?_)
  have ok:=Ek (IY DH) (by rw [<- hl];omega)
  refine wpAny_bind (wpAny_mono (PySem.W.kat_run (ks:=vs) (vs:=vs) (κ:=κ) (Q:=fun mM s'=>s' = ({ s with heap:=((s.heap.update a (Obj.mapSeq fun _=>#[])).push (seqObj "tuple" vs.toArray 0)).push (seqObj "list" #[] 0) }:Shared) /\ ∃ p,Arr p vs.length /\ (p.toList.map fun i=>nss.getD i []) = bK nss /\ (arrOf mM).map (·.2) = List.toArray (p.toList.map fun i=>vs.getD i Value.none) /\ failedOf mM = none)
   (G:=fun p s'=>s' = ({ s with heap:=((s.heap.update a (Obj.mapSeq fun _=>#[])).push (seqObj "tuple" vs.toArray 0)).push (seqObj "list" #[] 0) }:Shared) /\ Arr p vs.length /\ (p.toList.map fun i=>nss.getD i []) = bK nss) rfl (by omega) ur (fun p mM s' hps har hf hG=>⟨hG.1,p,hG.2.1,hG.2.2,PySem.W.kat_snds rfl har,hf⟩) ?_) (fun r s' ⟨e,p,hp,hs,hA,hF⟩=>?_) fun _ _ e=>e)
  rotate_left
  ·subst e
   exact fin r.2 p hp hs hA hF
  ·rw [hl]
   refine zy (lt:=ltN nss) (n:=nss.length) (fun i j C hi hj hC=>?_) _ ok.1 ⟨rfl,ok.2.1,rg DH ok.2.1 ok.2.2⟩
   obtain ⟨x,aj,e1,i1,i2⟩:=ht.2 i _ (List.getElem?_eq_getElem hi)
   obtain ⟨y,Ff,e2,j1,j2⟩:=ht.2 j _ (List.getElem?_eq_getElem hj)
   unfold PySem.W.kas_ask
   rw [show vs.getD i Value.none = .ref x by simp [e1],show vs.getD j Value.none = .ref y by simp [e2]]
   refine Jr hk hu i1 j1 i2 j2 ?_
   have e3:nss.getD i [] = nss[i]:=by simp [hi]
   have e4:nss.getD j [] = nss[j]:=by simp [hj]
   have hC':C (HT.lexLt (nss.getD i []) (nss.getD j [])) _:=hC
   rw [e3,e4] at hC'
   exact hC'
theorem Df {es:Array DictEntry} {ep:Nat} (hh:A.handled = none) (I d:Addr) (Oi:d ≠ I):Walks prog w A I [I,d] [I] es.size (fun i v=>∃ e,es[i]? = some e /\ v = e.key) (fun i h=>h.IsKeyIter I d i es.size ep /\ uq h d es ep) where
 sub:=fun b hb=>by simp at hb;simp [hb]
 frame:=fun _ _ _ st hk=>⟨st.1.at fun o e=>hk I (by simp) o e,let ⟨o,ho,r⟩:=st.2;⟨o,hk d (by simp) o ho,r⟩⟩
 item:=fun i s Q E hi st hQ=>zg st.1 st.2 hi fun h' Fv QS=>hQ _ h' s.toks ⟨es[i],Array.getElem?_eq_getElem hi,rfl⟩ ⟨Fv,let ⟨o,ho,r⟩:=st.2;⟨o,QS.extBut d o Oi ho,r⟩⟩ fun b o hb e=>QS.extBut b o (fun h=>hb (by simp [h])) e
 done:=fun s Q E st hQ=>Dg hh st.1 st.2 (Nat.le_refl _) fun h' he'=>hQ h' s.toks fun b o hb e=>he' b o (fun h=>hb (by simp [h])) e
 self:=fun _ _ _ _ st hQ=>wpAny_pyIter_keyiter st.1 hQ
theorem K7 {d:Addr} {es:Array DictEntry} {ep:Nat} (lo:(d == sysModules) = false):PySem.W.KdlSrc prog w "dict" d d es.size (fun i v=>∃ e,es[i]? = some e /\ v = e.key) (fun h=>uq h d es ep) where
 type:=fun _ hm=>hm.typeIs
 there:=fun _ hm=>let ⟨_,ho,_⟩:=hm;⟨Heap.lt_size ho,Heap.lt_size ho⟩
 keep:=fun _ _ hm hk=>let ⟨o,ho,r⟩:=hm;⟨o,hk d (.inl rfl) o ho,r⟩
 notList:=by decide
 notTuple:=by decide
 hint:=fun _ _ _ _ hm hq=>PySem.W.kdl_hint_dict hm.typeIs hq
 iter:=fun _ _ hh hm=>⟨_,_,(fun _ _ hq=>zh lo hm hq),Df hh _ d (let ⟨_,ho,_⟩:=hm;Nat.ne_of_lt (Heap.lt_size ho)),⟨⟨_,Heap.get?_push_size _ rfl,rfl,rfl⟩,let ⟨o,ho,r⟩:=hm;⟨o,Heap.get?_push_of_some _ ho,r⟩⟩⟩
theorem uI {d:Addr} {es:Array DictEntry} {ep:Nat} {nss:List (List Int)} {Q:Value -> Shared -> Prop} (hh:A.handled = none) (hu:A.units + 2 < cLine) (lo:(d == sysModules) = false) (hm:uq s.heap d es ep) (ur:es.size < 64) (DH:nss.Nodup) (ht:qT s.heap (es.toList.map (·.key)) nss)
  (h:∀ (S:Addr) (h':Heap) (tk e:Nat) (p:Array Nat),s.heap.get? S = none -> (∀ b o,s.heap.get? b = some o -> h'.get? b = some o) -> Arr p es.size -> (p.toList.map fun i=>nss.getD i []) = bK nss ->
   h'.get? S = some (seqObj "list" (List.toArray (p.toList.map fun i=>(es.toList.map (·.key)).getD i Value.none)) e) -> Q (.ref S) { s with heap:=h',toks:=tk }) :
  wpAny (model prog w) A (call (.builtin "sorted") [.ref d]) Q E s:=by
 refine Calls.call_function_entry kind_sorted plain_sorted entry_sorted (args_sorted1 _) ?_
 unfold Builtin.«sorted»
 have hz:es.size <= sizeLine:=by rw [sizeLine_eq];omega
 refine wpAny_bind (m:=checkCount "sorted" 1 1 _) (wpAny_pure (wpAny_bind (PySem.W.kdu_collect (A:=A.in1) (K7 lo) hh hm hz fun h1 tk acc hk fg=>?_)))
 have OI:acc.toList = es.toList.map (·.key):=by
  refine List.ext_getElem? fun i=>?_
  rw [List.getElem?_map,Array.getElem?_toList,Array.getElem?_toList]
  by_cases hi:i < es.size
  ·have hia:i < acc.size:=by rw [fg.1];exact hi
   obtain ⟨e,he,hv⟩:=fg.2 i acc[i] (Array.getElem?_eq_getElem hia)
   rw [Array.getElem?_eq_getElem hia,he,hv];rfl
  ·rw [Array.getElem?_eq_none (by rw [fg.1];omega),Array.getElem?_eq_none (by omega)];rfl
 rw [OI]
 generalize We:es.toList.map (·.key) = vs at *
 have LQ:vs.length = es.size:=by rw [<- We];simp
 refine wpAny_bind (wpAny_newList ?_ (by rw [LQ];exact hz))
 show wpAny _ _ _ _ _ ({ s with heap:=h1.push (seqObj "list" vs.toArray 0),toks:=tk }:Shared)
 have Oe:(h1.push (seqObj "list" vs.toArray 0)).get? h1.objs.size = some (seqObj "list" vs.toArray 0):=Heap.get?_push_size _ rfl
 have k6:∀ b o,s.heap.get? b = some o -> ((((h1.push (seqObj "list" vs.toArray 0)).update h1.objs.size (Obj.mapSeq fun _=>#[])).push (seqObj "tuple" vs.toArray 0)).push (seqObj "list" #[] 0)).get? b = some o:=fun b o e=>by
  refine Heap.get?_push_of_some _ (Heap.get?_push_of_some _ ?_)
  rw [Heap.get?_update_other _ _ (Nat.ne_of_gt (Heap.lt_size (hk b o e)))]
  exact Heap.get?_push_of_some _ (hk b o e)
 have hle:s.heap.get? h1.objs.size = none:=by
  cases q:s.heap.get? h1.objs.size with
  | none=>rfl
  | some o=>exact absurd (Heap.lt_size (hk _ o q)) (Nat.lt_irrefl _)
 refine wpAny_bind (wpAny_holding (wpAny_call_entry slot_list_sort ⟨_,Oe,rfl⟩ entry_list_sort (Bw (s:={ s with heap:=h1.push (seqObj "list" vs.toArray 0),toks:=tk }) (nss:=nss) (show A.in1.in1.units < cLine by show A.units + 1 + 1 < cLine;omega) Oe (by rw [LQ];exact ur) DH (ht.mono k6) fun p hp hs=>⟨_,rfl,?_⟩) (args_list_sort _)))
 obtain ⟨e,he⟩:=sortedHeap_at (out:=List.toArray (p.toList.map fun i=>vs.getD i Value.none)) Oe
 refine wpAny_pure ⟨_,rfl,h h1.objs.size _ tk e p hle (fun b o e=>?_) (by rw [<- LQ];exact hp) hs he⟩
 have i4:=Heap.lt_size (hk b o e)
 rw [sortedHeap_old (Nat.ne_of_lt i4) (by rw [size_push'];exact Nat.lt_succ_of_lt i4)]
 exact Heap.get?_push_of_some _ (hk b o e)
end
end DI
end
section
namespace DI
open PySem PySem.Spec PyProof.Rows L2
section
variable {α β:Type}
def cg:List (List Int) -> List α -> List Int -> Option α
 | c' :: cs,v :: vs,c=>if c' = c then some v else cg cs vs c
 | _,_,_=>none
def setC:List (List Int) -> List α -> List Int -> α -> List α
 | c' :: cs,v' :: vs,c,v=>(if c' = c then v else v') :: setC cs vs c v
 | _,_,_,_=>[]
def cX (cs:List (List Int)) (c:List Int):List (List Int):=if c ∈ cs then cs else cs ++ [c]
def wa (cs:List (List Int)) (as:List α) (c:List Int) (a:α):List α:=if c ∈ cs then as else as ++ [a]
def bD (cs:List (List Int)) (vs:List α) (c:List Int) (v:α):List α:=if c ∈ cs then setC cs vs c v else vs ++ [v]
end
section
variable {zs:List (List Int × Addr × Value)} {c:List Int}
theorem mj:∀ (zs:List (List Int × Addr × Value)) (c:List Int),(atKey zs c).map (·.2) = cg (zs.map (·.1)) (zs.map (·.2.2)) c
 | [],_=>rfl
 | z :: zs,c=>by
  have ih:=mj zs c
  unfold atKey at ih ⊢
  rw [List.find?_cons]
  show _ = if z.1 = c then some z.2.2 else cg (zs.map (·.1)) (zs.map (·.2.2)) c
  by_cases e:z.1 = c
  ·rw [decide_eq_true e,if_pos e];rfl
  ·rw [decide_eq_false e,if_neg e];exact ih
theorem eH:∀ (zs:List (List Int × Addr × Value)) (c:List Int),(atKey zs c).isSome = true ↔ c ∈ zs.map (·.1)
 | [],c=>by simp [atKey]
 | z :: zs,c=>by
  have ih:=eH zs c
  unfold atKey at ih ⊢
  rw [List.find?_cons,List.map_cons,List.mem_cons]
  by_cases e:z.1 = c
  ·rw [decide_eq_true e];simp [e]
  ·rw [decide_eq_false e]
   rw [ih]
   exact ⟨.inr,fun h=>h.resolve_left fun z=>e z.symm⟩
theorem mB (a:Addr) (v:Value):(storedH zs c a v).map (·.1) = cX (zs.map (·.1)) c:=by
 unfold storedH cX
 by_cases h:c ∈ zs.map (·.1)
 ·rw [if_pos ((eH zs c).mpr h),if_pos h,List.map_map]
  refine List.map_congr_left fun z _=>?_
  show (putAt c v z).1 = z.1
  unfold putAt;split <;> rfl
 ·rw [if_neg (fun z=>h ((eH zs c).mp z)),if_neg h,List.map_append];rfl
theorem uH (a:Addr) (v:Value):(storedH zs c a v).map (·.2.1) = wa (zs.map (·.1)) (zs.map (·.2.1)) c a:=by
 unfold storedH wa
 by_cases h:c ∈ zs.map (·.1)
 ·rw [if_pos ((eH zs c).mpr h),if_pos h,List.map_map]
  refine List.map_congr_left fun z _=>?_
  show (putAt c v z).2.1 = z.2.1
  unfold putAt;split <;> rfl
 ·rw [if_neg (fun z=>h ((eH zs c).mp z)),if_neg h,List.map_append];rfl
theorem uY (v:Value):∀ zs:List (List Int × Addr × Value),(zs.map (putAt c v)).map (·.2.2) = setC (zs.map (·.1)) (zs.map (·.2.2)) c v
 | []=>rfl
 | z :: zs=>by
  show (putAt c v z).2.2 :: ((zs.map (putAt c v)).map (·.2.2)) = (if z.1 = c then v else z.2.2) :: setC (zs.map (·.1)) (zs.map (·.2.2)) c v
  rw [uY v zs]
  unfold putAt
  by_cases e:z.1 = c
  ·rw [if_pos e,if_pos e]
  ·rw [if_neg e,if_neg e]
theorem uG (a:Addr) (v:Value):(storedH zs c a v).map (·.2.2) = bD (zs.map (·.1)) (zs.map (·.2.2)) c v:=by
 unfold storedH bD
 by_cases h:c ∈ zs.map (·.1)
 ·rw [if_pos ((eH zs c).mpr h),if_pos h];exact uY v zs
 ·rw [if_neg (fun z=>h ((eH zs c).mp z)),if_neg h,List.map_append];rfl
end
theorem uw {c:List Int} {v:V} {u:Value} (r:RelV v u):∀ {cs:List (List Int)} {xs:List V} {us:List Value},Vals xs us -> Vals (setC cs xs c v) (setC cs us c u)
 | [],_,_,h=>by cases h <;> exact .nil
 | c' :: cs,_,_,h=>by
  cases h with
  | nil=>exact .nil
  | cons h t =>
   refine .cons ?_ (uw r t)
   show RelV (if c' = c then v else _) (if c' = c then u else _)
   by_cases e:c' = c
   ·rw [if_pos e,if_pos e];exact r
   ·rw [if_neg e,if_neg e];exact h
theorem qX {v:V} {u:Value} (r:RelV v u):∀ {xs:List V} {us:List Value},Vals xs us -> Vals (xs ++ [v]) (us ++ [u])
 | _,_,.nil=>.cons r .nil
 | _,_,.cons h t=>.cons h (qX r t)
theorem Bc {cs:List (List Int)} {xs:List V} {us:List Value} (h:Vals xs us) {c:List Int} {v:V} {u:Value} (r:RelV v u):Vals (bD cs xs c v) (bD cs us c u):=by
 unfold bD
 by_cases e:c ∈ cs
 ·rw [if_pos e,if_pos e];exact uw r h
 ·rw [if_neg e,if_neg e];exact qX r h
theorem n8:∀ {cs:List (List Int)} {xs:List V} {us:List Value} (_:Vals xs us) (c:List Int),p4 (cg cs xs c) (cg cs us c)
 | [],_,_,_,_=>by cases ‹Vals _ _› <;> exact True.intro
 | c' :: cs,_,_,h,c=>by
  cases h with
  | nil=>exact True.intro
  | cons h t =>
   show p4 (if c' = c then some _ else _) (if c' = c then some _ else _)
   by_cases e:c' = c
   ·rw [if_pos e,if_pos e];exact h
   ·rw [if_neg e,if_neg e];exact n8 t c
end DI
end
section
namespace DI
open PySem PySem.Spec PyProof.Rows L2
section
variable {X:Cx} {pins:List (Addr × Obj)} {σ:St} {H:Hp} {s:Shared} {p b:Addr} {cs:List (List Int)} {as:List Addr} {xs:List V} {ep:Nat} {c:List Int} {A:Around} {E:Value -> Shared -> Prop}
theorem items_int:∀ {c:List Int} {aj:List Value},Vals (c.map V.int) aj -> ItemsAre (intKind X.prog X.w) c aj
 | [],_,h=>by cases h;exact .nil
 | i :: c,_,h=>by
  cases h with
  | cons h t =>
   obtain ⟨t',rfl⟩:=h
   exact .cons (by simp [intKind,Value.isInt]) (items_int t)
theorem s9 (I:Inv X pins σ H s) (h:aG X.K H b (c.map V.int)):(tupleKind (intKind X.prog X.w)).is s.heap c b:=by
 obtain ⟨aj,rv,⟨o,h1,h2,n,h3⟩,_⟩:=I.tuple h
 exact ⟨o,aj.toArray,n,h1,h2,h3,by simpa using items_int rv⟩
theorem tP (I:Inv X pins σ H s) (h:H p = some (.ext (DO p cs as xs ep))) (k:eU (aG X.K H) as cs) :
  ∃ (zs:List (List Int × Addr × Value)) (o:Obj) (es:Array DictEntry),zs.map (·.1) = cs /\ zs.map (·.2.1) = as /\ Vals xs (zs.map (·.2.2)) /\ s.heap.get? p = some o /\ o.ExactDict /\ o.data = .dict es ep /\
   s.heap.DictOfH (tupleKind (intKind X.prog X.w)) p zs /\ es.toList = zs.map (entryOfKey (tupleKind (intKind X.prog X.w))) /\ cs.length <= sizeLine /\ (p == sysModules) = false:=by
 obtain ⟨⟨zs,o,es,e1,e2,e3,ho,hx,hd,he,hn,hl,hs⟩,_⟩:=(show cN X.prog X.w H s.heap p (.ext (DO p cs as xs ep)) from I.dq p _ h)
 refine ⟨zs,o,es,e1,e2,e3,ho,hx,hd,⟨o,es,ep,ho,hx,hd,he,fun z hz=>?_,by rw [e1];exact hn⟩,he,hl,hs⟩
 obtain ⟨j,hj⟩:=List.mem_iff_getElem?.mp hz
 exact s9 I (k.tup j z.2.1 z.1 (by rw [<- e2,List.getElem?_map,hj];rfl) (by rw [<- e1,List.getElem?_map,hj];rfl))
theorem dict_cls (I:Inv X pins σ H s) (h:H p = some (.ext (DO p cs as xs ep))):s.TypeIs (.ref p) "dict" /\ ∀ b,Value.ref p = .ref b -> ∃ ob,s.heap.get? b = some ob /\ ob.dict = none:=by
 obtain ⟨⟨zs,o,es,e1,e2,e3,ho,hx,_⟩,_⟩:=(show cN X.prog X.w H s.heap p (.ext (DO p cs as xs ep)) from I.dq p _ h)
 exact ⟨⟨o,ho,hx.1⟩,fun b q=>by cases q;exact ⟨o,ho,hx.2.1⟩⟩
theorem Gb {d:V} {r:Value} {Q:Value -> Shared -> Prop} (hu:A.units + 1 < cLine) (I:Inv X pins σ H s) (h:H p = some (.ext (DO p cs as xs ep))) (k:eU (aG X.K H) as cs) (hb:aG X.K H b (c.map V.int)) (rd:RelV d r) (hQ:∀ w' s',Inv X pins σ H s' -> RelV ((cg cs xs c).getD d) w' -> Q w' s') :
  wpAny (model X.prog X.w) A (call (.builtin "dict.get") [.ref p,.ref b,r]) Q E s:=by
 obtain ⟨zs,o,es,e1,e2,e3,ho,hx,hd,dd,_,hl,hs⟩:=tP I h k
 refine call_meetsIn PySem.F.slot_dict_get dd.typeIs PySem.F.entry_dict_get (PySem.F.args_dict_get_3 _ _ _) (meetsH_dict_get_default (tupleKind (intKind X.prog X.w)) p b hs r) ⟨tupleKind_room_in1 hu,c,zs,s9 I hb,dd,hQ _ _ (I.tok _) ?_⟩
 rw [mj,e1]
 have hg:=n8 (cs:=cs) e3 c
 cases q:cg cs xs c with
 | none =>
  rw [q] at hg
  rw [p4.none_of hg]
  exact rd
 | some v =>
  rw [q] at hg
  obtain ⟨u,Hj,ru⟩:=p4.some_of hg
  rw [Hj]
  exact ru
theorem xy {v:V} {r:Value} {Q:Unit -> Shared -> Prop} (hu:A.units + 1 < cLine) (I:Inv X pins σ H s) (h:H p = some (.ext (DO p cs as xs ep))) (k:eU (aG X.K H) as cs) (hb:aG X.K H b (c.map V.int)) (rv:RelV v r) (i4:cs.length < sizeLine)
  (hQ:∀ zc s',Inv X pins σ (upd H p (.ext (DO p (cX cs c) (wa cs as c b) (bD cs xs c v) zc))) s' -> Q () s') :
  wpAny (model X.prog X.w) A (setItem (.ref p) (.ref b) r) Q E s:=by
 obtain ⟨zs,o,es,e1,e2,e3,ho,hx,hd,dd,_,hl,hs⟩:=tP I h k
 have hz:zs.length <= sizeLine:=by rw [<- e1,List.length_map] at hl;exact hl
 refine wpAny_setItem_heap (hsz:=hz) (tupleKind_room_in1 hu) (s9 I hb) dd fun h' dd' CA=>?_
 obtain ⟨q,L9,zc,hq,h2,h3,h4,_,h5⟩:=dd'
 refine hQ zc _ (I.write (x:=p) (e:=p) (by rw [h];exact True.intro) (.inl rfl) (fun b q hb z=>(CA.2 b hb).trans z) ⟨q,hq⟩ ⟨⟨storedH zs c b r,q,L9,?_,?_,?_,hq,h2,h3,h4,?_,?_,hs⟩,⟨q,hq⟩,?_⟩)
 ·rw [mB,e1]
 ·rw [uH,e1,e2]
 ·rw [uG,e1];exact Bc e3 rv
 ·rw [<- e1,<- mB (zs:=zs) (c:=c) b r];exact h5
 ·unfold cX;split
  ·exact hl
  ·rw [List.length_append,List.length_singleton];omega
 ·rintro h1 h2' ⟨Qh,o',es'',f1,f2,f3,f4,f5⟩ kk
  exact ⟨Qh,o',es'',f1,f2,f3,kk _ f4,f5⟩
theorem EH {pos:Pos}:PE X (.Dict [] [] pos) (fun _ H Q=>∀ p,H p = none -> Q (.ref p) (upd H p (.ext (DO p [] [] [] 0)))):=fun pins s σ H Q I h=>by
 have WK:sysModules < s.heap.objs.size:=Nat.lt_trans (by decide) (show mainGlobals < s.heap.objs.size from (I.mod.glob.keeps I.bk).lt)
 refine wpAny_Dict_empty ⟨.ref s.heap.objs.size,_,I.laid (a:=s.heap.objs.size) (o:=.ext (DO s.heap.objs.size [] [] [] 0)) (t':=s.toks) (fun _ _ q=>Heap.get?_push_of_some _ q) (Nat.le_refl _) ?_,rfl,h _ (I.dq.fresh (Nat.le_refl _))⟩
 have hg:(s.heap.push { cls:=.type "dict",data:=.dict #[] }).get? s.heap.objs.size = some { cls:=.type "dict",data:=.dict #[] }:=Heap.get?_push_size _ rfl
 refine ⟨⟨[],_,#[],rfl,rfl,.nil,hg,⟨rfl,rfl,rfl⟩,rfl,rfl,List.nodup_nil,Nat.zero_le _,beq_eq_false_iff_ne.mpr (Ne.symm (Nat.ne_of_lt WK))⟩,⟨_,hg⟩,?_⟩
 rintro h1 h2' ⟨Qh,o',es'',f1,f2,f3,f4,f5⟩ kk
 exact ⟨Qh,o',es'',f1,f2,f3,kk _ f4,f5⟩
end
end DI
end
section
namespace DI
open PySem PySem.Spec PyProof.Rows L2
theorem kT {T:jZ} {N N':i3} {k k':aI} {v:V} {d:D} (h:Rep T N k v d) (hf:aH anyF d = false):Rep T N' k' v d:=by
 have:=Rep.gen (T':=T) (N':=N') (g:=id) (P:=anyF) (C:=fun _ _=>True) (I:=fun _ _=>True) (fun _ _ h=>h) trivial (fun _ _ e=>e) (fun _ _ _ _ e _=>e) (fun k k' p xs f _ hz _=>nomatch hz) h (k':=k') trivial hf
 rw [eL] at this;exact this
theorem oD {T:jZ} {N:i3}:∀ {cs:List (List Int)} {k:aI} {n:Nat} {xs:List V} {ds:List D} (_:af T N k n xs ds) (c:List Int),(cg cs xs c = none /\ cg cs ds c = none) \/ ∃ v d k',cg cs xs c = some v /\ cg cs ds c = some d /\ Rep T N k' v d /\ d ∈ ds
 | [],_,_,_,_,_,_=>by cases ‹af _ _ _ _ _ _› <;> exact .inl ⟨rfl,rfl⟩
 | c' :: cs,_,_,_,_,r,c=>by
  cases r with
  | nil=>exact .inl ⟨rfl,rfl⟩
  | @cons _ _ v d vs ds h t =>
   by_cases e:c' = c
   ·exact .inr ⟨v,d,_,if_pos e,if_pos e,h,List.mem_cons_self⟩
   ·have e1:∀ {α:Type} (a:α) (l:List α),cg (c' :: cs) (a :: l) c = cg cs l c:=fun a l=>if_neg e
    rw [e1,e1]
    rcases oD (cs:=cs) t c with h | ⟨v',d',k',h1,h2,h3,h4⟩
    ·exact .inl h
    ·exact .inr ⟨v',d',k',h1,h2,h3,List.mem_cons_of_mem _ h4⟩
theorem rO {p:Fl -> Bool}:∀ {ds:List D},aw p ds = false -> ∀ d ∈ ds,aH p d = false
 | [],_,_,h=>nomatch h
 | d :: ds,h,d',hd=>by
  have h:=G8 h
  rcases List.mem_cons.mp hd with rfl | hd
  ·exact h.1
  ·exact rO h.2 d' hd
theorem uV {T:jZ} {N:i3} {c:List Int} {v:V} {d:D} (hv:∀ k,Rep T N k v d):∀ {cs:List (List Int)} {k:aI} {n:Nat} {xs:List V} {ds:List D},af T N k n xs ds -> af T N k n (setC cs xs c v) (setC cs ds c d)
 | [],_,_,_,_,r=>by cases r <;> exact .nil
 | c' :: cs,_,_,_,_,r=>by
  cases r with
  | nil=>exact .nil
  | cons h t =>
   refine .cons ?_ (uV hv t)
   show Rep _ _ _ (if c' = c then v else _) (if c' = c then d else _)
   by_cases e:c' = c
   ·rw [if_pos e,if_pos e];exact hv _
   ·rw [if_neg e,if_neg e];exact h
theorem rq {T:jZ} {N:i3} {v:V} {d:D} (hv:∀ k,Rep T N k v d):∀ {k:aI} {n:Nat} {xs:List V} {ds:List D},af T N k n xs ds -> af T N k n (xs ++ [v]) (ds ++ [d])
 | _,_,_,_,.nil=>.cons (hv _) .nil
 | _,_,_,_,.cons h t=>.cons h (rq hv t)
theorem BI {T:jZ} {N:i3} {c:List Int} {v:V} {d:D} (hv:∀ k,Rep T N k v d) {cs:List (List Int)} {k:aI} {n:Nat} {xs:List V} {ds:List D} (r:af T N k n xs ds):af T N k n (bD cs xs c v) (bD cs ds c d):=by
 unfold bD
 by_cases e:c ∈ cs
 ·rw [if_pos e,if_pos e];exact uV hv r
 ·rw [if_neg e,if_neg e];exact rq hv r
theorem Cq {T:jZ} {as:List Addr} {cs:List (List Int)} (k:eU T as cs) {b:Addr} {c:List Int} (hb:T b (c.map V.int)):eU T (wa cs as c b) (cX cs c):=by
 unfold wa cX
 by_cases e:c ∈ cs
 ·rw [if_pos e,if_pos e];exact k
 ·rw [if_neg e,if_neg e]
  refine ⟨by rw [List.length_append,List.length_append,k.len];rfl,fun j a c' ha hc=>?_⟩
  by_cases hj:j < as.length
  ·rw [List.getElem?_append_left hj] at ha
   rw [List.getElem?_append_left (by rw [<- k.len];exact hj)] at hc
   exact k.tup j a c' ha hc
  ·rw [List.getElem?_append_right (by omega)] at ha
   rw [List.getElem?_append_right (by rw [<- k.len];omega),<- k.len] at hc
   cases hz:j - as.length with
   | zero =>
    rw [hz] at ha hc
    cases ha
    cases hc
    exact hb
   | succ m=>rw [hz] at ha;cases ha
theorem bJ.newD {K:PySem.W.Frag} {G R:Addr -> Prop} {τ:Addr -> Option aI} {fv:List Nat} {H H':Hp} {p:Addr} (hp:H p = none) (hl:H' p = some (.ext (DO p [] [] [] 0))):bJ K G R τ fv H H' (.ref p) (.cx .ow [] []):=by
 refine ⟨fun q=>if q = p then some [] else none,fun q k hq=>?_,.cx (ep:=0) (as:=[]) (xs:=[]) ⟨hl,by simp⟩ ⟨rfl,fun j a c h=>by simp at h⟩ .nil⟩
 by_cases xa:q = p
 ·subst xa;exact hp
 ·simp [xa] at hq
def vI (xs:List D):O D:=match xs with
 | []=>ok (.cx .ow [] [])
 | _ :: _=>none
def tY (_:Scope) (_:List Str) (e:Expr):Option (List Expr):=match e with
 | .Dict [] [] _=>some []
 | _=>none
theorem FY {Φ:az} {n:Nat} (hΦ:Φ n = vI) {X:Cx} {sc:Scope} {bl:List Str} {k:Nat} (L:PX X sc bl k) {e:Expr} {args:List Expr} (he:tY sc bl e = some args) {F:Addr -> Prop} {cs:List CE} (hs:qU X F Φ cs args):PE X e (tD X F Φ (.dt n cs)) /\ PT X e (hX X F Φ (.dt n cs)):=by
 have h1:∃ pos,e = .Dict [] [] pos /\ args = []:=by
  unfold tY at he
  split at he
  ·cases he;exact ⟨_,rfl,rfl⟩
  ·cases he
 obtain ⟨pos,rfl,rfl⟩:=h1
 cases cs with
 | cons _ _=>exact hs.elim
 | nil =>
  have this:PE X (.Dict [] [] pos) (tD X F Φ (.dt n [])):=by
   refine PE.imp (EH (X:=X) (pos:=pos)) fun σ H Q hq p hp=>?_
   obtain ⟨R,τ,ρ,d,Si,ev,hq⟩:=hq
   have ev:Φ n [] = ok d:=ev
   rw [hΦ] at ev
   cases ev
   exact hq _ _ (ak.upd hp) (bJ.newD hp aK)
  exact ⟨this,cV this fun _=>rfl⟩
def three {α:Type}:List α -> Option (α × α × α)
 | [a,b,c]=>some (a,b,c)
 | _=>none
theorem uD {α:Type} {l:List α} {z:α × α × α} (h:three l = some z):l = [z.1,z.2.1,z.2.2]:=by
 unfold three at h
 split at h
 ·cases h;rfl
 ·cases h
def gS:D -> Option (List (List Int) × List D)
 | .cx _ cs vs=>some (cs,vs)
 | _=>none
def keyOf:D -> Option (List Int)
 | .tup ks=>intsOf ks
 | _=>none
theorem ll {d:D} {z:List (List Int) × List D} (h:gS d = some z):∃ f,d = .cx f z.1 z.2:=by
 cases d <;> first | (cases h;done) | (cases h;exact ⟨_,rfl⟩)
theorem oV {d:D} {c:List Int} (h:keyOf d = some c):d = .tup (c.map D.int):=by
 cases d <;> first | (cases h;done) | skip
 rw [eE (show intsOf _ = some c from h)]
def xu (xs:List D):O D:=match two xs with
 | some z=>match gS z.1 with
  | some d=>match keyOf z.2 with
   | some c=>match cg d.1 d.2 c with
    | some v=>if aH anyF v = false then ok v else none
    | none=>none
   | none=>none
  | none=>none
 | none=>none
theorem F_ {xs:List D} {r:D} (h:xu xs = ok r):∃ f cs vs c,xs = [.cx f cs vs,.tup (c.map D.int)] /\ cg cs vs c = some r /\ aH anyF r = false:=by
 unfold xu at h
 cases h1:two xs with
 | none=>rw [h1] at h;cases h
 | some z =>
  rw [h1] at h
  have h:(match gS z.1 with | some d=>(match keyOf z.2 with | some c=>(match cg d.1 d.2 c with | some v=>if aH anyF v = false then ok v else none | none=>none) | none=>none) | none=>none) = ok r:=h
  cases h2:gS z.1 with
  | none=>rw [h2] at h;cases h
  | some d =>
   rw [h2] at h
   have h:(match keyOf z.2 with | some c=>(match cg d.1 d.2 c with | some v=>if aH anyF v = false then ok v else none | none=>none) | none=>none) = ok r:=h
   cases h3:keyOf z.2 with
   | none=>rw [h3] at h;cases h
   | some c =>
    rw [h3] at h
    have h:(match cg d.1 d.2 c with | some v=>if aH anyF v = false then ok v else none | none=>none) = ok r:=h
    cases h4:cg d.1 d.2 c with
    | none=>rw [h4] at h;cases h
    | some v =>
     rw [h4] at h
     obtain ⟨hf,rfl⟩:=rL (show (if aH anyF v = false then ok v else none) = ok r from h)
     obtain ⟨f,e1⟩:=ll h2
     exact ⟨f,d.1,d.2,c,by rw [j9 h1,e1,oV h3],h4,hf⟩
def SN (K:PySem.W.Frag):R2:=fun x y H Q=>∃ p b cs as xs ep c v,x = .ref p /\ y = .ref b /\ H p = some (.ext (DO p cs as xs ep)) /\ eU (aG K H) as cs /\ aG K H b (c.map V.int) /\ cg cs xs c = some v /\ Q v H
theorem Fh {X:Cx} (hu:X.A.units + 1 < cLine):HD X (SN X.K):=by
 intro value slice pins s σ H x y v u Q I rx ry h hs
 obtain ⟨p,b,cs,as,xs,ep,c,w,rfl,rfl,hp,hk,hb,hg,q⟩:=h
 cases rx
 cases ry
 obtain ⟨zs,o,es,e1,e2,e3,ho,hx,hd,dd,_,hl,Fs⟩:=tP I hp hk
 have hg':=n8 (cs:=cs) e3 c
 rw [hg] at hg'
 obtain ⟨u,Hj,ru⟩:=p4.some_of hg'
 have:(atKey zs c).map (·.2) = some u:=by rw [mj,e1];exact Hj
 obtain ⟨q',hq',rfl⟩:=Option.map_eq_some_iff.mp this
 exact subscriptTail_builtinR (x:=q'.2) dd.typeIs PySem.F.slot_dict_getitem.lookup
  (wpAny_getItem_heap (Q:=fun r s'=>r = q'.2 /\ EP X pins σ Q r s') (tupleKind_room_in1 hu) (s9 I hb) dd hq' ⟨rfl,w,H,I.tok _,ru,q⟩) hs
def xJ (_:Scope) (_:List Str) (e:Expr):Option (List Expr):=match n9 e with
 | some z=>some [z.1,z.2]
 | none=>none
theorem K8 {Φ:az} {n:Nat} (hΦ:Φ n = xu) {X:Cx} {sc:Scope} {bl:List Str} {k:Nat} (L:PX X sc bl k) {e:Expr} {args:List Expr} (he:xJ sc bl e = some args) {F:Addr -> Prop} {cs:List CE} (hs:qU X F Φ cs args):PE X e (tD X F Φ (.dt n cs)) /\ PT X e (hX X F Φ (.dt n cs)):=by
 unfold xJ at he
 cases h1:n9 e with
 | none=>rw [h1] at he;cases he
 | some z =>
  rw [h1] at he
  cases he
  obtain ⟨pos,rfl⟩:=kJ h1
  obtain ⟨⟨c1,c2,rfl,p1,p2⟩,_⟩:=oH hs
  have this:PE X (.Subscript z.1 z.2 pos) (tD X F Φ (.dt n [c1,c2])):=by
   refine PE.imp (G6 (Fh (Cy L.room)) p1 p2 hs.2.2.2.2.2.1) fun σ H Q hq=>?_
   obtain ⟨R,τ,ρ,d,Si,ev,hq⟩:=hq
   obtain ⟨xs,df,ev⟩:=ag ev
   rw [hΦ] at ev
   obtain ⟨f,cs,vs,c,rfl,hg,hf⟩:=F_ ev
   obtain ⟨x,ex,df⟩:=ag df
   obtain ⟨ys,xm,df⟩:=ag df
   obtain ⟨y,ey,XO⟩:=ag xm
   cases XO
   cases df
   refine tD.intro Si ex fun v H1 e1 r1=>tD.intro (Si.go e1) ey fun u H2 e2 r2=>?_
   obtain ⟨τ1,f1,q1⟩:=r1
   obtain ⟨τ2,f2,q2⟩:=r2
   cases q1 with
   | cx hn hk hr=>cases q2 with
    | tup ht N8 =>
     cases N8.ofInts
     rcases oD hr c with ⟨_,hz⟩ | ⟨w,d',k',g1,g2,g3,_⟩
     ·rw [hg] at hz;cases hz
     ·rw [hg] at g2
      cases g2
      refine ⟨_,_,_,_,_,_,c,w,rfl,rfl,e2 _ _ hn.dat,hk.imp fun _ _ h=>aG.same e2 h,ht,g1,hq w H2 (e1.trans e2) ⟨fun _=>none,fun _ _ h=>by simp at h,?_⟩⟩
      exact (kT (N':=nd X.K R (kl (gP X F) τ (gO (.dt n [c1,c2]))) (fun _=>none) H1) (k':=[]) g3 hf).imp (fun _ _ h=>aG.same e2 h) fun _ _ _ _ h=>nd.same e2 h
  exact ⟨this,cV this fun _=>rfl⟩
end DI
end
section
namespace DI
open PySem PySem.Spec PyProof.Rows L2
def pI (xs:List D):O D:=match three xs with
 | some z=>match gS z.1 with
  | some d=>match keyOf z.2.1 with
   | some c=>if aw anyF d.2 = false /\ aH anyF z.2.2 = false then ok ((cg d.1 d.2 c).getD z.2.2) else none
   | none=>none
  | none=>none
 | none=>none
theorem Di {xs:List D} {r:D} (h:pI xs = ok r):∃ f cs vs c x,xs = [.cx f cs vs,.tup (c.map D.int),x] /\ aw anyF vs = false /\ aH anyF x = false /\ r = (cg cs vs c).getD x:=by
 unfold pI at h
 cases h1:three xs with
 | none=>rw [h1] at h;cases h
 | some z =>
  rw [h1] at h
  have h:(match gS z.1 with | some d=>(match keyOf z.2.1 with | some c=>if aw anyF d.2 = false /\ aH anyF z.2.2 = false then ok ((cg d.1 d.2 c).getD z.2.2) else none | none=>none) | none=>none) = ok r:=h
  cases h2:gS z.1 with
  | none=>rw [h2] at h;cases h
  | some d =>
   rw [h2] at h
   have h:(match keyOf z.2.1 with | some c=>if aw anyF d.2 = false /\ aH anyF z.2.2 = false then ok ((cg d.1 d.2 c).getD z.2.2) else none | none=>none) = ok r:=h
   cases h3:keyOf z.2.1 with
   | none=>rw [h3] at h;cases h
   | some c =>
    rw [h3] at h
    obtain ⟨⟨hf,hx⟩,rfl⟩:=rL (show (if aw anyF d.2 = false /\ aH anyF z.2.2 = false then ok ((cg d.1 d.2 c).getD z.2.2) else none) = ok r from h)
    obtain ⟨f,e1⟩:=ll h2
    exact ⟨f,d.1,d.2,c,z.2.2,by rw [uD h1,e1,oV h3],hf,hx,rfl⟩
def nM (_:Scope) (_:List Str) (e:Expr):Option (List Expr):=match qY ("get" : Str) (.Expr e ⟨0,0,0,0⟩) with
 | some z=>match two z.2 with
  | some y=>if isNm z.1 = true then some [z.1,y.1,y.2] else none
  | none=>none
 | none=>none
theorem xK {sc:Scope} {bl:List Str} {e:Expr} {args:List Expr} (h:nM sc bl e = some args):∃ x p p1 p2 a b,e = .Call (.Attribute (.Name x p) ("get" : Str) p1) [a,b] [] p2 /\ args = [.Name x p,a,b] /\ (p1.endLine == p2.line) = true:=by
 unfold nM at h
 cases h1:qY ("get" : Str) (.Expr e ⟨0,0,0,0⟩) with
 | none=>rw [h1] at h;cases h
 | some z =>
  obtain ⟨o,as⟩:=z
  rw [h1] at h
  have h2:(match two as with | some y=>if isNm o = true then some [o,y.1,y.2] else none | none=>none) = some args:=h
  clear h
  cases h3:two as with
  | none=>rw [h3] at h2;cases h2
  | some y =>
   rw [h3] at h2
   have h4:(if isNm o = true then some [o,y.1,y.2] else none) = some args:=h2
   clear h2
   by_cases hn:isNm o = true
   ·rw [if_pos hn] at h4
    cases h4
    obtain ⟨p1,p2,pos,e1,hl⟩:=ux h1
    cases e1
    cases o <;> first | (cases hn;done) | skip
    rw [j9 h3]
    exact ⟨_,_,_,_,_,_,rfl,rfl,hl⟩
   ·rw [if_neg hn] at h4;cases h4
theorem zZ {X:Cx} {x:Str} {p p1 p2:Pos} {a b:Expr} {td:TE} {ta:TA} (hu:X.A.units + 1 < cLine) (ho:PE X (.Name x p) td) (ha:PA X [a,b] ta) (s1:∀ es,starEach (a :: es) X.env = (false,eval a X.env) :: starEach es X.env) (s2:∀ es,starEach (b :: es) X.env = (false,eval b X.env) :: starEach es X.env) (hl:(p1.endLine == p2.line) = true) :
  PE X (.Call (.Attribute (.Name x p) ("get" : Str) p1) [a,b] [] p2) (fun σ H Q=>td σ H fun v H1=>∃ q cs as xs ep,v = .ref q /\ H1 q = some (.ext (DO q cs as xs ep)) /\ ta σ H1 fun ys H2=>∃ k c z,ys = [.ref k,z] /\ H2 q = some (.ext (DO q cs as xs ep)) /\ eU (aG X.K H2) as cs /\ aG X.K H2 k (c.map V.int) /\ Q ((cg cs xs c).getD z) H2):=by
 intro pins s σ H Q I h
 refine wpAny_Call_method rfl (by rw [s1,s2];rfl) hl PySem.F.plainAttrs_dict PySem.F.slot_dict_get PySem.F.type_dict_get (di (ho pins s σ H _ I h) fun u s1' ⟨v,H1,I1,rx,q,cs,as,xs,ep,ex,hd,q1⟩=>?_)
 subst ex
 obtain rfl:u = Value.ref q:=rx
 obtain ⟨t1,t2⟩:=dict_cls I1 hd
 refine ⟨t1,t2,?_⟩
 have hA:=ha p2 pins s1' σ H1 _ I1 q1
 rw [s1] at hA ⊢
 refine Calls.callWith_builtin (by show (false || (backTo p2 (starEach [b] X.env)).any (·.1)) = false;rw [s2];rfl) (Calls.evalArgs_plain ?_)
 refine di hA fun us s3 ⟨ys,H2,I2,r2,k,c,z,ey,hd2,hk,hb,q2⟩=>?_
 subst ey
 obtain ⟨w1,w2,rfl,rw1,rw2⟩:=vals2 r2
 cases rw1
 exact Gb hu I2 hd2 hk hb rw2 fun w' s4 I4 qe=>⟨_,H2,I4,qe,q2⟩
theorem Ga {Φ:az} {n:Nat} (hΦ:Φ n = pI) {X:Cx} {sc:Scope} {bl:List Str} {k:Nat} (L:PX X sc bl k) {e:Expr} {args:List Expr} (he:nM sc bl e = some args) {F:Addr -> Prop} {cs:List CE} (hs:qU X F Φ cs args):PE X e (tD X F Φ (.dt n cs)) /\ PT X e (hX X F Φ (.dt n cs)):=by
 obtain ⟨x,p,p1,p2,a,b,rfl,rfl,hl⟩:=xK he
 cases cs with
 | nil=>exact hs.elim
 | cons c0 cs =>
  obtain ⟨h0,_,_,QS⟩:=hs
  obtain ⟨⟨c1,c2,rfl,_,_⟩,pa,s1,s2⟩:=oH QS
  have this:PE X (.Call (.Attribute (.Name x p) ("get" : Str) p1) [a,b] [] p2) (tD X F Φ (.dt n [c0,c1,c2])):=by
   refine PE.imp (zZ (Cy L.room) h0 pa s1 s2 hl) fun σ H Q hq=>?_
   obtain ⟨R,τ,ρ,d,Si,ev,hq⟩:=hq
   obtain ⟨xs,df,ev⟩:=ag ev
   rw [hΦ] at ev
   obtain ⟨f,cs,vs,c,y,rfl,hf,hy,rfl⟩:=Di ev
   obtain ⟨x0,ex,df⟩:=ag df
   obtain ⟨ys,xm,df⟩:=ag df
   cases df
   refine tD.intro Si ex fun v H1 e1 r1=>?_
   obtain ⟨τ1,f1,q1⟩:=r1
   cases q1 with
   | cx hn hk hr =>
    refine ⟨_,_,_,_,_,rfl,hn.dat,R,τ,ρ,_,Si.go e1,xm,fun us H2 e2 r2=>?_⟩
    obtain ⟨τ2,f2,q2⟩:=r2
    obtain ⟨u1,u2,rfl,SE,SD⟩:=q2.two
    cases SE with
    | tup ht N8 =>
     cases N8.ofInts
     refine ⟨_,c,u2,rfl,e2 _ _ hn.dat,hk.imp fun _ _ h=>aG.same e2 h,ht,?_⟩
     refine hq _ H2 (e1.trans e2) ⟨fun _=>none,fun _ _ h=>by simp at h,?_⟩
     rcases oD hr c with ⟨g1,g2⟩ | ⟨w,d',k',g1,g2,g3,g4⟩
     ·rw [g1,g2]
      exact kT (T:=aG X.K H2) SD hy
     ·rw [g1,g2]
      exact (kT (N':=nd X.K R (kl (gP X F) τ (gO (.dt n [c0,c1,c2]))) (fun _=>none) H1) (k':=[]) g3 (rO hf _ g4)).imp (fun _ _ h=>aG.same e2 h) fun _ _ _ _ h=>nd.same e2 h
  exact ⟨this,cV this fun _=>rfl⟩
def pG (xs:List D):O D:=match three xs with
 | some z=>match z.1 with
  | .cx f cs vs=>match keyOf z.2.2 with
   | some c=>if d9 f = true /\ aH anyF z.2.1 = false /\ cs.length < eu then ok (.cx .ow (cX cs c) (bD cs vs c z.2.1)) else none
   | none=>none
  | _=>none
 | none=>none
theorem vH {d:D} {xs:List D} {r:D} (h:pG (d :: xs) = ok r):∃ cs vs c x,d = .cx .ow cs vs /\ xs = [x,.tup (c.map D.int)] /\ aH anyF x = false /\ cs.length < eu /\ r = .cx .ow (cX cs c) (bD cs vs c x):=by
 unfold pG at h
 cases h1:three (d :: xs) with
 | none=>rw [h1] at h;cases h
 | some z =>
  rw [h1] at h
  have e0:=uD h1
  obtain ⟨d',x,y⟩:=z
  obtain ⟨rfl,rfl⟩:d = d' /\ xs = [x,y]:=List.cons.inj e0
  cases d <;> first | (cases h;done) | skip
  rename_i f cs vs
  have h:(match keyOf y with | some c=>if d9 f = true /\ aH anyF x = false /\ cs.length < eu then ok (D.cx .ow (cX cs c) (bD cs vs c x)) else none | none=>none) = ok r:=h
  cases h3:keyOf y with
  | none=>rw [h3] at h;cases h
  | some c =>
   rw [h3] at h
   obtain ⟨⟨hf,hx,hl⟩,rfl⟩:=rL (show (if d9 f = true /\ aH anyF x = false /\ cs.length < eu then ok (D.cx .ow (cX cs c) (bD cs vs c x)) else none) = ok r from h)
   cases f <;> first | (cases hf;done) | exact ⟨cs,vs,c,x,rfl,by rw [oV h3],hx,hl,rfl⟩
def nL (_:Scope) (_:List Str) (st:Stmt):Option (Expr × List Expr):=match zG st with
 | some z=>match one z.1 with
  | some t=>match n9 t with
   | some y=>some (y.1,[z.2,y.2])
   | none=>none
  | none=>none
 | none=>none
theorem xI {sc:Scope} {bl:List Str} {st:Stmt} {o:Expr} {args:List Expr} (h:nL sc bl st = some (o,args)):∃ v i pos' pos,st = .Assign [.Subscript o i pos'] v pos /\ args = [v,i]:=by
 unfold nL at h
 cases h1:zG st with
 | none=>rw [h1] at h;cases h
 | some z =>
  obtain ⟨ts,v⟩:=z
  rw [h1] at h
  have h2:(match one ts with | some t=>(match n9 t with | some y=>some (y.1,[v,y.2]) | none=>none) | none=>none) = some (o,args):=h
  clear h
  cases h3:one ts with
  | none=>rw [h3] at h2;cases h2
  | some t =>
   rw [h3] at h2
   have h4:(match n9 t with | some y=>some (y.1,[v,y.2]) | none=>none) = some (o,args):=h2
   clear h2
   cases h5:n9 t with
   | none=>rw [h5] at h4;cases h4
   | some y =>
    rw [h5] at h4
    cases h4
    obtain ⟨pos,rfl⟩:=nk h1
    obtain rfl:=cm h3
    obtain ⟨p,rfl⟩:=kJ h5
    exact ⟨_,_,_,_,rfl,rfl⟩
mutual
theorem any_map (g:Fl -> Fl):∀ d:D,aH anyF (aC g d) = aH anyF d
 | .bC=>rfl
 | .bl _=>rfl
 | .int _=>rfl
 | .tup ds=>v7 g ds
 | .lst _ ds=>rfl
 | .cx _ _ ds=>rfl
theorem v7 (g:Fl -> Fl):∀ ds:List D,aw anyF (ah g ds) = aw anyF ds
 | []=>rfl
 | d :: ds=>by show (aH _ _ || aw _ _) = (aH _ d || aw _ ds);rw [any_map g d,v7 g ds]
end
mutual
theorem xO:∀ d:D,aH anyF d = false -> aH bV d = false
 | .bC,_=>rfl
 | .bl _,_=>rfl
 | .int _,_=>rfl
 | .tup ds,h=>zB ds h
 | .lst _ ds,h=>nomatch h
 | .cx _ _ ds,h=>nomatch h
theorem zB:∀ ds:List D,aw anyF ds = false -> aw bV ds = false
 | [],_=>rfl
 | d :: ds,h=>by
  have h:=G8 h
  show (aH _ d || aw _ ds) = false
  rw [xO d h.1,zB ds h.2];rfl
end
theorem any_ints:∀ c:List Int,aw anyF (c.map D.int) = false
 | []=>rfl
 | i :: c=>any_ints c
theorem HX {value o i:Expr} {pos':Pos} {l:Nat} {env:Env}:swapsWith value (some (.Subscript o i pos')) l env = pure false:=by
 unfold swapsWith;cases value <;> rfl
theorem BP {X:Cx} {x:Str} {p0 pos' pos:Pos} {value i:Expr} {tv to ti:TE} (hu:X.A.units + 1 < cLine) (hv:PE X value tv) (ho:PE X (.Name x p0) to) (hi:PE X i ti) :
  PS X (.Assign [.Subscript (.Name x p0) i pos'] value pos) (fun D σ H=>tv σ H fun v H1=>to σ H1 fun o H2=>ti σ H2 fun y H3=>∃ q b cs as xs ep c,o = .ref q /\ y = .ref b /\ H3 q = some (.ext (DO q cs as xs ep)) /\ eU (aG X.K H3) as cs /\ aG X.K H3 b (c.map V.int) /\ cs.length < sizeLine /\
   ∀ zc,D.nx σ (upd H3 q (.ext (DO q (cX cs c) (wa cs as c b) (bD cs xs c v) zc)))):=by
 intro pins s σ H D I h
 refine wpAny_Assign_Subscript (di (hv pins s σ H _ I h) fun r s1 ⟨v,H1,I1,rv,q1⟩=>di (ho pins s1 σ H1 _ I1 q1) fun u s2 ⟨o,H2,I2,rx,q2⟩=>di (hi pins s2 σ H2 _ I2 q2) fun iv s3 ⟨y,H3,I3,ry,q,b,cs,as,xs,ep,c,eo,ey,hd,hk,hb,hl,q3⟩=>?_) HX
 subst eo ey
 obtain rfl:u = Value.ref q:=rx
 obtain rfl:iv = Value.ref b:=ry
 exact xy hu I3 hd hk hb rv hl fun zc s4 I4=>⟨σ,_,I4,q3 zc⟩
theorem SI.Nn {X:Cx} {F R:Addr -> Prop} {τ:Addr -> Option aI} {ρ:aA} {σ:St} {H:Hp} {i:Nat} {cs:List (List Int)} {ds:List D} (Si:SI X F R τ ρ σ H) (hi:ρ[i]? = some (some (.cx .ow cs ds))) :
  ∃ p as xs ep,σ[i]? = some (some (.ref p)) /\ H p = some (.ext (DO p cs as xs ep)) /\ τ p = some [i] /\ eU (aG X.K H) as cs /\ af (aG X.K H) (nd X.K R (fun _=>False) τ H) [i] 0 xs ds:=by
 obtain ⟨v,hv,rp⟩:=Si.rep i _ hi
 cases rp with
 | cx h k r=>exact ⟨_,_,_,_,hv,h.1,h.2,k,r⟩
theorem FX {Φ:az} {n:Nat} (hΦ:Φ n = pG) {X:Cx} {sc:Scope} {bl:List Str} {k:Nat} (L:PX X sc bl k) (hN:X.N.Nodup) (A5:∀ x,X.fn x = true) {st:Stmt} {x:Str} {pos:Pos} {args:List Expr} (he:nL sc bl st = some (.Name x pos,args))
  {i:Nat} (hi:X.N[i]? = some x) (hl:L2.Loc X.env.scope x) (pe:PE X (.Name x pos) (Bp i)) {F:Addr -> Prop} {cs:List CE} (hs:qU X F Φ cs args):PS X st (wd X F Φ (.mut n i cs)):=by
 obtain ⟨v,ix,p1,p2,rfl,rfl⟩:=xI he
 obtain ⟨⟨c1,c2,rfl,h1,h2⟩,_⟩:=oH hs
 refine PS.imp (BP (Cy L.room) h1 pe h2) fun D σ H hq=>?_
 obtain ⟨R,τ,ρ,r,Si,ev,hq⟩:=hq
 obtain ⟨xs,df,ev⟩:=ag ev
 obtain ⟨y,ey,df⟩:=ag df
 obtain ⟨ys,xm,df⟩:=ag df
 cases df
 obtain ⟨kd,ek,XO⟩:=ag xm
 cases XO
 have key:∃ cs vs c,kd = .tup (c.map DI.D.int) /\ ρ[i]? = some (some (.cx .ow cs vs)) /\ aH anyF y = false /\ cs.length < eu /\ r = (.nx,ρ.set i (some (.cx .ow (cX cs c) (bD cs vs c y)))):=by
  cases hz:aw bV [y,kd] with
  | true =>
   obtain ⟨d,d',h⟩:=Cd ev hz
   rw [hΦ] at h
   obtain ⟨cs,vs,c,x',_,e1,e2,_⟩:=vH h
   have e3:aC aN y = x' /\ aC aN kd = .tup (c.map DI.D.int):=by
    have:=List.cons.inj e1
    exact ⟨this.1,(List.cons.inj this.2).1⟩
   have a1:aH bV y = false:=xO y (by rw [<- any_map aN y,e3.1];exact e2)
   have a2:aH bV kd = false:=xO kd (by rw [<- any_map aN kd,e3.2];exact any_ints c)
   have:aw bV [y,kd] = false:=by show (aH bV y || (aH bV kd || false)) = false;rw [a1,a2];rfl
   rw [this] at hz;cases hz
  | false =>
   obtain ⟨d,d',h,h',rfl⟩:=yv ev hz
   rw [hΦ] at h'
   obtain ⟨cs,vs,c,x',rfl,e1,e2,e3,rfl⟩:=vH h'
   cases e1
   exact ⟨cs,vs,c,rfl,h,e2,e3,rfl⟩
 obtain ⟨cs,vs,c,rfl,ho,hf,hc,rfl⟩:=key
 obtain ⟨p,as,zs,ep,hv,hd,ht,hk,rs⟩:=Si.Nn ho
 refine tD.intro Si ey fun u H1 e1 ru=>⟨.ref p,hv,tD.intro (Si.go e1) ek fun w H2 e2 qe=>?_⟩
 obtain ⟨τ1,f1,q1⟩:=ru
 obtain ⟨τ2,f2,q2⟩:=qe
 cases q2 with
 | @tup _ b _ _ hb N8 =>
  cases N8.ofInts
  have es:=e1.trans e2
  have wb:=Si.go es
  have hd2:=es _ _ hd
  have o6:eu = 1000000:=rfl
  have hz:sizeLine = 16777216:=sizeLine_eq
  refine ⟨p,b,cs,as,zs,ep,c,rfl,rfl,hd2,hk.imp fun _ _ h=>aG.same es h,hb,by omega,fun zc=>?_⟩
  have hn:fM H2 p (.d cs as zs ep):=hd2
  have rk:ju X R τ H2 u y:=oE ((kT (N':=nd X.K R (fun _=>False) τ H1) (k':=[]) q1 hf).imp (fun _ _ h=>aG.same e2 h) fun _ _ _ _ h=>nd.same e2 h) hf
  obtain ⟨p',Rg,Qh,afe,hv',J2,ht',hk',wN⟩:=wb.Nn ho
  rw [hv] at hv'
  cases hv'
  rw [hd2] at J2
  obtain ⟨τ3,xP⟩:=wb.Nb (m:=0) (n':=.d (cX cs c) (wa cs as c b) (bD cs zs c u) zc) (o:=.ext (DO p (cX cs c) (wa cs as c b) (bD cs zs c u) zc)) (d1:=.cx .ow (cX cs c) (bD cs vs c y)) (xs':=bD cs zs c u) (ds':=bD cs vs c y) ho hv hn ht (rs.imp (fun _ _ h=>aG.same es h) fun _ _ _ _ h=>nd.same es h) rk aK
   (fun hN r=>.cx hN (Cq ((hk.imp fun _ _ h=>aG.same es h).imp fun _ _ h=>Bv hn h) (Bv hn hb)) r) (fun rs r=>BI (fun k=>kT r hf) rs)
  exact hq σ _ R τ3 xP (sZ wb es (fun _ h=>h) hn ht)
end DI
end
section
namespace DI
open PySem PySem.Spec PyProof.Rows L2
theorem Jf {P:Program} {w:World} {H:Hp} {h:Heap} {a:Addr} {o:HO} (x:cN P w H h a o):∃ u,h.get? a = some u:=by
 cases o with
 | lst xs=>obtain ⟨_,_,_,_,e⟩:=x;exact ⟨_,e⟩
 | tup xs=>obtain ⟨_,_,_,o,e,_⟩:=x;exact ⟨_,e⟩
 | dK oU=>obtain ⟨_,_,_,_,o,_,_,e,_⟩:=x;exact ⟨_,e⟩
 | dT oU=>obtain ⟨_,_,_,_,o,_,_,e,_⟩:=x;exact ⟨_,e⟩
 | set S n=>obtain ⟨o,_,_,_,e,_⟩:=x;exact ⟨_,e⟩
 | ins C dx fs=>obtain ⟨_,_,_,e,_⟩:=x;exact ⟨_,e⟩
 | own y=>exact x
 | xd fs=>obtain ⟨_,⟨o,_,_,e,_⟩,_⟩:=x;exact ⟨_,e⟩
 | mU lo hi=>obtain ⟨_,_,_,e⟩:=x;exact ⟨_,e⟩
 | ji o u=>exact ⟨_,x.1⟩
 | GH ps=>exact ⟨_,x⟩
 | met f y=>exact ⟨_,x⟩
 | ext φ=>exact x.2.1
theorem Inv.NQ {X:Cx} {pins:List (Addr × Obj)} {σ:St} {H:Hp} {s:Shared} {h':Heap} {t':Nat} {a:Addr} {o:HO} (I:Inv X pins σ H s) (k:∀ b u,s.heap.get? b = some u -> h'.get? b = some u) (ha:s.heap.get? a = none) (new:cN X.prog X.w (upd H a o) h' a o) :
  H a = none /\ Inv X pins σ (upd H a o) { s with heap:=h',toks:=t' }:=by
 have hn:H a = none:=by
  cases q:H a with
  | none=>rfl
  | some u =>
   obtain ⟨z,hz⟩:=Jf (I.dq a u q)
   rw [ha] at hz;cases hz
 have up:∀ b u,H b = some u -> upd H a o b = some u:=fun b u e=>by rw [aD (cc e hn)];exact e
 refine ⟨hn,I.step (g':=s.gens) (d':=s.drawn) (ch:=[]) (fun b hb=>nomatch hb) (fun b o _ _ _ e _=>k b o e) (fun b o _ _ _ e _=>⟨o.slots,k b o e⟩) (fun b u _ e n=>?_)
  (fun b o _ e=>⟨o,k b o e⟩) (fun _ _ e=>up _ _ e) (fun _ _ _ e=>up _ _ e) (fun b ps e=>⟨#[],by rw [up _ _ e];simp⟩) (fun m hm=>?_) (fun b u e=>?_) I.bare⟩
 ·rw [aD fun z=>by rw [z,ha] at e;cases e];exact n
 ·obtain ⟨o,es,ep,ho,r⟩:=hm
  exact ⟨o,es,ep,k _ o ho,r⟩
 ·by_cases z:b = a
  ·subst z;rw [aK] at e;cases e;exact new
  ·rw [aD z] at e
   exact (I.dq b u e).kP (fun c v _ q=>k c v q) (fun _ q=>up _ _ q) fun _ _ q=>up _ _ q
section
variable {X:Cx} {pins:List (Addr × Obj)} {σ:St} {H:Hp} {s:Shared} {d:Addr} {cs:List (List Int)} {as:List Addr} {xs:List V} {ep:Nat}
theorem sL (I:Inv X pins σ H s) (h:H d = some (.ext (DO d cs as xs ep))):∃ es:Array DictEntry,uq s.heap d es ep /\ es.size = as.length /\ es.toList.map (·.key) = as.map Value.ref /\ cs.Nodup /\ as.length = cs.length /\ (d == sysModules) = false:=by
 obtain ⟨⟨zs,o,es,e1,e2,e3,ho,hx,hd,he,hn,hl,hs⟩,_⟩:=(show cN X.prog X.w H s.heap d (.ext (DO d cs as xs ep)) from I.dq d _ h)
 refine ⟨es,⟨o,ho,hx,hd⟩,?_,?_,hn,?_,hs⟩
 ·rw [<- Array.length_toList,he,<- e2,List.length_map,List.length_map]
 ·rw [he,<- e2,List.map_map,List.map_map];rfl
 ·rw [<- e1,<- e2,List.length_map,List.length_map]
def Itd (d:Addr) (cs:List (List Int)) (as:List Addr) (xs:List V) (ep:Nat):It :=
 ⟨fun i H=>H d = some (.ext (DO d cs as xs ep)) /\ i < as.length,fun i H v H'=>H' = H /\ ∃ a,as[i]? = some a /\ v = .ref a,fun i H=>H d = some (.ext (DO d cs as xs ep)) /\ as.length <= i⟩
theorem zI {P:Program} {w:World} {K:PySem.W.Frag} {tg:Expr} (d it:Addr) (cs:List (List Int)) (as:List Addr) (xs:List V) (ep:Nat):Turn P w K tg (Itd d cs as xs ep) [it] it (fun i h=>h.IsKeyIter it d i as.length ep) where
 mem:=by simp
 obj:=fun i h st b hb=>by
  have e:b = it:=by simpa using hb
  subst e
  obtain ⟨o,e,c,d⟩:=st
  exact ⟨o,e,fun v z=>by rw [d] at z;cases z⟩
 keep:=fun i h h' st k=>st.at fun o e=>k it (by simp) o e
 item:=by
  intro X hP hw hK hc i pins s σ H E I hf st hg
  subst hP hw hK
  obtain ⟨hd,hi⟩:=hg
  obtain ⟨es,hr,hz,mG,_⟩:=sL I hd
  obtain ⟨f0,f1,f2,f3,f4,f5⟩:=hf it (by simp)
  have nF:i < es.size:=by rw [hz];exact hi
  have WA:es[i].key = .ref as[i]:=by
   have:=congrArg (fun l=>l[i]?) mG
   simp only [List.getElem?_map,Array.getElem?_toList] at this
   rw [Array.getElem?_eq_getElem nF,List.getElem?_eq_getElem hi] at this
   exact Option.some.inj this
  rw [<- hz] at st
  refine zg st hr nF fun h' mM sb=>?_
  have I1:Inv X pins σ H { s with heap:=h' }:=I.turned (t':=s.toks) (fun b o hb e=>(sb.2 b hb).trans e) f0 f1 f3 f4 f5
  obtain ⟨o,e,c,d'⟩:=id mM
  refine ⟨_,rfl,yS (s:={ s with heap:=h' }) e c d' (by decide) ⟨.ref as[i],H,I1,by rw [WA];rfl,⟨rfl,as[i],List.getElem?_eq_getElem hi,rfl⟩,?_,fun b hb=>(hf b hb).1⟩⟩
  rw [hz] at mM
  exact mM
 done:=by
  intro X hP hw hK hc i pins s σ H E I hf st hg
  subst hP hw hK
  obtain ⟨hd,hi⟩:=hg
  obtain ⟨es,hr,hz,mG,_⟩:=sL I hd
  obtain ⟨f0,f1,f2,f3,f4,f5⟩:=hf it (by simp)
  rw [<- hz] at st
  exact Dg (I.ok.hd hc) st hr (by rw [hz];exact hi) fun h' eb=>⟨rfl,I.turned (t':=s.toks) (fun b o hb e=>eb b o hb e) f0 f1 f3 f4 f5⟩
 self:=fun _ _ _ _ _ st h=>wpAny_pyIter_keyiter st h
end
end DI
end
section
namespace DI
open PySem PySem.Spec PyProof.Rows L2
def kh (xs:List D):O D:=match one xs with
 | some d=>match gS d with
  | some z=>ok (.lst .ow (z.1.map gi))
  | none=>none
 | none=>none
theorem AJ {xs:List D} {r:D} (h:kh xs = ok r):∃ f cs vs,xs = [.cx f cs vs] /\ r = .lst .ow (cs.map gi):=by
 unfold kh at h
 cases h1:one xs with
 | none=>rw [h1] at h;cases h
 | some d =>
  rw [h1] at h
  have h:(match gS d with | some z=>ok (D.lst .ow (z.1.map gi)) | none=>none) = ok r:=h
  cases h2:gS d with
  | none=>rw [h2] at h;cases h
  | some z =>
   rw [h2] at h
   cases h
   obtain ⟨f,e⟩:=ll h2
   exact ⟨f,z.1,z.2,by rw [cm h1,e],rfl⟩
theorem fW (g:Fl -> Fl):∀ cs:List (List Int),ah g (cs.map gi) = cs.map gi
 | []=>rfl
 | c :: cs=>by
  show aC g (gi c) :: ah g (cs.map gi) = _
  rw [fW g cs]
  have:∀ c:List Int,ah g (c.map D.int) = c.map D.int:=fun c=>by
   induction c with
   | nil=>rfl
   | cons i c ih=>show D.int i :: ah g (c.map D.int) = _;rw [ih];rfl
  show D.tup (ah g (c.map D.int)) :: _ = _
  rw [this];rfl
theorem yg {T:jZ} {N:i3} {k:aI} {a:Addr} {c:List Int} (h:T a (c.map V.int)):Rep T N k (.ref a) (gi c):=.tup h (af.ints c)
def Dt (_:Scope) (_:List Str) (e:Expr):Option (List Expr):=if isNm e = true then some [e] else none
theorem De {Φ:az} {n:Nat} (hΦ:Φ n = kh) {X:Cx} {sc:Scope} {bl:List Str} {k:Nat} (L:PX X sc bl k) {e:Expr} {args:List Expr} (he:Dt sc bl e = some args) {F:Addr -> Prop} {cs:List CE} {tg:Expr} (ht:(decide (1100 <= n) || ie tg) = true) (hs:qU X F Φ cs args)
  {pins:List (Addr × Obj)} {s:Shared} {σ:St} {H:Hp} {R:Addr -> Prop} {τ:Addr -> Option aI} {ρ:aA} {xs:List D} {d:D} {items:List D} (I:Inv X pins σ H s) (Si:SI X F R τ ρ σ H) (df:c_ Φ cs ρ = ok xs) (ed:Φ n xs = ok d) (ei:mP d = ok items) (Rr:It -> Hp -> Prop)
  (hR:∀ J H2 vs,ak H H2 -> ck X.K (gP X F) R τ (du cs) H H2 vs xs -> Mf X.K J H2 vs xs items -> Rr J H2) :
  wpAny (model X.prog X.w) X.A (eval e X.env) (fun v s1=>wpAny (model X.prog X.w) X.A (pyIter v) (DA X pins σ tg Rr) X.xe s1) X.xe s:=by
 unfold Dt at he
 by_cases hn:isNm e = true
 ·rw [if_pos hn] at he
  cases he
  cases cs with
  | nil=>exact hs.elim
  | cons c cs=>cases cs with
   | cons _ _=>exact hs.2.2.2.elim
   | nil =>
    rw [hΦ] at ed
    obtain ⟨f,ks,vs,rfl,rfl⟩:=AJ ed
    cases ei
    obtain ⟨x,ex,df⟩:=ag df
    cases df
    refine di (hs.1 pins s σ H _ I (tD.intro Si ex (Q:=fun v H1=>ak H H1 /\ bJ X.K (gP X F) R τ (gO c) H H1 v (.cx f ks vs)) fun v H1 e1 r1=>⟨e1,r1⟩)) fun u s1 ⟨v,H1,I1,rv,e1,r1⟩=>?_
    obtain ⟨τt,fr,q1⟩:=id r1
    cases q1 with
    | @cx _ p _ as ys ep _ _ DH hk hr =>
     cases rv
     have hd:=DH.dat
     obtain ⟨es,JU,hz,mG,Og,hlen,Fs⟩:=sL I1 hd
     refine zh Fs JU ?_
     have hb:s1.heap.objs.size <= s1.heap.objs.size:=Nat.le_refl _
     refine ⟨s1.heap.objs.size,[s1.heap.objs.size],_,Itd p ks as ys ep,H1,rfl,I1.kept (t':=s1.toks) (fun b o e=>Heap.get?_push_of_some _ e),zI p s1.heap.objs.size ks as ys ep,⟨_,Heap.get?_push_size _ rfl,rfl,by rw [hz];rfl⟩,fun b hb=>?_,hR _ H1 [.ref p] e1 (ck.cons e1 (ak.refl _) (r1.mono fun j hj=>List.mem_append_left _ hj) ⟨fun _=>none,fun _ _ h=>by simp at h,.nil⟩) ?_⟩
     ·have:b = s1.heap.objs.size:=by simpa using hb
      subst this
      exact I1.C2 (Nat.le_refl _) (I1.dq.fresh (Nat.le_refl _))
     ·rw [fW]
      have kP:∀ H',si X.K H1 [.ref p] [.cx f ks vs] H' -> H' p = some (.ext (DO p ks as ys ep)):=fun H' st=>by
       obtain ⟨R0,rs0,hl⟩:=st.n0
       cases rs0 with
       | cons h0 _=>cases h0 with
        | cx h1 _ _ =>
         cases f with
         | sc=>exact h1.elim
         | ow=>exact hl p _ h1.2 hd
         | fz=>exact hl p _ h1.2 hd
         | al=>exact hl p _ h1.2 hd
      refine ⟨fun i H' R' st rs hi=>⟨kP H' st,by rw [List.length_map] at hi;omega⟩,fun i H' R' x nj st rs hi hy=>?_,fun i H' R' st rs hi=>⟨kP H' st,by rw [List.length_map] at hi;omega⟩⟩
      obtain ⟨rfl,a,ha,rfl⟩:=hy
      rw [List.length_map] at hi
      refine ⟨ak.refl _,gi ks[i],by rw [List.getElem?_map,List.getElem?_eq_getElem hi];rfl,yg (st.tp _ _ (hk.tup i a _ ha (List.getElem?_eq_getElem hi)))⟩
 ·rw [if_neg hn] at he;cases he
theorem xM {X:Cx} (hc:X.calm = true) (hu:X.A.units + 2 < cLine):gg X (.builtin "sorted") (fun xs H Q=>∃ (d:Addr) (cs:List (List Int)) (as:List Addr) (ys:List V) (ep:Nat),xs = [.ref d] /\ H d = some (.ext (DO d cs as ys ep)) /\ eU (aG X.K H) as cs /\ cs.length < 64 /\
  ∀ (l:Addr) (bs:List Addr),H l = none -> eU (aG X.K H) bs (bK cs) -> Q (.ref l) (upd H l (.lst (bs.map V.ref)))):=by
 intro pins s σ H xs us Q I r h
 obtain ⟨d,cs,as,ys,ep,rfl,hd,hk,ur,q⟩:=h
 obtain ⟨u,rfl,ru⟩:=r.one
 cases ru
 obtain ⟨es,JU,hz,mG,Og,hlen,Fs⟩:=sL I hd
 have ht:qT s.heap (es.toList.map (·.key)) cs:=by
  rw [mG]
  refine ⟨by rw [List.length_map,hlen],fun i ns e=>?_⟩
  have hi:i < as.length:=by rw [hlen];exact (List.getElem?_eq_some_iff.mp e).1
  obtain ⟨Ff,rj,ij,_⟩:=I.tuple (hk.tup i as[i] ns (List.getElem?_eq_getElem hi) e)
  exact ⟨as[i],Ff,by rw [List.getElem?_map,List.getElem?_eq_getElem hi];rfl,ij,d_ rj⟩
 refine uI (I.ok.hd hc) hu Fs JU (by rw [hz,hlen];exact ur) Og ht fun S h' tk e p hS LY hp hs hl=>?_
 rw [mG] at hl
 have Wn:(p.toList.map fun i=>(as.map Value.ref).getD i Value.none) = (p.toList.map fun i=>as.getD i 0).map Value.ref:=by
  rw [List.map_map]
  refine List.map_congr_left fun i hi=>?_
  have nF:i < as.length:=by
   have:=List.mem_range.mp (hp.pm.mem_iff.mp hi)
   omega
  simp [nF]
 rw [Wn] at hl
 have WI:eU (aG X.K H) (p.toList.map fun i=>as.getD i 0) (bK cs):=by
  rw [<- hs]
  refine ⟨by simp,fun j a c h1 h2=>?_⟩
  rw [List.getElem?_map] at h1 h2
  cases hj:p.toList[j]? with
  | none=>rw [hj] at h1;cases h1
  | some i =>
   rw [hj] at h1 h2
   have nF:i < as.length:=by
    have:=List.mem_range.mp (hp.pm.mem_iff.mp (List.mem_of_getElem? hj))
    omega
   cases h1
   cases h2
   exact hk.tup i _ _ (by simp [nF]) (by simp [show i < cs.length by omega])
 have N3:∀ l:List Addr,Vals (l.map V.ref) (l.map Value.ref):=fun l=>by
  induction l with
  | nil=>exact .nil
  | cons a l ih=>exact .cons rfl ih
 have hsz:sizeLine = 16777216:=sizeLine_eq
 obtain ⟨hn,I'⟩:=Inv.NQ (t':=tk) (o:=.lst ((p.toList.map fun i=>as.getD i 0).map V.ref)) I LY hS ⟨by rw [List.length_map,List.length_map,Array.length_toList,hp.sz];omega,_,e,N3 _,hl⟩
 exact ⟨.ref S,_,I',rfl,q S _ hn WI⟩
def kg (xs:List D):O D:=match one xs with
 | some d=>match gS d with
  | some z=>if z.1.length < 64 then ok (.lst .ow ((bK z.1).map gi)) else none
  | none=>none
 | none=>none
theorem AI {xs:List D} {r:D} (h:kg xs = ok r):∃ f cs vs,xs = [.cx f cs vs] /\ cs.length < 64 /\ r = .lst .ow ((bK cs).map gi):=by
 unfold kg at h
 cases h1:one xs with
 | none=>rw [h1] at h;cases h
 | some d =>
  rw [h1] at h
  have h:(match gS d with | some z=>if z.1.length < 64 then ok (D.lst .ow ((bK z.1).map gi)) else none | none=>none) = ok r:=h
  cases h2:gS d with
  | none=>rw [h2] at h;cases h
  | some z =>
   rw [h2] at h
   obtain ⟨hl,rfl⟩:=rL (show (if z.1.length < 64 then ok (D.lst .ow ((bK z.1).map gi)) else none) = ok r from h)
   obtain ⟨f,e⟩:=ll h2
   exact ⟨f,z.1,z.2,by rw [cm h1,e],hl,rfl⟩
theorem rA {T:jZ} {N:i3}:∀ {bs:List Addr} {cs:List (List Int)} {k:aI} {n:Nat},eU T bs cs -> af T N k n (bs.map V.ref) (cs.map gi)
 | [],[],_,_,_=>.nil
 | [],_ :: _,_,_,h=>by have:=h.len;simp at this
 | _ :: _,[],_,_,h=>by have:=h.len;simp at this
 | b :: bs,c :: cs,_,_,h=>.cons (yg (h.tup 0 b c rfl rfl)) (rA ⟨by have:=h.len;simpa using this,fun j a c' h1 h2=>h.tup (j + 1) a c' h1 h2⟩)
theorem Dc {Φ:az} {n:Nat} (hΦ:Φ n = kg) {X:Cx} {sc:Scope} {bl:List Str} {k:Nat} (L:PX X sc bl k) {e:Expr} {args:List Expr} (he:jq ("sorted" : Str) sc bl e = some args) {F:Addr -> Prop} {cs:List CE} (hs:qU X F Φ cs args):PE X e (tD X F Φ (.dt n cs)) /\ PT X e (hX X F Φ (.dt n cs)):=by
 obtain ⟨p,pos,a,rfl,rfl,h1,h2⟩:=rY he
 cases cs with
 | nil=>exact hs.elim
 | cons c cs=>cases cs with
  | cons _ _=>exact hs.2.2.2.elim
  | nil =>
   have pa:PA X [a] (uF X F Φ [c]):=PA.imp (d7 hs.1 (PA.imp ib fun _ _ _ h=>kN h) (hs.2.1 _)) fun _ _ _ h=>gI h
   have hu:X.A.units + 2 < cLine:=Nat.lt_of_le_of_lt (Nat.add_le_add_left (by decide:2 <= 64) _) L.room.units
   have this:PE X (.Call (.Name ("sorted" : Str) p) [a] [] pos) (tD X F Φ (.dt n [c])):=by
    refine PE.imp (fE (xM L.calm hu) (L.gl h1) (L.bl _ h2) (by decide +kernel) pa (he:=hs.2.1 _)) fun σ H Q hq=>?_
    obtain ⟨R,τ,ρ,d,Si,ev,hq⟩:=hq
    obtain ⟨xs,df,ev⟩:=ag ev
    rw [hΦ] at ev
    obtain ⟨f,ks,vs,rfl,hl,rfl⟩:=AI ev
    refine ⟨R,τ,ρ,_,Si,df,fun us H1 e1 r1=>?_⟩
    obtain ⟨τt,fr,rs⟩:=r1
    obtain ⟨v,rfl,rv⟩:=rs.one
    cases rv with
    | cx hn hk hr =>
     refine ⟨_,ks,_,_,_,rfl,hn.dat,hk,hl,fun l bs wg WI=>hq _ _ (e1.trans (ak.upd wg)) (bJ.sR (e1.free wg) (e1.trans (ak.upd wg)) aK ?_)⟩
     exact rA (WI.imp fun _ _ h=>aG.same (ak.upd wg) h)
   exact ⟨this,cV this fun _=>rfl⟩
end DI
end
section
namespace DI
open PySem (Str)
section
variable {α β:Type}
@[simp] theorem eG (a:α) (f:α -> O β):bd (ok a) f = f a:=rfl
@[simp] theorem Rb (c:Nat) (f:α -> O β):bd (some (.error c)) f = some (.error c):=rfl
def HB (f:α -> O β) (x:O α):O β:=bd x f
@[simp] theorem Zg (f:α -> O β) (a:α):HB f (ok a) = f a:=rfl
@[simp] theorem Ri (f:α -> O β) (c:Nat):HB f (some (.error c)) = some (.error c):=rfl
end
def P5 (op:GB) (x y:O D):O D:=bd x fun x=>bd y fun y=>cP op x y
@[simp] theorem Ra (op:GB) (x y:D):P5 op (ok x) (ok y) = cP op x y:=rfl
def O7 (op:A8) (x y:O D):O D:=bd x fun x=>bd y fun y=>fS op x y
@[simp] theorem Q_ (op:A8) (x y:D):O7 op (ok x) (ok y) = fS op x y:=rfl
def ixO (x y:O D):O D:=bd x fun x=>bd y fun y=>w4 x y
@[simp] theorem VX (x y:D):ixO (ok x) (ok y) = w4 x y:=rfl
def Ny (x:O D):O D:=bd (bd x hV) fun b=>ok (.bl (!b))
@[simp] theorem QJ (b:Bool):Ny (ok (.bl b)) = ok (.bl (!b)):=rfl
@[simp] theorem Mz (b:Bool):hV (.bl b) = ok b:=rfl
def uC (x:O D):O Bool:=bd x hV
@[simp] theorem Qm (b:Bool):uC (ok (.bl b)) = ok b:=rfl
@[simp] theorem My (c:Nat):uC (some (.error c)) = some (.error c):=rfl
def isO (t:Ty) (x:O D):O D:=bd x fun x=>ok (.bl (dX t x))
@[simp] theorem V5 (t:Ty) (x:D):isO t (ok x) = ok (.bl (dX t x)):=rfl
def Dv (m:List D -> O D) (xs:O (List D)):O D:=bd xs fun xs=>bd (m (ah aN xs)) fun r=>ok (aC mY r)
def W_ (x:O D):O D:=bd x fun r=>ok (aC mY r)
@[simp] theorem W9 (r:D):W_ (ok r) = ok (aC mY r):=rfl
@[simp] theorem Q1 (c:Nat):W_ (some (.error c)) = some (.error c):=rfl
@[simp] theorem PV (m:List D -> O D) (xs:List D):Dv m (ok xs) = W_ (m (ah aN xs)):=rfl
@[simp] theorem Md (m:List D -> O D) (c:Nat):Dv m (some (.error c)) = some (.error c):=rfl
def zl (x:O D) (xs:O (List D)):O (List D):=bd x fun x=>bd xs fun xs=>ok (x :: xs)
@[simp] theorem O6 (x:D) (xs:List D):zl (ok x) (ok xs) = ok (x :: xs):=rfl
@[simp] theorem Ma (c:Nat) (xs:O (List D)):zl (some (.error c)) xs = some (.error c):=rfl
@[simp] theorem Lb (x:D) (c:Nat):zl (ok x) (some (.error c)) = some (.error c):=rfl
def JH (x:O Bool) (a b:O D):O D:=bd x fun k=>if k then a else b
@[simp] theorem V2 (a b:O D):JH (ok true) a b = a:=rfl
@[simp] theorem V3 (a b:O D):JH (ok false) a b = b:=rfl
def Gp (x y:O D):O D:=bd (bd x hV) fun c=>if c then y else ok (.bl false)
@[simp] theorem Zh (y:O D):Gp (ok (.bl true)) y = y:=rfl
@[simp] theorem Zi (y:O D):Gp (ok (.bl false)) y = ok (.bl false):=rfl
@[simp] theorem Zj (a b:Bool):Gp (ok (.bl a)) (ok (.bl b)) = ok (.bl (a && b)):=by cases a <;> rfl
def QG (x y:O D):O D:=bd (bd x hV) fun c=>if c then ok (.bl true) else y
@[simp] theorem aao (y:O D):QG (ok (.bl true)) y = ok (.bl true):=rfl
@[simp] theorem aap (y:O D):QG (ok (.bl false)) y = y:=rfl
@[simp] theorem aaq (a b:Bool):QG (ok (.bl a)) (ok (.bl b)) = ok (.bl (a || b)):=by cases a <;> rfl
def Cp (x:O D):O D:=bd (bd x hV) fun c=>ok (.bl c)
@[simp] theorem NP (c:Bool):Cp (ok (.bl c)) = ok (.bl c):=rfl
@[simp] theorem MW (d:D):ya (some (some d)) = ok (aC ba d):=rfl
section
variable (Φ:az) (ρ:aA)
@[simp] theorem abm:aO Φ .bC ρ = ok .bC:=rfl
@[simp] theorem afm (b:Bool):aO Φ (.bl b) ρ = ok (.bl b):=rfl
@[simp] theorem Ht (i:Int):aO Φ (.int i) ρ = ok (.int i):=rfl
@[simp] theorem abu (x:Str) (i:Int):aO Φ (.glo x i) ρ = ok (.int i):=rfl
@[simp] theorem abt (x:Str) (zs:List Int):aO Φ (.glt x zs) ρ = ok (.tup (zs.map D.int)):=rfl
@[simp] theorem e_v (i:Nat):aO Φ (.v i) ρ = ya ρ[i]?:=rfl
@[simp] theorem abw (op:GB) (a b:CE):aO Φ (.bin op a b) ρ = P5 op (aO Φ a ρ) (aO Φ b ρ):=rfl
@[simp] theorem abv (op:A8) (a b:CE):aO Φ (.cmp op a b) ρ = O7 op (aO Φ a ρ) (aO Φ b ρ):=rfl
@[simp] theorem abo (a:CE):aO Φ (.neg a) ρ = HB EX (aO Φ a ρ):=rfl
@[simp] theorem abl (a:CE):aO Φ (.not a) ρ = Ny (aO Φ a ρ):=rfl
@[simp] theorem abr (a:CE) (t:Ty):aO Φ (.qf a t) ρ = isO t (aO Φ a ρ):=rfl
@[simp] theorem abq (c a b:CE):aO Φ (.ite c a b) ρ = JH (uC (aO Φ c ρ)) (aO Φ a ρ) (aO Φ b ρ):=rfl
@[simp] theorem X0 (f:Nat) (es:List CE):aO Φ (.call f es) ρ = Dv (Φ f) (c_ Φ es ρ):=rfl
@[simp] theorem afn (f:Bf) (es:List CE):aO Φ (.bf f es) ρ = HB (pT f) (c_ Φ es ρ):=rfl
@[simp] theorem abi (f:Nat) (es:List CE):aO Φ (.dt f es) ρ = HB (Φ f) (c_ Φ es ρ):=rfl
@[simp] theorem afl (a b:CE):aO Φ (.ix a b) ρ = ixO (aO Φ a ρ) (aO Φ b ρ):=rfl
@[simp] theorem XY (a:CE):aO Φ (.lT a) ρ = HB yy (aO Φ a ρ):=rfl
@[simp] theorem abh (es:List CE):aO Φ (.tup es) ρ = HB (fun xs=>ok (.tup xs)) (c_ Φ es ρ):=rfl
@[simp] theorem abp (es:List CE):aO Φ (.lst es) ρ = HB (fun xs=>ok (.lst .ow xs)) (c_ Φ es ρ):=rfl
@[simp] theorem abx (es:List CE):aO Φ (.and es) ρ = rS Φ es ρ:=rfl
@[simp] theorem afk (es:List CE):aO Φ (.or es) ρ = AF Φ es ρ:=rfl
@[simp] theorem X2 (e:CE):rS Φ [e] ρ = Cp (aO Φ e ρ):=rfl
@[simp] theorem X1 (e e':CE) (es:List CE):rS Φ (e :: e' :: es) ρ = Gp (aO Φ e ρ) (rS Φ (e' :: es) ρ):=rfl
@[simp] theorem abk (e:CE):AF Φ [e] ρ = Cp (aO Φ e ρ):=rfl
@[simp] theorem abj (e e':CE) (es:List CE):AF Φ (e :: e' :: es) ρ = QG (aO Φ e ρ) (AF Φ (e' :: es) ρ):=rfl
@[simp] theorem abn:c_ Φ [] ρ = ok []:=rfl
@[simp] theorem XZ (e:CE) (es:List CE):c_ Φ (e :: es) ρ = zl (aO Φ e ρ) (c_ Φ es ρ):=rfl
@[simp] theorem e_T (e:CE):wj Φ e ρ = uC (aO Φ e ρ):=rfl
theorem X5 (e:CE):bd (aO Φ e ρ) hV = uC (aO Φ e ρ):=rfl
@[simp] theorem X4:iW Φ [] ρ = ok true:=rfl
@[simp] theorem X3 (e:CE):iW Φ [e] ρ = uC (aO Φ e ρ):=by
 rw [iW,X5]
 cases h:uC (aO Φ e ρ) with
 | none=>rfl
 | some r=>cases r with
  | error c=>rfl
  | ok b=>cases b <;> simp [iW,bd,ok]
end
def qI (is:List Nat):Nat -> aA -> aA
 | _,[]=>[]
 | n,d :: ρ=>(if n ∈ is then d.map (aC aN) else d) :: qI is (n + 1) ρ
theorem Hq (is:List Nat):∀ (ρ:aA) (n:Nat),ρ.mapIdx (fun i d=>if i + n ∈ is then d.map (aC aN) else d) = qI is n ρ
 | [],_=>rfl
 | d :: ρ,n=>by
  rw [List.mapIdx_cons,qI,<- Hq is ρ (n + 1)]
  simp only [Nat.zero_add,Nat.add_assoc,Nat.add_comm 1 n]
theorem xl (is:List Nat) (ρ:aA):ji is ρ = qI is 0 ρ:=by rw [<- Hq];rfl
@[simp] theorem OS (is:List Nat) (n:Nat):qI is n [] = []:=rfl
@[simp] theorem L6 (is:List Nat) (n:Nat) (d:Option D) (ρ:aA):qI is n (d :: ρ) = (if n ∈ is then d.map (aC aN) else d) :: qI is (n + 1) ρ:=rfl
def cY (e:CE) (ρ:aA) (x:O D):O (D × aA):=bd x fun d=>ok (keep e d ρ)
@[simp] theorem vj {e:CE} {ρ:aA} {d:D} (h:aH bV d = false):cY e ρ (ok d) = ok (d,ρ):=by
 show ok (keep e d ρ) = _
 rw [keep,h];rfl
@[simp] theorem NS {e:CE} {ρ:aA} {d:D} (h:aH bV d = true):cY e ρ (ok d) = ok (aC aN d,qI (gO e) 0 ρ):=by
 show ok (keep e d ρ) = _
 rw [keep,h,<- xl];rfl
@[simp] theorem LJ (e:CE) (ρ:aA) (c:Nat):cY e ρ (some (.error c)) = some (.error c):=rfl
def Cg (i:Nat) (ρ:aA) (o:Option (Option D)):O (D × aA):=match o with
 | some (some d)=>if aH d9 d then ok (d,ρ.set i none) else ok (d,ρ)
 | _=>none
@[simp] theorem ND {i:Nat} {ρ:aA} {d:D} (h:aH d9 d = true):Cg i ρ (some (some d)) = ok (d,ρ.set i none):=if_pos h
@[simp] theorem NF {i:Nat} {ρ:aA} {d:D} (h:aH d9 d = false):Cg i ρ (some (some d)) = ok (d,ρ):=if_neg (by rw [h];exact Bool.false_ne_true)
@[simp] theorem k_v (Φ:az) (i:Nat) (ρ:aA):jX Φ (.v i) ρ = Cg i ρ ρ[i]?:=rfl
def isV:CE -> Bool
 | .v _=>true
 | _=>false
@[simp] theorem aaD (Φ:az) (ρ:aA) (op:GB) (a b:CE):jX Φ (.bin op a b) ρ = cY (.bin op a b) ρ (aO Φ (.bin op a b) ρ):=rfl
@[simp] theorem aaC (Φ:az) (ρ:aA) (op:A8) (a b:CE):jX Φ (.cmp op a b) ρ = cY (.cmp op a b) ρ (aO Φ (.cmp op a b) ρ):=rfl
@[simp] theorem Vk (Φ:az) (ρ:aA) (f:Nat) (es:List CE):jX Φ (.call f es) ρ = cY (.call f es) ρ (aO Φ (.call f es) ρ):=rfl
@[simp] theorem ad8 (Φ:az) (ρ:aA) (f:Bf) (es:List CE):jX Φ (.bf f es) ρ = cY (.bf f es) ρ (aO Φ (.bf f es) ρ):=rfl
@[simp] theorem aav (Φ:az) (ρ:aA) (f:Nat) (es:List CE):jX Φ (.dt f es) ρ = cY (.dt f es) ρ (aO Φ (.dt f es) ρ):=rfl
@[simp] theorem ad6 (Φ:az) (ρ:aA) (a b:CE):jX Φ (.ix a b) ρ = cY (.ix a b) ρ (aO Φ (.ix a b) ρ):=rfl
@[simp] theorem aau (Φ:az) (ρ:aA) (es:List CE):jX Φ (.tup es) ρ = cY (.tup es) ρ (aO Φ (.tup es) ρ):=rfl
@[simp] theorem aaz (Φ:az) (ρ:aA) (es:List CE):jX Φ (.lst es) ρ = cY (.lst es) ρ (aO Φ (.lst es) ρ):=rfl
@[simp] theorem Hd (Φ:az) (ρ:aA) (i:Int):jX Φ (.int i) ρ = cY (.int i) ρ (aO Φ (.int i) ρ):=rfl
@[simp] theorem ad7 (Φ:az) (ρ:aA) (i:Bool):jX Φ (.bl i) ρ = cY (.bl i) ρ (aO Φ (.bl i) ρ):=rfl
@[simp] theorem aax (Φ:az) (ρ:aA)  : jX Φ (.bC) ρ = cY (.bC) ρ (aO Φ (.bC) ρ):=rfl
@[simp] theorem aay (Φ:az) (ρ:aA) (a:CE):jX Φ (.neg a) ρ = cY (.neg a) ρ (aO Φ (.neg a) ρ):=rfl
@[simp] theorem aaw (Φ:az) (ρ:aA) (a:CE):jX Φ (.not a) ρ = cY (.not a) ρ (aO Φ (.not a) ρ):=rfl
@[simp] theorem aaE (Φ:az) (ρ:aA) (es:List CE):jX Φ (.and es) ρ = cY (.and es) ρ (aO Φ (.and es) ρ):=rfl
@[simp] theorem ad5 (Φ:az) (ρ:aA) (es:List CE):jX Φ (.or es) ρ = cY (.or es) ρ (aO Φ (.or es) ρ):=rfl
@[simp] theorem aaA (Φ:az) (ρ:aA) (a b c:CE):jX Φ (.ite a b c) ρ = cY (.ite a b c) ρ (aO Φ (.ite a b c) ρ):=rfl
@[simp] theorem Vj (Φ:az) (ρ:aA) (n:Nat) (t:Tg) (caps:List Nat) (ik:IK) (es a_:List CE) (elt:CE):jX Φ (.comp n t caps ik es a_ elt) ρ = cY (.comp n t caps ik es a_ elt) ρ (aO Φ (.comp n t caps ik es a_ elt) ρ):=rfl
@[simp] theorem aaB (Φ:az) (ρ:aA) (a:CE) (t:Ty):jX Φ (.qf a t) ρ = cY (.qf a t) ρ (aO Φ (.qf a t) ρ):=rfl
@[simp] theorem Vi (Φ:az) (ρ:aA) (a:CE):jX Φ (.lT a) ρ = cY (.lT a) ρ (aO Φ (.lT a) ρ):=rfl
theorem QN (Φ:az) (e:CE) (ρ:aA) (h:isV e = false):jX Φ e ρ = cY e ρ (aO Φ e ρ):=by cases e <;> first | rfl | cases h
@[simp] theorem Lz (ρ:aA):iU [] [] ρ = ok ρ:=rfl
@[simp] theorem Ih {i:Nat} {is:List Nat} {d:D} {ds:List D} {ρ:aA} (h:i < ρ.length):iU (i :: is) (d :: ds) ρ = iU is ds (ρ.set i (some d)):=if_pos h
@[simp] theorem kR {i:Nat} {d:D} {ρ:aA} (h:i < ρ.length):cA (.nm i) d ρ = ok (ρ.set i (some d)):=if_pos h
@[simp] theorem Qu {is:List Nat} {ds:List D} {ρ:aA} (h:aw d9 ds = false):cA (.tp is) (.tup ds) ρ = iU is ds ρ:=if_neg (by rw [h];exact Bool.false_ne_true)
def Ln (i:Nat) (r:O (D × aA)):O (Fo × aA):=bd r fun r=>bd (cA (.nm i) r.1 r.2) fun ρ'=>ok (.nx,ρ')
@[simp] theorem zz {i:Nat} {d:D} {ρ:aA} (h:i < ρ.length):Ln i (ok (d,ρ)) = ok (.nx,ρ.set i (some d)):=by
 show bd (cA (.nm i) d ρ) _ = _
 rw [cA,if_pos h];rfl
@[simp] theorem P_ (i:Nat) (c:Nat):Ln i (some (.error c)) = some (.error c):=rfl
def P9 (is:List Nat) (r:O (D × aA)):O (Fo × aA):=bd r fun r=>bd (cA (.tp is) r.1 r.2) fun ρ'=>ok (.nx,ρ')
@[simp] theorem Rf {is:List Nat} {ds:List D} {ρ:aA} (h:aw d9 ds = false):P9 is (ok (.tup ds,ρ)) = bd (iU is ds ρ) fun ρ'=>ok (.nx,ρ'):=by
 show bd (cA (.tp is) (.tup ds) ρ) _ = _
 rw [cA,h];rfl
def retS (r:O (D × aA)):O (Fo × aA):=bd r fun r=>ok (.rt r.1,r.2)
@[simp] theorem Qw (d:D) (ρ:aA):retS (ok (d,ρ)) = ok (.rt d,ρ):=rfl
@[simp] theorem M3 (c:Nat):retS (some (.error c)) = some (.error c):=rfl
def XS (ρ:aA) (x:O D):O (Fo × aA):=bd x fun _=>ok (.nx,ρ)
@[simp] theorem XR (ρ:aA) (d:D):XS ρ (ok d) = ok (.nx,ρ):=rfl
@[simp] theorem Q6 (ρ:aA) (c:Nat):XS ρ (some (.error c)) = some (.error c):=rfl
noncomputable def rb (Φ:az) (ss:List CS) (r:O (Fo × aA)):O (Fo × aA):=bd r fun r=>match r with
 | (.nx,ρ')=>bM Φ ss ρ'
 | r=>ok r
@[simp] theorem uE (Φ:az) (ss:List CS) (ρ:aA):rb Φ ss (ok (.nx,ρ)) = bM Φ ss ρ:=rfl
@[simp] theorem MA (Φ:az) (ss:List CS) (d:D) (ρ:aA):rb Φ ss (ok (.rt d,ρ)) = ok (.rt d,ρ):=rfl
@[simp] theorem MC (Φ:az) (ss:List CS) (ρ:aA):rb Φ ss (ok (.bk,ρ)) = ok (.bk,ρ):=rfl
@[simp] theorem MB (Φ:az) (ss:List CS) (ρ:aA):rb Φ ss (ok (.ct,ρ)) = ok (.ct,ρ):=rfl
@[simp] theorem Ly (Φ:az) (ss:List CS) (c:Nat):rb Φ ss (some (.error c)) = some (.error c):=rfl
noncomputable def Fj (Φ:az) (a b:List CS) (ρ:aA) (x:O Bool):O (Fo × aA):=bd x fun k=>if k then bM Φ a ρ else bM Φ b ρ
@[simp] theorem V0 (Φ:az) (a b:List CS) (ρ:aA):Fj Φ a b ρ (ok true) = bM Φ a ρ:=rfl
@[simp] theorem V1 (Φ:az) (a b:List CS) (ρ:aA):Fj Φ a b ρ (ok false) = bM Φ b ρ:=rfl
@[simp] theorem NU (Φ:az) (a b:List CS) (ρ:aA) (c:Nat):Fj Φ a b ρ (some (.error c)) = some (.error c):=rfl
def Qa (i:Nat) (r:O (D × aA)):O (Fo × aA):=bd r fun r=>match z_ r.2[i]? with
  | some ds=>if ds.length < eu then ok (.nx,r.2.set i (some (.lst .ow (ds ++ [r.1])))) else none
  | none=>none
@[simp] theorem Rh {i:Nat} {d:D} {ρ:aA} {ds:List D} (h:ρ[i]? = some (some (.lst .ow ds))) (hl:ds.length < eu):Qa i (ok (d,ρ)) = ok (.nx,ρ.set i (some (.lst .ow (ds ++ [d])))):=by
 show (match z_ ρ[i]? with | some ds=>_ | none=>_) = _
 rw [h]
 exact if_pos hl
section
variable (Φ:az) (ρ:aA)
@[simp] theorem Z7:bM Φ [] ρ = ok (.nx,ρ):=rfl
@[simp] theorem i5 (s:CS) (ss:List CS):bM Φ (s :: ss) ρ = rb Φ ss (tO Φ s ρ):=rfl
@[simp] theorem GC (i:Nat) (e:CE):tO Φ (.asg (.nm i) e) ρ = Ln i (jX Φ e ρ):=rfl
@[simp] theorem Rp (is:List Nat) (e:CE):tO Φ (.asg (.tp is) e) ρ = P9 is (jX Φ e ρ):=rfl
@[simp] theorem Z6 (e:CE):tO Φ (.ret e) ρ = retS (jX Φ e ρ):=rfl
theorem qW (c:CE) (b:List CS):tO Φ (.HK c b) ρ = fA (fun ρ=>bd (wj Φ c ρ) fun k=>if k then bd (bM Φ b ρ) fun r=>match r with
   | (.nx,ρ')=>ok (.inl ρ')
   | (.ct,ρ')=>ok (.inl ρ')
   | (.bk,ρ')=>ok (.inr (.nx,ρ'))
   | (.rt d,ρ')=>ok (.inr (.rt d,ρ'))
  else ok (.inr (.nx,ρ))) ρ:=rfl
theorem Mm (i j:Nat) (a b:CE):tO Φ (.par i j a b) ρ = bd (aO Φ a ρ) fun x=>bd (aO Φ b ρ) fun y=>if aH anyF x = false /\ aH anyF y = false /\ i < ρ.length /\ j < ρ.length then ok (.nx,(ρ.set i (some x)).set j (some y)) else none:=rfl
@[simp] theorem acB (c:Nat):tO Φ (.rs c) ρ = some (.error c):=rfl
@[simp] theorem acC (e:CE):tO Φ (.ex e) ρ = XS ρ (aO Φ e ρ):=rfl
@[simp] theorem Mn (c:CE) (a b:List CS):tO Φ (.ifs c a b) ρ = Fj Φ a b ρ (uC (aO Φ c ρ)):=rfl
@[simp] theorem Z8 (i:Nat) (e:CE):tO Φ (.app i e) ρ = Qa i (jX Φ e ρ):=rfl
end
noncomputable def mk (Φ:az) (ar n:Nat) (b:List CS):List D -> O D:=fun ds=>if ds.length = ar then wM Φ n b ds else none
def qJ (r:O (Fo × aA)):O D:=bd r fun r=>match r.1 with
 | .nx=>ok .bC
 | .rt d=>ok d
 | _=>none
@[simp] theorem Q8 (ρ:aA):qJ (ok (.nx,ρ)) = ok .bC:=rfl
@[simp] theorem Q7 (d:D) (ρ:aA):qJ (ok (.rt d,ρ)) = ok d:=rfl
@[simp] theorem O1 (c:Nat):qJ (some (.error c)) = some (.error c):=rfl
theorem mk_eq {Φ:az} {ar n:Nat} {b:List CS} {ds:List D} (h:ds.length = ar):mk Φ ar n b ds = qJ (bM Φ b (ds.map some ++ List.replicate (n - ds.length) none)):=if_pos h
theorem aE {Φ:az} {ar n:Nat} {b:List CS} (ds:List D) (r:D) (h:mk Φ ar n b ds = ok r):ds.length = ar /\ wM Φ n b ds = ok r:=by
 unfold mk at h
 split at h
 ·rename_i hl;exact ⟨hl,h⟩
 ·cases h
end DI
end
section
namespace DI
open PySem (Str)
theorem Int.beq_eq_decide_eq (i j:Int):(i == j) = decide (i = j):=rfl
section
variable (g:Fl -> Fl) (p:Fl -> Bool)
@[simp] theorem Fb (b:Bool):aC g (.bl b) = .bl b:=rfl
@[simp] theorem Cj (b:Int):aC g (.int b) = .int b:=rfl
@[simp] theorem NI:aC g .bC = .bC:=rfl
@[simp] theorem Ci (ds:List D):aC g (.tup ds) = .tup (ah g ds):=rfl
@[simp] theorem NJ (f:Fl) (ds:List D):aC g (.lst f ds) = .lst (g f) (ah g ds):=rfl
@[simp] theorem NK (f:Fl) (ks:List (List Int)) (vs:List D):aC g (.cx f ks vs) = .cx (g f) ks (ah g vs):=rfl
@[simp] theorem LG:ah g [] = []:=rfl
@[simp] theorem Jl (d:D) (ds:List D):ah g (d :: ds) = aC g d :: ah g ds:=rfl
@[simp] theorem LI (a b:List D):ah g (a ++ b) = ah g a ++ ah g b:=by simp only [av,List.map_append]
@[simp] theorem LH (ds:List D):(ah g ds).length = ds.length:=by rw [av,List.length_map]
theorem dS {α:Type} {e:α -> D} (h:∀ x,aC g (e x) = e x) (xs:List α):ah g (xs.map e) = xs.map e:=by
 rw [av,List.map_map];exact List.map_congr_left fun x _=>h x
theorem cK {α:Type} {e:α -> D} (h:∀ x,aH p (e x) = false):∀ xs:List α,aw p (xs.map e) = false
 | []=>by rw [List.map_nil,aw]
 | x :: xs=>by rw [List.map_cons,aw,h x,cK h xs];rfl
@[simp] theorem FC (b:Bool):aH p (.bl b) = false:=Eq.symm rfl
@[simp] theorem o7 (b:Int):aH p (.int b) = false:=Eq.symm rfl
@[simp] theorem OF:aH p .bC = false:=Eq.symm rfl
@[simp] theorem CO (ds:List D):aH p (.tup ds) = aw p ds:=Eq.symm rfl
@[simp] theorem CP (f:Fl) (ds:List D):aH p (.lst f ds) = (p f || aw p ds):=Eq.symm rfl
@[simp] theorem OG (f:Fl) (ks:List (List Int)) (vs:List D):aH p (.cx f ks vs) = (p f || aw p vs):=Eq.symm rfl
@[simp] theorem L1:aw p [] = false:=Eq.symm rfl
@[simp] theorem J7 (d:D) (ds:List D):aw p (d :: ds) = (aH p d || aw p ds):=Eq.symm rfl
@[simp] theorem Av:∀ a b:List D,aw p (a ++ b) = (aw p a || aw p b)
 | [],b=>by simp
 | d :: a,b=>by simp [Av a b,Bool.or_assoc]
@[simp] theorem wV (ns:List Int):ah g (ns.map D.int) = ns.map D.int:=dS g (Cj g) ns
@[simp] theorem xg (ns:List Int):aw p (ns.map D.int) = false:=cK p (o7 p) ns
@[simp] theorem Ae (ns:List Bool):ah g (ns.map D.bl) = ns.map D.bl:=dS g (Fb g) ns
@[simp] theorem Au (ns:List Bool):aw p (ns.map D.bl) = false:=cK p (FC p) ns
@[simp] theorem LK (t:Ty) (d:D):dX t (aC g d) = dX t d:=by cases d <;> cases t <;> rfl
end
@[simp] theorem Kr:ba .ow = .al:=rfl
@[simp] theorem Ks:ba .fz = .fz:=rfl
@[simp] theorem Kt:ba .al = .al:=rfl
@[simp] theorem Kq:ba .sc = .sc:=rfl
@[simp] theorem Km:aN .ow = .fz:=rfl
@[simp] theorem Kn:aN .fz = .fz:=rfl
@[simp] theorem Ko:aN .al = .fz:=rfl
@[simp] theorem Kl:aN .sc = .sc:=rfl
@[simp] theorem KJ:mY .ow = .ow:=rfl
@[simp] theorem KN:mY .fz = .al:=rfl
@[simp] theorem KO:mY .al = .al:=rfl
@[simp] theorem KI:mY .sc = .sc:=rfl
@[simp] theorem KD:bV .ow = false:=rfl
@[simp] theorem KG:bV .fz = false:=rfl
@[simp] theorem KH:bV .al = true:=rfl
@[simp] theorem KC:bV .sc = false:=rfl
@[simp] theorem Ky:d9 .ow = true:=rfl
@[simp] theorem Kz:d9 .fz = false:=rfl
@[simp] theorem KA:d9 .al = false:=rfl
@[simp] theorem Kx:d9 .sc = false:=rfl
@[simp] theorem Ku:w8 .ow = false:=rfl
@[simp] theorem Kv:w8 .fz = false:=rfl
@[simp] theorem Kw:w8 .al = false:=rfl
def ab (ns:List Int):List D:=ns.map D.int
def lq (ns:List Bool):List D:=ns.map D.bl
@[simp] theorem LO (ns:List Int):(ab ns).length = ns.length:=List.length_map ..
@[simp] theorem P4 (ns:List Bool):(lq ns).length = ns.length:=List.length_map ..
@[simp] theorem LN:ab [] = []:=rfl
@[simp] theorem JQ (n:Int) (ns:List Int):ab (n :: ns) = .int n :: ab ns:=rfl
@[simp] theorem JP (ns:List Int) (n:Int):ab ns ++ [.int n] = ab (ns ++ [n]):=by simp [ab]
@[simp] theorem rK (ns:List Int) (i:Nat):(ab ns)[i]? = ns[i]?.map D.int:=List.getElem?_map ..
@[simp] theorem eR (g:Fl -> Fl) (ns:List Int):ah g (ab ns) = ab ns:=wV g ns
@[simp] theorem vq (p:Fl -> Bool) (ns:List Int):aw p (ab ns) = false:=xg p ns
@[simp] theorem Jm (g:Fl -> Fl) (ns:List Bool):ah g (lq ns) = lq ns:=Ae g ns
@[simp] theorem J8 (p:Fl -> Bool) (ns:List Bool):aw p (lq ns) = false:=Au p ns
@[simp] theorem abJ (i j:Int):cP .add (.int i) (.int j) = ok (.int (i + j)):=rfl
@[simp] theorem abI (i j:Int):cP .sub (.int i) (.int j) = ok (.int (i - j)):=rfl
theorem gU {i j:Int} (h:gK i j = true):cP .mul (.int i) (.int j) = ok (.int (i * j)):=if_pos h
theorem pU {i j:Int} (h:rT j = true):cP .fdiv (.int i) (.int j) = ok (.int (i.fdiv j)):=if_pos h
@[simp] theorem P7 {i j:Int} (h:j ≠ 0):cP .mod (.int i) (.int j) = ok (.int (i.fmod j)):=if_pos h
@[simp] theorem P6 {i j:Int} (h:0 <= j):cP .shr (.int i) (.int j) = ok (.int (i / 2 ^ j.toNat)):=if_pos h
theorem HA {i j:Int} (h:yj i j = true):cP .pow (.int i) (.int j) = ok (.int (i ^ j.toNat)):=if_pos h
@[simp] theorem aat (i:Int):EX (.int i) = ok (.int (-i)):=rfl
theorem mulOk_of {i j:Int} (h:i.natAbs < 2 ^ 9000) (h':j.natAbs < 2 ^ 9000):gK i j = true:=by
 simp only [gK,big,h,h',decide_true,Bool.and_self,Bool.or_true]
theorem sV {n:Nat} (h:n < 2 ^ 64):n < 2 ^ 9000:=Nat.lt_of_lt_of_le h (Nat.pow_le_pow_right (by decide) (by decide))
theorem sS {i:Int} (j:Int) (h:i.natAbs < 2 ^ 64):gK i j = true:=by simp only [gK,h,decide_true,Bool.true_or]
theorem EY {j:Int} (i:Int) (h:j.natAbs < 2 ^ 64):gK i j = true:=by simp only [gK,h,decide_true,Bool.true_or,Bool.or_true]
theorem jm {j:Int} (h0:j ≠ 0) (h:j.natAbs < 2 ^ 9000):rT j = true:=by
 simp only [rT,big,h,decide_true,Bool.and_true,decide_eq_true_eq];exact h0
@[simp] theorem Rc {i j:Int} (h:j.natAbs < 2 ^ 64):cP .mul (.int i) (.int j) = ok (.int (i * j)):=gU (EY i h)
@[simp] theorem nP {i j:Int} (h:i.natAbs < 2 ^ 64):cP .mul (.int i) (.int j) = ok (.int (i * j)):=gU (sS j h)
@[simp] theorem P8 {i j:Int} (h0:j ≠ 0) (h:j.natAbs < 2 ^ 64):cP .fdiv (.int i) (.int j) = ok (.int (i.fdiv j)):=pU (jm h0 (sV h))
theorem Lf {a b:D} (ha:dZ 40 a = true) (hb:dZ 40 b = true):fS .eq a b = ok (.bl (lj a b)):=by
 show (if dZ 40 a && dZ 40 b then _ else _) = _
 rw [ha,hb];rfl
theorem P0 {a b:D} (ha:dZ 40 a = true) (hb:dZ 40 b = true):fS .ne a b = ok (.bl (!lj a b)):=by
 show (if dZ 40 a && dZ 40 b then _ else _) = _
 rw [ha,hb];rfl
@[simp] theorem fV (n:Nat) (i:Int):dZ n (.int i) = true:=by cases n <;> rfl
@[simp] theorem TR (n:Nat) (i:Bool):dZ n (.bl i) = true:=by cases n <;> rfl
@[simp] theorem QH (n:Nat):dZ n .bC = true:=by cases n <;> rfl
@[simp] theorem nB (n:Nat) (ds:List D):dZ (n + 1) (.tup ds) = ds.all (dZ n):=rfl
@[simp] theorem sP (n:Nat) (f:Fl) (ds:List D):dZ (n + 1) (.lst f ds) = ds.all (dZ n):=rfl
@[simp] theorem SS (i j:Int):fS .eq (.int i) (.int j) = ok (.bl (decide (i = j))):=by rw [Lf (fV _ _) (fV _ _)];show ok (D.bl (i == j)) = _;rw [Int.beq_eq_decide_eq]
@[simp] theorem SR (i j:Int):fS .ne (.int i) (.int j) = ok (.bl (!decide (i = j))):=by rw [P0 (fV _ _) (fV _ _)];show ok (D.bl (!(i == j))) = _;rw [Int.beq_eq_decide_eq]
@[simp] theorem adq (i j:Int):fS .lt (.int i) (.int j) = ok (.bl (decide (i < j))):=rfl
@[simp] theorem ads (i j:Int):fS .le (.int i) (.int j) = ok (.bl (decide (i <= j))):=rfl
@[simp] theorem adt (i j:Int):fS .gt (.int i) (.int j) = ok (.bl (decide (j < i))):=rfl
@[simp] theorem adu (i j:Int):fS .ge (.int i) (.int j) = ok (.bl (decide (j <= i))):=rfl
@[simp] theorem aaK (ds:List D) (i:Int):w4 (.tup ds) (.int i) = v5 ds i:=rfl
@[simp] theorem aaL (f:Fl) (ds:List D) (i:Int):w4 (.lst f ds) (.int i) = v5 ds i:=rfl
theorem ue {ds:List D} {n:Nat} {d:D} (h:ds[n]? = some d):v5 ds (n:Int) = ok (aC ba d):=by
 have hn:n < ds.length:=(List.getElem?_eq_some_iff.mp h).1
 have e:Ah ds.length (n:Int) = some n:=by unfold Ah;rw [if_pos (by omega),if_pos (by omega)];rfl
 unfold v5
 rw [e,Option.bind_some,h]
theorem at_of {ds:List D} {i:Int} {d:D} (h0:0 <= i) (h:ds[i.toNat]? = some d):v5 ds i = ok (aC ba d):=by
 have:=ue h
 rwa [show ((i.toNat:Nat):Int) = i by omega] at this
@[simp] theorem agn (d:D) (ds:List D):v5 (d :: ds) 0 = ok (aC ba d):=ue (n:=0) rfl
@[simp] theorem agm (a d:D) (ds:List D):v5 (a :: d :: ds) 1 = ok (aC ba d):=ue (n:=1) rfl
@[simp] theorem agl (a b d:D) (ds:List D):v5 (a :: b :: d :: ds) 2 = ok (aC ba d):=ue (n:=2) rfl
@[simp] theorem Q4 (ds:List D):pT .len [.tup ds] = ok (.int ds.length):=rfl
@[simp] theorem Q5 (f:Fl) (ds:List D):pT .len [.lst f ds] = ok (.int ds.length):=rfl
@[simp] theorem abe (i:Int):pT .abs [.int i] = ok (.int i.natAbs):=by
 show ok (D.int (if i < 0 then -i else i)) = _
 congr 2
 split <;> omega
@[simp] theorem OY (f:Fl) (ds:List D):pT .list1 [.lst f ds] = ok (.lst .ow (ah ba ds)):=rfl
@[simp] theorem OX (ds:List D):pT .list1 [.tup ds] = ok (.lst .ow (ah ba ds)):=rfl
@[simp] theorem Q3 (f:Fl) (ds:List D):pT .tuple1 [.lst f ds] = ok (.tup (ah ba ds)):=rfl
@[simp] theorem Q2 (ds:List D):pT .tuple1 [.tup ds] = ok (.tup (ah ba ds)):=rfl
@[simp] theorem abc (f:Fl) (ns:List Int):pT .gh [.lst f (ab ns)] = ok (.int ns.sum):=by
 show (match intsOf (ns.map D.int) with | some ns=>_ | none=>_) = _
 rw [aY]
@[simp] theorem abd (f:Fl) (bs:List Bool):pT .all1 [.lst f (lq bs)] = ok (.bl (bs.all id)):=by
 show (match jr (bs.map D.bl) with | some ns=>_ | none=>_) = _
 rw [mh]
@[simp] theorem FJ {ns:List Int} (h:ns.length < 64):pT .ia [.tup (ab ns)] = ok (.lst .ow (ab (sortI ns))):=by
 show rl _ = _
 unfold rl ab
 rw [aY]
 exact if_pos h
@[simp] theorem KP {ns:List Int} (h:ns.length < 4000):yy (.tup (ab ns)) = ok (.int (vJ ns).length):=by
 show (match intsOf (ns.map D.int) with | some ns=>_ | none=>_) = _
 rw [aY]
 exact if_pos h
@[simp] theorem nI (i j:Int):lj (.int i) (.int j) = decide (i = j):=by show (i == j) = _;rw [Int.beq_eq_decide_eq]
@[simp] theorem XW (i j:Bool):lj (.bl i) (.bl j) = (i == j):=rfl
@[simp] theorem FO (a b:List D):lj (.tup a) (.tup b) = ez a b:=rfl
@[simp] theorem FP (f g:Fl) (a b:List D):lj (.lst f a) (.lst g b) = ez a b:=rfl
@[simp] theorem C7:ez [] [] = true:=rfl
@[simp] theorem l_ (a b:D) (as bs:List D):ez (a :: as) (b :: bs) = (lj a b && ez as bs):=rfl
theorem pC:∀ {as bs:List D},ez as bs = true -> as.length = bs.length
 | [],[],_=>rfl
 | [],_ :: _,h=>(Bool.false_ne_true h).elim
 | _ :: _,[],h=>(Bool.false_ne_true h).elim
 | a :: as,b :: bs,h=>by
  replace h:(_ && _) = true:=h
  rw [Bool.and_eq_true] at h
  rw [List.length_cons,List.length_cons,pC h.2]
theorem jl {α:Type} {e:α -> D} [DecidableEq α] (h:∀ x y,lj (e x) (e y) = decide (x = y)):∀ xs ys:List α,ez (xs.map e) (ys.map e) = decide (xs = ys)
 | [],[]=>by simp
 | [],y :: ys=>by
  cases z:ez ([].map e) ((y :: ys).map e) with
  | true=>have:=pC z;simp at this
  | false=>simp
 | x :: xs,[]=>by
  cases z:ez ((x :: xs).map e) ([].map e) with
  | true=>have:=pC z;simp at this
  | false=>simp
 | x :: xs,y :: ys=>by
  rw [List.map_cons,List.map_cons,l_,h,jl h xs ys]
  by_cases e1:x = y <;> by_cases e2:xs = ys <;> simp [e1,e2]
theorem nC {α:Type} {e:α -> D} {n:Nat} (h:∀ x,dZ n (e x) = true) (xs:List α):(xs.map e).all (dZ n) = true:=by
 rw [List.all_map];exact List.all_eq_true.mpr fun x _=>h x
theorem bq {bind:D -> O aA} {test:aA -> O Bool} {el:aA -> O D} {α:Type} {e:α -> D} {g:α -> D}:∀ {xs:List α},(∀ x ∈ xs,∃ ρ,bind (e x) = ok ρ /\ test ρ = ok true /\ el ρ = ok (g x)) -> gT bind test el (xs.map e) = ok (xs.map g)
 | [],_=>rfl
 | x :: xs,h=>by
  obtain ⟨ρ,h1,h2,h3⟩:=h x (List.mem_cons_self ..)
  have ih:=bq (xs:=xs) fun y hy=>h y (List.mem_cons_of_mem _ hy)
  rw [List.map_cons,gT,h1,eG,h2,eG,if_pos rfl,h3,eG,ih];rfl
theorem jn {bind:D -> O aA} {test:aA -> O Bool} {el:aA -> O D} {α:Type} {e:α -> D} {g:α -> D} {t:α -> Bool}:∀ {xs:List α},(∀ x ∈ xs,∃ ρ,bind (e x) = ok ρ /\ test ρ = ok (t x) /\ (t x = true -> el ρ = ok (g x))) -> gT bind test el (xs.map e) = ok ((xs.filter t).map g)
 | [],_=>rfl
 | x :: xs,h=>by
  obtain ⟨ρ,h1,h2,h3⟩:=h x (List.mem_cons_self ..)
  have ih:=jn (xs:=xs) fun y hy=>h y (List.mem_cons_of_mem _ hy)
  rw [List.map_cons,gT,h1,eG,h2,eG,List.filter_cons]
  cases ht:t x with
  | true=>rw [if_pos rfl,h3 ht,eG,ih,if_pos rfl];rfl
  | false=>rw [if_neg Bool.false_ne_true,ih,if_neg Bool.false_ne_true]
section
variable {Φ:az} {n:Nat} {t:Tg} {caps:List Nat} {ik:IK} {es a_:List CE} {elt:CE} {ρ:aA} {xs items ds:List D}
theorem cu (h1:c_ Φ es ρ = ok xs) (h2:dN Φ ik xs = ok items)
  (h3:gT (fun d=>cA t d (aT n caps ρ)) (fun ρ'=>iW Φ a_ ρ') (fun ρ'=>aO Φ elt ρ') items = ok ds) (hl:ds.length <= eu):aO Φ (.comp n t caps ik es a_ elt) ρ = ok (.lst .ow (ah mY ds)):=by
 show bd (c_ Φ es ρ) _ = _
 rw [h1,eG,h2,eG,h3,eG,if_pos hl]
end
theorem s_ (Φ:az) (ds:List D):dN Φ .seq [.tup ds] = ok (ah aN ds):=rfl
theorem d8 (Φ:az) (f:Fl) (ds:List D):dN Φ .seq [.lst f ds] = ok (ah aN ds):=rfl
theorem yF (Φ:az) {n:Int} (h0:0 <= n) (h:n <= 1000000):dN Φ .mU [.int n] = ok ((List.range n.toNat).map fun (k:Nat)=>D.int (k:Int)):=by
 show (if n <= (eu:Int) /\ -(eu:Int) <= n then _ else _) = _
 have:(eu:Int) = 1000000:=rfl
 rw [if_pos (by omega)]
theorem br {n:Nat} (h:n <= 1000000):n <= eu:=h
theorem gH {Φ:az} {t:Tg} {it:CI} {b:List CS} {ρ ρ1:aA} {items:List D} {r:O (Fo × aA)} (h:dk Φ it ρ = ok (items,ρ1)) (h':fh (fun d ρ=>cA t d ρ) (fun ρ=>bM Φ b ρ) items ρ1 = r):tO Φ (.fr t it b) ρ = r:=by
 show bd (dk Φ it ρ) _ = _
 rw [h];exact h'
theorem ip (bind:D -> aA -> O aA) (body:aA -> O (Fo × aA)) (ρ:aA):fh bind body [] ρ = ok (.nx,ρ):=rfl
theorem dO {bind:D -> aA -> O aA} {body:aA -> O (Fo × aA)} {x:D} {xs:List D} {ρ ρ1 ρ2:aA} {r:O (Fo × aA)} (h1:bind x ρ = ok ρ1) (h2:body ρ1 = ok (.nx,ρ2)) (h3:fh bind body xs ρ2 = r):fh bind body (x :: xs) ρ = r:=by
 rw [fh,h1,eG,h2];exact h3
theorem JK {Φ:az} {a:CE} {ρ:aA} {n:Int} (h:aO Φ a ρ = ok (.int n)) (h0:0 <= n) (h1:n <= 1000000):dk Φ (.mU a) ρ = ok ((List.range n.toNat).map fun (k:Nat)=>D.int (k:Int),ρ):=by
 show bd (aO Φ a ρ) _ = _
 rw [h]
 show (if n <= (eu:Int) /\ -(eu:Int) <= n then _ else _) = _
 have:(eu:Int) = 1000000:=rfl
 rw [if_pos (by omega)]
theorem V4 {Φ:az} {a:CE} {ρ:aA} {ds:List D} (h:aO Φ a ρ = ok (.tup ds)):dk Φ (.seq a) ρ = ok (ah aN ds,if aw bV ds then qI (gO a) 0 ρ else ρ):=by
 show bd (aO Φ a ρ) _ = _
 rw [h,<- xl]
 show ok (_,if aH bV (.tup ds) then _ else _) = _
 rw [CO]
theorem w6 {Φ:az} {a:CE} {ρ:aA} {f:Fl} {ds:List D} (h:aO Φ a ρ = ok (.lst f ds)):dk Φ (.seq a) ρ = ok (ah aN ds,if (bV f || aw bV ds) then qI (gO a) 0 ρ else ρ):=by
 show bd (aO Φ a ρ) _ = _
 rw [h,<- xl]
 show ok (_,if aH bV (.lst f ds) then _ else _) = _
 rw [CP]
end DI
end
section
namespace DI
open PySem (Str)
def fI (t b:Int):Int:=if b < 0 then -(Int.gcd t b:Int) else (Int.gcd t b:Int)
def Jg (t b:Int):Int:=t.fdiv (fI t b)
def Jh (t b:Int):Int:=b.fdiv (fI t b)
theorem yT {t b:Int} (h:b ≠ 0):0 < Int.gcd t b:=Int.gcd_pos_of_ne_zero_right t h
theorem kf {t b:Int} (h:b ≠ 0):fI t b ≠ 0:=by
 have:=yT (t:=t) h
 unfold fI;split <;> omega
theorem Kh {t b:Int} (h:b ≠ 0):Int.gcd t b <= b.natAbs:=Nat.le_of_dvd (by omega) (Nat.gcd_dvd_right _ _)
theorem FW {t b:Int} (h:b ≠ 0):(fI t b).natAbs <= b.natAbs:=by
 have:=Kh (t:=t) h
 unfold fI;split <;> omega
theorem oI {t b:Int} (h:b ≠ 0):∃ t' b':Int,t = fI t b * t' /\ b = fI t b * b' /\ Jg t b = t' /\ Jh t b = b' /\ 1 <= b' /\ Int.gcd t' b' = 1:=by
 have hg:=yT (t:=t) h
 obtain ⟨t1,ht⟩:(Int.gcd t b:Int) ∣ t:=Int.gcd_dvd_left ..
 obtain ⟨b1,hb⟩:(Int.gcd t b:Int) ∣ b:=Int.gcd_dvd_right ..
 have hc:Int.gcd t1 b1 = 1:=by
  have e:Int.gcd ((Int.gcd t b:Int) * t1) ((Int.gcd t b:Int) * b1) = Int.gcd t b * Int.gcd t1 b1:=by
   rw [Int.gcd_mul_left];simp
  rw [<- ht,<- hb] at e
  have:Int.gcd t b * 1 = Int.gcd t b * Int.gcd t1 b1:=by rw [Nat.mul_one];exact e
  exact (Nat.eq_of_mul_eq_mul_left hg this).symm
 by_cases hn:b < 0
 ·have ed:fI t b = -(Int.gcd t b:Int):=by simp [fI,hn]
  have e1:t = fI t b * (-t1):=by rw [ed,Int.neg_mul_neg];exact ht
  have e2:b = fI t b * (-b1):=by rw [ed,Int.neg_mul_neg];exact hb
  refine ⟨-t1,-b1,e1,e2,?_,?_,?_,by rw [Int.gcd_neg,Int.neg_gcd];exact hc⟩
  ·unfold Jg
   conv=>lhs;arg 1;rw [e1]
   exact Int.mul_fdiv_cancel_left _ (kf h)
  ·unfold Jh
   conv=>lhs;arg 1;rw [e2]
   exact Int.mul_fdiv_cancel_left _ (kf h)
  ·have:b1 < 0:=by
    by_cases WL:b1 < 0
    ·exact WL
    ·have:0 <= (Int.gcd t b:Int) * b1:=Int.mul_nonneg (by omega) (by omega)
     omega
   omega
 ·have ed:fI t b = (Int.gcd t b:Int):=by simp [fI,hn]
  have e1:t = fI t b * t1:=by rw [ed];exact ht
  have e2:b = fI t b * b1:=by rw [ed];exact hb
  refine ⟨t1,b1,e1,e2,?_,?_,?_,hc⟩
  ·unfold Jg
   conv=>lhs;arg 1;rw [e1]
   exact Int.mul_fdiv_cancel_left _ (kf h)
  ·unfold Jh
   conv=>lhs;arg 1;rw [e2]
   exact Int.mul_fdiv_cancel_left _ (kf h)
  ·have:0 < b1:=by
    by_cases WL:0 < b1
    ·exact WL
    ·have:(Int.gcd t b:Int) * b1 <= 0:=Int.mul_nonpos_of_nonneg_of_nonpos (by omega) (by omega)
     omega
   omega
def qD (q:Rat):D:=.tup [.int q.num,.int q.den]
@[simp] theorem Jo (g:Fl -> Fl) (q:Rat):aC g (qD q) = qD q:=by unfold qD;simp
@[simp] theorem J_ (g:Fl -> Bool) (q:Rat):aH g (qD q) = false:=by unfold qD;simp
def aB (qs:List Rat):List D:=qs.map qD
@[simp] theorem QA (qs:List Rat):(aB qs).length = qs.length:=List.length_map ..
@[simp] theorem Qz:aB [] = []:=rfl
@[simp] theorem M9 (q:Rat) (qs:List Rat):aB (q :: qs) = qD q :: aB qs:=rfl
@[simp] theorem M8 (qs:List Rat) (q:Rat):aB qs ++ [qD q] = aB (qs ++ [q]):=by simp [aB]
@[simp] theorem EB (qs:List Rat) (i:Nat):(aB qs)[i]? = qs[i]?.map qD:=List.getElem?_map ..
@[simp] theorem Qy (qs:List Rat) (i:Nat) (q:Rat):(aB qs).set i (qD q) = aB (qs.set i q):=by unfold aB;rw [List.map_set]
@[simp] theorem NH (g:Fl -> Fl) (qs:List Rat):ah g (aB qs) = aB qs:=dS g (Jo g) qs
@[simp] theorem OE (g:Fl -> Bool) (qs:List Rat):aw g (aB qs) = false:=cK g (J_ g) qs
theorem yu (n:Nat) (q:Rat):dZ (n + 1) (qD q) = true:=by
 unfold qD
 rw [nB,List.all_cons,List.all_cons,fV,fV];rfl
theorem C8 (p q:Rat):lj (qD p) (qD q) = decide (p = q):=by
 unfold qD
 rw [FO,l_,l_,C7,nI,nI,Bool.and_true]
 by_cases h:p = q
 ·subst h;simp
 ·rw [decide_eq_false h]
  cases e1:decide (p.num = q.num) with
  | false=>rfl
  | true =>
   cases e2:decide ((p.den:Int) = (q.den:Int)) with
   | false=>rfl
   | true =>
    refine absurd (Rat.ext (by simpa using e1) ?_) h
    have:(p.den:Int) = q.den:=by simpa using e2
    omega
@[simp] theorem aaG (q:Rat):w4 (qD q) (.int 0) = ok (.int q.num):=by unfold qD;simp
@[simp] theorem aaF (q:Rat):w4 (qD q) (.int 1) = ok (.int q.den):=by unfold qD;simp
theorem tN {t b:Int} (hb:b ≠ 0):t.fdiv (fI t b) = (Rat.divInt t b).num /\ b.fdiv (fI t b) = ((Rat.divInt t b).den:Int):=by
 obtain ⟨t',b',e1,e2,h1,h2,h3,h4⟩:=oI (t:=t) hb
 have hd:=kf (t:=t) hb
 have e:Rat.divInt t b = Rat.divInt t' b':=by
  generalize fI t b = d at *
  rw [e1,e2]
  exact Rat.divInt_mul_left hd
 obtain ⟨n,rfl⟩:∃ n:Nat,b' = (n:Int):=⟨b'.toNat,by omega⟩
 have hc:t'.natAbs.Coprime n:=by
  have:Nat.gcd t'.natAbs n = 1:=by simpa [Int.gcd] using h4
  exact this
 have hn:n ≠ 0:=by omega
 have e3:Rat.divInt t' (n:Int) = ⟨t',n,hn,hc⟩:=Rat.mk_eq_divInt.symm
 rw [e,e3]
 exact ⟨h1,h2⟩
theorem kU (q:Rat):(q.den:Int) ≠ 0:=by have:=q.den_pos;omega
theorem M_ (q:Rat):(1:Int) <= q.den:=by have:=q.den_pos;omega
theorem i_ (q:Rat):Rat.divInt q.num q.den = q:=Rat.num_divInt_den q
theorem nA {t b:Int} (hb:b ≠ 0):(Rat.divInt t b).num.natAbs <= t.natAbs /\ (Rat.divInt t b).den <= b.natAbs:=by
 obtain ⟨t',b',e1,e2,h1,h2,h3,h4⟩:=oI (t:=t) hb
 obtain ⟨g1,g2⟩:=tN (t:=t) hb
 have hd:1 <= (fI t b).natAbs:=by have:=kf (t:=t) hb;omega
 rw [show t.fdiv (fI t b) = t' from h1] at g1
 rw [show b.fdiv (fI t b) = b' from h2] at g2
 refine ⟨?_,?_⟩
 ·rw [<- g1]
  have:t.natAbs = (fI t b).natAbs * t'.natAbs:=by rw [<- Int.natAbs_mul,<- e1]
  rw [this];exact Nat.le_mul_of_pos_left _ hd
 ·have hz:(Rat.divInt t b).den = b'.natAbs:=by omega
  rw [hz]
  have:b.natAbs = (fI t b).natAbs * b'.natAbs:=by rw [<- Int.natAbs_mul,<- e2]
  rw [this];exact Nat.le_mul_of_pos_left _ hd
theorem G1 (p q:Rat):p + q = Rat.divInt (p.num * q.den + q.num * p.den) (p.den * q.den):=by
 conv=>lhs;rw [<- i_ p,<- i_ q]
 exact Rat.divInt_add_divInt _ _ (kU p) (kU q)
theorem GY (p q:Rat):p - q = Rat.divInt (p.num * q.den - q.num * p.den) (p.den * q.den):=by
 conv=>lhs;rw [<- i_ p,<- i_ q]
 exact Rat.divInt_sub_divInt _ _ (kU p) (kU q)
theorem G0 (p q:Rat):p * q = Rat.divInt (p.num * q.num) (p.den * q.den):=by
 conv=>lhs;rw [<- i_ p,<- i_ q]
 exact Rat.divInt_mul_divInt _ _
def Sm (k:Nat) (q:Rat):Prop:=q.num.natAbs < 2 ^ k /\ q.den < 2 ^ k
theorem Sm.mono {k l:Nat} {q:Rat} (h:Sm k q) (hl:k <= l):Sm l q :=
 ⟨Nat.lt_of_lt_of_le h.1 (Nat.pow_le_pow_right (by decide) hl),Nat.lt_of_lt_of_le h.2 (Nat.pow_le_pow_right (by decide) hl)⟩
theorem aZ {a b k l:Nat} (h:a < 2 ^ k) (h':b < 2 ^ l):a * b < 2 ^ (k + l):=by
 rw [Nat.pow_add]
 exact Nat.mul_lt_mul'' h h'
theorem Gu (a b:Int):(a + b).natAbs <= a.natAbs + b.natAbs:=by omega
theorem Gr (a b:Int):(a - b).natAbs <= a.natAbs + b.natAbs:=by omega
section
variable {k l:Nat} {p q:Rat}
theorem Sm.den (h:Sm k p) (h':Sm l q):((p.den:Int) * q.den).natAbs < 2 ^ (k + l):=by
 rw [Int.natAbs_mul];exact aZ (by simpa using h.2) (by simpa using h'.2)
theorem Sm.add (h:Sm k p) (h':Sm l q):Sm (k + l + 1) (p + q):=by
 have hb:(p.den:Int) * q.den ≠ 0:=Int.mul_ne_zero (kU p) (kU q)
 obtain ⟨g1,g2⟩:=nA (t:=p.num * q.den + q.num * p.den) hb
 rw [<- G1] at g1 g2
 have n1:(p.num * q.den).natAbs < 2 ^ (k + l):=by rw [Int.natAbs_mul];exact aZ h.1 (by simpa using h'.2)
 have n2:(q.num * p.den).natAbs < 2 ^ (k + l):=by rw [Int.natAbs_mul,Nat.add_comm];exact aZ h'.1 (by simpa using h.2)
 have:=Gu (p.num * q.den) (q.num * p.den)
 have e:2 ^ (k + l + 1) = 2 ^ (k + l) * 2:=Nat.pow_succ ..
 have d:=h.den h'
 exact ⟨by omega,by omega⟩
theorem Sm.sub (h:Sm k p) (h':Sm l q):Sm (k + l + 1) (p - q):=by
 have hb:(p.den:Int) * q.den ≠ 0:=Int.mul_ne_zero (kU p) (kU q)
 obtain ⟨g1,g2⟩:=nA (t:=p.num * q.den - q.num * p.den) hb
 rw [<- GY] at g1 g2
 have n1:(p.num * q.den).natAbs < 2 ^ (k + l):=by rw [Int.natAbs_mul];exact aZ h.1 (by simpa using h'.2)
 have n2:(q.num * p.den).natAbs < 2 ^ (k + l):=by rw [Int.natAbs_mul,Nat.add_comm];exact aZ h'.1 (by simpa using h.2)
 have:=Gr (p.num * q.den) (q.num * p.den)
 have e:2 ^ (k + l + 1) = 2 ^ (k + l) * 2:=Nat.pow_succ ..
 have d:=h.den h'
 exact ⟨by omega,by omega⟩
theorem Sm.mul (h:Sm k p) (h':Sm l q):Sm (k + l) (p * q):=by
 have hb:(p.den:Int) * q.den ≠ 0:=Int.mul_ne_zero (kU p) (kU q)
 obtain ⟨g1,g2⟩:=nA (t:=p.num * q.num) hb
 rw [<- G0] at g1 g2
 have n1:(p.num * q.num).natAbs < 2 ^ (k + l):=by rw [Int.natAbs_mul];exact aZ h.1 h'.1
 have d:=h.den h'
 exact ⟨by omega,by omega⟩
theorem Sm.big (h:Sm k p) (hk:k <= 9000):p.num.natAbs < 2 ^ 9000 /\ (p.den:Int).natAbs < 2 ^ 9000:=by
 have:=h.mono hk
 exact ⟨this.1,by simpa using this.2⟩
end
theorem rm {t b:Int} {k:Nat} (hb:b ≠ 0) (h1:t.natAbs < 2 ^ k) (h2:b.natAbs < 2 ^ k):Sm k (Rat.divInt t b):=by
 obtain ⟨g1,g2⟩:=nA (t:=t) hb
 exact ⟨by omega,by omega⟩
end DI
end
section
namespace DI
open PySem (Str)
def d4 (d:D):Bool:=dX .int d && !dX .bool d
def dP (m:List D -> O D):Prop:=∀ d,m [d] = ok (.bl (d4 d))
def iw:List CS:=[.ret (.and [(.qf (.v 0) .int),(.not (.qf (.v 0) .bool))])]
theorem cF (Φ:az):dP (mk Φ 1 1 iw):=by
 intro d
 simp [mk_eq,iw,d4]
theorem pz (a:Int) {b:Int} (h:b ≠ 0):(a.fmod b).natAbs < b.natAbs:=by
 rcases Int.lt_or_gt_of_ne h with hb | hb
 ·have e:=Int.neg_fmod_neg a b
  have h1:=Int.fmod_nonneg_of_pos (-a) (show 0 < -b by omega)
  have h2:=Int.fmod_lt_of_pos (-a) (show 0 < -b by omega)
  omega
 ·have h1:=Int.fmod_nonneg_of_pos a hb
  have h2:=Int.fmod_lt_of_pos a hb
  omega
theorem CY (a b:Int):Int.gcd b (a.fmod b) = Int.gcd a b:=by
 rw [Int.fmod_def,Int.gcd_sub_mul_left_right,Int.gcd_comm]
def aQ (m:List D -> O D):Prop:=∀ a b:Int,m [.int a,.int b] = ok (.int (Int.gcd a b))
def Bb:CS:=.HK (.cmp .ne (.v 1) (.int 0)) [.asg (.nm 2) (.bin .mod (.v 0) (.v 1)),.asg (.nm 0) (.v 1),.asg (.nm 1) (.v 2)]
def dg:List CS:=[Bb,.ret (.bf .abs [(.v 0)])]
theorem Gh (Φ:az):∀ (n:Nat) (a b:Int) (r:Option D),b.natAbs <= n -> ∃ (g:Int) (r':Option D),tO Φ Bb [some (.int a),some (.int b),r] = ok (.nx,[some (.int g),some (.int 0),r']) /\ g.natAbs = Int.gcd a b:=by
 intro n
 induction n with
 | zero =>
  intro a b r h
  have hb:b = 0:=by omega
  subst hb
  refine ⟨a,r,?_,by simp⟩
  rw [Bb,qW]
  exact hU (by simp)
 | succ n ih =>
  intro a b r h
  by_cases hb:b = 0
  ·subst hb
   refine ⟨a,r,?_,by simp⟩
   rw [Bb,qW]
   exact hU (by simp)
  ·have i4:=pz a hb
   obtain ⟨g,r',e,hg⟩:=ih b (a.fmod b) (some (.int (a.fmod b))) (by omega)
   refine ⟨g,r',?_,by rw [hg,CY]⟩
   rw [Bb,qW] at e ⊢
   rw [<- e]
   exact n6 (by simp [hb])
theorem aP (Φ:az):aQ (mk Φ 2 3 dg):=by
 intro a b
 obtain ⟨g,r',e,hg⟩:=Gh Φ b.natAbs a b none (Nat.le_refl _)
 have e1:(g.natAbs:Int) = (Int.gcd a b:Int):=by omega
 simp [mk_eq,dg,e,e1]
def iD (m:List D -> O D):Prop:=∀ t b:Int,b ≠ 0 -> b.natAbs < 2 ^ 9000 -> m [.int t,.int b] = ok (qD (Rat.divInt t b))
def dy (m:List D -> O D):Prop:=iD m /\ ∀ t:Int,m [.int t,.int 0] = some (.error 0)
def cL:List CS:=[.ifs (.cmp .eq (.v 1) (.int 0)) [.rs 0] [],.asg (.nm 2) (.call 1 [(.v 0),(.v 1)]),.ifs (.cmp .lt (.v 1) (.int 0)) [.asg (.nm 2) (.neg (.v 2))] [],.ret (.tup [(.bin .fdiv (.v 0) (.v 2)),(.bin .fdiv (.v 1) (.v 2))])]
theorem nJ {t b:Int} (hb:b ≠ 0) (h:b.natAbs < 2 ^ 9000) (x:Int):cP .fdiv (.int x) (.int (fI t b)) = ok (.int (x.fdiv (fI t b))) :=
 pU (jm (kf hb) (Nat.lt_of_le_of_lt (FW hb) h))
theorem bp (Φ:az) (h1:aQ (Φ 1)):dy (mk Φ 2 3 cL):=by
 refine ⟨fun t b hb h=>?_,fun t=>by simp [mk_eq,cL]⟩
 obtain ⟨e1,e2⟩:=tN (t:=t) hb
 unfold aQ at h1
 have d1:=nJ (t:=t) hb h t
 have d2:=nJ (t:=t) hb h b
 rw [qD,<- e1,<- e2]
 by_cases hn:b < 0
 ·have ed:-(Int.gcd t b:Int) = fI t b:=by simp [fI,hn]
  simp [mk_eq,cL,hb,h1,hn,ed,d1,d2]
 ·have ed:(Int.gcd t b:Int) = fI t b:=by simp [fI,hn]
  simp [mk_eq,cL,hb,h1,hn,ed,d1,d2]
def dU:D -> Bool
 | .tup [.int a,.int b]=>decide (1 <= b) && decide (Int.gcd a b = 1)
 | _=>false
theorem yY (q:Rat):dU (qD q) = true:=by
 have h1:=M_ q
 have h2:Int.gcd q.num q.den = 1:=by
  have:=q.reduced
  simpa [Int.gcd] using this
 simp [qD,dU,h1,h2]
def dw (m:List D -> O D):Prop:=∀ d,m [d] = ok (.bl (dU d))
def bB:List CS:=[.ifs (.or [(.not (.qf (.v 0) .tuple)),(.cmp .ne (.bf .len [(.v 0)]) (.int 2))]) [.ret (.bl false)] [],.ifs (.or [(.not (.call 0 [(.ix (.v 0) (.int 0))])),(.not (.call 0 [(.ix (.v 0) (.int 1))]))]) [.ret (.bl false)] [],.ret (.and [(.cmp .ge (.ix (.v 0) (.int 1)) (.int 1)),(.cmp .eq (.call 1 [(.ix (.v 0) (.int 0)),(.ix (.v 0) (.int 1))]) (.int 1))])]
theorem mz (g:Fl -> Fl) (d:D):d4 (aC g d) = d4 d:=by simp [d4]
theorem n4 {d:D} (h:d4 d = true):∃ i,d = .int i:=by
 cases d <;> simp [d4,dX] at h ⊢
theorem rQ {x y:D} (h:d4 x = false \/ d4 y = false):dU (.tup [x,y]) = false:=by
 cases x <;> cases y <;> simp [d4,dX] at h <;> rfl
theorem AD {ds:List D} (h:ds.length ≠ 2):dU (.tup ds) = false:=by
 unfold dU
 split
 ·rename_i e;cases e;simp at h
 ·rfl
theorem bo (Φ:az) (h0:dP (Φ 0)) (h1:aQ (Φ 1)):dw (mk Φ 1 1 bB):=by
 intro d
 unfold dP at h0
 unfold aQ at h1
 cases d with
 | tup ds =>
  by_cases hl:ds.length = 2
  ·match ds,hl with
   | [x,y],_ =>
    by_cases hx:d4 x = true
    ·by_cases hy:d4 y = true
     ·obtain ⟨a,rfl⟩:=n4 hx
      obtain ⟨b,rfl⟩:=n4 hy
      simp [mk_eq,bB,h0,h1,hx,hy,dX,dU]
      by_cases hg:a.gcd b = 1
      ·simp [hg]
      ·simp [hg];omega
     ·simp [mk_eq,bB,h0,hx,hy,dX,mz,rQ (.inr (by simpa using hy))]
    ·simp [mk_eq,bB,h0,hx,dX,mz,rQ (.inl (by simpa using hx))]
  ·have wg:¬ (ds.length:Int) = 2:=by omega
   simp [mk_eq,bB,dX,wg,AD hl]
 | _=>simp [mk_eq,bB,dX,dU]
def mJ (m:List D -> O D):Prop:=∀ p q,Sm 4000 p -> Sm 4000 q -> m [qD p,qD q] = ok (qD (p + q))
def mm (m:List D -> O D):Prop:=∀ p q,Sm 4000 p -> Sm 4000 q -> m [qD p,qD q] = ok (qD (p - q))
def dA (m:List D -> O D):Prop:=∀ p q,Sm 4000 p -> Sm 4000 q -> m [qD p,qD q] = ok (qD (p * q))
def zu (f:Nat):List CS:=[.ret (.call f [(.bin .add (.bin .mul (.ix (.v 0) (.int 0)) (.ix (.v 1) (.int 1))) (.bin .mul (.ix (.v 1) (.int 0)) (.ix (.v 0) (.int 1)))),(.bin .mul (.ix (.v 0) (.int 1)) (.ix (.v 1) (.int 1)))])]
def mi (f:Nat):List CS:=[.ret (.call f [(.bin .sub (.bin .mul (.ix (.v 0) (.int 0)) (.ix (.v 1) (.int 1))) (.bin .mul (.ix (.v 1) (.int 0)) (.ix (.v 0) (.int 1)))),(.bin .mul (.ix (.v 0) (.int 1)) (.ix (.v 1) (.int 1)))])]
def jP (f:Nat):List CS:=[.ret (.call f [(.bin .mul (.ix (.v 0) (.int 0)) (.ix (.v 1) (.int 0))),(.bin .mul (.ix (.v 0) (.int 1)) (.ix (.v 1) (.int 1)))])]
section
variable (Φ:az) {f:Nat} (h2:iD (Φ f))
theorem K_ {p q:Rat} (hp:Sm 4000 p) (hq:Sm 4000 q):(p.den:Int) * q.den ≠ 0 /\ ((p.den:Int) * q.den).natAbs < 2 ^ 9000 :=
 ⟨Int.mul_ne_zero (kU p) (kU q),Nat.lt_of_lt_of_le (hp.den hq) (Nat.pow_le_pow_right (by decide) (by decide))⟩
theorem Cf {p q:Rat} (hp:Sm 4000 p) (hq:Sm 4000 q):cP .mul (.int p.num) (.int q.den) = ok (.int (p.num * q.den)) /\ cP .mul (.int p.num) (.int q.num) = ok (.int (p.num * q.num)) /\ cP .mul (.int p.den) (.int q.den) = ok (.int (p.den * q.den)) /\ cP .mul (.int p.den) (.int q.num) = ok (.int (p.den * q.num)):=by
 obtain ⟨a,b⟩:=hp.big (by decide)
 obtain ⟨c,d⟩:=hq.big (by decide)
 exact ⟨gU (mulOk_of a d),gU (mulOk_of a c),gU (mulOk_of b d),gU (mulOk_of b c)⟩
include h2
theorem M0:mJ (mk Φ 2 2 (zu f)):=by
 intro p q hp hq
 obtain ⟨a,b,c,d⟩:=Cf hp hq
 obtain ⟨a',b',c',d'⟩:=Cf hq hp
 obtain ⟨n,k⟩:=K_ hp hq
 have e:=h2 (p.num * q.den + q.num * p.den) _ n k
 rw [<- G1] at e
 simp [mk_eq,zu,a,a',c,e]
theorem BH:mm (mk Φ 2 2 (mi f)):=by
 intro p q hp hq
 obtain ⟨a,b,c,d⟩:=Cf hp hq
 obtain ⟨a',b',c',d'⟩:=Cf hq hp
 obtain ⟨n,k⟩:=K_ hp hq
 have e:=h2 (p.num * q.den - q.num * p.den) _ n k
 rw [<- GY] at e
 simp [mk_eq,mi,a,a',c,e]
theorem yc:dA (mk Φ 2 2 (jP f)):=by
 intro p q hp hq
 obtain ⟨a,b,c,d⟩:=Cf hp hq
 obtain ⟨n,k⟩:=K_ hp hq
 have e:=h2 (p.num * q.num) _ n k
 rw [<- G0] at e
 simp [mk_eq,jP,b,c,e]
omit h2 in
end
end DI
end
section
namespace DI
open PySem (Str)
theorem vM {bind:D -> O aA} {test:aA -> O Bool} {el:aA -> O D} {g:D -> D} {xs:List D} (h:∀ x ∈ xs,∃ ρ,bind x = ok ρ /\ test ρ = ok true /\ el ρ = ok (g x)):gT bind test el xs = ok (xs.map g):=by
 have:=bq (bind:=bind) (test:=test) (el:=el) (e:=fun d=>d) (g:=g) (xs:=xs) h
 rwa [List.map_id'] at this
theorem kb (g:Fl -> Fl) (d:D):dU (aC g d) = dU d:=by
 cases d with
 | tup ds =>
  match ds with
  | []=>simp
  | [_]=>simp [dU]
  | [x,y]=>cases x <;> cases y <;> simp [dU]
  | _ :: _ :: _ :: _=>simp [dU]
 | _=>simp [dU]
def kj (d:D) (n:Int):Bool:=match d with
 | .lst _ ds=>decide ((ds.length:Int) = n) && ds.all dU
 | _=>false
def t7 (d:D):Prop:=match d with
 | .lst _ ds=>ds.length <= 1000000
 | .tup ds=>ds.length < 64
 | _=>True
def iX (m:List D -> O D):Prop:=∀ d n,t7 d -> m [d,.int n] = ok (.bl (kj d n))
def bQ:List CS:=[.ifs (.or [(.not (.qf (.v 0) .list)),(.cmp .ne (.bf .len [(.v 0)]) (.v 1))]) [.ret (.bl false)] [],.ret (.bf .all1 [(.comp 1 (.nm 0) [] .seq [(.v 0)] [] (.call 3 [(.v 0)]))])]
theorem aW (Φ:az) (h3:dw (Φ 3)):iX (mk Φ 2 2 bQ):=by
 intro d n hc
 unfold dw at h3
 cases d with
 | lst f ds =>
  by_cases hn:(ds.length:Int) = n
  ·have rN:aO Φ (.comp 1 (.nm 0) [] .seq [(.v 0)] [] (.call 3 [(.v 0)])) [some (.lst f ds),some (.int n)] = ok (.lst .ow (lq (ds.map dU))):=by
    rw [cu (xs:=[.lst (ba f) (ah ba ds)]) (by simp) (d8 ..) (vM (g:=fun d=>.bl (dU d)) fun x _=>⟨[some x],by simp [aT],by simp,by simp [h3,kb]⟩) (by simp;exact br hc)]
    simp [av,Function.comp_def,kb,lq]
   simp [mk_eq,bQ,dX,hn,rN,kj]
  ·simp [mk_eq,bQ,dX,hn,kj]
 | _=>simp [mk_eq,bQ,dX,kj]
theorem ug (f:Fl) (qs:List Rat) (n:Int):kj (.lst f (aB qs)) n = decide ((qs.length:Int) = n):=by
 unfold kj
 have:(aB qs).all dU = true:=by unfold aB;rw [List.all_map];exact List.all_eq_true.mpr fun q _=>yY q
 simp [this]
def aX (qs:List Rat):Nat:=qs.foldl (fun b q=>Nat.lcm b q.den) 1
theorem Cn (b:Nat) (q:Rat):(b:Int).fdiv (Int.gcd b q.den) * q.den = (Nat.lcm b q.den:Nat):=by
 have hg:0 < Nat.gcd b q.den:=Nat.gcd_pos_of_pos_right _ q.den_pos
 have e:Int.gcd (b:Int) (q.den:Int) = Nat.gcd b q.den:=by simp [Int.gcd]
 rw [e,Int.fdiv_eq_ediv_of_nonneg _ (by omega)]
 have:((b:Int) / (Nat.gcd b q.den:Nat)) = ((b / Nat.gcd b q.den:Nat):Int):=(Int.natCast_ediv ..).symm
 rw [this,Nat.lcm]
 have hd:Nat.gcd b q.den ∣ b:=Nat.gcd_dvd_left ..
 rw [Nat.mul_comm b,Nat.mul_div_assoc _ hd,Nat.mul_comm]
 exact (Int.natCast_mul ..).symm
theorem lcm_pos {b:Nat} (hb:0 < b) (q:Rat):0 < Nat.lcm b q.den:=Nat.lcm_pos hb q.den_pos
theorem yC:∀ (qs:List Rat) (b k j:Nat),0 < b -> b < 2 ^ j -> (∀ q ∈ qs,Sm k q) -> 0 < qs.foldl (fun b q=>Nat.lcm b q.den) b /\ qs.foldl (fun b q=>Nat.lcm b q.den) b < 2 ^ (j + k * qs.length) /\ b ∣ qs.foldl (fun b q=>Nat.lcm b q.den) b /\ ∀ q ∈ qs,q.den ∣ qs.foldl (fun b q=>Nat.lcm b q.den) b
 | [],b,k,j,h0,h1,_=>⟨h0,by simpa using h1,Nat.dvd_refl _,fun q hq=>nomatch hq⟩
 | q :: qs,b,k,j,h0,h1,hs=>by
  have hq:=hs q List.mem_cons_self
  have h2:Nat.lcm b q.den < 2 ^ (j + k):=Nat.lt_of_le_of_lt (Nat.lcm_le_mul h0 q.den_pos) (aZ h1 hq.2)
  obtain ⟨g1,g2,g3,g4⟩:=yC qs (Nat.lcm b q.den) k (j + k) (lcm_pos h0 q) h2 fun p hp=>hs p (List.mem_cons_of_mem _ hp)
  have e:j + k * (q :: qs).length = j + k + k * qs.length:=by rw [List.length_cons,Nat.mul_succ];omega
  refine ⟨g1,by rw [e];exact g2,Nat.dvd_trans (Nat.dvd_lcm_left ..) g3,fun p hp=>?_⟩
  rcases List.mem_cons.mp hp with rfl | hp
  ·exact Nat.dvd_trans (Nat.dvd_lcm_right ..) g3
  ·exact g4 p hp
structure AX (k:Nat) (qs:List Rat):Prop where
 sm:∀ q ∈ qs,Sm k q
 yZ:k * qs.length <= 3000
 len:qs.length <= 1000
theorem AX.lcm {k:Nat} {qs:List Rat} (h:AX k qs):0 < aX qs /\ aX qs < 2 ^ (1 + k * qs.length) /\ ∀ q ∈ qs,q.den ∣ aX qs:=by
 obtain ⟨g1,g2,_,g4⟩:=yC qs 1 k 1 (by decide) (by decide) h.sm
 exact ⟨g1,g2,g4⟩
theorem wX {n j:Nat} (h:n < 2 ^ j) (hj:j <= 9000):n < 2 ^ 9000:=Nat.lt_of_lt_of_le h (Nat.pow_le_pow_right (by decide) hj)
def dB (m:List D -> O D):Prop:=∀ f qs k,AX k qs -> m [.lst f (aB qs)] = ok (.int (aX qs))
def bN:List CS:=[.asg (.nm 1) (.bin .mul (.bin .fdiv (.v 1) (.call 1 [(.v 1),(.ix (.v 2) (.int 1))])) (.ix (.v 2) (.int 1)))]
def cJ:List CS:=[.asg (.nm 1) (.int 1),.fr (.nm 2) (.seq (.v 0)) bN,.ret (.v 1)]
theorem zr (Φ:az) (h1:aQ (Φ 1)) (x:Option D):∀ (qs:List Rat) (b k j:Nat) (z:Option D),0 < b -> b < 2 ^ j -> j + k * qs.length <= 8000 -> (∀ q ∈ qs,Sm k q) ->
  ∃ z',fh (fun d ρ=>cA (.nm 2) d ρ) (fun ρ=>bM Φ bN ρ) (aB qs) [x,some (.int b),z] = ok (.nx,[x,some (.int (qs.foldl (fun b q=>Nat.lcm b q.den) b:Nat)),z'])
 | [],b,k,j,z,_,_,_,_=>⟨z,rfl⟩
 | q :: qs,b,k,j,z,h0,hb,hj,hs=>by
  have hq:=hs q List.mem_cons_self
  have h2:Nat.lcm b q.den < 2 ^ (j + k):=Nat.lt_of_le_of_lt (Nat.lcm_le_mul h0 q.den_pos) (aZ hb hq.2)
  have e:j + k * (q :: qs).length = j + k + k * qs.length:=by rw [List.length_cons,Nat.mul_succ];omega
  obtain ⟨z',ih⟩:=zr Φ h1 x qs (Nat.lcm b q.den) k (j + k) (some (qD q)) (lcm_pos h0 q) h2 (by omega) fun p hp=>hs p (List.mem_cons_of_mem _ hp)
  have hg:0 < Nat.gcd b q.den:=Nat.gcd_pos_of_pos_right _ q.den_pos
  have eg:Int.gcd (b:Int) (q.den:Int) = Nat.gcd b q.den:=by simp [Int.gcd]
  have Om:Nat.gcd b q.den <= b:=Nat.le_of_dvd h0 (Nat.gcd_dvd_left ..)
  have hb9:b < 2 ^ 9000:=wX hb (by omega)
  have d1:cP .fdiv (.int b) (.int (Nat.gcd b q.den:Nat)) = ok (.int ((b:Int).fdiv (Nat.gcd b q.den:Nat))):=pU (jm (by omega) (by simpa using Nat.lt_of_le_of_lt Om hb9))
  have hm:((b:Int).fdiv (Nat.gcd b q.den:Nat)).natAbs <= b:=by
   rw [Int.fdiv_eq_ediv_of_nonneg _ (by omega),<- Int.natCast_ediv]
   simp;exact Nat.div_le_self ..
  have d2:cP .mul (.int ((b:Int).fdiv (Nat.gcd b q.den:Nat))) (.int q.den) = ok (.int (Nat.lcm b q.den:Nat)):=by
   have:=Cn b q
   rw [eg] at this
   rw [gU (mulOk_of (Nat.lt_of_le_of_lt hm hb9) (hq.big (by
    rw [e] at hj
    have:k <= j + k + k * qs.length:=by omega
    omega)).2),this]
  unfold aQ at h1
  refine ⟨z',dO (ρ1:=[x,some (.int b),some (qD q)]) (by simp) (ρ2:=[x,some (.int (Nat.lcm b q.den:Nat)),some (qD q)]) ?_ ih⟩
  simp [bN,h1,d1,d2]
theorem aU (Φ:az) (h1:aQ (Φ 1)):dB (mk Φ 1 3 cJ):=by
 intro f qs k hs
 have hit:dk Φ (.seq (.v 0)) [some (.lst f (aB qs)),some (.int 1),none] = ok (aB qs,if (bV (ba f) || false) then [some (.lst (aN f) (aB qs)),some (.int 1),none] else [some (.lst f (aB qs)),some (.int 1),none]):=by
  rw [w6 (f:=ba f) (ds:=aB qs) (by simp)]
  simp [show gO (.v 0) = [0] from rfl]
 have hk:=hs.yZ
 have hx:∀ x:Option D,∃ z',fh (fun d ρ=>cA (.nm 2) d ρ) (fun ρ=>bM Φ bN ρ) (aB qs) [x,some (.int (1:Nat)),none] = ok (.nx,[x,some (.int (aX qs)),z']):=fun x=>zr Φ h1 x qs 1 k 1 none (by decide) (by decide) (by omega) hs.sm
 cases hf:(bV (ba f) || false) with
 | true =>
  rw [hf] at hit
  obtain ⟨z',e⟩:=hx (some (.lst (aN f) (aB qs)))
  have:=gH (t:=.nm 2) (b:=bN) hit e
  simp [mk_eq,cJ,this]
 | false =>
  rw [hf] at hit
  obtain ⟨z',e⟩:=hx (some (.lst f (aB qs)))
  have:=gH (t:=.nm 2) (b:=bN) hit e
  simp [mk_eq,cJ,this]
def aM (b:Nat) (q:Rat):Int:=q.num * (b:Int).fdiv q.den
theorem GZ (q:Rat):(q.num:Rat) = q * (q.den:Rat):=by
 have h:(q.den:Rat) ≠ 0:=by
  have:=q.den_pos
  intro z
  have:((q.den:Int):Rat) = 0:=by rw [Rat.intCast_natCast];exact z
  rw [Rat.intCast_eq_zero_iff] at this
  omega
 have e:q = (q.num:Rat) / (q.den:Rat):=by
  conv=>lhs;rw [<- i_ q,Rat.divInt_eq_div,Rat.intCast_natCast]
 grind
theorem kL {b:Nat} {q:Rat} (h:q.den ∣ b):((aM b q:Int):Rat) = q * (b:Rat):=by
 obtain ⟨c,rfl⟩:=h
 have hd:(q.den:Int) ≠ 0:=kU q
 unfold aM
 rw [Int.natCast_mul,Int.mul_fdiv_cancel_left _ hd,Rat.intCast_mul,GZ,Rat.natCast_mul,Rat.intCast_natCast]
 grind
theorem n_ {b:Nat}:∀ {qs:List Rat},(∀ q ∈ qs,q.den ∣ b) -> (((qs.map (aM b)).sum:Int):Rat) = qs.sum * (b:Rat)
 | [],_=>by simp
 | q :: qs,h=>by
  rw [List.map_cons,List.sum_cons,List.sum_cons,Rat.intCast_add,kL (h q List.mem_cons_self),n_ fun p hp=>h p (List.mem_cons_of_mem _ hp)]
  grind
def gc (m:List D -> O D):Prop:=∀ f qs k (b:Nat),AX k qs -> b < 2 ^ 8000 -> m [.lst f (aB qs),.int b] = ok (.lst .ow (ab (qs.map (aM b))))
def fY:List CS:=[.ret (.comp 1 (.nm 0) [1] .seq [(.v 0)] [] (.bin .mul (.ix (.v 0) (.int 0)) (.bin .fdiv (.v 1) (.ix (.v 0) (.int 1)))))]
theorem El {k:Nat} {qs:List Rat} (h:AX k qs) {q:Rat} (hq:q ∈ qs):Sm 3000 q:=by
 refine (h.sm q hq).mono ?_
 have h1:=h.yZ
 have h2:0 < qs.length:=List.length_pos_of_mem hq
 have:k * 1 <= k * qs.length:=Nat.mul_le_mul_left _ h2
 omega
theorem bR (Φ:az):gc (mk Φ 2 2 fY):=by
 intro f qs k b hs hb
 have rN:aO Φ (.comp 1 (.nm 0) [1] .seq [(.v 0)] [] (.bin .mul (.ix (.v 0) (.int 0)) (.bin .fdiv (.v 1) (.ix (.v 0) (.int 1))))) [some (.lst f (aB qs)),some (.int b)] = ok (.lst .ow (ab (qs.map (aM b)))):=by
  rw [cu (xs:=[.lst (ba f) (aB qs)]) (items:=aB qs) (ds:=qs.map fun q=>.int (aM b q)) (by simp) (by rw [d8];simp) (bq fun q hq=>?_) (by have:=hs.len;simp;exact br (by omega))]
  ·have:(qs.map fun q=>D.int (aM b q)) = ab (qs.map (aM b)):=by simp [ab]
   rw [this,eR]
  ·refine ⟨[some (qD q),some (.int b)],by simp [aT],by simp,?_⟩
   have h3:=El hs hq
   obtain ⟨g1,g2⟩:=h3.big (by decide)
   have d1:cP .fdiv (.int b) (.int q.den) = ok (.int ((b:Int).fdiv q.den)):=pU (jm (kU q) g2)
   have d2:cP .mul (.int q.num) (.int ((b:Int).fdiv q.den)) = ok (.int (q.num * (b:Int).fdiv q.den)):=by
    refine gU (mulOk_of g1 ?_)
    rw [Int.fdiv_eq_ediv_of_nonneg _ (by omega),<- Int.natCast_ediv]
    have:=Nat.div_le_self b q.den
    have h9:=wX hb (by decide)
    rw [Int.natAbs_natCast];exact Nat.lt_of_le_of_lt this h9
   simp [d1,d2,aM]
 simp [mk_eq,fY,rN]
def iB (m:List D -> O D):Prop:=∀ f qs k,AX k qs -> m [.lst f (aB qs)] = ok (.tup [.int (aX qs),.lst .ow (ab (qs.map (aM (aX qs))))])
def iu:List CS:=[.asg (.nm 1) (.call 9 [(.v 0)]),.ret (.tup [(.v 1),(.call 10 [(.v 0),(.v 1)])])]
theorem AX.Jx {k:Nat} {qs:List Rat} (h:AX k qs):aX qs < 2 ^ 8000:=Nat.lt_of_lt_of_le h.lcm.2.1 (Nat.pow_le_pow_right (by decide) (by have:=h.yZ;omega))
theorem cC (Φ:az) (h9:dB (Φ 9)) (Kf:gc (Φ 10)):iB (mk Φ 1 2 iu):=by
 intro f qs k hs
 have e1:=fun f=>h9 f qs k hs
 have e2:=fun f=>Kf f qs k (aX qs) hs hs.Jx
 simp [mk_eq,iu,e1,e2]
def iC (m:List D -> O D):Prop:=∀ f qs k,AX k qs -> m [.lst f (aB qs)] = ok (qD qs.sum)
def fj:List CS:=[.asg (.nm 1) (.call 41 [(.v 0)]),.ret (.call 2 [(.bf .gh [(.ix (.v 1) (.int 1))]),(.ix (.v 1) (.int 0))])]
theorem sr {b:Nat} {qs:List Rat} (h0:0 < b) (h:∀ q ∈ qs,q.den ∣ b):Rat.divInt (qs.map (aM b)).sum b = qs.sum:=by
 have hb:((b:Nat):Rat) ≠ 0:=by
  intro z
  have:((b:Int):Rat) = 0:=by rw [Rat.intCast_natCast];exact z
  rw [Rat.intCast_eq_zero_iff] at this
  omega
 rw [Rat.divInt_eq_div,n_ h,Rat.intCast_natCast]
 grind
theorem bx (Φ:az) (h2:dy (Φ 2)) (WZ:iB (Φ 41)):iC (mk Φ 1 2 fj):=by
 intro f qs k hs
 have e1:=fun f=>WZ f qs k hs
 obtain ⟨g1,g2,g3⟩:=hs.lcm
 have e2:=h2.1 (qs.map (aM (aX qs))).sum (aX qs) (by omega) (by have:=wX hs.Jx (by decide);simpa using this)
 rw [sr g1 g3] at e2
 simp [mk_eq,fj,e1,e2]
end DI
end
section
namespace DI
open PySem (Str)
def cI (n:Int):D -> Bool
 | .int i=>decide (0 <= i) && decide (i < n)
 | _=>false
theorem mF (g:Fl -> Fl) (n:Int) (d:D):cI n (aC g d) = cI n d:=by
 cases d <;> simp [cI]
theorem fX {n:Int}:∀ {ds:List D},ds.all (cI n) = true -> ∃ ns:List Int,ds = ab ns
 | [],_=>⟨[],rfl⟩
 | d :: ds,h=>by
  simp only [List.all_cons,Bool.and_eq_true] at h
  obtain ⟨ns,rfl⟩:=fX h.2
  cases d with
  | int i=>exact ⟨i :: ns,rfl⟩
  | _=>simp [cI] at h
def numsOf (ds:List D):List Int:=(intsOf ds).getD []
theorem jb (ns:List Int):numsOf (ab ns) = ns:=by unfold numsOf ab;rw [aY];rfl
def cM (d:D) (n:Int):Bool:=match d with
 | .tup ds=>ds.all (cI n) && decide ((vJ (numsOf ds)).length = ds.length)
 | _=>false
def qw (d:D) (n:Int):Bool:=cM d n && (match d with
 | .tup ds=>decide (numsOf ds = sortI (numsOf ds))
 | _=>false)
def fm (m:List D -> O D):Prop:=∀ d n,t7 d -> m [d,.int n] = ok (.bl (cM d n))
def dh:List CS:=[.ifs (.not (.qf (.v 0) .tuple)) [.ret (.bl false)] [],.ifs (.not (.bf .all1 [(.comp 1 (.nm 0) [1] .seq [(.v 0)] [] (.and [(.call 0 [(.v 0)]),(.cmp .ge (.v 0) (.int 0)),(.cmp .lt (.v 0) (.v 1))]))])) [.ret (.bl false)] [],.ret (.cmp .eq (.lT (.v 0)) (.bf .len [(.v 0)]))]
theorem bz (Φ:az) (h0:dP (Φ 0)):fm (mk Φ 2 2 dh):=by
 intro d n hc
 unfold dP at h0
 cases d with
 | tup ds =>
  have hl:ds.length < 64:=hc
  have rN:aO Φ (.comp 1 (.nm 0) [1] .seq [(.v 0)] [] (.and [(.call 0 [(.v 0)]),(.cmp .ge (.v 0) (.int 0)),(.cmp .lt (.v 0) (.v 1))])) [some (.tup ds),some (.int n)] = ok (.lst .ow (lq (ds.map (cI n)))):=by
   rw [cu (xs:=[.tup (ah ba ds)]) (by simp) (s_ ..) (vM (g:=fun d=>.bl (cI n d)) fun x _=>⟨[some x,some (.int n)],by simp [aT],by simp,?_⟩) (by simp;exact br (by omega))]
   ·simp [av,Function.comp_def,mF,lq]
   ·cases x with
    | int i =>
     simp [h0,d4,dX,cI]
    | _=>simp [h0,d4,dX,cI]
  cases ha:ds.all (cI n) with
  | true =>
   obtain ⟨ns,rfl⟩:=fX ha
   have wg:ns.length < 4000:=by simp at hl;omega
   have e:(List.all (List.map (cI n) (ab ns)) id) = true:=by rw [List.all_map];exact ha
   simp [mk_eq,dh,dX,rN,e,KP wg,cM,ha,jb]
   simp [Int.natCast_inj]
  | false =>
   have e:(List.all (List.map (cI n) ds) id) = false:=by rw [List.all_map];exact ha
   simp only [mk_eq,dh,List.length_cons,List.length_nil]
   simp [dX,rN,e,cM,ha]
 | _=>simp [mk_eq,dh,dX,cM]
def pZ (m:List D -> O D):Prop:=∀ d n,t7 d -> m [d,.int n] = ok (.bl (qw d n))
def gW:List CS:=[.ret (.and [(.call 43 [(.v 0),(.v 1)]),(.cmp .eq (.bf .list1 [(.v 0)]) (.bf .ia [(.v 0)]))])]
theorem va (n:Nat) (f:Fl) (ns:List Int):dZ (n + 1) (.lst f (ab ns)) = true:=nC (fV n) ns
theorem AG (ns ms:List Int):ez (ab ns) (ab ms) = decide (ns = ms):=jl (fun x y=>nI x y) ns ms
theorem kZ (g:Fl -> Fl) (d:D) (n:Int):cM (aC g d) n = cM d n:=by
 cases d with
 | tup ds =>
  cases h:ds.all (cI n) with
  | true =>
   obtain ⟨ns,rfl⟩:=fX h
   simp
  | false =>
   have h2:(ah g ds).all (cI n) = false:=by
    rw [av,List.all_map,show (cI n ∘ aC g) = cI n from funext fun d=>mF g n d];exact h
   simp [cM,h,h2]
 | _=>simp [cM]
theorem jM {g:Fl -> Fl} {d:D} (h:t7 d):t7 (aC g d):=by
 cases d <;> simp_all [t7]
theorem d6 (Φ:az) (WY:fm (Φ 43)):pZ (mk Φ 2 2 gW):=by
 intro d n hc
 have e1:=WY (aC aN (aC ba d)) n (jM (jM hc))
 rw [kZ,kZ] at e1
 cases d with
 | tup ds =>
  have hl:ds.length < 64:=hc
  simp only [Ci] at e1
  cases ha:cM (.tup ds) n with
  | true =>
   have QX:=ha
   simp only [cM,Bool.and_eq_true] at QX
   obtain ⟨ns,rfl⟩:=fX QX.1
   have wg:ns.length < 64:=by simpa using hl
   have e2:fS .eq (.lst .ow (ab ns)) (.lst .ow (ab (sortI ns))) = ok (.bl (decide (ns = sortI ns))):=by
    rw [Lf (va 39 _ _) (va 39 _ _),FP,AG]
   rw [ha] at e1
   simp at e1
   simp [mk_eq,gW,e1,FJ wg,e2,qw,ha,jb]
  | false =>
   rw [ha] at e1
   simp [mk_eq,gW,e1,qw,ha]
 | _=>(simp at e1;simp [mk_eq,gW,e1,qw,cM])
def p_ (n:Nat) (l:List Int):Prop:=l.Pairwise (· < ·) /\ ∀ h ∈ l,0 <= h /\ h < (n:Int)
theorem zj:∀ (l m:List Int),(∀ x ∈ l,x ∉ m) -> l.Nodup -> l.foldl (fun (m:List Int) (k:Int)=>if m.any (· == k) then m else m ++ [k]) m = m ++ l
 | [],m,_,_=>by simp
 | x :: l,m,h,hn=>by
  have hx:m.any (· == x) = false:=by
   rw [List.any_eq_false]
   intro y hy z
   have:y = x:=by simpa using z
   exact h x List.mem_cons_self (this ▸ hy)
  rw [List.foldl_cons,hx,if_neg Bool.false_ne_true,zj l (m ++ [x])]
  ·simp
  ·intro y hy z
   rcases List.mem_append.mp z with z | z
   ·exact h y (List.mem_cons_of_mem _ hy) z
   ·have:y = x:=by simpa using z
    subst this
    exact (List.nodup_cons.mp hn).1 hy
  ·exact (List.nodup_cons.mp hn).2
theorem p_.nodup {n:Nat} {l:List Int} (h:p_ n l):l.Nodup:=h.1.imp fun z=>by omega
theorem By {l:List Int} (h:l.Pairwise (· < ·)):sortI l = l:=by
 unfold sortI
 apply List.mergeSort_of_pairwise
 exact h.imp fun z=>by simp;omega
theorem p_.qw {n:Nat} {l:List Int} (h:p_ n l):qw (.tup (ab l)) n = true:=by
 have h1:(ab l).all (cI n) = true:=by
  unfold ab
  rw [List.all_map,List.all_eq_true]
  intro x hx
  have:=h.2 x hx
  simp [cI,this.1,this.2]
 have h2:vJ l = l:=by
  have:=zj l [] (by simp) h.nodup
  rw [List.nil_append] at this
  exact this
 simp [DI.qw,cM,h1,jb,h2,By h.1]
def iF (c:Nat) (p:D -> Int -> Bool) (m:List D -> O D):Prop:=∀ d n,t7 d -> m [d,.int n] = if p d n then ok .bC else some (.error c)
def iz (f c:Nat):List CS:=[.ifs (.not (.call f [(.v 0),(.v 1)])) [.rs c] []]
theorem sf (g:Fl -> Fl) (d:D) (n:Int):kj (aC g d) n = kj d n:=by
 cases d <;> simp [kj]
 rw [av,List.all_map,show (dU ∘ aC g) = dU from funext fun d=>kb g d]
theorem yd (Φ:az) {f c:Nat} {p:D -> Int -> Bool} (hp:∀ g d n,p (aC g d) n = p d n) (h:∀ d n,t7 d -> Φ f [d,.int n] = ok (.bl (p d n))):iF c p (mk Φ 2 2 (iz f c)):=by
 intro d n hc
 have e1:=h (aC aN (aC ba d)) n (jM (jM hc))
 rw [hp,hp] at e1
 cases hd:p d n with
 | true=>rw [hd] at e1;simp [mk_eq,iz,e1]
 | false=>rw [hd] at e1;simp [mk_eq,iz,e1]
end DI
end
section
namespace DI
open PySem (Str)
def bt (ns:List Int) (k:Int):Int :=
 let c:=if k < ns.length then ns.getD k.toNat 0 else 0
 if (10:Int) ^ 18 <= c then (c - 10 ^ 18).fmod (10 ^ 60) else
  let n:=(c * 48271 + k * 69621 + 11).fmod 2147483629
  let n:=(n * n).fmod 2147483587
  n * 2147483563 + (n * n).fmod 2147483563
def p3 (m:List D -> O D):Prop:=∀ (ns:List Int) (k:Int),0 <= k -> m [.lst .sc (ab ns),.int k] = ok (.int (bt ns k))
def eX:List CS:=[.asg (.nm 2) (.int 0),.ifs (.cmp .lt (.v 1) (.bf .len [(.v 0)])) [.asg (.nm 2) (.ix (.v 0) (.v 1))] [],.ifs (.cmp .ge (.v 2) (.bin .pow (.int 10) (.int 18))) [.ret (.bin .mod (.bin .sub (.v 2) (.bin .pow (.int 10) (.int 18))) (.bin .pow (.int 10) (.int 60)))] [],.asg (.nm 3) (.bin .mod (.bin .add (.bin .add (.bin .mul (.v 2) (.int 48271)) (.bin .mul (.v 1) (.int 69621))) (.int 11)) (.int 2147483629)),.asg (.nm 3) (.bin .mod (.bin .mul (.v 3) (.v 3)) (.int 2147483587)),.ret (.bin .add (.bin .mul (.v 3) (.int 2147483563)) (.bin .mod (.bin .mul (.v 3) (.v 3)) (.int 2147483563)))]
theorem iq (a:Int) {b:Int} (h:0 < b):0 <= a.fmod b /\ a.fmod b < b:=⟨Int.fmod_nonneg_of_pos a h,Int.fmod_lt_of_pos a h⟩
theorem AQ (Φ:az) (x:D) (k c:Int) (hx:dX .list x = true) (o:Option D):qJ (bM Φ (eX.drop 2) [some x,some (.int k),some (.int c),o]) = ok (.int (if (10:Int) ^ 18 <= c then (c - 10 ^ 18).fmod (10 ^ 60) else
  let n:=(c * 48271 + k * 69621 + 11).fmod 2147483629
  let n:=(n * n).fmod 2147483587
  n * 2147483563 + (n * n).fmod 2147483563)):=by
 have p1:cP .pow (.int 10) (.int 18) = ok (.int (10 ^ 18)):=HA (by decide)
 have p2:cP .pow (.int 10) (.int 60) = ok (.int (10 ^ 60)):=HA (by decide)
 by_cases h:(10:Int) ^ 18 <= c
 ·have h':(1000000000000000000:Int) <= c:=h
  simp [eX,p1,p2,h']
 ·have h':¬ (1000000000000000000:Int) <= c:=h
  obtain ⟨a1,a2⟩:=iq (c * 48271 + k * 69621 + 11) (b:=2147483629) (by decide)
  generalize hn:(c * 48271 + k * 69621 + 11).fmod 2147483629 = n at *
  obtain ⟨a3,a4⟩:=iq (n * n) (b:=2147483587) (by decide)
  have m1:cP .mul (.int n) (.int n) = ok (.int (n * n)):=gU (sS _ (by omega))
  generalize hm:(n * n).fmod 2147483587 = m at *
  have m2:cP .mul (.int m) (.int m) = ok (.int (m * m)):=gU (sS _ (by omega))
  simp [eX,p1,h',hn,m1,hm,m2]
theorem Ir (Φ:az):p3 (mk Φ 2 4 eX):=by
 intro ns k hk
 have:=fun c=>AQ Φ (.lst .sc (ab ns)) k c rfl none
 by_cases h:k < ns.length
 ·have hg:v5 (ab ns) k = ok (.int (ns.getD k.toNat 0)):=by
   have hl:k.toNat < ns.length:=by omega
   rw [at_of hk (d:=.int (ns.getD k.toNat 0)) (by rw [rK,List.getElem?_eq_getElem hl,Option.map_some,List.getD_eq_getElem?_getD,List.getElem?_eq_getElem hl];rfl)]
   simp
  have e:qJ (bM Φ eX ([some (D.lst Fl.sc (ab ns)),some (D.int k)] ++ [none,none])) = qJ (bM Φ (eX.drop 2) [some (.lst .sc (ab ns)),some (.int k),some (.int (ns.getD k.toNat 0)),none]):=by
   rw [eX,i5,GC]
   simp only [Hd,Ht,vj,o7]
   simp only [List.cons_append,List.nil_append,zz,List.length_cons,List.length_nil,Nat.reduceAdd,Nat.reduceLT,uE,List.set_cons_succ,List.set_cons_zero]
   rw [i5,Mn]
   simp [h,hg]
  rw [mk_eq (ar:=2) (ds:=[_,_]) rfl]
  refine (show _ = _ from e).trans ?_
  rw [this,bt,if_pos h]
 ·have e:qJ (bM Φ eX ([some (D.lst Fl.sc (ab ns)),some (D.int k)] ++ [none,none])) = qJ (bM Φ (eX.drop 2) [some (.lst .sc (ab ns)),some (.int k),some (.int 0),none]):=by
   rw [eX,i5,GC]
   simp only [Hd,Ht,vj,o7]
   simp only [List.cons_append,List.nil_append,zz,List.length_cons,List.length_nil,Nat.reduceAdd,Nat.reduceLT,uE,List.set_cons_succ,List.set_cons_zero]
   rw [i5,Mn]
   simp [h]
  rw [mk_eq (ar:=2) (ds:=[_,_]) rfl]
  refine (show _ = _ from e).trans ?_
  rw [this,bt,if_neg h]
def kH:CS:=.HK (.cmp .gt (.v 3) (.int 0)) [.par 2 3 (.v 3) (.bin .mod (.v 2) (.v 3))]
def lz:List CS:=[.asg (.nm 2) (.bf .abs [(.v 0)]),.asg (.nm 3) (.bf .abs [(.v 1)]),kH,.ifs (.cmp .lt (.v 1) (.int 0)) [.asg (.nm 2) (.bin .sub (.int 0) (.v 2))] [],.ret (.tup [(.bin .fdiv (.v 0) (.v 2)),(.bin .fdiv (.v 1) (.v 2))])]
theorem wY (Φ:az) (x y:Option D):∀ (n:Nat) (a b:Nat),b <= n -> tO Φ kH [x,y,some (.int a),some (.int b)] = ok (.nx,[x,y,some (.int (Nat.gcd a b)),some (.int 0)]):=by
 intro n
 induction n with
 | zero =>
  intro a b h
  have hb:b = 0:=by omega
  subst hb
  rw [kH,qW]
  exact hU (by simp)
 | succ n ih =>
  intro a b h
  by_cases hb:b = 0
  ·subst hb
   rw [kH,qW]
   exact hU (by simp)
  ·have i4:=Nat.mod_lt a (show 0 < b by omega)
   have e:=ih b (a % b) (by omega)
   have eg:Nat.gcd b (a % b) = Nat.gcd a b:=by rw [Nat.gcd_comm a b,Nat.gcd_rec b a,Nat.gcd_comm]
   rw [eg] at e
   rw [kH,qW] at e ⊢
   rw [<- e]
   have xf:0 < b:=by omega
   have em:((a:Int)).fmod (b:Int) = ((a % b:Nat):Int):=by
    rw [Int.fmod_eq_emod_of_nonneg _ (by omega)];exact (Int.natCast_emod a b).symm
   have ep:tO Φ (.par 2 3 (.v 3) (.bin .mod (.v 2) (.v 3))) [x,y,some (.int a),some (.int b)] = ok (.nx,[x,y,some (.int b),some (.int ((a % b:Nat):Int))]):=by
    rw [Mm]
    simp [hb,em]
   exact n6 (by simp [xf,ep])
theorem Et (Φ:az):iD (mk Φ 2 4 lz):=by
 intro t b hb h
 obtain ⟨e1,e2⟩:=tN (t:=t) hb
 have d1:=nJ (t:=t) hb h t
 have d2:=nJ (t:=t) hb h b
 have hl:=wY Φ (some (.int t)) (some (.int b)) b.natAbs t.natAbs b.natAbs (Nat.le_refl _)
 rw [qD,<- e1,<- e2]
 by_cases hn:b < 0
 ·have ed:0 - (Nat.gcd t.natAbs b.natAbs:Int) = fI t b:=by simp [fI,hn,Int.gcd]
  have ed':-(Nat.gcd t.natAbs b.natAbs:Int) = fI t b:=by simp [fI,hn,Int.gcd]
  simp [mk_eq,lz,hl,hn,ed',d1,d2]
 ·have ed:(Nat.gcd t.natAbs b.natAbs:Int) = fI t b:=by simp [fI,hn,Int.gcd]
  simp [mk_eq,lz,hl,hn,ed,d1,d2]
def zC (m:List D -> O D):Prop:=∀ q,m [qD q] = ok (.bl true)
def zw:List CS:=[.ifs (.or [(.not (.qf (.v 0) .tuple)),(.cmp .ne (.bf .len [(.v 0)]) (.int 2))]) [.ret (.bl false)] [],.ret (.cmp .eq (.bf .len [(.comp 1 (.nm 0) [] .seq [(.v 0)] [(.or [(.not (.qf (.v 0) .int)),(.qf (.v 0) .bool)])] (.v 0))]) (.int 0))]
theorem M1 (Φ:az):zC (mk Φ 1 1 zw):=by
 intro q
 have hc:aO Φ (.comp 1 (.nm 0) [] .seq [(.v 0)] [(.or [(.not (.qf (.v 0) .int)),(.qf (.v 0) .bool)])] (.v 0)) [some (qD q)] = ok (.lst .ow []):=by
  rw [cu (xs:=[qD q]) (items:=[.int q.num,.int q.den]) (ds:=[]) (by simp) (by unfold qD;rw [s_];simp) (by simp [gT,aT,dX]) (by simp)]
  simp
 have h2:dX .tuple (qD q) = true:=rfl
 have h3:pT .len [qD q] = ok (.int 2):=rfl
 simp [mk_eq,zw,hc,h2,h3]
end DI
end
section
namespace DI
open PySem (Str)
def cy (qs:List Rat) (h:Int):Rat:=qs.getD h.toNat 0
theorem bA {qs:List Rat} {h:Int} (h0:0 <= h) (h1:h < qs.length):qs[h.toNat]? = some (cy qs h) /\ cy qs h ∈ qs:=by
 have hl:h.toNat < qs.length:=by omega
 have e:qs[h.toNat]? = some (cy qs h):=by
  unfold cy
  rw [List.getD_eq_getElem?_getD,List.getElem?_eq_getElem hl];rfl
 exact ⟨e,List.mem_of_getElem? e⟩
theorem pV {qs:List Rat} {h:Int} (h0:0 <= h) (h1:h < qs.length):v5 (aB qs) h = ok (qD (cy qs h)):=by
 rw [at_of h0 (d:=qD (cy qs h)) (by rw [EB,(bA h0 h1).1];rfl)]
 simp
theorem FN (ps qs:List Rat):ez (aB ps) (aB qs) = decide (ps = qs):=jl C8 ps qs
theorem B6 (n:Nat) (f:Fl) (qs:List Rat):dZ (n + 2) (.lst f (aB qs)) = true:=nC (yu n) qs
theorem rC {q:Rat} (h:0 < q):0 < q.num:=by
 have:=(Rat.lt_iff 0 q).mp h
 simpa using this
def SW (p:Rat × Rat):D:=.tup [qD p.1,qD p.2]
theorem HF {Φ:az} (hz:Φ 1000 = sj) (f g:Fl) (ps qs:List Rat):dN Φ (.dt 1000) [.lst f (aB ps),.lst g (aB qs)] = ok ((ps.zip qs).map SW):=by
 show bd (Φ 1000 _) mP = _
 rw [hz]
 show ok (ah aN (List.zipWith (fun x y=>D.tup [x,y]) (aB ps) (aB qs))) = _
 congr 1
 unfold aB
 rw [List.zipWith_map,av,List.map_zipWith,List.zip,List.map_zipWith]
 simp [SW]
theorem p_.len {n:Nat} {l:List Int} (h:p_ n l):l.length <= n:=by
 have hn:(l.map Int.toNat).Nodup:=by
  unfold List.Nodup
  rw [List.pairwise_map]
  refine h.1.imp_of_mem fun ha hb z e=>?_
  have:=h.2 _ ha
  have:=h.2 _ hb
  omega
 have hs:(l.map Int.toNat) ⊆ List.range n:=fun x hx=>by
  obtain ⟨y,hy,rfl⟩:=List.mem_map.mp hx
  have:=h.2 y hy
  rw [List.mem_range];omega
 have:=hn.length_le_of_subset hs
 simpa using this
theorem p_.eu {n:Nat} {l:List Int} (h:p_ n l) (hn:n <= 12):t7 (.tup (ab l)):=by
 have:=h.len
 show (ab l).length < 64
 simp;omega
end DI
end
section
namespace DI
open PySem (Str)
theorem GU {t b:Int} {k:Nat} (h0:b ≠ 0) (h1:t.natAbs < 2 ^ k) (h2:b.natAbs < 2 ^ k):Sm k (Rat.divInt t b):=rm h0 h1 h2
theorem xw {t b:Int} (ht:0 < t) (hb:0 < b):0 < Rat.divInt t b:=by
 rw [Rat.divInt_eq_div]
 have h1:(0:Rat) < (t:Rat):=by
  have:=Rat.intCast_lt_intCast (a:=0) (b:=t);simpa using this.mpr ht
 have h2:(0:Rat) < (b:Rat):=by
  have:=Rat.intCast_lt_intCast (a:=0) (b:=b);simpa using this.mpr hb
 rw [Rat.div_def]
 exact Rat.mul_pos h1 (Rat.inv_pos.mpr h2)
end DI
end
section
namespace DI
open PySem (Str)
theorem Sm.neg {k:Nat} {q:Rat} (h:Sm k q):Sm k (-q):=⟨by simpa using h.1,h.2⟩
theorem Sm.zero (k:Nat) (h:1 <= k):Sm k 0:=by
 have:Sm 1 (0:Rat):=by constructor <;> decide
 exact this.mono h
theorem Sm.sum {k:Nat}:∀ {qs:List Rat},(∀ q ∈ qs,Sm k q) -> Sm (1 + (k + 1) * qs.length) qs.sum
 | [],_=>Sm.zero _ (by simp)
 | q :: qs,h=>by
  have h1:=h q List.mem_cons_self
  have h2:=Sm.sum (qs:=qs) fun p hp=>h p (List.mem_cons_of_mem _ hp)
  rw [List.sum_cons]
  refine (h1.add h2).mono ?_
  rw [List.length_cons,Nat.mul_succ];omega
def eP (l:List Int) (f:Int -> Rat):Rat:=(l.map f).sum
@[simp] theorem MQ (f:Int -> Rat):eP [] f = 0:=rfl
theorem lJ (h:Int) (l:List Int) (f:Int -> Rat):eP (h :: l) f = f h + eP l f:=rfl
theorem wC {l:List Int} {f g:Int -> Rat} (h:∀ x ∈ l,f x = g x):eP l f = eP l g:=by
 unfold eP;rw [List.map_congr_left h]
end DI
end
section
namespace DI
open PySem (Str)
abbrev Row:=Rat × List Int
def rD (r:Row):D:=.tup [qD r.1,.tup (ab r.2)]
@[simp] theorem Jn (g:Fl -> Fl) (r:Row):aC g (rD r) = rD r:=by unfold rD;simp
@[simp] theorem J9 (g:Fl -> Bool) (r:Row):aH g (rD r) = false:=by unfold rD;simp
def cz (rs:List Row):List D:=rs.map rD
@[simp] theorem Qv (rs:List Row):(cz rs).length = rs.length:=List.length_map ..
@[simp] theorem oO (g:Fl -> Fl) (rs:List Row):ah g (cz rs) = cz rs:=dS g (Jn g) rs
@[simp] theorem OD (g:Fl -> Bool) (rs:List Row):aw g (cz rs) = false:=cK g (J9 g) rs
theorem Nv (n:Nat) (r:Row):dZ (n + 2) (rD r) = true:=by
 unfold rD
 rw [nB,List.all_cons,List.all_cons,yu n]
 have:dZ (n + 1) (.tup (ab r.2)) = true:=by
  rw [nB];exact nC (fun _=>by cases n <;> rfl) r.2
 rw [this];rfl
theorem C9 (a b:List Int):ez (ab a) (ab b) = decide (a = b):=jl (fun x y=>by show (x == y) = _;rfl) a b
theorem O0 (r s:Row):lj (rD r) (rD s) = decide (r = s):=by
 unfold rD
 show (lj (qD r.1) (qD s.1) && (ez (ab r.2) (ab s.2) && true)) = _
 rw [C8,C9,Bool.and_true]
 have:decide (r = s) = decide (r.1 = s.1 /\ r.2 = s.2):=by
  congr 1
  exact propext ⟨fun h=>by rw [h];exact ⟨rfl,rfl⟩,fun h=>Prod.ext h.1 h.2⟩
 rw [this,<- Bool.decide_and]
theorem FL (r s:List Row):ez (cz r) (cz s) = decide (r = s):=jl O0 r s
def bO (n:Nat) (rs:List Row):D:=.tup [.int n,.lst .fz (cz rs)]
structure Dr (k n:Nat) (rs:List Row):Prop where
 n1:1 <= n
 n2:n <= 12
 yZ:k * (rs.length + 1) <= 60
 len:rs.length <= 1000
 cf:∀ r ∈ rs,p_ n r.2
 pos:∀ r ∈ rs,0 < r.1
 sm:∀ r ∈ rs,Sm k r.1
 one:(rs.map (·.1)).sum = 1
 rise:xS (rs.map (·.2))
def bP (rs:List Row):List Rat:=rs.map (·.1)
section
variable {k n:Nat} {rs:List Row} (I:Dr k n rs)
include I
theorem Dr.DE:AX k (bP rs):=⟨fun q hq=>by
 obtain ⟨r,hr,rfl⟩:=List.mem_map.mp hq
 exact I.sm r hr,by
  have:=I.yZ
  have h:k * (bP rs).length <= k * (rs.length + 1):=Nat.mul_le_mul_left _ (by simp [bP])
  omega,by simp [bP];exact I.len⟩
theorem Dr.bot:0 < aX (bP rs) /\ aX (bP rs) < 2 ^ 61 /\ ∀ q ∈ bP rs,q.den ∣ aX (bP rs):=by
 obtain ⟨a,b,c⟩:=I.DE.lcm
 refine ⟨a,Nat.lt_of_lt_of_le b (Nat.pow_le_pow_right (by decide) ?_),c⟩
 have:=I.yZ
 have h:k * (bP rs).length <= k * (rs.length + 1):=Nat.mul_le_mul_left _ (by simp [bP])
 omega
theorem Dr.top {r:Row} (hr:r ∈ rs):(aM (aX (bP rs)) r.1).natAbs < 2 ^ 64:=by
 obtain ⟨a,b,c⟩:=I.DE.lcm
 have s:=I.sm r hr
 unfold aM
 rw [Int.natAbs_mul,Int.fdiv_eq_ediv_of_nonneg _ (by omega),<- Int.natCast_ediv,Int.natAbs_natCast]
 have h1:aX (bP rs) / r.1.den < 2 ^ (1 + k * (bP rs).length):=Nat.lt_of_le_of_lt (Nat.div_le_self _ _) b
 have h2:=aZ s.1 h1
 refine Nat.lt_of_lt_of_le h2 (Nat.pow_le_pow_right (by decide) ?_)
 have h3:=I.yZ
 have h4:(bP rs).length = rs.length:=by simp [bP]
 rw [h4]
 rw [Nat.mul_succ] at h3
 omega
end
def lD (m:List D -> O D):Prop:=∀ (r:Row) (n:Nat),n <= 12 -> p_ n r.2 -> 0 < r.1 -> m [rD r,.int n] = ok (.bl true)
def lB:List CS:=[.ifs (.or [(.not (.qf (.v 0) .tuple)),(.cmp .ne (.bf .len [(.v 0)]) (.int 2))]) [.ret (.bl false)] [],.ifs (.not (.call 43 [(.ix (.v 0) (.int 1)),(.v 1)])) [.ret (.bl false)] [],.ret (.and [(.call 3 [(.ix (.v 0) (.int 0))]),(.cmp .gt (.ix (.ix (.v 0) (.int 0)) (.int 0)) (.int 0))])]
theorem p_.houses {n:Nat} {l:List Int} (h:p_ n l):cM (.tup (ab l)) n = true:=by
 have:=h.qw
 unfold DI.qw at this
 exact (Bool.and_eq_true _ _ |>.mp this).1
theorem d5 (Φ:az) (h3:dw (Φ 3)) (WY:fm (Φ 43)):lD (mk Φ 2 2 lB):=by
 intro r n hn hl hp
 have e1:=WY (.tup (ab r.2)) n (hl.eu hn)
 rw [hl.houses] at e1
 have e2:=h3 (qD r.1)
 rw [yY] at e2
 have Wu:=rC hp
 have e3:rD r = .tup [qD r.1,.tup (ab r.2)]:=rfl
 have e4:qD r.1 = .tup [.int r.1.num,.int r.1.den]:=rfl
 simp [mk_eq,lB,e3,dX,e1,e2]
 simp [e4,Wu]
theorem Ey {Φ:az} (la:Φ 1022 = Hn) {a b:List Int} (h:HT.lexLt a b = true):Φ 1022 [.tup (ab a),.tup (ab b)] = ok (.bl false):=by
 rw [la]
 show (match intsOf (ab a) with | some ns=>(match intsOf (ab b) with | some ms=>ok (D.bl (!HT.lexLt ns ms)) | none=>none) | none=>none) = _
 unfold ab
 rw [aY,aY]
 show ok (D.bl (!HT.lexLt a b)) = _
 rw [h];rfl
def jt (m:List D -> O D):Prop:=∀ (rs:List Row),1 <= rs.length -> xS (rs.map (·.2)) -> m [.lst .fz (cz rs)] = ok (.bl true)
def Eb:List CS:=[.ifs (.dt 1022 [(.ix (.v 1) (.int 1)),(.ix (.v 2) (.int 1))]) [.ret (.bl false)] []]
def f_:List CS:=[.fr (.tp [1,2]) (.IL 1000 [(.v 0),(.dt 1020 [(.v 0),(.int 1)])]) Eb,.ret (.bl true)]
theorem ye (Φ:az) (la:Φ 1022 = Hn) (c0:Option D):∀ (rs:List Row) (r:Row) (c1 c2:Option D),xS ((r :: rs).map (·.2)) ->
  ∃ Ze Zd,fh (fun d ρ=>cA (.tp [1,2]) d ρ) (fun ρ=>bM Φ Eb ρ) (List.zipWith (fun x y=>D.tup [x,y]) (cz (r :: rs)) (cz rs)) [c0,c1,c2] = ok (.nx,[c0,Ze,Zd])
 | [],r,c1,c2,_=>⟨c1,c2,rfl⟩
 | s :: rs,r,c1,c2,h=>by
  have h':=List.pairwise_cons.mp h
  obtain ⟨Ze,Zd,ih⟩:=ye Φ la c0 rs s (some (rD r)) (some (rD s)) h'.2
  have hl:=h'.1 s.2 (by simp)
  have e:=Ey la hl
  refine ⟨Ze,Zd,dO (ρ1:=[c0,some (rD r),some (rD s)]) (by simp) (ρ2:=[c0,some (rD r),some (rD s)]) ?_ ih⟩
  have e1:∀ r:Row,rD r = .tup [qD r.1,.tup (ab r.2)]:=fun _=>rfl
  simp [Eb,e1,e]
theorem bT (Φ:az) (mH:Φ 1000 = sj) (yR:Φ 1020 = cutD true) (la:Φ 1022 = Hn):jt (mk Φ 1 3 f_):=by
 intro rs h1 hr
 obtain ⟨r,rs,rfl⟩:∃ r wN,rs = r :: wN:=by
  cases rs with
  | nil=>simp at h1
  | cons r rs=>exact ⟨r,rs,rfl⟩
 obtain ⟨c1,c2,e⟩:=ye Φ la (some (.lst .fz (cz (r :: rs)))) rs r none none hr
 have e1:Φ 1020 [.lst .fz (cz (r :: rs)),.int 1] = ok (.lst .ow (cz rs)):=by
  rw [yR]
  show (if (0:Int) <= 1 /\ (1:Int) <= ((cz (r :: rs)).length:Nat) then ok (D.lst .ow (ah ba (qK true (1:Int).toNat (cz (r :: rs))))) else none) = _
  rw [if_pos ⟨by decide,by simp;omega⟩]
  show ok (D.lst .ow (ah ba (cz rs))) = _
  simp
 have e2:Φ 1000 [.lst .fz (cz (r :: rs)),.lst .ow (cz rs)] = ok (.lst .ow (List.zipWith (fun x y=>D.tup [x,y]) (cz (r :: rs)) (cz rs))):=by rw [mH];rfl
 have e3:ah aN (List.zipWith (fun x y=>D.tup [x,y]) (cz (r :: rs)) (cz rs)) = List.zipWith (fun x y=>D.tup [x,y]) (cz (r :: rs)) (cz rs):=by
  have:=eQ aN (cz (r :: rs)) (cz rs)
  rw [oO,oO] at this
  exact this
 have hit:dk Φ (.IL 1000 [(.v 0),(.dt 1020 [(.v 0),(.int 1)])]) [some (.lst .fz (cz (r :: rs))),none,none] = ok (List.zipWith (fun x y=>D.tup [x,y]) (cz (r :: rs)) (cz rs),[some (.lst .fz (cz (r :: rs))),none,none]):=by
  show bd (c_ Φ [(.v 0),(.dt 1020 [(.v 0),(.int 1)])] [some (.lst .fz (cz (r :: rs))),none,none]) _ = _
  have:c_ Φ [(.v 0),(.dt 1020 [(.v 0),(.int 1)])] [some (.lst .fz (cz (r :: rs))),none,none] = ok [.lst .fz (cz (r :: rs)),.lst .ow (cz rs)]:=by simp [e1]
  rw [this,eG,e2,eG]
  show ok (ah aN (List.zipWith (fun x y=>D.tup [x,y]) (cz (r :: rs)) (cz rs)),if aw bV [D.lst .fz (cz (r :: rs)),.lst .ow (cz rs)] then _ else _) = _
  rw [e3]
  simp
 have hf:=gH (Φ:=Φ) (t:=.tp [1,2]) (b:=Eb) hit e
 simp [mk_eq,f_,hf]
end DI
end
section
namespace DI
open PySem (Str)
def oQ (rs:List Row):List D:=rs.map fun r=>.tup (ab r.2)
@[simp] theorem oP (g:Fl -> Fl) (rs:List Row):ah g (oQ rs) = oQ rs:=dS g (fun r=>by simp) rs
@[simp] theorem J6 (g:Fl -> Bool) (rs:List Row):aw g (oQ rs) = false:=cK g (fun r=>by simp) rs
def lG (b:Nat) (rs:List Row):List D:=rs.map fun r=>.tup [.int (aM b r.1),.tup (ab r.2)]
@[simp] theorem ve (g:Fl -> Fl) (b:Nat) (rs:List Row):ah g (lG b rs) = lG b rs:=dS g (fun r=>by simp) rs
@[simp] theorem OC (g:Fl -> Bool) (b:Nat) (rs:List Row):aw g (lG b rs) = false:=cK g (fun r=>by simp) rs
def FU:CE:=.comp 2 (.tp [0,1]) [] .seq [(.v 0)] [] (.v 0)
def FR:CE:=.comp 2 (.tp [0,1]) [] .seq [(.v 0)] [] (.v 1)
theorem Pa (Φ:az) {rs:List Row} (h:rs.length <= 1000) (r:aA):aO Φ FU (some (.lst .fz (cz rs)) :: r) = ok (.lst .ow (aB (bP rs))):=by
 unfold FU
 rw [cu (xs:=[.lst .fz (cz rs)]) (items:=cz rs) (ds:=rs.map fun r=>qD r.1) (by simp) (by rw [d8];simp) (bq fun r hr=>?_) (by simp;exact br (by omega))]
 ·simp [aB,bP,av]
 ·exact ⟨[some (qD r.1),some (.tup (ab r.2))],by simp [aT,rD],by simp,by simp⟩
theorem NN (Φ:az) {rs:List Row} (h:rs.length <= 1000) (r:aA):aO Φ FR (some (.lst .fz (cz rs)) :: r) = ok (.lst .ow (oQ rs)):=by
 unfold FR
 rw [cu (xs:=[.lst .fz (cz rs)]) (items:=cz rs) (ds:=rs.map fun r=>.tup (ab r.2)) (by simp) (by rw [d8];simp) (bq fun r hr=>?_) (by simp;exact br (by omega))]
 ·exact congrArg (fun x=>ok (D.lst .ow x)) (oP mY rs)
 ·exact ⟨[some (qD r.1),some (.tup (ab r.2))],by simp [aT,rD],by simp,by simp⟩
def gX (m:List D -> O D):Prop:=∀ (rs:List Row) k,AX k (bP rs) -> m [.lst .fz (cz rs)] = ok (.tup [.int (aX (bP rs)),.lst .ow (lG (aX (bP rs)) rs)])
def jO:List CS:=[.asg (.nm 1) FU,.asg (.nm 2) FR,.asg (.nm 3) (.call 9 [(.v 1)]),.ret (.tup [(.v 3),(.dt 1040 [(.call 10 [(.v 1),(.v 3)]),(.v 2)])])]
theorem zQ (Φ:az) (h9:dB (Φ 9)) (Kf:gc (Φ 10)) (yL:Φ 1040 = Jq):gX (mk Φ 1 4 jO):=by
 intro rs k hs
 have hl:rs.length <= 1000:=by have:=hs.len;simpa [bP] using this
 have e1:=Pa Φ hl
 have e2:=NN Φ hl
 have e3:=fun f=>h9 f (bP rs) k hs
 have e4:=fun f=>Kf f (bP rs) k (aX (bP rs)) hs hs.Jx
 generalize aX (bP rs) = b at *
 have e5:Φ 1040 [.lst .ow (ab ((bP rs).map (aM b))),.lst .al (oQ rs)] = ok (.lst .ow (lG b rs)):=by
  rw [yL]
  show ok (D.lst .ow (ah ba (List.zipWith pairD (ab ((bP rs).map (aM b))) (oQ rs)))) = _
  rw [eQ,eR,oP]
  unfold bP ab oQ lG
  rw [List.map_map,List.map_map,List.zipWith_map,List.zipWith_self]
  rfl
 simp [mk_eq,jO,QN Φ FU _ rfl,QN Φ FR _ rfl,e1,e2,e3,e4,e5]
def KW:CE:=.comp 2 (.tp [0,1]) [] .seq [(.ix (.v 1) (.int 1))] [] (.v 0)
def gm (m:List D -> O D):Prop:=∀ (rs:List Row) k,AX k (bP rs) -> (bP rs).sum = 1 -> m [.lst .fz (cz rs)] = ok (.bl true)
def eM:List CS:=[.asg (.nm 1) (.call 14 [(.v 0)]),.ret (.cmp .eq (.bf .gh [KW]) (.ix (.v 1) (.int 0)))]
theorem Bl {b:Nat} {qs:List Rat} (h:∀ q ∈ qs,q.den ∣ b) (h1:qs.sum = 1):(qs.map (aM b)).sum = (b:Int):=by
 have:=n_ h
 rw [h1,Rat.one_mul,<- Rat.intCast_natCast] at this
 exact Rat.intCast_inj.mp this
theorem bh (Φ:az) (OQ:gX (Φ 14)):gm (mk Φ 1 2 eM):=by
 intro rs k hs h1
 have hl:rs.length <= 1000:=by have:=hs.len;simpa [bP] using this
 have e1:=OQ rs k hs
 have hb:=hs.lcm
 have e2:=Bl hb.2.2 h1
 generalize aX (bP rs) = b at *
 have e3:∀ c0,aO Φ KW [c0,some (.tup [.int b,.lst .ow (lG b rs)])] = ok (.lst .ow (ab ((bP rs).map (aM b)))):=fun c0=>by
  unfold KW
  rw [cu (xs:=[.lst .al (lG b rs)]) (items:=lG b rs) (ds:=rs.map fun r=>.int (aM b r.1)) (by simp) (by rw [d8];simp) (bq fun r hr=>?_) (by simp;exact br (by omega))]
  ·simp [ab,bP,av]
  ·exact ⟨[some (.int (aM b r.1)),some (.tup (ab r.2))],by simp [aT],by simp,by simp⟩
 have e4:pT .gh [.lst .ow (ab ((bP rs).map (aM b)))] = ok (.int b):=by
  show (match intsOf (ab ((bP rs).map (aM b))) with | some ns=>ok (D.int ns.sum) | none=>none) = _
  unfold ab
  rw [aY]
  show ok (D.int ((bP rs).map (aM b)).sum) = _
  rw [e2]
 have e5:fS .eq (.int (b:Int)) (.int (b:Int)) = ok (.bl true):=by
  show (if dZ 40 (.int (b:Int)) && dZ 40 (.int (b:Int)) then ok (D.bl ((b:Int) == (b:Int))) else none) = _
  simp [dZ]
 simp [mk_eq,eM,e1,e3,e4,e5]
def nv:List CS:=[.ifs (.not (.call 12 [(.v 3),(.v 1)])) [.ret (.bl false)] []]
def iy:List CS:=[.ifs (.or [(.not (.qf (.v 0) .tuple)),(.cmp .ne (.bf .len [(.v 0)]) (.int 2))]) [.ret (.bl false)] [],.asg (.nm 1) (.ix (.v 0) (.int 0)),.asg (.nm 2) (.ix (.v 0) (.int 1)),.ifs (.or [(.not (.call 0 [(.v 1)])),(.cmp .lt (.v 1) (.int 1)),(.cmp .gt (.v 1) (.glo "MOST_HOUSES" 12))]) [.ret (.bl false)] [],.ifs (.not (.qf (.v 2) .list)) [.ret (.bl false)] [],.fr (.nm 3) (.seq (.v 2)) nv,.ret (.and [(.call 44 [(.v 2)]),(.call 15 [(.v 2)])])]
def AY (m:List D -> O D):Prop:=∀ k n rs,Dr k n rs -> m [bO n rs] = ok (.bl true)
theorem pF (Φ:az) (L4:lD (Φ 12)) {n:Nat} (hn:n <= 12) (c0 c2:Option D):∀ (rs:List Row) (c3:Option D),(∀ r ∈ rs,p_ n r.2 /\ 0 < r.1) -> ∃ Lj,fh (fun d ρ=>cA (.nm 3) d ρ) (fun ρ=>bM Φ nv ρ) (cz rs) [c0,some (.int n),c2,c3] = ok (.nx,[c0,some (.int n),c2,Lj])
 | [],c3,_=>⟨c3,rfl⟩
 | r :: rs,c3,h=>by
  obtain ⟨Lj,ih⟩:=pF Φ L4 hn c0 c2 rs (some (rD r)) fun s hs=>h s (List.mem_cons_of_mem _ hs)
  have h1:=h r List.mem_cons_self
  have e:=L4 r n hn h1.1 h1.2
  refine ⟨Lj,dO (ρ1:=[c0,some (.int n),c2,some (rD r)]) (by simp) (ρ2:=[c0,some (.int n),c2,some (rD r)]) ?_ ih⟩
  simp [nv,e]
theorem Dr.some {k n:Nat} {rs:List Row} (I:Dr k n rs):1 <= rs.length:=by
 cases rs with
 | nil=>have:=I.one;simp at this
 | cons r rs=>simp
theorem cG (Φ:az) (h0:dP (Φ 0)) (L4:lD (Φ 12)) (h15:gm (Φ 15)) (h44:jt (Φ 44)):AY (mk Φ 1 4 iy):=by
 intro k n rs I
 have n1:=I.n1
 have n2:=I.n2
 have e1:=h15 rs k I.DE I.one
 have e2:=h44 rs I.some I.rise
 have e3:Φ 0 [.int (n:Int)] = ok (.bl true):=by rw [h0];rfl
 obtain ⟨c3,e4⟩:=pF Φ L4 n2 (some (bO n rs)) (some (.lst .fz (cz rs))) rs none fun r hr=>⟨I.cf r hr,I.pos r hr⟩
 have hit:dk Φ (.seq (.v 2)) [some (bO n rs),some (.int n),some (.lst .fz (cz rs)),none] = ok (cz rs,[some (bO n rs),some (.int n),some (.lst .fz (cz rs)),none]):=by
  rw [w6 (f:=.fz) (ds:=cz rs) (by simp)]
  simp
 have hf:=gH (Φ:=Φ) (t:=.nm 3) (b:=nv) hit e4
 have c1:fS .lt (.int (n:Int)) (.int 1) = ok (.bl false):=by
  show ok (D.bl (decide ((n:Int) < 1))) = _
  rw [decide_eq_false (by omega)]
 have c2:fS .gt (.int (n:Int)) (.int 12) = ok (.bl false):=by
  show ok (D.bl (decide ((12:Int) < n))) = _
  rw [decide_eq_false (by omega)]
 have ty1:∀ ds,dX .tuple (.tup ds) = true:=fun _=>rfl
 have ty2:∀ f ds,dX .list (.lst f ds) = true:=fun _ _=>rfl
 unfold bO at hf ⊢
 simp [mk_eq,iy,ty1,ty2,e3,c1,c2,hf,e2,e1]
def K5:CE:=.comp 2 (.tp [0,1]) [0] .seq [(.ix (.v 0) (.int 1))] [] (.call 11 [(.v 1),(.ix (.v 2) (.int 0))])
def fi:List CS:=[.ret (.and [(.call 45 [(.v 0)]),(.bf .all1 [K5])])]
theorem bw (Φ:az) (h11:pZ (Φ 11)) (h45:AY (Φ 45)):AY (mk Φ 1 1 fi):=by
 intro k n rs I
 have e1:=h45 k n rs I
 have e2:aO Φ K5 [some (bO n rs)] = ok (.lst .ow (lq (rs.map fun _=>true))):=by
  unfold K5
  rw [cu (xs:=[.lst .fz (cz rs)]) (items:=cz rs) (ds:=rs.map fun _=>.bl true) (by simp [bO]) (by rw [d8];simp) (bq fun r hr=>?_) (by simp;exact br (by have:=I.len;omega))]
  ·simp [lq,av]
  ·have hl:=I.cf r hr
   have e:=h11 (.tup (ab r.2)) n (hl.eu I.n2)
   rw [hl.qw] at e
   exact ⟨[some (qD r.1),some (.tup (ab r.2)),some (bO n rs)],by simp [aT,rD,bO],by simp,by simp [bO,e]⟩
 have e3:pT .all1 [.lst .ow (lq (rs.map fun _=>true))] = ok (.bl true):=by
  show (match jr (lq (rs.map fun _=>true)) with | some bs=>ok (D.bl (bs.all id)) | none=>none) = _
  unfold lq
  rw [mh]
  show ok (D.bl ((rs.map fun _=>true).all id)) = _
  congr 2
  simp
 have m1:aC aN (bO n rs) = bO n rs:=by simp [bO]
 have m2:aC ba (bO n rs) = bO n rs:=by simp [bO]
 simp [mk_eq,fi,m1,m2,e1,e2,e3]
def iE (m:List D -> O D):Prop:=∀ k n rs,Dr k n rs -> m [bO n rs] = ok .bC
def dz:List CS:=[.ifs (.not (.call 16 [(.v 0)])) [.rs 1] []]
theorem aV (Φ:az) (h16:AY (Φ 16)):iE (mk Φ 1 1 dz):=by
 intro k n rs I
 have e1:=h16 k n rs I
 have m1:aC aN (bO n rs) = bO n rs:=by simp [bO]
 have m2:aC ba (bO n rs) = bO n rs:=by simp [bO]
 simp [mk_eq,dz,m1,m2,e1]
end DI
end
section
namespace DI
open PySem (Str)
def fU (ws xs:List Rat):List Rat:=(ws.zip xs).map fun p=>p.1 * p.2
def jY (ts:List Int) (h:Int):Int:=ts.getD h.toNat 0
def sumZ (cf:List Int) (ts:List Int):Int:=(cf.map (jY ts)).sum
theorem Gm {ts:List Int} {h:Int} (h0:0 <= h) (h1:h < ts.length):v5 (ab ts) h = ok (.int (jY ts h)):=by
 have hl:h.toNat < ts.length:=by omega
 have:=at_of (ds:=ab ts) (d:=.int (jY ts h)) h0 (by
  rw [rK,List.getElem?_eq_getElem hl]
  show some (D.int ts[h.toNat]) = _
  unfold jY
  simp [hl])
 simpa using this
def KY:CE:=.comp 2 (.tp [0,1]) [] (.dt 1000) [(.v 1),(.v 2)] [] (.call 6 [(.v 0),(.v 1)])
def K1:CE:=.comp 1 (.nm 0) [2] .seq [(.v 1)] [] (.ix (.v 1) (.v 0))
def K2:CE:=.comp 2 (.tp [0,1]) [4] .seq [(.ix (.v 0) (.int 1))] [] (.bf .gh [K1])
def eN:List CS:=[.asg (.nm 3) (.call 41 [KY]),.asg (.nm 4) (.ix (.v 3) (.int 1)),.ret (.tup [(.ix (.v 3) (.int 0)),K2])]
structure Gs (j n:Nat) (ws xs:List Rat):Prop where
 l1:ws.length = n
 l2:xs.length = n
 s1:∀ q ∈ ws,Sm j q
 s2:∀ q ∈ xs,Sm j q
 jj:j <= 100
theorem Gs.DE {j n:Nat} {ws xs:List Rat} (G:Gs j n ws xs) (hn:n <= 12):AX (j + j) (fU ws xs):=by
 have hl:(fU ws xs).length = n:=by unfold fU;rw [List.length_map,List.length_zip,G.l1,G.l2,Nat.min_self]
 have hj:=G.jj
 refine ⟨fun q hq=>?_,?_,by omega⟩
 ·obtain ⟨p,hp,rfl⟩:=List.mem_map.mp hq
  have m:=List.of_mem_zip hp
  exact (G.s1 _ m.1).mul (G.s2 _ m.2)
 ·rw [hl]
  have:(j + j) * n <= 200 * 12:=Nat.mul_le_mul (by omega) hn
  omega
theorem Gs.at {j n:Nat} {ws xs:List Rat} (G:Gs j n ws xs) {h:Int} (h0:0 <= h) (h1:h < n):cy (fU ws xs) h = cy ws h * cy xs h:=by
 obtain ⟨g1,_⟩:=bA (qs:=ws) h0 (by rw [G.l1];exact h1)
 obtain ⟨g2,_⟩:=bA (qs:=xs) h0 (by rw [G.l2];exact h1)
 unfold cy at *
 unfold fU
 rw [List.getD_eq_getElem?_getD,List.getElem?_map,List.zip,List.getElem?_zipWith,g1,g2]
 rfl
def jh (rs:List Row) (P:List Rat):List Int:=rs.map fun r=>sumZ r.2 (P.map (aM (aX P)))
def gn (m:List D -> O D):Prop:=∀ k n rs f g ws xs j,Dr k n rs -> Gs j n ws xs -> m [bO n rs,.lst f (aB ws),.lst g (aB xs)] = ok (.tup [.int (aX (fU ws xs)),.lst .ow (ab (jh rs (fU ws xs)))])
theorem bj (Φ:az) (h6:dA (Φ 6)) (WZ:iB (Φ 41)) (mH:Φ 1000 = sj):gn (mk Φ 3 5 eN):=by
 intro k n rs f g ws xs j I G
 have hn:=I.n2
 have hs:=G.DE hn
 have k1:∀ a b c,aO Φ KY [a,some (.lst f (aB ws)),some (.lst g (aB xs)),b,c] = ok (.lst .ow (aB (fU ws xs))):=fun a b c=>by
  unfold KY
  rw [cu (xs:=[.lst (ba f) (aB ws),.lst (ba g) (aB xs)]) (by simp) (HF mH ..) (ds:=(ws.zip xs).map fun p=>qD (p.1 * p.2)) (bq fun p hp=>?_) (by simp;exact br (by have:=G.l1;omega))]
  ·simp [fU,aB,av]
  ·have m:=List.of_mem_zip hp
   have hj:=G.jj
   have e:=h6 p.1 p.2 ((G.s1 _ m.1).mono (by omega)) ((G.s2 _ m.2).mono (by omega))
   exact ⟨[some (qD p.1),some (qD p.2)],by simp [aT,SW],by simp,by simp [e]⟩
 have k2:=fun f=>WZ f (fU ws xs) (j + j) hs
 have hP:(fU ws xs).length = n:=by unfold fU;rw [List.length_map,List.length_zip,G.l1,G.l2,Nat.min_self]
 unfold jh
 generalize hb:aX (fU ws xs) = b at *
 generalize hT:(fU ws xs).map (aM b) = ts at *
 have hts:ts.length = n:=by rw [<- hT,List.length_map,hP]
 have k3:∀ (r:Row),r ∈ rs -> aO Φ K1 [some (qD r.1),some (.tup (ab r.2)),some (.lst .fz (ab ts))] = ok (.lst .ow (ab (r.2.map (jY ts)))):=fun r hr=>by
  have hl:=I.cf r hr
  unfold K1
  rw [cu (xs:=[.tup (ab r.2)]) (items:=r.2.map D.int) (ds:=r.2.map fun h=>.int (jY ts h)) (by simp) (by rw [s_,eR];rfl) (bq fun h hh=>?_) (by simp;exact br (by have:=hl.len;omega))]
  ·simp [ab,av]
  ·obtain ⟨a,b⟩:=hl.2 h hh
   have e:=Gm (ts:=ts) a (by rw [hts];exact b)
   exact ⟨[some (.int h),some (.lst .fz (ab ts))],by simp [aT],by simp,by simp [e]⟩
 have k4:∀ (r:Row),pT .gh [.lst .ow (ab (r.2.map (jY ts)))] = ok (.int (sumZ r.2 ts)):=fun r=>by
  show (match intsOf (ab (r.2.map (jY ts))) with | some ns=>ok (D.int ns.sum) | none=>none) = _
  unfold ab
  rw [aY];rfl
 have k5:∀ a b c,aO Φ K2 [some (bO n rs),a,b,c,some (.lst .fz (ab ts))] = ok (.lst .ow (ab (rs.map fun r=>sumZ r.2 ts))):=fun a b c=>by
  unfold K2
  rw [cu (xs:=[.lst .fz (cz rs)]) (items:=cz rs) (ds:=rs.map fun r=>.int (sumZ r.2 ts)) (by simp [bO]) (by rw [d8];simp) (bq fun r hr=>?_) (by simp;exact br (by have:=I.len;omega))]
  ·simp [ab,av]
  ·exact ⟨[some (qD r.1),some (.tup (ab r.2)),some (.lst .fz (ab ts))],by simp [aT,rD],by simp,by simp [k3 r hr,k4]⟩
 simp [mk_eq,eN,k1,k2,k5,gO]
def K0:CE:=.comp 2 (.tp [0,1]) [] (.dt 1000) [(.ix (.v 2) (.int 1)),(.ix (.v 1) (.int 1))] [] (.bin .mul (.ix (.v 0) (.int 0)) (.v 1))
def j_ (b:Nat) (rs:List Row) (gs:List Int):Int:=((rs.zip gs).map fun p=>aM b p.1.1 * p.2).sum
def cn (rs:List Row) (ws xs:List Rat):Rat:=(rs.map fun r=>r.1 * eP r.2 fun h=>cy ws h * cy xs h).sum
theorem Ea {b:Nat} {P:List Rat} (hd:∀ q ∈ P,q.den ∣ b) {h:Int} (h0:0 <= h) (h1:h < P.length):((jY (P.map (aM b)) h:Int):Rat) = cy P h * (b:Rat):=by
 obtain ⟨g,m⟩:=bA (qs:=P) h0 h1
 have hl:h.toNat < P.length:=by omega
 have e:jY (P.map (aM b)) h = aM b (cy P h):=by
  unfold jY
  rw [List.getD_eq_getElem?_getD,List.getElem?_map,g];rfl
 rw [e,kL (hd _ m)]
theorem oe {b:Nat} {P:List Rat} (hd:∀ q ∈ P,q.den ∣ b):∀ (cf:List Int),(∀ h ∈ cf,0 <= h /\ h < (P.length:Int)) -> ((sumZ cf (P.map (aM b)):Int):Rat) = (eP cf fun h=>cy P h) * (b:Rat)
 | [],_=>by simp [sumZ,eP,Rat.zero_mul]
 | h :: cf,hh=>by
  have ih:=oe hd cf fun x hx=>hh x (List.mem_cons_of_mem _ hx)
  have h1:=hh h List.mem_cons_self
  have e:sumZ (h :: cf) (P.map (aM b)) = jY (P.map (aM b)) h + sumZ cf (P.map (aM b)):=rfl
  rw [e,Rat.intCast_add,Ea hd h1.1 h1.2,ih,lJ]
  grind
theorem x4 {b c:Nat} {P:List Rat} (hc:∀ q ∈ P,q.den ∣ c):∀ (rs:List Row),(∀ r ∈ rs,r.1.den ∣ b) -> (∀ r ∈ rs,∀ h ∈ r.2,0 <= h /\ h < (P.length:Int)) ->
  ((j_ b rs (rs.map fun r=>sumZ r.2 (P.map (aM c))):Int):Rat) = (rs.map fun r=>r.1 * eP r.2 fun h=>cy P h).sum * ((b:Rat) * (c:Rat))
 | [],_,_=>by simp [j_,Rat.zero_mul]
 | r :: rs,hb,hl=>by
  have ih:=x4 hc rs (fun s hs=>hb s (List.mem_cons_of_mem _ hs)) fun s hs=>hl s (List.mem_cons_of_mem _ hs)
  have e:j_ b (r :: rs) ((r :: rs).map fun r=>sumZ r.2 (P.map (aM c))) = aM b r.1 * sumZ r.2 (P.map (aM c)) + j_ b rs (rs.map fun r=>sumZ r.2 (P.map (aM c))):=rfl
  rw [e,Rat.intCast_add,Rat.intCast_mul,kL (hb r List.mem_cons_self),oe hc r.2 (hl r List.mem_cons_self),ih,List.map_cons,List.sum_cons]
  grind
end DI
end
section
namespace DI
open PySem (Str)
theorem Ba {Φ:az} {p i:Nat} {es:List CE} {ρ:aA} {xs:List D} {d d':D} (h1:c_ Φ es ρ = ok xs) (h2:aw bV xs = false) (h3:ρ[i]? = some (some d)) (h4:Φ p (d :: xs) = ok d'):tO Φ (.mut p i es) ρ = ok (.nx,ρ.set i (some d')):=by
 show bd (c_ Φ es ρ) (fun xs=>wR Φ p i (oW es xs ρ)) = _
 rw [h1,eG]
 unfold oW
 rw [h2,if_neg Bool.false_ne_true]
 unfold wR
 rw [h3]
 show bd (Φ p (d :: xs)) _ = _
 rw [h4];rfl
theorem Lm (i:Int):cP .band (.int i) (.int 1) = ok (.int (i % 2)):=rfl
theorem lV (c:List Int):∀ (cs:List (List Int)) (ws:List Int),cg cs (ab ws) c = (cg cs ws c).map D.int
 | [],_=>by cases ‹List Int› <;> rfl
 | _ :: _,[]=>rfl
 | c' :: cs,w :: ws=>by
  show (if c' = c then some (D.int w) else cg cs (ab ws) c) = Option.map D.int (if c' = c then some w else cg cs ws c)
  by_cases e:c' = c
  ·rw [if_pos e,if_pos e];rfl
  ·rw [if_neg e,if_neg e];exact lV c cs ws
theorem rn (c:List Int) (v:Int):∀ (cs:List (List Int)) (ws:List Int),setC cs (ab ws) c (.int v) = ab (setC cs ws c v)
 | [],_=>by cases ‹List Int› <;> rfl
 | _ :: _,[]=>rfl
 | c' :: cs,w :: ws=>by
  show (if c' = c then D.int v else D.int w) :: setC cs (ab ws) c (.int v) = D.int (if c' = c then v else w) :: ab (setC cs ws c v)
  rw [rn c v cs ws]
  by_cases e:c' = c
  ·rw [if_pos e,if_pos e]
  ·rw [if_neg e,if_neg e]
theorem wo (cs:List (List Int)) (ws:List Int) (c:List Int) (v:Int):bD cs (ab ws) c (.int v) = ab (bD cs ws c v):=by
 unfold bD
 by_cases e:c ∈ cs
 ·rw [if_pos e,if_pos e];exact rn c v cs ws
 ·rw [if_neg e,if_neg e];simp
def cq (cs:List (List Int)) (ws:List Int) (c:List Int):Int:=(cg cs ws c).getD 0
theorem o9 {α:Type} {c:List Int}:∀ {cs:List (List Int)} (ws:List α),c ∉ cs -> cg cs ws c = none
 | [],_,_=>by cases ‹List α› <;> rfl
 | _ :: _,[],_=>rfl
 | c' :: cs,w :: ws,h=>by
  show (if c' = c then some w else cg cs ws c) = none
  rw [if_neg fun e=>h (by rw [e];exact List.mem_cons_self)]
  exact o9 ws fun z=>h (List.mem_cons_of_mem _ z)
theorem lb {α:Type} {c:List Int}:∀ {cs:List (List Int)} {ws:List α},cs.length = ws.length -> c ∈ cs -> ∃ w,cg cs ws c = some w /\ w ∈ ws
 | [],_,_,h=>nomatch h
 | _ :: _,[],hl,_=>by simp at hl
 | c' :: cs,w :: ws,hl,h=>by
  by_cases e:c' = c
  ·exact ⟨w,if_pos e,List.mem_cons_self⟩
  ·have h':c ∈ cs:=(List.mem_cons.mp h).resolve_left fun z=>e z.symm
   obtain ⟨w',e1,e2⟩:=lb (cs:=cs) (ws:=ws) (by simpa using hl) h'
   exact ⟨w',(if_neg e).trans e1,List.mem_cons_of_mem _ e2⟩
theorem oN:∀ {cs:List (List Int)} {ws:List Int},cs.Nodup -> cs.length = ws.length -> cs.map (cq cs ws) = ws
 | [],[],_,_=>rfl
 | [],_ :: _,_,h=>by simp at h
 | _ :: _,[],_,h=>by simp at h
 | c :: cs,w :: ws,hn,hl=>by
  have A4:=List.nodup_cons.mp hn
  have ih:=oN (cs:=cs) (ws:=ws) A4.2 (by simpa using hl)
  rw [List.map_cons]
  have e1:cq (c :: cs) (w :: ws) c = w:=by
   show (if c = c then some w else cg cs ws c).getD 0 = w
   rw [if_pos rfl];rfl
  have e2:cs.map (cq (c :: cs) (w :: ws)) = cs.map (cq cs ws):=List.map_congr_left fun x hx=>by
   show (if c = x then some w else cg cs ws x).getD 0 = _
   rw [if_neg (show ¬ c = x from fun z=>A4.1 (by rw [z];exact hx))];rfl
  rw [e1,e2,ih]
theorem uL {c:List Int} {v:Int}:∀ {cs:List (List Int)} {ws:List Int},cs.Nodup -> cs.length = ws.length -> c ∈ cs -> (setC cs ws c v).sum = ws.sum - cq cs ws c + v /\ (setC cs ws c v).length = ws.length
 | [],_,_,_,h=>nomatch h
 | _ :: _,[],_,h,_=>by simp at h
 | c' :: cs,w :: ws,hn,hl,h=>by
  have A4:=List.nodup_cons.mp hn
  have wg:cs.length = ws.length:=by simpa using hl
  have es:setC (c' :: cs) (w :: ws) c v = (if c' = c then v else w) :: setC cs ws c v:=rfl
  by_cases e:c' = c
  ·have N6:∀ {cs:List (List Int)} {ws:List Int},cs.length = ws.length -> c ∉ cs -> setC cs ws c v = ws:=fun {cs}=>by
    induction cs with
    | nil=>intro ws hl _;cases ws with | nil=>rfl | cons _ _=>simp at hl
    | cons d cs ih =>
     intro ws hl hc
     cases ws with
     | nil=>simp at hl
     | cons w ws =>
      show (if d = c then v else w) :: setC cs ws c v = _
      rw [if_neg fun z=>hc (by rw [z];exact List.mem_cons_self),ih (by simpa using hl) fun z=>hc (List.mem_cons_of_mem _ z)]
   have hcn:c ∉ cs:=e ▸ A4.1
   rw [es,if_pos e,N6 wg hcn]
   have eg:cq (c' :: cs) (w :: ws) c = w:=by
    show (if c' = c then some w else cg cs ws c).getD 0 = w
    rw [if_pos e];rfl
   rw [eg]
   refine ⟨?_,rfl⟩
   rw [List.sum_cons,List.sum_cons]
   omega
  ·have h':c ∈ cs:=(List.mem_cons.mp h).resolve_left fun z=>e z.symm
   obtain ⟨i1,i2⟩:=uL (v:=v) A4.2 wg h'
   have eg:cq (c' :: cs) (w :: ws) c = cq cs ws c:=by
    show (if c' = c then some w else cg cs ws c).getD 0 = _
    rw [if_neg e];rfl
   rw [es,if_neg e,eg]
   refine ⟨?_,by rw [List.length_cons,List.length_cons,i2]⟩
   rw [List.sum_cons,List.sum_cons,i1]
   omega
theorem uM {c:List Int} {v:Int}:∀ {cs:List (List Int)} {ws:List Int} {x:Int},x ∈ setC cs ws c v -> x ∈ ws \/ x = v
 | [],_,_,h=>by cases ‹List Int› <;> exact nomatch h
 | _ :: _,[],_,h=>nomatch h
 | c' :: cs,w :: ws,x,h=>by
  have h:x ∈ (if c' = c then v else w) :: setC cs ws c v:=h
  rcases List.mem_cons.mp h with e | h
  ·by_cases q:c' = c
   ·rw [if_pos q] at e;exact .inr e
   ·rw [if_neg q] at e;rw [e];exact .inl List.mem_cons_self
  ·rcases uM h with h | h
   ·exact .inl (List.mem_cons_of_mem _ h)
   ·exact .inr h
structure Tab (n j:Nat) (cs:List (List Int)) (ws:List Int):Prop where
 nd:cs.Nodup
 ln:cs.length = ws.length
 yZ:cs.length <= j
 cf:∀ c ∈ cs,p_ n c
 pos:∀ w ∈ ws,1 <= w
 sum:ws.sum <= 7 * j
 ne:1 <= j -> cs ≠ []
theorem Tab.get {n j:Nat} {cs:List (List Int)} {ws:List Int} (T:Tab n j cs ws) (c:List Int):0 <= cq cs ws c:=by
 by_cases h:c ∈ cs
 ·obtain ⟨w,e,m⟩:=lb T.ln h
  unfold cq
  rw [e]
  have:=T.pos w m
  show 0 <= w
  omega
 ·unfold cq
  rw [o9 ws h];exact Int.le_refl _
theorem Tab.put {n j:Nat} {cs:List (List Int)} {ws:List Int} (T:Tab n j cs ws) {c:List Int} (hc:p_ n c) {i:Int} (h1:1 <= i) (h7:i <= 7):Tab n (j + 1) (cX cs c) (bD cs ws c (cq cs ws c + i)):=by
 have hg:=T.get c
 have hf:=T.yZ
 have hs:=T.sum
 by_cases h:c ∈ cs
 ·obtain ⟨s1,s2⟩:=uL (v:=cq cs ws c + i) T.nd T.ln h
  unfold cX bD
  rw [if_pos h,if_pos h]
  refine ⟨T.nd,by rw [s2];exact T.ln,by omega,T.cf,fun w hw=>?_,by rw [s1];omega,fun _ z=>by rw [z] at h;cases h⟩
  rcases uM hw with hw | rfl
  ·exact T.pos w hw
  ·omega
 ·have hz:cq cs ws c = 0:=by unfold cq;rw [o9 ws h];rfl
  unfold cX bD
  rw [if_neg h,if_neg h,hz]
  refine ⟨?_,by rw [List.length_append,List.length_append,T.ln];rfl,by rw [List.length_append,List.length_singleton];omega,fun d hd=>?_,fun w hw=>?_,by rw [List.sum_append];simp;omega,fun _ z=>by simp at z⟩
  ·refine List.nodup_append.mpr ⟨T.nd,List.nodup_cons.mpr ⟨List.not_mem_nil,List.nodup_nil⟩,fun a ha b hb e=>?_⟩
   rw [List.mem_singleton.mp hb] at e
   exact h (e ▸ ha)
  ·rcases List.mem_append.mp hd with hd | hd
   ·exact T.cf d hd
   ·rw [List.mem_singleton.mp hd];exact hc
  ·rcases List.mem_append.mp hw with hw | hw
   ·exact T.pos w hw
   ·rw [List.mem_singleton.mp hw];omega
def mL (cs:List (List Int)) (ws:List Int):List Row:=(bK cs).map fun c=>(Rat.divInt (cq cs ws c) ws.sum,c)
theorem Tab.yx {n j:Nat} {cs:List (List Int)} {ws:List Int} (T:Tab n j cs ws):∀ w ∈ ws,w <= ws.sum:=fun w hw=>by
 have:∀ l:List Int,(∀ x ∈ l,1 <= x) -> 0 <= l.sum /\ ∀ x ∈ l,x <= l.sum:=fun l=>by
  induction l with
  | nil=>intro _;exact ⟨Int.le_refl _,fun _ h=>nomatch h⟩
  | cons a l ih =>
   intro h
   obtain ⟨i1,i2⟩:=ih fun x hx=>h x (List.mem_cons_of_mem _ hx)
   have ha:=h a List.mem_cons_self
   rw [List.sum_cons]
   refine ⟨by omega,fun x hx=>?_⟩
   rcases List.mem_cons.mp hx with rfl | hx
   ·omega
   ·have:=i2 x hx;omega
 exact (this ws T.pos).2 w hw
theorem x5 (W:Int) (hW:W ≠ 0):∀ ls:List Int,(ls.map fun x=>Rat.divInt x W).sum = Rat.divInt ls.sum W
 | []=>by simp
 | x :: ls=>by
  rw [List.map_cons,List.sum_cons,x5 W hW ls,List.sum_cons,Rat.divInt_eq_div,Rat.divInt_eq_div,Rat.divInt_eq_div,Rat.intCast_add]
  grind
theorem BX {a b:List Rat} (h:a.Perm b):a.sum = b.sum:=by
 induction h with
 | nil=>rfl
 | cons x _ ih=>rw [List.sum_cons,List.sum_cons,ih]
 | swap x y l=>rw [List.sum_cons,List.sum_cons,List.sum_cons,List.sum_cons];grind
 | trans _ _ i1 i2=>rw [i1,i2]
theorem Tab.dr {n j:Nat} {cs:List (List Int)} {ws:List Int} (T:Tab n j cs ws) (h1:1 <= j) (h6:j <= 6) (n1:1 <= n) (n2:n <= 12):Dr 6 n (mL cs ws):=by
 have hp:(bK cs).Perm cs:=List.mergeSort_perm _ _
 have hl:(mL cs ws).length = cs.length:=by unfold mL;rw [List.length_map];exact hp.length_eq
 have hf:=T.yZ
 have hs:=T.sum
 have val:∀ c ∈ bK cs,1 <= cq cs ws c /\ cq cs ws c <= ws.sum:=fun c hc=>by
  obtain ⟨w,e,m⟩:=lb T.ln (hp.mem_iff.mp hc)
  unfold cq
  rw [e]
  exact ⟨T.pos w m,T.yx w m⟩
 have hW:1 <= ws.sum:=by
  obtain ⟨c,hc⟩:=List.exists_mem_of_ne_nil cs (T.ne h1)
  have:=val c (hp.mem_iff.mpr hc)
  omega
 refine ⟨n1,n2,by rw [hl];omega,by rw [hl];omega,fun r hr=>?_,fun r hr=>?_,fun r hr=>?_,?_,?_⟩
 ·obtain ⟨c,hc,rfl⟩:=List.mem_map.mp hr
  exact T.cf c (hp.mem_iff.mp hc)
 ·obtain ⟨c,hc,rfl⟩:=List.mem_map.mp hr
  exact xw (by have:=val c hc;omega) (by omega)
 ·obtain ⟨c,hc,rfl⟩:=List.mem_map.mp hr
  have:=val c hc
  exact GU (by omega) (by show _ < 64;omega) (by show _ < 64;omega)
 ·have e:(mL cs ws).map (·.1) = (bK cs).map fun c=>Rat.divInt (cq cs ws c) ws.sum:=by
   unfold mL;rw [List.map_map];rfl
  rw [e]
  have e2:((bK cs).map fun c=>Rat.divInt (cq cs ws c) ws.sum).sum = (cs.map fun c=>Rat.divInt (cq cs ws c) ws.sum).sum:=BX (hp.map _)
  have e3:(cs.map fun c=>Rat.divInt (cq cs ws c) ws.sum) = (cs.map (cq cs ws)).map fun x=>Rat.divInt x ws.sum:=by rw [List.map_map];rfl
  rw [e2,e3,oN T.nd T.ln,x5 _ (by omega),Rat.divInt_eq_div]
  have z:((ws.sum:Int):Rat) ≠ 0:=fun z=>by rw [Rat.intCast_eq_zero_iff] at z;omega
  grind
 ·have e:(mL cs ws).map (·.2) = bK cs:=by
   unfold mL;rw [List.map_map]
   exact (List.map_congr_left fun _ _=>rfl).trans (List.map_id _)
  rw [e];exact oj T.nd
end DI
end
section
namespace DI
open PySem (Str)
theorem Vd (n:Nat) (t:Nat -> Bool):p_ n (((List.range n).filter t).map fun (k:Nat)=>(k:Int)):=by
 refine ⟨?_,fun h hh=>?_⟩
 ·rw [List.pairwise_map]
  refine (List.Pairwise.filter _ List.pairwise_lt_range).imp fun z=>?_
  omega
 ·obtain ⟨k,hk,rfl⟩:=List.mem_map.mp hh
  have:=List.mem_range.mp (List.mem_filter.mp hk).1
  omega
def xr:CE:=.comp 1 (.nm 0) [7] .mU [(.v 4)] [(.cmp .eq (.bin .band (.bin .shr (.v 1) (.v 0)) (.int 1)) (.int 1))] (.v 0)
def xN:CS:=.mut 1033 5 [(.bin .add (.bin .add (.dt 1031 [(.v 5),(.v 8),(.int 0)]) (.int 1)) (.bin .mod (.bin .fdiv (.v 7) (.int 4096)) (.int 7))),(.v 8)]
def Ed:List CS:=[.asg (.nm 7) (.call 200 [(.v 0),(.bin .add (.bin .add (.v 1) (.int 1)) (.v 6))]),.asg (.nm 8) (.bf .tuple1 [xr]),xN]
def K3:CE:=.comp 1 (.nm 0) [5] (.dt 1100) [(.v 5)] [] (.dt 1032 [(.v 1),(.v 0)])
def K4:CE:=.comp 1 (.nm 0) [9,5] .seq [(.dt 1035 [(.v 5)])] [] (.tup [(.call 201 [(.dt 1032 [(.v 2),(.v 0)]),(.v 1)]),(.v 0)])
def jU:List CS:=[.asg (.nm 3) (.call 200 [(.v 0),(.v 1)]),.asg (.nm 4) (.bin .add (.int 1) (.bin .mod (.v 3) (.v 2))),.asg (.nm 3) (.bin .fdiv (.v 3) (.v 2)),.asg (.nm 5) (.dt 1030 []),.fr (.nm 6) (.mU (.bin .add (.int 1) (.bin .mod (.v 3) (.int 6)))) Ed,.asg (.nm 9) (.bf .gh [K3]),.ret (.tup [(.v 4),K4])]
structure DC (Φ:az):Prop where
 yQ:Φ 1030 = vI
 yP:Φ 1031 = pI
 yO:Φ 1032 = xu
 yN:Φ 1033 = pG
 yM:Φ 1035 = kg
 yJ:Φ 1100 = kh
theorem FZ (Φ:az) {n:Nat} (hn:n <= 12) (N:Int) (a b c d e f:Option D) (r:aA):∃ cf,p_ n cf /\ aO Φ xr (a :: b :: c :: d :: some (.int n) :: e :: f :: some (.int N) :: r) = ok (.lst .ow (ab cf)):=by
 refine ⟨_,Vd n fun (k:Nat)=>decide (N / 2 ^ k % 2 = 1),?_⟩
 unfold xr
 rw [cu (xs:=[.int n]) (ds:=((List.range n).filter fun (k:Nat)=>decide (N / 2 ^ k % 2 = 1)).map fun (k:Nat)=>D.int (k:Int)) (by simp) (yF Φ (by omega) (by omega)) ?_ ?_]
 ·simp [av,ab]
 ·rw [Int.toNat_natCast]
  refine jn fun k hk=>⟨[some (.int k),some (.int N)],by simp [aT],?_,fun _=>by simp⟩
  have e1:cP .shr (.int N) (.int k) = ok (.int (N / 2 ^ k)):=by rw [P6 (by omega)];simp
  simp [e1,Lm]
 ·have:=List.length_filter_le (fun (k:Nat)=>decide (N / 2 ^ k % 2 = 1)) (List.range n)
  simp at this ⊢
  exact br (by omega)
theorem K9 {Φ:az} (P:DC Φ) (f:Fl) (cs:List (List Int)) (ws:List Int) (c:List Int):Φ 1031 [.cx f cs (ab ws),.tup (ab c),.int 0] = ok (.int (cq cs ws c)):=by
 rw [P.yP]
 show (match intsOf (ab c) with | some c=>if aw anyF (ab ws) = false /\ aH anyF (.int 0) = false then ok ((cg cs (ab ws) c).getD (.int 0)) else none | none=>none) = _
 unfold ab
 rw [aY]
 show (if aw anyF (ab ws) = false /\ aH anyF (.int 0) = false then ok ((cg cs (ab ws) c).getD (.int 0)) else none) = _
 rw [if_pos ⟨vq _ _,rfl⟩,lV]
 unfold cq
 cases cg cs ws c <;> rfl
theorem K6 {Φ:az} (P:DC Φ) {cs:List (List Int)} (hl:cs.length < 1000) (ws:List Int) (c:List Int) (v:Int):Φ 1033 [.cx .ow cs (ab ws),.int v,.tup (ab c)] = ok (.cx .ow (cX cs c) (ab (bD cs ws c v))):=by
 rw [P.yN]
 show (match intsOf (ab c) with | some c=>if d9 .ow = true /\ aH anyF (.int v) = false /\ cs.length < eu then ok (D.cx .ow (cX cs c) (bD cs (ab ws) c (.int v))) else none | none=>none) = _
 unfold ab
 rw [aY]
 show (if d9 .ow = true /\ aH anyF (.int v) = false /\ cs.length < eu then ok (D.cx .ow (cX cs c) (bD cs (ab ws) c (.int v))) else none) = _
 rw [if_pos ⟨rfl,rfl,by show _ < 1000000;omega⟩,wo];rfl
theorem Hv {Φ:az} (P:DC Φ) (f:Fl) {cs:List (List Int)} {ws:List Int} (hl:cs.length = ws.length) {c:List Int} (h:c ∈ cs):Φ 1032 [.cx f cs (ab ws),.tup (ab c)] = ok (.int (cq cs ws c)):=by
 obtain ⟨w,e,_⟩:=lb hl h
 rw [P.yO]
 show (match intsOf (ab c) with | some c=>(match cg cs (ab ws) c with | some v=>if aH anyF v = false then ok v else none | none=>none) | none=>none) = _
 unfold ab
 rw [aY]
 show (match cg cs (ab ws) c with | some v=>if aH anyF v = false then ok v else none | none=>none) = _
 rw [lV,e]
 unfold cq
 rw [e]
 rfl
theorem zd (Φ:az) (P:DC Φ) (tx:p3 (Φ 200)) (ns:List Int) {a:Int} (ha:0 <= a) {n:Nat} (hn:n <= 12) (c2 c3:Option D):∀ (k j:Nat) (cs:List (List Int)) (ws:List Int) (c6 c7 c8:Option D),Tab n j cs ws -> j + k <= 6 ->
  ∃ Hw Qj Lh Lg P2,fh (fun d ρ=>cA (.nm 6) d ρ) (fun ρ=>bM Φ Ed ρ) ((List.range' j k).map fun (i:Nat)=>D.int (i:Int)) [some (.lst .sc (ab ns)),some (.int a),c2,c3,some (.int n),some (.cx .ow cs (ab ws)),c6,c7,c8,none] =
   ok (.nx,[some (.lst .sc (ab ns)),some (.int a),c2,c3,some (.int n),some (.cx .ow Hw (ab Qj)),Lh,Lg,P2,none]) /\ Tab n (j + k) Hw Qj
 | 0,j,cs,ws,c6,c7,c8,T,_=>⟨cs,ws,c6,c7,c8,rfl,T⟩
 | k + 1,j,cs,ws,c6,c7,c8,T,hj=>by
  have e1:=tx ns (a + 1 + j) (by omega)
  obtain ⟨cf,hl,e2⟩:=FZ Φ hn (bt ns (a + 1 + j)) (some (.lst .sc (ab ns))) (some (.int a)) c2 c3 (some (.cx .ow cs (ab ws))) (some (.int j)) [c8,none]
  obtain ⟨f1,f2⟩:=iq ((bt ns (a + 1 + j)).fdiv 4096) (b:=7) (by decide)
  have hw:cq cs ws cf + 1 + ((bt ns (a + 1 + j)).fdiv 4096).fmod 7 = cq cs ws cf + (1 + ((bt ns (a + 1 + j)).fdiv 4096).fmod 7):=by omega
  have T':=T.put hl (i:=1 + ((bt ns (a + 1 + j)).fdiv 4096).fmod 7) (by omega) (by omega)
  obtain ⟨Hw,Qj,Lh,Lg,P2,ih,T''⟩:=zd Φ P tx ns ha hn c2 c3 k (j + 1) _ _ (some (.int j)) (some (.int (bt ns (a + 1 + j)))) (some (.tup (ab cf))) T' (by omega)
  have g1:=fun f=>K9 P f cs ws cf
  have hf:=T.yZ
  have g2:=K6 P (cs:=cs) (by omega) ws cf (cq cs ws cf + (1 + ((bt ns (a + 1 + j)).fdiv 4096).fmod 7))
  have x1:tO Φ xN [some (.lst .sc (ab ns)),some (.int a),c2,c3,some (.int n),some (.cx .ow cs (ab ws)),some (.int j),some (.int (bt ns (a + 1 + j))),some (.tup (ab cf)),none] = ok (.nx,[some (.lst .sc (ab ns)),some (.int a),c2,c3,some (.int n),some (.cx .ow (cX cs cf) (ab (bD cs ws cf (cq cs ws cf + (1 + ((bt ns (a + 1 + j)).fdiv 4096).fmod 7))))),some (.int j),some (.int (bt ns (a + 1 + j))),some (.tup (ab cf)),none]):=by
   unfold xN
   refine (Ba (xs:=[.int (cq cs ws cf + (1 + ((bt ns (a + 1 + j)).fdiv 4096).fmod 7)),.tup (ab cf)]) (d:=.cx .ow cs (ab ws)) ?_ (by simp) rfl g2).trans rfl
   simp [g1,hw]
  refine ⟨Hw,Qj,Lh,Lg,P2,?_,by rw [show j + (k + 1) = j + 1 + k by omega];exact T''⟩
  rw [List.range'_succ,List.map_cons]
  refine dO (ρ1:=[some (.lst .sc (ab ns)),some (.int a),c2,c3,some (.int n),some (.cx .ow cs (ab ws)),some (.int j),c7,c8,none]) (by simp) (ρ2:=[some (.lst .sc (ab ns)),some (.int a),c2,c3,some (.int n),some (.cx .ow (cX cs cf) (ab (bD cs ws cf (cq cs ws cf + (1 + ((bt ns (a + 1 + j)).fdiv 4096).fmod 7))))),some (.int j),some (.int (bt ns (a + 1 + j))),some (.tup (ab cf)),none]) ?_ ih
  simp [Ed,e1,e2,x1]
theorem pH {t b:Int} (hb:b ≠ 0):(Rat.divInt t b).den ∣ b.natAbs:=by
 obtain ⟨t',b',e1,e2,h1,h2,h3,h4⟩:=oI (t:=t) hb
 obtain ⟨g1,g2⟩:=tN (t:=t) hb
 rw [show b.fdiv (fI t b) = b' from h2] at g2
 have hz:(Rat.divInt t b).den = b'.natAbs:=by omega
 have:b.natAbs = (fI t b).natAbs * b'.natAbs:=by rw [<- Int.natAbs_mul,<- e2]
 rw [hz,this]
 exact Nat.dvd_mul_left ..
def Gz (rs:List Row):Prop:=∃ W:Nat,0 < W /\ W < 64 /\ ∀ r ∈ rs,r.1.den ∣ W
def mq (m:List D -> O D):Prop:=∀ (ns:List Int) (a:Int) (p:Nat),0 <= a -> 1 <= p -> p <= 12 -> ∃ n rs,n <= p /\ Dr 6 n rs /\ Gz rs /\ m [.lst .sc (ab ns),.int a,.int p] = ok (.tup [.int n,.lst .ow (cz rs)])
theorem zV (Φ:az) (P:DC Φ) (tx:p3 (Φ 200)) (Ax:iD (Φ 201)):mq (mk Φ 3 10 jU):=by
 intro ns a p ha p1 p2
 have e1:=tx ns a ha
 obtain ⟨f1,f2⟩:=iq (bt ns a) (b:=(p:Int)) (by omega)
 obtain ⟨n,hn⟩:∃ n:Nat,1 + (bt ns a).fmod p = (n:Int):=⟨(1 + (bt ns a).fmod p).toNat,by omega⟩
 obtain ⟨g1,g2⟩:=iq ((bt ns a).fdiv p) (b:=6) (by decide)
 obtain ⟨k,hk⟩:∃ k:Nat,1 + ((bt ns a).fdiv p).fmod 6 = (k:Int):=⟨(1 + ((bt ns a).fdiv p).fmod 6).toNat,by omega⟩
 have T0:Tab n 0 [] []:=⟨List.nodup_nil,rfl,Nat.le_refl _,(fun _ h=>nomatch h),(fun _ h=>nomatch h),by simp,fun h=>by omega⟩
 obtain ⟨cs,ws,c6,c7,c8,el,T⟩:=zd Φ P tx ns ha (n:=n) (by omega) (some (.int p)) (some (.int ((bt ns a).fdiv p))) k 0 [] [] none none none T0 (by omega)
 rw [Nat.zero_add] at T
 have D6:=T.dr (by omega) (by omega) (by omega) (by omega)
 have hm:cP .mod (.int (bt ns a)) (.int p) = ok (.int ((bt ns a).fmod p)):=P7 (by omega)
 have hd:cP .fdiv (.int (bt ns a)) (.int p) = ok (.int ((bt ns a).fdiv p)):=pU (jm (by omega) (sV (by omega)))
 have JY:Φ 1030 [] = ok (.cx .ow [] []):=by rw [P.yQ];rfl
 have hit:dk Φ (.mU (.bin .add (.int 1) (.bin .mod (.v 3) (.int 6)))) [some (.lst .sc (ab ns)),some (.int a),some (.int p),some (.int ((bt ns a).fdiv p)),some (.int n),some (.cx .ow [] []),none,none,none,none] = ok ((List.range' 0 k).map fun (i:Nat)=>D.int (i:Int),[some (.lst .sc (ab ns)),some (.int a),some (.int p),some (.int ((bt ns a).fdiv p)),some (.int n),some (.cx .ow [] []),none,none,none,none]):=by
  rw [JK (n:=k) (by simp [hk]) (by omega) (by omega),Int.toNat_natCast,List.range_eq_range']
 have hf:=gH (Φ:=Φ) (t:=.nm 6) (b:=Ed) hit el
 have hp:(bK cs).Perm cs:=List.mergeSort_perm _ _
 have mG:∀ f,dN Φ (.dt 1100) [.cx f cs (ab ws)] = ok (cs.map gi):=fun f=>by
  show bd (Φ 1100 _) mP = _
  rw [P.yJ]
  show ok (ah aN (cs.map gi)) = _
  rw [fW]
 have hfew:=T.yZ
 have N7:∀ c,gi c = .tup (ab c):=fun _=>rfl
 have s1:∀ r,aO Φ K3 [some (.lst .sc (ab ns)),some (.int a),some (.int p),some (.int ((bt ns a).fdiv p)),some (.int n),some (.cx .ow cs (ab ws)),c6,c7,c8,r] = ok (.lst .ow (ab (cs.map (cq cs ws)))):=fun r=>by
  unfold K3
  rw [cu (xs:=[.cx .al cs (ab ws)]) (by simp) (mG _) (ds:=cs.map fun c=>.int (cq cs ws c)) (bq fun c hc=>?_) (by simp;exact br (by omega))]
  ·simp [ab,av]
  ·have e:=Hv P .fz T.ln hc
   exact ⟨[some (.tup (ab c)),some (.cx .fz cs (ab ws))],by simp [aT,N7],by simp,by simp [e]⟩
 rw [oN T.nd T.ln] at s1
 have s2:pT .gh [.lst .ow (ab ws)] = ok (.int ws.sum):=by
  show (match intsOf (ab ws) with | some ns=>ok (D.int ns.sum) | none=>none) = _
  unfold ab
  rw [aY]
 have hW:1 <= ws.sum /\ ws.sum <= 42:=by
  have hs:=T.sum
  refine ⟨?_,by omega⟩
  obtain ⟨c,hc⟩:=List.exists_mem_of_ne_nil cs (T.ne (by omega))
  obtain ⟨w,e,m⟩:=lb T.ln hc
  have:=T.pos w m
  have:=T.yx w m
  omega
 refine ⟨n,mL cs ws,by omega,D6,⟨ws.sum.toNat,by omega,by omega,fun r hr=>?_⟩,?_⟩
 ·unfold mL at hr
  obtain ⟨c,_,rfl⟩:=List.mem_map.mp hr
  have h:ws.sum = ((ws.sum.toNat:Nat):Int):=by omega
  show (Rat.divInt (cq cs ws c) ws.sum).den ∣ _
  have d:=pH (t:=cq cs ws c) (b:=ws.sum) (by omega)
  rwa [show ws.sum.natAbs = ws.sum.toNat by omega] at d
 have N5:∀ f,Φ 1035 [.cx f cs (ab ws)] = ok (.lst .ow ((bK cs).map gi)):=fun f=>by
  rw [P.yM]
  show (if cs.length < 64 then ok (D.lst .ow ((bK cs).map gi)) else none) = _
  rw [if_pos (by omega)]
 have s3:aO Φ K4 [some (.lst .sc (ab ns)),some (.int a),some (.int p),some (.int ((bt ns a).fdiv p)),some (.int n),some (.cx .ow cs (ab ws)),c6,c7,c8,some (.int ws.sum)] = ok (.lst .ow (cz (mL cs ws))):=by
  unfold K4
  rw [cu (xs:=[.lst .ow ((bK cs).map gi)]) (by simp [N5]) (items:=(bK cs).map gi) (by rw [d8,fW]) (ds:=(bK cs).map fun c=>rD (Rat.divInt (cq cs ws c) ws.sum,c)) (bq fun c hc=>?_) (by rw [List.length_map];exact br (by rw [hp.length_eq];omega))]
  ·have:((bK cs).map fun c=>rD (Rat.divInt (cq cs ws c) ws.sum,c)) = cz (mL cs ws):=by unfold cz mL;rw [List.map_map];rfl
   rw [this,oO]
  ·have e:=Hv P .fz T.ln (hp.mem_iff.mp hc)
   have e':=Ax (cq cs ws c) ws.sum (by omega) (sV (by omega))
   exact ⟨[some (.tup (ab c)),some (.int ws.sum),some (.cx .fz cs (ab ws))],by simp [aT,N7],by simp,by simp [e,e',rD]⟩
 simp [mk_eq,jU,e1,hm,hd,hn,JY]
 rw [hf]
 simp [s1,s2,s3]
end DI
end
section
namespace DI
open PySem (Str)
def uo (m:List D -> O D):Prop:=∀ (N:Int) (n:Nat),n <= 12 -> ∃ qs:List Rat,m [.int N,.int n] = ok (.lst .ow (aB qs)) /\ qs.length = n /\ ∀ q ∈ qs,Sm 3 q
def nu:List CS:=[.app 2 (.call 201 [(.bin .sub (.bin .mod (.v 0) (.int 13)) (.int 6)),(.bin .add (.int 1) (.bin .mod (.bin .fdiv (.v 0) (.int 13)) (.int 4)))]),.asg (.nm 0) (.bin .fdiv (.v 0) (.int 52))]
def nS:List CS:=[.asg (.nm 2) (.lst []),.fr (.nm 3) (.mU (.v 1)) nu,.ret (.v 2)]
theorem oS (Φ:az) (Ax:iD (Φ 201)) (y:Option D):∀ (ks:List D) (acc:List Rat) (n:Int) (w:Option D),acc.length + ks.length <= 1000 -> (∀ q ∈ acc,Sm 3 q) ->
  ∃ (qs:List Rat) (n' w':Option D),fh (fun d ρ=>cA (.nm 3) d ρ) (fun ρ=>bM Φ nu ρ) ks [some (.int n),y,some (.lst .ow (aB acc)),w] = ok (.nx,[n',y,some (.lst .ow (aB qs)),w']) /\ qs.length = acc.length + ks.length /\ ∀ q ∈ qs,Sm 3 q
 | [],acc,n,w,_,hs=>⟨acc,some (.int n),w,rfl,rfl,hs⟩
 | k :: ks,acc,n,w,h,hs=>by
  simp only [List.length_cons] at h
  obtain ⟨a1,a2⟩:=iq n (b:=13) (by decide)
  obtain ⟨a3,a4⟩:=iq (n.fdiv 13) (b:=4) (by decide)
  have e:=Ax (n.fmod 13 - 6) (1 + (n.fdiv 13).fmod 4) (by omega) (sV (by omega))
  have sq:Sm 3 (Rat.divInt (n.fmod 13 - 6) (1 + (n.fdiv 13).fmod 4)):=GU (by omega) (by omega) (by omega)
  generalize Rat.divInt (n.fmod 13 - 6) (1 + (n.fdiv 13).fmod 4) = q at *
  obtain ⟨qs,n',w',e',l,s⟩:=oS Φ Ax y ks (acc ++ [q]) (n.fdiv 52) (some k) (by simp;omega) (fun p hp=>by
   rcases List.mem_append.mp hp with hp | hp
   ·exact hs p hp
   ·have:p = q:=by simpa using hp
    subst this;exact sq)
  have hc:acc.length < eu:=by show _ < 1000000;omega
  refine ⟨qs,n',w',dO (ρ1:=[some (.int n),y,some (.lst .ow (aB acc)),some k]) (by simp) (ρ2:=[some (.int (n.fdiv 52)),y,some (.lst .ow (aB (acc ++ [q]))),some k]) ?_ e',by rw [l];simp;omega,s⟩
  simp [nu,e,hc]
theorem Es (Φ:az) (Ax:iD (Φ 201)):uo (mk Φ 2 4 nS):=by
 intro N n hn
 have hit:=JK (Φ:=Φ) (a:=.v 1) (ρ:=[some (.int N),some (.int n),some (.lst .ow []),none]) (n:=n) (by simp) (by omega) (by omega)
 obtain ⟨qs,n',w',el,l,s⟩:=oS Φ Ax (some (.int n)) ((List.range (n:Int).toNat).map fun (k:Nat)=>D.int (k:Int)) [] N none (by simp;omega) (by simp)
 have hf:=gH (t:=.nm 3) (b:=nu) hit el
 refine ⟨qs,?_,by simpa using l,s⟩
 simp [mk_eq,nS,hf]
structure Ls (i j n:Nat) (ws xs:List Rat):Prop where
 l1:ws.length = n
 l2:xs.length = n
 s1:∀ q ∈ ws,Sm i q
 s2:∀ q ∈ xs,Sm j q
 jj:i + j <= 20
theorem Gs.two {j n:Nat} {ws xs:List Rat} (G:Gs j n ws xs) (hj:j <= 10):Ls j j n ws xs:=⟨G.l1,G.l2,G.s1,G.s2,by omega⟩
def gY (m:List D -> O D):Prop:=∀ f g n cf ws xs i j,p_ n cf -> n <= 12 -> Ls i j n ws xs -> m [.lst f (aB ws),.tup (ab cf),.lst g (aB xs)] = ok (qD (eP cf fun h=>cy ws h * cy xs h))
def kM:List CS:=[.asg (.nm 3) (.call 202 [(.v 3),(.call 203 [(.ix (.v 0) (.v 4)),(.ix (.v 2) (.v 4))])])]
def lu:List CS:=[.asg (.nm 3) (.tup [(.int 0),(.int 1)]),.fr (.nm 4) (.seq (.v 1)) kM,.ret (.v 3)]
theorem mD (Φ:az) (k_:mJ (Φ 202)) (ka:dA (Φ 203)) (f g:Fl) (ws xs:List Rat) (n a1 j:Nat) (G:Ls a1 j n ws xs) (y:Option D):∀ (cf:List Int) (acc:Rat) (i:Nat) (w:Option D),(∀ h ∈ cf,0 <= h /\ h < (n:Int)) -> Sm (1 + 21 * i) acc -> i + cf.length <= 12 ->
  ∃ w',fh (fun d ρ=>cA (.nm 4) d ρ) (fun ρ=>bM Φ kM ρ) (ab cf) [some (.lst f (aB ws)),y,some (.lst g (aB xs)),some (qD acc),w] = ok (.nx,[some (.lst f (aB ws)),y,some (.lst g (aB xs)),some (qD (acc + eP cf fun h=>cy ws h * cy xs h)),w'])
 | [],acc,i,w,_,_,_=>⟨w,by simp [eP,ip,Rat.add_zero]⟩
 | h :: cf,acc,i,w,hm,hs,hi=>by
  rw [List.length_cons] at hi
  obtain ⟨a,b⟩:=hm h List.mem_cons_self
  obtain ⟨_,m1⟩:=bA (qs:=ws) a (by rw [G.l1];exact b)
  obtain ⟨_,m2⟩:=bA (qs:=xs) a (by rw [G.l2];exact b)
  have s1:=G.s1 _ m1
  have s2:=G.s2 _ m2
  have hj:=G.jj
  have s3:Sm 20 (cy ws h * cy xs h):=(s1.mul s2).mono (by omega)
  have e1:=ka _ _ (s1.mono (by omega)) (s2.mono (by omega))
  have e2:=k_ acc _ (hs.mono (by omega)) (s3.mono (by decide))
  have a1':=pV (qs:=ws) a (by rw [G.l1];exact b)
  have a2:=pV (qs:=xs) a (by rw [G.l2];exact b)
  obtain ⟨w',ih⟩:=mD Φ k_ ka f g ws xs n a1 j G y cf (acc + cy ws h * cy xs h) (i + 1) (some (.int h)) (fun x hx=>hm x (List.mem_cons_of_mem _ hx)) ((hs.add s3).mono (by omega)) (by omega)
  refine ⟨w',dO (ρ1:=[some (.lst f (aB ws)),y,some (.lst g (aB xs)),some (qD acc),some (.int h)]) (by simp) (ρ2:=[some (.lst f (aB ws)),y,some (.lst g (aB xs)),some (qD (acc + cy ws h * cy xs h)),some (.int h)]) ?_ ?_⟩
  ·simp [kM,a1',a2,e1,e2]
  ·exact ih.trans (by rw [lJ,Rat.add_assoc])
theorem BG (Φ:az) (k_:mJ (Φ 202)) (ka:dA (Φ 203)):gY (mk Φ 3 5 lu):=by
 intro f g n cf ws xs i j hl hn G
 have z0:D.tup [.int 0,.int 1] = qD 0:=rfl
 obtain ⟨w',e⟩:=mD Φ k_ ka f g ws xs n i j G (some (.tup (ab cf))) cf 0 0 none hl.2 (by constructor <;> decide) (by have:=hl.len;omega)
 rw [Rat.zero_add] at e
 have hit:dk Φ (.seq (.v 1)) [some (.lst f (aB ws)),some (.tup (ab cf)),some (.lst g (aB xs)),some (qD 0),none] = ok (ab cf,[some (.lst f (aB ws)),some (.tup (ab cf)),some (.lst g (aB xs)),some (qD 0),none]):=by
  rw [V4 (ds:=ab cf) (by simp)]
  simp
 have hf:=gH (Φ:=Φ) (t:=.nm 4) (b:=kM) hit e
 simp [mk_eq,lu,z0,hf]
theorem Ls.lg {n i j:Nat} {cf:List Int} {ws xs:List Rat} (hl:p_ n cf) (hn:n <= 12) (G:Ls i j n ws xs):Sm 253 (eP cf fun h=>cy ws h * cy xs h):=by
 have:=Sm.sum (k:=20) (qs:=cf.map fun h=>cy ws h * cy xs h) fun q hq=>by
  obtain ⟨h,hh,rfl⟩:=List.mem_map.mp hq
  obtain ⟨a,b⟩:=hl.2 h hh
  exact ((G.s1 _ (bA (qs:=ws) a (by rw [G.l1];exact b)).2).mul (G.s2 _ (bA (qs:=xs) a (by rw [G.l2];exact b)).2)).mono (by have:=G.jj;omega)
 rw [List.length_map] at this
 exact this.mono (by have:=hl.len;omega)
def um (m:List D -> O D):Prop:=∀ n rs f g ws xs i j,Dr 6 n rs -> Ls i j n ws xs -> m [bO n rs,.lst f (aB ws),.lst g (aB xs)] = ok (qD (cn rs ws xs))
def nr:List CS:=[.asg (.nm 3) (.call 202 [(.v 3),(.call 203 [(.v 4),(.call 231 [(.v 1),(.v 5),(.v 2)])])])]
def nQ:List CS:=[.asg (.nm 3) (.tup [(.int 0),(.int 1)]),.fr (.tp [4,5]) (.seq (.ix (.v 0) (.int 1))) nr,.ret (.v 3)]
theorem oR (Φ:az) (k_:mJ (Φ 202)) (ka:dA (Φ 203)) (tw:gY (Φ 231)) (f g:Fl) (ws xs:List Rat) (n a1 j:Nat) (hn:n <= 12) (G:Ls a1 j n ws xs) (c0:Option D):∀ (rs:List Row) (acc:Rat) (i:Nat) (c4 c5:Option D),(∀ r ∈ rs,p_ n r.2 /\ Sm 6 r.1) -> Sm (1 + 260 * i) acc -> i + rs.length <= 12 ->
  ∃ Zc Li,fh (fun d ρ=>cA (.tp [4,5]) d ρ) (fun ρ=>bM Φ nr ρ) (cz rs) [c0,some (.lst f (aB ws)),some (.lst g (aB xs)),some (qD acc),c4,c5] = ok (.nx,[c0,some (.lst f (aB ws)),some (.lst g (aB xs)),some (qD (acc + cn rs ws xs)),Zc,Li])
 | [],acc,i,c4,c5,_,_,_=>⟨c4,c5,by simp [cn,cz,ip,Rat.add_zero]⟩
 | r :: rs,acc,i,c4,c5,hm,hs,hi=>by
  rw [List.length_cons] at hi
  obtain ⟨hl,s1⟩:=hm r List.mem_cons_self
  have s2:=G.lg hl hn
  have e0:=fun f g=>tw f g n r.2 ws xs a1 j hl hn G
  generalize hS:(eP r.2 fun h=>cy ws h * cy xs h) = S at *
  have s3:Sm 259 (r.1 * S):=(s1.mul s2).mono (by decide)
  have e1:=ka r.1 S (s1.mono (by decide)) (s2.mono (by decide))
  have e2:=k_ acc (r.1 * S) (hs.mono (by omega)) (s3.mono (by decide))
  obtain ⟨Zc,Li,ih⟩:=oR Φ k_ ka tw f g ws xs n a1 j hn G c0 rs (acc + r.1 * S) (i + 1) (some (qD r.1)) (some (.tup (ab r.2))) (fun x hx=>hm x (List.mem_cons_of_mem _ hx)) ((hs.add s3).mono (by omega)) (by omega)
  refine ⟨Zc,Li,dO (ρ1:=[c0,some (.lst f (aB ws)),some (.lst g (aB xs)),some (qD acc),some (qD r.1),some (.tup (ab r.2))]) (by simp [rD]) (ρ2:=[c0,some (.lst f (aB ws)),some (.lst g (aB xs)),some (qD (acc + r.1 * S)),some (qD r.1),some (.tup (ab r.2))]) ?_ ?_⟩
  ·simp [nr,e0,e1,e2]
  ·refine ih.trans ?_
   have:cn (r :: rs) ws xs = r.1 * S + cn rs ws xs:=by unfold cn;rw [List.map_cons,List.sum_cons,hS]
   rw [this,Rat.add_assoc]
theorem Er (Φ:az) (k_:mJ (Φ 202)) (ka:dA (Φ 203)) (tw:gY (Φ 231)):um (mk Φ 3 6 nQ):=by
 intro n rs f g ws xs i j I G
 have z0:D.tup [.int 0,.int 1] = qD 0:=rfl
 have hf:=I.yZ
 obtain ⟨c4,c5,e⟩:=oR Φ k_ ka tw f g ws xs n i j I.n2 G (some (bO n rs)) rs 0 0 none none (fun r hr=>⟨I.cf r hr,I.sm r hr⟩) (by constructor <;> decide) (by omega)
 rw [Rat.zero_add] at e
 have x1:aO Φ (.ix (.v 0) (.int 1)) [some (bO n rs),some (.lst f (aB ws)),some (.lst g (aB xs)),some (qD 0),none,none] = ok (.lst .fz (cz rs)):=by simp [bO]
 have hit:dk Φ (.seq (.ix (.v 0) (.int 1))) [some (bO n rs),some (.lst f (aB ws)),some (.lst g (aB xs)),some (qD 0),none,none] = ok (cz rs,[some (bO n rs),some (.lst f (aB ws)),some (.lst g (aB xs)),some (qD 0),none,none]):=by
  rw [w6 x1]
  simp
 have hx:=gH (Φ:=Φ) (t:=.tp [4,5]) (b:=nr) hit e
 simp [mk_eq,nQ,z0,hx]
def mn (m:List D -> O D):Prop:=∀ n rs,m [bO n rs] = ok (.tup [.int n,.lst .ow (cz rs)])
def jS:List CS:=[.ret (.tup [(.ix (.v 0) (.int 0)),(.bf .list1 [(.ix (.v 0) (.int 1))])])]
theorem zT (Φ:az):mn (mk Φ 1 1 jS):=by
 intro n rs
 simp [mk_eq,jS,bO]
theorem NA (q:Rat):fS .ne (qD q) (qD q) = ok (.bl false):=by
 rw [P0 (yu 39 _) (yu 39 _),C8];simp
def gG (f:Fl) (n:Nat) (rs:List Row):D:=.tup [.int n,.lst f (cz rs)]
@[simp] theorem QM (g:Fl -> Fl) (f:Fl) (n:Nat) (rs:List Row):aC g (gG f n rs) = gG (g f) n rs:=by simp [gG]
theorem C_ (n:Nat) (rs:List Row):gG .fz n rs = bO n rs:=rfl
@[simp] theorem QW (p:Fl -> Bool) (f:Fl) (n:Nat) (rs:List Row):aH p (gG f n rs) = p f:=by simp [gG]
@[simp] theorem VW (f:Fl) (n:Nat) (rs:List Row):w4 (gG f n rs) (.int 0) = ok (.int n):=by simp [gG]
end DI
end
section
namespace DI
open PySem (Str)
def dW (g h:Int) (r:Row):Bool:=decide (g ∈ r.2) && decide (h ∈ r.2)
def bc (rs:List Row) (g h:Int):Rat:=(bP (rs.filter (dW g h))).sum
theorem vm (h:Int):∀ ns:List Int,inD (.int h) (ab ns) = decide (h ∈ ns)
 | []=>rfl
 | x :: xs=>by
  show (lj (.int x) (.int h) || inD (.int h) (ab xs)) = _
  rw [nI,vm h xs]
  by_cases e:h = x <;> simp [e,eq_comm]
theorem rR:∀ ns:List Int,(ab ns).all iV = true
 | []=>rfl
 | x :: xs=>by show (iV (.int x) && (ab xs).all iV) = true;rw [rR xs];rfl
theorem P1 (h:Int) (ns:List Int):fS .Hf (.int h) (.tup (ab ns)) = ok (.bl (decide (h ∈ ns))):=by
 show (if iV (.int h) && (ab ns).all iV then ok (D.bl (inD (.int h) (ab ns))) else none) = _
 rw [rR,vm];rfl
def FT:CE:=.comp 2 (.tp [0,1]) [1,2] .seq [(.ix (.v 0) (.int 1))] [(.and [(.cmp .Hf (.v 2) (.v 1)),(.cmp .Hf (.v 3) (.v 1))])] (.v 0)
def nU:List CS:=[.asg (.nm 3) FT,.ret (.call 2 [(.bf .gh [(.v 3)]),(.ix (.v 0) (.int 0))])]
def nW (m:List D -> O D):Prop:=∀ k n rs (g h:Int),Dr k n rs -> m [.tup [.int (aX (bP rs)),.lst .fz (lG (aX (bP rs)) rs)],.int g,.int h] = ok (qD (bc rs g h))
theorem Eu (Φ:az) (h2:dy (Φ 2)):nW (mk Φ 3 4 nU):=by
 intro k n rs g h I
 obtain ⟨b0,b1,b2⟩:=I.bot
 have key:=sr (b:=aX (bP rs)) (qs:=bP (rs.filter (dW g h))) b0 fun q hq=>by
  obtain ⟨r,hr,rfl⟩:=List.mem_map.mp hq
  exact b2 _ (List.mem_map_of_mem ((List.mem_filter.mp hr).1))
 generalize aX (bP rs) = b at *
 have k1:∀ a,aO Φ FT [some (.tup [.int b,.lst .fz (lG b rs)]),some (.int g),some (.int h),a] = ok (.lst .ow (ab ((bP (rs.filter (dW g h))).map (aM b)))):=fun a=>by
  unfold FT
  rw [cu (xs:=[.lst .fz (lG b rs)]) (items:=rs.map fun r=>.tup [.int (aM b r.1),.tup (ab r.2)]) (ds:=(rs.filter (dW g h)).map fun r=>.int (aM b r.1)) (by simp) (by rw [d8,ve];rfl) (jn fun r hr=>⟨[some (.int (aM b r.1)),some (.tup (ab r.2)),some (.int g),some (.int h)],by simp [aT],by
   by_cases hg:g ∈ r.2 <;> by_cases hh:h ∈ r.2 <;> simp [P1,dW,hg,hh],fun _=>by simp⟩) ?_]
  ·simp [ab,av,bP]
  ·have:=List.length_filter_le (dW g h) rs
   have:=I.len
   rw [List.length_map]
   exact br (by omega)
 have k2:pT .gh [.lst .ow (ab ((bP (rs.filter (dW g h))).map (aM b)))] = ok (.int ((bP (rs.filter (dW g h))).map (aM b)).sum):=by
  show (match intsOf (ab ((bP (rs.filter (dW g h))).map (aM b))) with | some ns=>ok (D.int ns.sum) | none=>none) = _
  unfold ab
  rw [aY]
 have k3:=h2.1 ((bP (rs.filter (dW g h))).map (aM b)).sum b (by omega) (by
  rw [Int.natAbs_natCast]
  exact Nat.lt_of_lt_of_le b1 (Nat.pow_le_pow_right (by decide) (by decide)))
 rw [key] at k3
 have k4:∀ f,pT .gh [.lst f (ab ((bP (rs.filter (dW g h))).map (aM b)))] = ok (.int ((bP (rs.filter (dW g h))).map (aM b)).sum):=fun f=>k2
 simp [mk_eq,nU,QN Φ FT _ rfl,k1,k4,k3]
 rfl
def shQ (n:Nat) (rs:List Row):List Rat:=(List.range n).map fun (k:Nat)=>bc rs k k
theorem rF {rs:List Row} {W:Nat} (hd:∀ r ∈ rs,r.1.den ∣ W) (h0:0 < W) (g h:Int):(bc rs g h).den ∣ W:=by
 have key:=sr (b:=W) (qs:=bP (rs.filter (dW g h))) h0 fun q hq=>by
  obtain ⟨r,hr,rfl⟩:=List.mem_map.mp hq
  exact hd _ ((List.mem_filter.mp hr).1)
 unfold bc
 rw [<- key]
 have:=pH (t:=((bP (rs.filter (dW g h))).map (aM W)).sum) (b:=(W:Int)) (by omega)
 simpa using this
theorem eJ (p:Row -> Bool):∀ (rs:List Row),(∀ r ∈ rs,0 < r.1) -> 0 <= (bP (rs.filter p)).sum /\ (bP (rs.filter p)).sum <= (bP rs).sum
 | [],_=>by simp [bP,Rat.le_refl]
 | r :: rs,h=>by
  obtain ⟨a,b⟩:=eJ p rs fun x hx=>h x (List.mem_cons_of_mem _ hx)
  have hr:=h r List.mem_cons_self
  have e:(bP (r :: rs)).sum = r.1 + (bP rs).sum:=rfl
  rw [e]
  cases hp:p r with
  | true =>
   rw [List.filter_cons_of_pos hp]
   have e':(bP (r :: rs.filter p)).sum = r.1 + (bP (rs.filter p)).sum:=rfl
   rw [e']
   constructor <;> grind
  | false =>
   rw [List.filter_cons_of_neg (by simp [hp])]
   constructor <;> grind
theorem u_ {k n:Nat} {rs:List Row} (I:Dr k n rs) (g h:Int):0 <= bc rs g h /\ bc rs g h <= 1:=by
 have:=eJ (dW g h) rs I.pos
 have e:(bP rs).sum = 1:=I.one
 rw [e] at this
 exact this
theorem x_ {q:Rat} {k:Nat} (h0:0 <= q) (h1:q <= 1) (hd:q.den < 2 ^ k):Sm k q:=by
 refine ⟨?_,hd⟩
 have e:=i_ q
 have hp:=q.den_pos
 have n0:0 <= q.num:=Rat.num_nonneg.mpr h0
 have:q.num <= q.den:=by
  have:=h1
  rw [Rat.le_iff] at this
  simpa using this
 omega
theorem i9 {k n:Nat} {rs:List Row} (I:Dr k n rs) (g h:Int):Sm 61 (bc rs g h):=by
 obtain ⟨b0,b1,b2⟩:=I.bot
 obtain ⟨p0,p1⟩:=u_ I g h
 have:=rF (rs:=rs) (W:=aX (bP rs)) (fun r hr=>b2 _ (List.mem_map_of_mem hr)) b0 g h
 exact x_ p0 p1 (Nat.lt_of_le_of_lt (Nat.le_of_dvd b0 this) b1)
theorem wD {k n:Nat} {rs:List Row} (I:Dr k n rs) (F:Gz rs) (g h:Int):Sm 6 (bc rs g h):=by
 obtain ⟨W,w0,w1,w2⟩:=F
 obtain ⟨p0,p1⟩:=u_ I g h
 have:=rF w2 w0 g h
 exact x_ p0 p1 (Nat.lt_of_le_of_lt (Nat.le_of_dvd w0 this) w1)
@[simp] theorem Qt (n:Nat) (rs:List Row):(shQ n rs).length = n:=by simp [shQ]
def GX (q:Rat):D:=if 0 < q then qD (1 / q) else .bC
@[simp] theorem E_ (g:Fl -> Fl) (q:Rat):aC g (GX q) = GX q:=by
 unfold GX
 split
 ·simp
 ·rfl
@[simp] theorem FA (g:Fl -> Bool) (q:Rat):aH g (GX q) = false:=by
 unfold GX
 split
 ·simp
 ·rfl
@[simp] theorem LF (g:Fl -> Fl) (qs:List Rat):ah g (qs.map GX) = qs.map GX:=dS g (fun q=>E_ g q) qs
@[simp] theorem L0 (g:Fl -> Bool) (qs:List Rat):aw g (qs.map GX) = false:=cK g (fun q=>FA g q) qs
end DI
end
section
namespace DI
open PySem (Str)
def GF (n:Nat) (h:Nat):List Rat:=(List.range n).map fun (k:Nat)=>if k = h then 1 else 0
theorem oG (r:Row) (rs:List Row) (g h:Int):bc (r :: rs) g h = if dW g h r then r.1 + bc rs g h else bc rs g h:=by
 unfold bc
 cases e:dW g h r with
 | true=>rw [List.filter_cons_of_pos e];rfl
 | false=>rw [List.filter_cons_of_neg (by simp [e])];rfl
def iY (n:Nat) (rs:List Row) (f:Fl) (j k:Nat):List D:=(List.range' j k).map fun (g:Nat)=>.lst f (aB ((List.range' 0 n).map fun (h:Nat)=>bc rs g h))
theorem gL (g:Fl -> Fl) (n:Nat) (rs:List Row) (f:Fl) (j k:Nat):ah g (iY n rs f j k) = iY n rs (g f) j k:=by
 unfold iY
 rw [av,List.map_map]
 refine List.map_congr_left fun x _=>?_
 show aC g (.lst f (aB _)) = _
 simp
theorem CN (g:Fl -> Bool) (n:Nat) (rs:List Row) (f:Fl) (j k:Nat) (h:g f = false):aw g (iY n rs f j k) = false:=cK g (fun x=>by simp [h]) (List.range' j k)
theorem BR {n:Nat} {rs:List Row} {f:Fl} {k:Nat} (h:k < n):v5 (iY n rs f 0 n) (k:Int) = ok (aC ba (.lst f (aB ((List.range' 0 n).map fun (h:Nat)=>bc rs k h)))):=by
 have:=at_of (ds:=iY n rs f 0 n) (i:=(k:Int)) (d:=.lst f (aB ((List.range' 0 n).map fun (h:Nat)=>bc rs k h))) (by omega) (by
  rw [Int.toNat_natCast,iY,List.getElem?_map,List.getElem?_range' h]
  simp)
 exact this
end DI
end
section
namespace DI
open PySem (Str)
theorem h_ (f:Int -> Rat):∀ (k j:Nat) (cf:List Int),cf.Pairwise (· < ·) -> (∀ h ∈ cf,(j:Int) <= h /\ h < ((j + k:Nat):Int)) -> ((List.range' j k).map fun (i:Nat)=>if (i:Int) ∈ cf then f i else 0).sum = eP cf f
 | 0,j,cf,_,h=>by
  cases cf with
  | nil=>rfl
  | cons x xs=>have:=h x List.mem_cons_self;omega
 | k + 1,j,cf,hp,h=>by
  rw [List.range'_succ,List.map_cons,List.sum_cons]
  by_cases e:(j:Int) ∈ cf
  ·obtain ⟨xs,rfl⟩:∃ xs,cf = (j:Int) :: xs:=by
    cases cf with
    | nil=>simp at e
    | cons x xs =>
     have h1:=h x List.mem_cons_self
     have h2:=List.pairwise_cons.mp hp
     rcases List.mem_cons.mp e with e | e
     ·exact ⟨xs,by rw [e]⟩
     ·have:=h2.1 _ e;omega
   have h2:=List.pairwise_cons.mp hp
   have ih:=h_ f k (j + 1) xs h2.2 fun y hy=>by
    have a:=h y (List.mem_cons_of_mem _ hy)
    have b:=h2.1 y hy
    constructor <;> omega
   rw [if_pos List.mem_cons_self,lJ,<- ih]
   congr 2
   refine List.map_congr_left fun i hi=>?_
   have hi:=List.mem_range'_1.mp hi
   have:((i:Int) ∈ (j:Int) :: xs) ↔ (i:Int) ∈ xs:=by
    rw [List.mem_cons]
    constructor
    ·rintro (h | h)
     ·omega
     ·exact h
    ·exact .inr
   simp only [this]
  ·rw [if_neg e,Rat.zero_add]
   refine h_ f k (j + 1) cf hp fun y hy=>?_
   have a:=h y hy
   have:y ≠ (j:Int):=fun z=>e (z ▸ hy)
   constructor <;> omega
theorem sum_add (a b:Nat -> Rat):∀ (l:List Nat),(l.map fun k=>a k + b k).sum = (l.map a).sum + (l.map b).sum
 | []=>by simp [Rat.add_zero]
 | x :: l=>by
  rw [List.map_cons,List.map_cons,List.map_cons,List.sum_cons,List.sum_cons,List.sum_cons,sum_add a b l]
  grind
theorem hZ (c:Rat) (a:Nat -> Rat):∀ (l:List Nat),(l.map fun k=>c * a k).sum = c * (l.map a).sum
 | []=>by simp [Rat.mul_zero]
 | x :: l=>by
  rw [List.map_cons,List.map_cons,List.sum_cons,List.sum_cons,hZ c a l]
  grind
theorem rJ (n:Nat) (ws xs:List Rat):∀ (rs:List Row),(∀ r ∈ rs,p_ n r.2) -> cn rs ws xs = ((List.range' 0 n).map fun (k:Nat)=>cy ws k * cy xs k * bc rs k k).sum
 | [],_=>by
  have e:((List.range' 0 n).map fun (k:Nat)=>cy ws k * cy xs k * bc [] k k) = (List.range' 0 n).map fun (k:Nat)=>(0:Rat) * (0:Rat):=List.map_congr_left fun k _=>by
   show _ * (0:Rat) = _
   grind
  rw [e,hZ]
  simp [cn,Rat.zero_mul]
 | r :: rs,h=>by
  have ih:=rJ n ws xs rs fun s hs=>h s (List.mem_cons_of_mem _ hs)
  have hl:=h r List.mem_cons_self
  have e1:cn (r :: rs) ws xs = r.1 * eP r.2 (fun h=>cy ws h * cy xs h) + cn rs ws xs:=by unfold cn;rw [List.map_cons,List.sum_cons]
  have e2:=h_ (fun h=>cy ws h * cy xs h) n 0 r.2 hl.1 fun y hy=>by have:=hl.2 y hy;constructor <;> omega
  rw [e1,<- e2,ih,<- hZ,<- sum_add]
  congr 1
  refine List.map_congr_left fun k _=>?_
  rw [oG]
  have:dW k k r = decide ((k:Int) ∈ r.2):=by simp [dW]
  rw [this]
  by_cases hk:(k:Int) ∈ r.2
  ·simp only [hk,decide_true,if_true];grind
  ·simp only [hk,decide_false,if_false];simp;grind
end DI
end
section
namespace DI
open PySem (Str)
def c19:CS:=.setI 4 (.v 10) (.call 202 [(.ix (.v 4) (.v 10)),(.call 201 [(.bin .add (.int 1) (.bin .mul (.bin .mod (.bin .fdiv (.v 8) (.int 15)) (.int 5)) (.bin .add (.v 9) (.int 1)))),(.int 7)])])
theorem xU (Φ:az):∀ (a b:List CS) (ρ ρ':aA),bM Φ a ρ = ok (.nx,ρ') -> bM Φ (a ++ b) ρ = bM Φ b ρ'
 | [],b,ρ,ρ',h=>by cases h;rfl
 | s :: a,b,ρ,ρ',h=>by
  rw [i5] at h
  rw [List.cons_append,i5]
  cases e:tO Φ s ρ with
  | none=>rw [e] at h;cases h
  | some r=>cases r with
   | error c=>rw [e] at h;cases h
   | ok r =>
    obtain ⟨fo,ρ1⟩:=r
    rw [e] at h
    cases fo with
    | nx=>exact xU Φ a b ρ1 ρ' h
    | _=>cases h
end DI
end
section
namespace DI
open PySem PySem.Spec PyProof.Rows L2
section
variable {X:Cx}
end
end DI
end
section
namespace DI
open PySem (Str)
@[simp] theorem Mw (n x:Nat):(GF n x).length = n:=by simp [GF]
end DI
end
section
namespace DI
open PySem (Str)
def c20:CS:=.setI 8 (.v 9) (.call 202 [(.ix (.v 8) (.v 9)),(.tup [(.int 1),(.bin .add (.int 1) (.bin .mod (.bin .fdiv (.call 200 [(.v 0),(.int 10)]) (.int 5)) (.int 9)))])])
end DI
end
section
namespace DI
open PySem (Str)
theorem sT {i j:Int} (h:i.natAbs < 2 ^ 9000) (h':j.natAbs < 2 ^ 9000):gK i j = true:=by simp only [gK,big,h,h',decide_true,Bool.and_self,Bool.or_true]
theorem uh {B:Nat}:∀ (l:List Int),(∀ z ∈ l,z.natAbs <= B) -> l.sum.natAbs <= l.length * B
 | [],_=>by simp
 | z :: l,h=>by
  have ih:=uh l fun x hx=>h x (List.mem_cons_of_mem _ hx)
  have hz:=h z List.mem_cons_self
  have ht:=Int.natAbs_add_le z l.sum
  rw [List.sum_cons,List.length_cons,Nat.succ_mul]
  omega
def sv (b:Nat) (rs:List Row) (gs:List Int):Int:=((rs.zip gs).map fun p=>aM b p.1.1 * p.2 * p.2).sum
def kQ (b gb:Nat) (rs:List Row) (gs:List Int):Rat:=Rat.divInt ((b:Int) * sv b rs gs - j_ b rs gs * j_ b rs gs) ((b:Int) * gb * ((b:Int) * gb))
def KU:CE:=.comp 2 (.tp [0,1]) [] (.dt 1000) [(.ix (.v 2) (.int 1)),(.ix (.v 1) (.int 1))] [] (.bin .mul (.bin .mul (.ix (.v 0) (.int 0)) (.v 1)) (.v 1))
def fZ:List CS:=[.asg (.nm 2) (.call 14 [(.v 0)]),.asg (.nm 3) (.bf .gh [K0]),.asg (.nm 4) (.bf .gh [KU]),.asg (.nm 5) (.bin .mul (.ix (.v 2) (.int 0)) (.ix (.v 1) (.int 0))),.ret (.call 2 [(.bin .sub (.bin .mul (.ix (.v 2) (.int 0)) (.v 4)) (.bin .mul (.v 3) (.v 3))),(.bin .mul (.v 5) (.v 5))])]
def js (m:List D -> O D):Prop:=∀ k n rs gs (gb:Nat),Dr k n rs -> gs.length = rs.length -> 0 < gb -> gb < 2 ^ 2000 -> (∀ g ∈ gs,g.natAbs < 2 ^ 2000) -> m [.lst .fz (cz rs),.tup [.int gb,.lst .fz (ab gs)]] = ok (qD (kQ (aX (bP rs)) gb rs gs))
theorem bS (Φ:az) (h2:dy (Φ 2)) (OQ:gX (Φ 14)) (mH:Φ 1000 = sj):js (mk Φ 2 6 fZ):=by
 intro k n rs gs gb I hl g0 g1 gs1
 have e1:=OQ rs k I.DE
 obtain ⟨b0,b1,_⟩:=I.bot
 have ht:=fun r hr=>I.top (r:=r) hr
 have hlen:=I.len
 generalize aX (bP rs) = b at *
 have hz:dN Φ (.dt 1000) [.lst .al (lG b rs),.lst .fz (ab gs)] = ok ((rs.zip gs).map fun p=>.tup [.tup [.int (aM b p.1.1),.tup (ab p.1.2)],.int p.2]):=by
  show bd (Φ 1000 _) mP = _
  rw [mH]
  show ok (ah aN (List.zipWith (fun x y=>D.tup [x,y]) (lG b rs) (ab gs))) = _
  have:=eQ aN (lG b rs) (ab gs)
  rw [ve,eR] at this
  refine congrArg ok (Eq.trans this ?_)
  unfold lG ab
  rw [List.zipWith_map,List.zip,List.map_zipWith]
  rfl
 have pr:∀ p ∈ rs.zip gs,(aM b p.1.1 * p.2).natAbs < 2 ^ 2064:=fun p hp=>by
  have m:=List.of_mem_zip hp
  rw [Int.natAbs_mul,show (2064:Nat) = 64 + 2000 from rfl]
  exact aZ (ht p.1 m.1) (gs1 p.2 m.2)
 have k1:∀ r,aO Φ K0 (some (.lst .fz (cz rs)) :: some (.tup [.int gb,.lst .fz (ab gs)]) :: some (.tup [.int b,.lst .ow (lG b rs)]) :: r) = ok (.lst .ow (ab ((rs.zip gs).map fun p=>aM b p.1.1 * p.2))):=fun r=>by
  unfold K0
  rw [cu (xs:=[.lst .al (lG b rs),.lst .fz (ab gs)]) (by simp) hz (ds:=(rs.zip gs).map fun p=>.int (aM b p.1.1 * p.2)) (bq fun p hp=>?_) (by simp;exact br (by omega))]
  ·simp [ab,av]
  ·have m:=List.of_mem_zip hp
   have e:=nP (j:=p.2) (ht p.1 m.1)
   exact ⟨[some (.tup [.int (aM b p.1.1),.tup (ab p.1.2)]),some (.int p.2)],by simp [aT],by simp,by simp [e]⟩
 have k1':∀ r,aO Φ KU (some (.lst .fz (cz rs)) :: some (.tup [.int gb,.lst .fz (ab gs)]) :: some (.tup [.int b,.lst .ow (lG b rs)]) :: r) = ok (.lst .ow (ab ((rs.zip gs).map fun p=>aM b p.1.1 * p.2 * p.2))):=fun r=>by
  unfold KU
  rw [cu (xs:=[.lst .al (lG b rs),.lst .fz (ab gs)]) (by simp) hz (ds:=(rs.zip gs).map fun p=>.int (aM b p.1.1 * p.2 * p.2)) (bq fun p hp=>?_) (by simp;exact br (by omega))]
  ·simp [ab,av]
  ·have m:=List.of_mem_zip hp
   have e:=nP (j:=p.2) (ht p.1 m.1)
   have e':cP .mul (.int (aM b p.1.1 * p.2)) (.int p.2) = ok (.int (aM b p.1.1 * p.2 * p.2)):=gU (sT (Nat.lt_of_lt_of_le (pr p hp) (Nat.pow_le_pow_right (by decide) (by decide))) (Nat.lt_of_lt_of_le (gs1 p.2 m.2) (Nat.pow_le_pow_right (by decide) (by decide))))
   exact ⟨[some (.tup [.int (aM b p.1.1),.tup (ab p.1.2)]),some (.int p.2)],by simp [aT],by simp,by simp [e,e']⟩
 have ks:∀ l:List Int,pT .gh [.lst .ow (ab l)] = ok (.int l.sum):=fun l=>by
  show (match intsOf (ab l) with | some ns=>ok (D.int ns.sum) | none=>none) = _
  unfold ab
  rw [aY]
 have kt:pT .gh [.lst .ow (ab ((rs.zip gs).map fun p=>aM b p.1.1 * p.2))] = ok (.int (j_ b rs gs)):=ks _
 have kq:pT .gh [.lst .ow (ab ((rs.zip gs).map fun p=>aM b p.1.1 * p.2 * p.2))] = ok (.int (sv b rs gs)):=ks _
 have ta:(j_ b rs gs).natAbs < 2 ^ 2100:=by
  have h:=uh (B:=2 ^ 2064) ((rs.zip gs).map fun p=>aM b p.1.1 * p.2) fun z hz=>by
   obtain ⟨p,hp,rfl⟩:=List.mem_map.mp hz
   exact Nat.le_of_lt (pr p hp)
  have hz:((rs.zip gs).map fun p=>aM b p.1.1 * p.2).length <= 1000:=by simp;omega
  refine Nat.lt_of_le_of_lt (Nat.le_trans h (Nat.mul_le_mul_right _ hz)) ?_
  rw [show (2100:Nat) = 36 + 2064 from rfl,Nat.pow_add]
  exact Nat.mul_lt_mul_of_pos_right (by decide) (Nat.two_pow_pos _)
 have OB:((b:Int)).natAbs < 2 ^ 64:=by rw [Int.natAbs_natCast];exact Nat.lt_of_lt_of_le b1 (by decide)
 have m1:=nP (j:=(gb:Int)) OB
 have m2:=nP (j:=sv b rs gs) OB
 have m3:cP .mul (.int (j_ b rs gs)) (.int (j_ b rs gs)) = ok (.int (j_ b rs gs * j_ b rs gs)):=gU (sT (Nat.lt_of_lt_of_le ta (Nat.pow_le_pow_right (by decide) (by decide))) (Nat.lt_of_lt_of_le ta (Nat.pow_le_pow_right (by decide) (by decide))))
 have QV:((b:Int) * gb).natAbs < 2 ^ 2061:=by
  rw [Int.natAbs_mul,Int.natAbs_natCast,Int.natAbs_natCast,show (2061:Nat) = 61 + 2000 from rfl]
  exact aZ b1 g1
 have m4:cP .mul (.int ((b:Int) * gb)) (.int ((b:Int) * gb)) = ok (.int ((b:Int) * gb * ((b:Int) * gb))):=gU (sT (Nat.lt_of_lt_of_le QV (Nat.pow_le_pow_right (by decide) (by decide))) (Nat.lt_of_lt_of_le QV (Nat.pow_le_pow_right (by decide) (by decide))))
 have k4:=h2.1 ((b:Int) * sv b rs gs - j_ b rs gs * j_ b rs gs) ((b:Int) * gb * ((b:Int) * gb)) (by
  have:(0:Int) < (b:Int) * gb:=Int.mul_pos (by omega) (by omega)
  have:=Int.mul_pos this this
  omega) (by
  rw [Int.natAbs_mul]
  exact Nat.lt_of_lt_of_le (aZ QV QV) (Nat.pow_le_pow_right (by decide) (by decide)))
 change _ = ok (qD (kQ b gb rs gs)) at k4
 generalize kQ b gb rs gs = sp at *
 simp [mk_eq,fZ,e1,k1,k1',kt,kq,m1,m2,m3,m4,k4]
end DI
end
section
namespace DI
open PySem (Str)
def fT (rs:List Row) (ws xs:List Rat):Rat:=kQ (aX (bP rs)) (aX (fU ws xs)) rs (jh rs (fU ws xs))
def jW (m:List D -> O D):Prop:=∀ k n rs f g ws xs j,Dr k n rs -> Gs j n ws xs -> j <= 50 -> m [bO n rs,.lst f (aB ws),.lst g (aB xs)] = ok (qD (fT rs ws xs))
def jT:List CS:=[.ex (.call 17 [(.v 0)]),.ex (.call 46 [(.v 1),(.ix (.v 0) (.int 0))]),.ex (.call 47 [(.v 2),(.ix (.v 0) (.int 0))]),.ret (.call 50 [(.ix (.v 0) (.int 1)),(.call 48 [(.v 0),(.v 1),(.v 2)])])]
theorem CW {k n j:Nat} {rs:List Row} {ws xs:List Rat} (I:Dr k n rs) (G:Gs j n ws xs) (hj:j <= 50):aX (fU ws xs) < 2 ^ 2000 /\ ∀ g ∈ jh rs (fU ws xs),g.natAbs < 2 ^ 2000:=by
 have hn:=I.n2
 have hs:=G.DE hn
 obtain ⟨c0,c1,c2⟩:=hs.lcm
 have hP:(fU ws xs).length = n:=by unfold fU;rw [List.length_map,List.length_zip,G.l1,G.l2,Nat.min_self]
 have c3:aX (fU ws xs) < 2 ^ 1201:=Nat.lt_of_lt_of_le c1 (Nat.pow_le_pow_right (by decide) (by
  rw [hP]
  have:(j + j) * n <= 100 * 12:=Nat.mul_le_mul (by omega) hn
  omega))
 refine ⟨Nat.lt_of_lt_of_le c3 (Nat.pow_le_pow_right (by decide) (by decide)),fun g hg=>?_⟩
 unfold jh at hg
 obtain ⟨r,hr,rfl⟩:=List.mem_map.mp hg
 have ht:∀ z ∈ r.2.map (jY ((fU ws xs).map (aM (aX (fU ws xs))))),z.natAbs <= 2 ^ 1301:=fun z hz=>by
  obtain ⟨h,hh,rfl⟩:=List.mem_map.mp hz
  obtain ⟨a,b⟩:=(I.cf r hr).2 h hh
  obtain ⟨g,m⟩:=bA (qs:=fU ws xs) a (by rw [hP];exact b)
  have e:jY ((fU ws xs).map (aM (aX (fU ws xs)))) h = aM (aX (fU ws xs)) (cy (fU ws xs) h):=by
   unfold jY
   rw [List.getD_eq_getElem?_getD,List.getElem?_map,g];rfl
  rw [e]
  have s:=(hs.sm _ m).mono (l:=100) (by omega)
  generalize cy (fU ws xs) h = q at *
  unfold aM
  rw [Int.natAbs_mul]
  have f1:((aX (fU ws xs):Int).fdiv q.den).natAbs <= aX (fU ws xs):=by
   rw [Int.fdiv_eq_ediv_of_nonneg _ (by omega)]
   have:=Int.natAbs_ediv_le_natAbs (aX (fU ws xs):Int) (q.den:Int)
   simpa using this
  have:=aZ s.1 (Nat.lt_of_le_of_lt f1 c3)
  exact Nat.le_of_lt this
 have h:=uh (B:=2 ^ 1301) _ ht
 have hl:=(I.cf r hr).len
 have hz:(r.2.map (jY ((fU ws xs).map (aM (aX (fU ws xs)))))).length <= 12:=by rw [List.length_map];omega
 refine Nat.lt_of_le_of_lt (Nat.le_trans h (Nat.mul_le_mul_right _ hz)) ?_
 rw [show (2000:Nat) = 699 + 1301 from rfl,Nat.pow_add]
 refine Nat.mul_lt_mul_of_pos_right ?_ (Nat.two_pow_pos _)
 exact Nat.lt_of_lt_of_le (show 12 < 2 ^ 4 by decide) (Nat.pow_le_pow_right (by decide) (by decide))
theorem zU (Φ:az) (W5:iE (Φ 17)) (WX:iF 3 kj (Φ 46)) (WW:iF 4 kj (Φ 47)) (h48:gn (Φ 48)) (h50:js (Φ 50)):jW (mk Φ 3 3 jT):=by
 intro k n rs f g ws xs j I G hj
 have hn:=I.n2
 have l1:=G.l1
 have l2:=G.l2
 have e1:=W5 k n rs I
 have e2:=fun f=>WX (.lst f (aB ws)) n (by show (aB ws).length <= 1000000;simp;omega)
 have e3:=fun f=>WW (.lst f (aB xs)) n (by show (aB xs).length <= 1000000;simp;omega)
 simp only [ug,l1,decide_true,if_true] at e2
 simp only [ug,l2,decide_true,if_true] at e3
 have e4:=fun f g=>h48 k n rs f g ws xs j I G
 have hs:=G.DE hn
 obtain ⟨c0,c1,c2⟩:=hs.lcm
 obtain ⟨p1,p2⟩:=CW I G hj
 have e5:=h50 k n rs (jh rs (fU ws xs)) (aX (fU ws xs)) I (by simp [jh]) c0 p1 p2
 have m1:aC aN (bO n rs) = bO n rs:=by simp [bO]
 have m2:aC ba (bO n rs) = bO n rs:=by simp [bO]
 have hd:bO n rs = .tup [.int n,.lst .fz (cz rs)]:=rfl
 have x0:w4 (bO n rs) (.int 0) = ok (.int n):=by rw [hd];simp
 have x1:w4 (bO n rs) (.int 1) = ok (.lst .fz (cz rs)):=by rw [hd];simp
 simp [mk_eq,jT,m1,m2,x0,x1,e1,e2,e3,e4,e5]
 rfl
end DI
end
section
namespace DI
open PySem (Str)
def FQ:CE:=.comp 1 (.nm 0) [1,3] .mU [(.ix (.v 0) (.int 0))] [] (.call 19 [(.v 1),(.v 2),(.v 0)])
def Ec:List CS:=[.app 2 FQ]
def jQ:List CS:=[.ex (.call 17 [(.v 0)]),.asg (.nm 1) (.call 14 [(.ix (.v 0) (.int 1))]),.asg (.nm 2) (.lst []),.fr (.nm 3) (.mU (.ix (.v 0) (.int 0))) Ec,.ret (.v 2)]
def ml (m:List D -> O D):Prop:=∀ k n rs,Dr k n rs -> m [bO n rs] = ok (.lst .ow (iY n rs .ow 0 n))
theorem yi (Φ:az) (Q0:nW (Φ 19)) {d n:Nat} {rs:List Row} (I:Dr d n rs):∀ (k j:Nat) (ds:List D) (c3:Option D),j + k <= 12 -> ds.length = j ->
  ∃ Lj,fh (fun d ρ=>cA (.nm 3) d ρ) (fun ρ=>bM Φ Ec ρ) ((List.range' j k).map fun (i:Nat)=>D.int (i:Int)) [some (bO n rs),some (.tup [.int (aX (bP rs)),.lst .ow (lG (aX (bP rs)) rs)]),some (.lst .ow ds),c3] =
   ok (.nx,[some (bO n rs),some (.tup [.int (aX (bP rs)),.lst .ow (lG (aX (bP rs)) rs)]),some (.lst .ow (ds ++ iY n rs .ow j k)),Lj])
 | 0,j,ds,c3,_,_=>⟨c3,by simp [ip,iY]⟩
 | k + 1,j,ds,c3,hj,hq=>by
  have hn:=I.n2
  have m2:aC ba (bO n rs) = bO n rs:=by simp [bO]
  have hd:bO n rs = .tup [.int n,.lst .fz (cz rs)]:=rfl
  have x0:w4 (bO n rs) (.int 0) = ok (.int n):=by rw [hd];simp
  have k1:aO Φ FQ [some (bO n rs),some (.tup [.int (aX (bP rs)),.lst .ow (lG (aX (bP rs)) rs)]),some (.lst .ow ds),some (.int j)] = ok (.lst .ow (aB ((List.range' 0 n).map fun (h:Nat)=>bc rs j h))):=by
   unfold FQ
   rw [cu (xs:=[.int n]) (ds:=(List.range n).map fun (h:Nat)=>qD (bc rs j h)) (by simp [m2,x0]) (yF Φ (by omega) (by omega)) (bq fun k' hk=>?_) (by simp;exact br (by omega))]
   ·simp [aB,av,List.range_eq_range']
   ·have e:=Q0 d n rs j k' I
    exact ⟨[some (.int k'),some (.tup [.int (aX (bP rs)),.lst .fz (lG (aX (bP rs)) rs)]),some (.int j)],by simp [aT],by simp,by simp [e]⟩
  obtain ⟨Lj,ih⟩:=yi Φ Q0 I k (j + 1) (ds ++ [.lst .ow (aB ((List.range' 0 n).map fun (h:Nat)=>bc rs j h))]) (some (.int j)) (by omega) (by simp [hq])
  have ep:iY n rs .ow j (k + 1) = .lst .ow (aB ((List.range' 0 n).map fun (h:Nat)=>bc rs j h)) :: iY n rs .ow (j + 1) k:=by unfold iY;rw [List.range'_succ,List.map_cons]
  rw [List.range'_succ,List.map_cons,ep]
  have hc:ds.length < eu:=by show _ < 1000000;omega
  refine ⟨Lj,dO (ρ1:=[some (bO n rs),some (.tup [.int (aX (bP rs)),.lst .ow (lG (aX (bP rs)) rs)]),some (.lst .ow ds),some (.int j)]) (by simp) (ρ2:=[some (bO n rs),some (.tup [.int (aX (bP rs)),.lst .ow (lG (aX (bP rs)) rs)]),some (.lst .ow (ds ++ [.lst .ow (aB ((List.range' 0 n).map fun (h:Nat)=>bc rs j h))])),some (.int j)]) ?_ ?_⟩
  ·simp [Ec,QN Φ FQ _ rfl,k1,hc]
  ·exact ih.trans (by simp)
theorem zR (Φ:az) (OQ:gX (Φ 14)) (W5:iE (Φ 17)) (Q0:nW (Φ 19)):ml (mk Φ 1 4 jQ):=by
 intro k n rs I
 have hn:=I.n2
 have e1:=W5 k n rs I
 have e2:=OQ rs k I.DE
 have m2:aC ba (bO n rs) = bO n rs:=by simp [bO]
 have m1:aC aN (bO n rs) = bO n rs:=by simp [bO]
 have hd:bO n rs = .tup [.int n,.lst .fz (cz rs)]:=rfl
 have x1:w4 (bO n rs) (.int 1) = ok (.lst .fz (cz rs)):=by rw [hd];simp
 have x0:∀ r:aA,aO Φ (.ix (.v 0) (.int 0)) (some (bO n rs) :: r) = ok (.int n):=fun r=>by simp [bO]
 obtain ⟨a3,el⟩:=yi Φ Q0 I n 0 [] none (by omega) rfl
 have hit:=JK (Φ:=Φ) (a:=.ix (.v 0) (.int 0)) (ρ:=[some (bO n rs),some (.tup [.int (aX (bP rs)),.lst .ow (lG (aX (bP rs)) rs)]),some (.lst .ow []),none]) (n:=n) (x0 _) (by omega) (by omega)
 rw [Int.toNat_natCast,List.range_eq_range'] at hit
 have hf:=gH (Φ:=Φ) (t:=.nm 3) (b:=Ec) hit el
 rw [List.nil_append] at hf
 simp [mk_eq,jQ,m1,m2,x1,e1,e2,hf]
def uA (p:Int × Int):D:=.tup [.int p.1,.int p.2]
def fc (ps:List (Int × Int)):List D:=ps.map uA
@[simp] theorem EZ (g:Fl -> Fl) (p:Int × Int):aC g (uA p) = uA p:=by unfold uA;simp
@[simp] theorem Fz (g:Fl -> Bool) (p:Int × Int):aH g (uA p) = false:=by unfold uA;simp
@[simp] theorem Ad (g:Fl -> Fl) (ps:List (Int × Int)):ah g (fc ps) = fc ps:=dS g (EZ g) ps
@[simp] theorem As (g:Fl -> Bool) (ps:List (Int × Int)):aw g (fc ps) = false:=cK g (Fz g) ps
@[simp] theorem Mx (ps:List (Int × Int)):(fc ps).length = ps.length:=List.length_map ..
def i0 (hs gs:List Int):List (Int × Int):=gs.flatMap fun g=>hs.map fun h=>(g,h)
def FV:CE:=.comp 1 (.nm 0) [2] .seq [(.v 0)] [] (.tup [(.v 1),(.v 0)])
def Ee:List CS:=[.mut 1013 1 [FV]]
def ud:List CS:=[.asg (.nm 1) (.lst []),.fr (.nm 2) (.seq (.v 0)) Ee,.ret (.v 1)]
def xR (m:List D -> O D):Prop:=∀ f hs,hs.length <= 12 -> bV (ba f) = false -> m [.lst f (ab hs)] = ok (.lst .ow (fc (i0 hs hs)))
theorem zA (Φ:az) (o8:Φ 1013 = xn) (f:Fl) (hs:List Int) (hl:hs.length <= 12):∀ (gs:List Int) (acc:List (Int × Int)) (c:Option D),acc.length + 12 * gs.length <= 200 ->
  ∃ c',fh (fun d ρ=>cA (.nm 2) d ρ) (fun ρ=>bM Φ Ee ρ) (ab gs) [some (.lst f (ab hs)),some (.lst .ow (fc acc)),c] = ok (.nx,[some (.lst f (ab hs)),some (.lst .ow (fc (acc ++ i0 hs gs))),c'])
 | [],acc,c,_=>⟨c,by simp [ip,i0]⟩
 | g :: gs,acc,c,h=>by
  rw [List.length_cons] at h
  have k1:aO Φ FV [some (.lst f (ab hs)),some (.lst .ow (fc acc)),some (.int g)] = ok (.lst .ow (fc (hs.map fun h=>(g,h)))):=by
   unfold FV
   rw [cu (xs:=[.lst (ba f) (ab hs)]) (items:=hs.map D.int) (ds:=hs.map fun h=>uA (g,h)) (by simp) (by rw [d8,eR];rfl) (bq fun h hh=>⟨[some (.int h),some (.int g)],by simp [aT],by simp,by simp [uA]⟩) (by simp;exact br (by omega))]
   simp [fc,av]
  have e1:Φ 1013 [.lst .ow (fc acc),.lst .ow (fc (hs.map fun h=>(g,h)))] = ok (.lst .ow (fc (acc ++ hs.map fun h=>(g,h)))):=by
   rw [o8]
   show (if aw anyF (fc (hs.map fun h=>(g,h))) = false /\ (fc acc).length + (fc (hs.map fun h=>(g,h))).length <= eu then ok (D.lst .ow (fc acc ++ fc (hs.map fun h=>(g,h)))) else none) = _
   rw [if_pos ⟨As _ _,by simp;exact br (by omega)⟩]
   unfold fc
   rw [List.map_append]
  have hx:=Ba (Φ:=Φ) (p:=1013) (i:=1) (es:=[FV]) (ρ:=[some (.lst f (ab hs)),some (.lst .ow (fc acc)),some (.int g)]) (xs:=[.lst .ow (fc (hs.map fun h=>(g,h)))]) (by simp [k1]) (by simp) rfl e1
  obtain ⟨c',ih⟩:=zA Φ o8 f hs hl gs (acc ++ hs.map fun h=>(g,h)) (some (.int g)) (by simp;omega)
  refine ⟨c',dO (ρ1:=[some (.lst f (ab hs)),some (.lst .ow (fc acc)),some (.int g)]) (by simp) (ρ2:=[some (.lst f (ab hs)),some (.lst .ow (fc (acc ++ hs.map fun h=>(g,h)))),some (.int g)]) ?_ ?_⟩
  ·rw [Ee,i5,hx];simp
  ·refine ih.trans ?_
   simp [i0]
theorem Iv (Φ:az) (o8:Φ 1013 = xn):xR (mk Φ 1 3 ud):=by
 intro f hs hl hf
 obtain ⟨c,el⟩:=zA Φ o8 f hs hl hs [] none (by simp;omega)
 have hit:dk Φ (.seq (.v 0)) [some (.lst f (ab hs)),some (.lst .ow []),none] = ok (ab hs,[some (.lst f (ab hs)),some (.lst .ow []),none]):=by
  rw [w6 (f:=ba f) (ds:=ab hs) (by simp)]
  cases f <;> simp [bV,ba] at hf ⊢
 have hx:=gH (Φ:=Φ) (t:=.nm 2) (b:=Ee) hit el
 rw [List.nil_append] at hx
 simp [mk_eq,ud,hx]
def lr:List CS:=[.ret (.ix (.ix (.v 0) (.ix (.v 1) (.int 0))) (.ix (.v 1) (.int 1)))]
def uc:List CS:=[.ret (.call 6 [(.ix (.ix (.v 0) (.ix (.v 1) (.int 0))) (.ix (.v 1) (.int 0))),(.ix (.ix (.v 0) (.ix (.v 1) (.int 1))) (.ix (.v 1) (.int 1)))])]
def pY (m:List D -> O D):Prop:=∀ n rs (g h:Nat),g < n -> h < n -> m [.lst .fz (iY n rs .fz 0 n),uA (g,h)] = ok (qD (bc rs g h))
def xQ (m:List D -> O D):Prop:=∀ k n rs (g h:Nat),Dr k n rs -> g < n -> h < n -> m [.lst .fz (iY n rs .fz 0 n),uA (g,h)] = ok (qD (bc rs g g * bc rs h h))
theorem wO {n:Nat} {rs:List Row} {g h:Nat} (hh:h < n):v5 (aB ((List.range' 0 n).map fun (h:Nat)=>bc rs g h)) (h:Int) = ok (qD (bc rs g h)):=by
 have a2:=pV (qs:=(List.range' 0 n).map fun (h:Nat)=>bc rs g h) (h:=(h:Int)) (by omega) (by simp;omega)
 have a3:cy ((List.range' 0 n).map fun (h:Nat)=>bc rs g h) (h:Int) = bc rs g h:=by
  unfold cy
  rw [Int.toNat_natCast,List.getD_eq_getElem?_getD,List.getElem?_map,List.getElem?_range' hh]
  simp
 rw [a3] at a2
 exact a2
@[simp] theorem VV (p:Int × Int):w4 (uA p) (.int 0) = ok (.int p.1):=by unfold uA;simp
@[simp] theorem VU (p:Int × Int):w4 (uA p) (.int 1) = ok (.int p.2):=by unfold uA;simp
theorem BF (Φ:az):pY (mk Φ 2 2 lr):=by
 intro n rs g h hg hh
 have a1:=BR (rs:=rs) (f:=.fz) hg
 have a2:=wO (rs:=rs) (g:=g) hh
 simp [mk_eq,lr,gL,a1,a2]
theorem Iu (Φ:az) (h6:dA (Φ 6)):xQ (mk Φ 2 2 uc):=by
 intro k n rs g h I hg hh
 have a1:=BR (rs:=rs) (f:=.fz) hg
 have a2:=wO (rs:=rs) (g:=g) hg
 have a3:=BR (rs:=rs) (f:=.fz) hh
 have a4:=wO (rs:=rs) (g:=h) hh
 have e:=h6 _ _ ((i9 I g g).mono (by decide)) ((i9 I h h).mono (by decide))
 simp [mk_eq,uc,gL,a1,a2,a3,a4,e]
def EE (rs:List Row) (ws xs:List Rat) (g h:Int):Rat:=(bc rs g h - bc rs g g * bc rs h h) * (cy ws g * cy xs g * (cy ws h * cy xs h))
def nN:List CS:=[.asg (.nm 4) (.call 6 [(.ix (.v 2) (.ix (.v 1) (.int 0))),(.ix (.v 3) (.ix (.v 1) (.int 0)))]),.asg (.nm 5) (.call 6 [(.ix (.v 2) (.ix (.v 1) (.int 1))),(.ix (.v 3) (.ix (.v 1) (.int 1)))]),.ret (.call 6 [(.call 5 [(.call 62 [(.v 0),(.v 1)]),(.call 61 [(.v 0),(.v 1)])]),(.call 6 [(.v 4),(.v 5)])])]
def uk (m:List D -> O D):Prop:=∀ k n rs f f' ws xs j (g h:Nat),Dr k n rs -> Gs j n ws xs -> g < n -> h < n -> m [.lst .fz (iY n rs .fz 0 n),uA (g,h),.lst f (aB ws),.lst f' (aB xs)] = ok (qD (EE rs ws xs g h))
theorem Ep (Φ:az) (h5:mm (Φ 5)) (h6:dA (Φ 6)) (h61:xQ (Φ 61)) (h62:pY (Φ 62)):uk (mk Φ 4 6 nN):=by
 intro k n rs f f' ws xs j g h I G hg hh
 have hj:=G.jj
 have l1:=G.l1
 have l2:=G.l2
 have sg:=G.s1 _ (bA (qs:=ws) (h:=(g:Int)) (by omega) (by omega)).2
 have sh:=G.s1 _ (bA (qs:=ws) (h:=(h:Int)) (by omega) (by omega)).2
 have tg:=G.s2 _ (bA (qs:=xs) (h:=(g:Int)) (by omega) (by omega)).2
 have th:=G.s2 _ (bA (qs:=xs) (h:=(h:Int)) (by omega) (by omega)).2
 have a1:=pV (qs:=ws) (h:=(g:Int)) (by omega) (by omega)
 have a2:=pV (qs:=ws) (h:=(h:Int)) (by omega) (by omega)
 have a3:=pV (qs:=xs) (h:=(g:Int)) (by omega) (by omega)
 have a4:=pV (qs:=xs) (h:=(h:Int)) (by omega) (by omega)
 have e1:=h6 _ _ (sg.mono (by omega)) (tg.mono (by omega))
 have e2:=h6 _ _ (sh.mono (by omega)) (th.mono (by omega))
 have e3:=h6 _ _ ((sg.mul tg).mono (by omega)) ((sh.mul th).mono (by omega))
 have e4:=h61 k n rs g h I hg hh
 have e5:=h62 n rs g h hg hh
 have s1:=i9 I g h
 have s2:=(i9 I g g).mul (i9 I h h)
 have e6:=h5 _ _ (s1.mono (by decide)) (s2.mono (by decide))
 have e7:=h6 _ _ ((s1.sub s2).mono (by decide)) (((sg.mul tg).mul (sh.mul th)).mono (by omega))
 simp [mk_eq,nN,gL,a1,a2,a3,a4,e1,e2,e3,e4,e5,e6,e7]
 rfl
def KZ:CE:=.comp 1 (.nm 0) [3,1,2] .seq [(.call 60 [(.v 4)])] [] (.call 63 [(.v 1),(.v 0),(.v 2),(.v 3)])
def ir:List CS:=[.asg (.nm 3) (.call 21 [(.v 0)]),.ex (.call 46 [(.v 1),(.ix (.v 0) (.int 0))]),.ex (.call 47 [(.v 2),(.ix (.v 0) (.int 0))]),.asg (.nm 4) (.dt 1041 [(.ix (.v 0) (.int 0))]),.ret (.call 42 [KZ])]
def QE (n:Nat) (rs:List Row) (ws xs:List Rat):Rat:=((i0 (j8 n) (j8 n)).map fun p=>EE rs ws xs p.1 p.2).sum
def iA (m:List D -> O D):Prop:=∀ k n rs f g ws xs j i,Dr k n rs -> Gs j n ws xs -> (∀ g h,Sm i (bc rs g h)) -> (3 * i + 1 + 4 * j) * (n * n) <= 3000 -> m [bO n rs,.lst f (aB ws),.lst g (aB xs)] = ok (qD (QE n rs ws xs))
theorem xY (n:Nat):(j8 (n:Int)).length = n:=by simp [j8]
theorem nq {n:Nat} {h:Int}:h ∈ j8 (n:Int) ↔ ∃ k:Nat,k < n /\ h = k:=by
 unfold j8
 simp [eq_comm]
theorem v9 {hs gs:List Int} {p:Int × Int}:p ∈ i0 hs gs ↔ p.1 ∈ gs /\ p.2 ∈ hs:=by
 unfold i0
 simp only [List.mem_flatMap,List.mem_map]
 constructor
 ·rintro ⟨g,hg,h,hh,rfl⟩;exact ⟨hg,hh⟩
 ·rintro ⟨h1,h2⟩;exact ⟨p.1,h1,p.2,h2,rfl⟩
theorem v_ (hs:List Int):∀ gs:List Int,(i0 hs gs).length = gs.length * hs.length
 | []=>by simp [i0]
 | g :: gs=>by
  have e:i0 hs (g :: gs) = (hs.map fun h=>(g,h)) ++ i0 hs gs:=by simp [i0]
  rw [e,List.length_append,List.length_map,v_ hs gs,List.length_cons,Nat.succ_mul];omega
theorem wK (Φ:az) (h21:ml (Φ 21)) (h42:iC (Φ 42)) (WX:iF 3 kj (Φ 46)) (WW:iF 4 kj (Φ 47)) (h60:xR (Φ 60)) (h63:uk (Φ 63)) (yK:Φ 1041 = Ju):iA (mk Φ 3 5 ir):=by
 intro k n rs f g ws xs j i I G hi hb
 have hn:=I.n2
 have l1:=G.l1
 have l2:=G.l2
 have e1:=h21 k n rs I
 have e2:=fun f=>WX (.lst f (aB ws)) n (by show (aB ws).length <= 1000000;simp;omega)
 have e3:=fun f=>WW (.lst f (aB xs)) n (by show (aB xs).length <= 1000000;simp;omega)
 simp only [ug,l1,decide_true,if_true] at e2
 simp only [ug,l2,decide_true,if_true] at e3
 have e4:Φ 1041 [.int (n:Int)] = ok (.lst .ow (ab (j8 n))):=by
  rw [yK]
  show (if (n:Int) <= eu /\ -eu <= (n:Int) then ok (D.lst .ow ((j8 n).map D.int)) else none) = _
  rw [if_pos ⟨by show (n:Int) <= 1000000;omega,by show -1000000 <= (n:Int);omega⟩]
  rfl
 have e5:=h60 .fz (j8 n) (by rw [xY];exact hn) rfl
 have m2:aC ba (bO n rs) = bO n rs:=by simp [bO]
 have m1:aC aN (bO n rs) = bO n rs:=by simp [bO]
 have hd:bO n rs = .tup [.int n,.lst .fz (cz rs)]:=rfl
 have x0:w4 (bO n rs) (.int 0) = ok (.int n):=by rw [hd];simp
 have hlen:=v_ (j8 n) (j8 n)
 rw [xY] at hlen
 have aaU:n * n <= 144:=Nat.mul_le_mul hn hn
 have k1:aO Φ KZ [some (bO n rs),some (.lst f (aB ws)),some (.lst g (aB xs)),some (.lst .ow (iY n rs .ow 0 n)),some (.lst .ow (ab (j8 n)))] = ok (.lst .ow (aB ((i0 (j8 n) (j8 n)).map fun p=>EE rs ws xs p.1 p.2))):=by
  unfold KZ
  rw [cu (xs:=[.lst .ow (fc (i0 (j8 n) (j8 n)))]) (items:=(i0 (j8 n) (j8 n)).map uA) (ds:=(i0 (j8 n) (j8 n)).map fun p=>qD (EE rs ws xs p.1 p.2)) (by simp [e5]) (by rw [d8,Ad];rfl) (bq fun p hp=>⟨[some (uA p),some (.lst .fz (iY n rs .fz 0 n)),some (.lst (aN f) (aB ws)),some (.lst (aN g) (aB xs))],by simp [aT,gL],by simp,?_⟩) (by simp;exact br (by omega))]
  ·simp [aB,av]
  ·obtain ⟨p1,p2⟩:=v9.mp hp
   obtain ⟨a,ha,ea⟩:=nq.mp p1
   obtain ⟨b,hb,eb⟩:=nq.mp p2
   have Ob:p = ((a:Int),(b:Int)):=Prod.ext ea eb
   subst Ob
   have e:=fun f g=>h63 k n rs f g ws xs j a b I G ha hb
   simp [gL,e]
 have e6:=fun f=>h42 f ((i0 (j8 n) (j8 n)).map fun p=>EE rs ws xs p.1 p.2) (3 * i + 1 + 4 * j) ⟨fun q hq=>by
  obtain ⟨p,hp,rfl⟩:=List.mem_map.mp hq
  obtain ⟨p1,p2⟩:=v9.mp hp
  obtain ⟨a,ha,ea⟩:=nq.mp p1
  obtain ⟨b,hb,eb⟩:=nq.mp p2
  have Ob:p = ((a:Int),(b:Int)):=Prod.ext ea eb
  subst Ob
  have sg:=G.s1 _ (bA (qs:=ws) (h:=(a:Int)) (by omega) (by omega)).2
  have sh:=G.s1 _ (bA (qs:=ws) (h:=(b:Int)) (by omega) (by omega)).2
  have tg:=G.s2 _ (bA (qs:=xs) (h:=(a:Int)) (by omega) (by omega)).2
  have th:=G.s2 _ (bA (qs:=xs) (h:=(b:Int)) (by omega) (by omega)).2
  exact (((hi a b).sub ((hi a a).mul (hi b b))).mul ((sg.mul tg).mul (sh.mul th))).mono (by omega),by rw [List.length_map,hlen];exact hb,by rw [List.length_map,hlen];omega⟩
 have f1:mY .ow = .ow:=rfl
 have f2:=CN bV n rs .ow 0 n rfl
 simp [mk_eq,ir,m1,m2,x0,e1,e2,e3,e4,k1,e6,gL,f1,f2]
 rfl
end DI
end
section
namespace DI
open PySem (Str)
def gQ (ws xs:List Rat) (r:Row):Rat:=eP r.2 fun h=>cy ws h * cy xs h
def mN (rs:List Row) (ws xs:List Rat):Rat:=(rs.map fun r=>r.1 * (gQ ws xs r * gQ ws xs r)).sum
theorem x8 {b c:Nat} {P:List Rat} (hc:∀ q ∈ P,q.den ∣ c):∀ (rs:List Row),(∀ r ∈ rs,r.1.den ∣ b) -> (∀ r ∈ rs,∀ h ∈ r.2,0 <= h /\ h < (P.length:Int)) ->
  ((sv b rs (rs.map fun r=>sumZ r.2 (P.map (aM c))):Int):Rat) = (rs.map fun r=>r.1 * ((eP r.2 fun h=>cy P h) * eP r.2 fun h=>cy P h)).sum * ((b:Rat) * ((c:Rat) * (c:Rat)))
 | [],_,_=>by simp [sv,Rat.zero_mul]
 | r :: rs,hb,hl=>by
  have ih:=x8 hc rs (fun s hs=>hb s (List.mem_cons_of_mem _ hs)) fun s hs=>hl s (List.mem_cons_of_mem _ hs)
  have e:sv b (r :: rs) ((r :: rs).map fun r=>sumZ r.2 (P.map (aM c))) = aM b r.1 * sumZ r.2 (P.map (aM c)) * sumZ r.2 (P.map (aM c)) + sv b rs (rs.map fun r=>sumZ r.2 (P.map (aM c))):=rfl
  rw [e,Rat.intCast_add,Rat.intCast_mul,Rat.intCast_mul,kL (hb r List.mem_cons_self),oe hc r.2 (hl r List.mem_cons_self),ih,List.map_cons,List.sum_cons]
  grind
theorem og {k n j:Nat} {rs:List Row} {ws xs:List Rat} (I:Dr k n rs) (G:Gs j n ws xs):fT rs ws xs = mN rs ws xs - cn rs ws xs * cn rs ws xs:=by
 have hs:=G.DE I.n2
 obtain ⟨c0,_,c2⟩:=hs.lcm
 obtain ⟨b0,_,b2⟩:=I.bot
 have hP:(fU ws xs).length = n:=by unfold fU;rw [List.length_map,List.length_zip,G.l1,G.l2,Nat.min_self]
 have hl:∀ r ∈ rs,∀ h ∈ r.2,0 <= h /\ h < ((fU ws xs).length:Int):=fun r hr h hh=>by rw [hP];exact (I.cf r hr).2 h hh
 have hb:∀ r ∈ rs,r.1.den ∣ aX (bP rs):=fun r hr=>b2 _ (List.mem_map_of_mem hr)
 have t:=x4 (b:=aX (bP rs)) c2 rs hb hl
 have q:=x8 (b:=aX (bP rs)) c2 rs hb hl
 have ea:∀ r ∈ rs,(eP r.2 fun h=>cy (fU ws xs) h) = gQ ws xs r:=fun r hr=>wC fun h hh=>G.at ((I.cf r hr).2 h hh).1 ((I.cf r hr).2 h hh).2
 have e1:(rs.map fun r=>r.1 * eP r.2 fun h=>cy (fU ws xs) h) = rs.map fun r=>r.1 * eP r.2 fun h=>cy ws h * cy xs h:=List.map_congr_left fun r hr=>by rw [ea r hr];rfl
 have e2:(rs.map fun r=>r.1 * ((eP r.2 fun h=>cy (fU ws xs) h) * eP r.2 fun h=>cy (fU ws xs) h)) = rs.map fun r=>r.1 * (gQ ws xs r * gQ ws xs r):=List.map_congr_left fun r hr=>by rw [ea r hr]
 rw [e1] at t
 rw [e2] at q
 unfold fT jh kQ
 generalize j_ (aX (bP rs)) rs _ = T at *
 generalize sv (aX (bP rs)) rs _ = Q at *
 change ((T:Int):Rat) = cn rs ws xs * _ at t
 change ((Q:Int):Rat) = mN rs ws xs * _ at q
 generalize cn rs ws xs = m at *
 generalize mN rs ws xs = s at *
 generalize aX (bP rs) = b at *
 generalize aX (fU ws xs) = c at *
 rw [Rat.divInt_eq_div]
 simp only [Rat.intCast_sub,Rat.intCast_mul,Rat.intCast_natCast,t,q]
 have xf:(b:Rat) ≠ 0:=fun z=>by
  have:((b:Int):Rat) = 0:=by rw [Rat.intCast_natCast];exact z
  rw [Rat.intCast_eq_zero_iff] at this;omega
 have CL:(c:Rat) ≠ 0:=fun z=>by
  have:((c:Int):Rat) = 0:=by rw [Rat.intCast_natCast];exact z
  rw [Rat.intCast_eq_zero_iff] at this;omega
 generalize (b:Rat) = x at *
 generalize (c:Rat) = y at *
 grind
def uu (n:Nat) (f:Nat -> Nat -> Rat):Rat:=((List.range' 0 n).map fun g=>((List.range' 0 n).map fun h=>f g h).sum).sum
theorem vE {α:Type} (f:α -> List Rat):∀ l:List α,(l.flatMap f).sum = (l.map fun a=>(f a).sum).sum
 | []=>rfl
 | a :: l=>by rw [List.flatMap_cons,List.sum_append,vE f l,List.map_cons,List.sum_cons]
theorem Nf (n:Nat) (rs:List Row) (ws xs:List Rat):QE n rs ws xs = uu n fun g h=>EE rs ws xs g h:=by
 unfold QE i0 uu
 rw [List.map_flatMap,vE]
 unfold j8
 rw [Int.toNat_natCast,List.range_eq_range',List.map_map]
 congr 1
 refine List.map_congr_left fun g _=>?_
 show ((((List.range' 0 n).map fun (k:Nat)=>(k:Int)).map fun h=>((g:Int),h)).map fun p=>EE rs ws xs p.1 p.2).sum = _
 rw [List.map_map,List.map_map]
 rfl
theorem Dd (n:Nat) (f g:Nat -> Nat -> Rat):(uu n fun a b=>f a b + g a b) = uu n f + uu n g:=by
 unfold uu
 rw [<- sum_add]
 congr 1
 exact List.map_congr_left fun k _=>sum_add _ _ _
theorem xt (n:Nat) (c:Rat) (f:Nat -> Nat -> Rat):(uu n fun a b=>c * f a b) = c * uu n f:=by
 unfold uu
 rw [<- hZ]
 congr 1
 exact List.map_congr_left fun k _=>hZ _ _ _
theorem ze (n:Nat) (a b:Nat -> Rat):(uu n fun g h=>a g * b h) = ((List.range' 0 n).map a).sum * ((List.range' 0 n).map b).sum:=by
 unfold uu
 have e:((List.range' 0 n).map fun g=>((List.range' 0 n).map fun h=>a g * b h).sum) = (List.range' 0 n).map fun g=>((List.range' 0 n).map b).sum * a g:=List.map_congr_left fun g _=>by
  show ((List.range' 0 n).map fun h=>a g * b h).sum = _
  rw [hZ (a g) b,Rat.mul_comm]
 rw [e,hZ,Rat.mul_comm]
theorem vG {n:Nat} {f g:Nat -> Nat -> Rat} (h:∀ a b,f a b = g a b):uu n f = uu n g:=by rw [show f = g from funext fun a=>funext fun b=>h a b]
theorem zf (n:Nat) (ws xs:List Rat):∀ (rs:List Row),(∀ r ∈ rs,p_ n r.2) -> (uu n fun g h=>bc rs g h * (cy ws g * cy xs g * (cy ws h * cy xs h))) = mN rs ws xs
 | [],_=>by
  have e:(uu n fun g h=>bc [] g h * (cy ws g * cy xs g * (cy ws h * cy xs h))) = uu n fun g h=>0 * (cy ws g * cy xs g * (cy ws h * cy xs h)):=rfl
  rw [e,xt,Rat.zero_mul];rfl
 | r :: rs,h=>by
  have ih:=zf n ws xs rs fun s hs=>h s (List.mem_cons_of_mem _ hs)
  have hl:=h r List.mem_cons_self
  have e2:=h_ (fun h=>cy ws h * cy xs h) n 0 r.2 hl.1 fun y hy=>by have:=hl.2 y hy;constructor <;> omega
  have eg:gQ ws xs r = ((List.range' 0 n).map fun (i:Nat)=>if (i:Int) ∈ r.2 then cy ws i * cy xs i else 0).sum:=e2.symm
  have e1:mN (r :: rs) ws xs = r.1 * (gQ ws xs r * gQ ws xs r) + mN rs ws xs:=by unfold mN;rw [List.map_cons,List.sum_cons]
  rw [e1,<- ih,eg,<- ze,<- xt,<- Dd]
  refine vG fun a b=>?_
  rw [oG]
  by_cases ha:(a:Int) ∈ r.2 <;> by_cases hb:(b:Int) ∈ r.2 <;> simp [dW,ha,hb] <;> grind
theorem zW {k n j:Nat} {rs:List Row} {ws xs:List Rat} (I:Dr k n rs) (G:Gs j n ws xs):QE n rs ws xs = fT rs ws xs:=by
 rw [og I G,Nf,rJ n ws xs rs I.cf,<- zf n ws xs rs I.cf,<- ze]
 have e:(uu n fun g h=>EE rs ws xs g h) = uu n fun g h=>bc rs g h * (cy ws g * cy xs g * (cy ws h * cy xs h)) + (-1) * (cy ws g * cy xs g * bc rs g g * (cy ws h * cy xs h * bc rs h h)):=vG fun a b=>by unfold EE;grind
 rw [e,Dd,xt]
 grind
def m9 (rs:List Row) (ws xs:List Rat) (m:Rat):Rat:=(rs.map fun r=>r.1 * ((gQ ws xs r - m) * (gQ ws xs r - m))).sum
theorem Dj (ws xs:List Rat) (m:Rat):∀ rs:List Row,m9 rs ws xs m = mN rs ws xs - 2 * m * cn rs ws xs + m * m * (rs.map (·.1)).sum
 | []=>by simp [m9,mN,cn];grind
 | r :: rs=>by
  have ih:=Dj ws xs m rs
  have e1:m9 (r :: rs) ws xs m = r.1 * ((gQ ws xs r - m) * (gQ ws xs r - m)) + m9 rs ws xs m:=by unfold m9;rw [List.map_cons,List.sum_cons]
  have e2:mN (r :: rs) ws xs = r.1 * (gQ ws xs r * gQ ws xs r) + mN rs ws xs:=by unfold mN;rw [List.map_cons,List.sum_cons]
  have e3:cn (r :: rs) ws xs = r.1 * gQ ws xs r + cn rs ws xs:=by unfold cn gQ;rw [List.map_cons,List.sum_cons]
  rw [e1,e2,e3,ih,List.map_cons,List.sum_cons]
  grind
theorem xx {k n j:Nat} {rs:List Row} {ws xs:List Rat} (I:Dr k n rs) (G:Gs j n ws xs):m9 rs ws xs (cn rs ws xs) = fT rs ws xs:=by
 rw [og I G,Dj,I.one]
 grind
end DI
end
section
namespace DI
open PySem (Str)
def Fm (M B:Nat) (q:Rat):Prop:=0 < M /\ ∃ z:Int,z.natAbs <= B /\ q * (M:Rat) = (z:Rat)
section
variable {M N B C:Nat} {p q:Rat}
theorem Jk {M:Nat} (h:0 < M):(M:Rat) ≠ 0:=fun z=>by
 have:((M:Int):Rat) = 0:=by rw [Rat.intCast_natCast];exact z
 rw [Rat.intCast_eq_zero_iff] at this;omega
theorem Fm.divInt (h:Fm M B q):∃ z:Int,z.natAbs <= B /\ q = Rat.divInt z M:=by
 obtain ⟨h0,z,hz,e⟩:=h
 refine ⟨z,hz,?_⟩
 rw [Rat.divInt_eq_div,<- e,Rat.intCast_natCast]
 have:=Jk h0
 grind
theorem Fm.sm {k:Nat} (h:Fm M B q) (h1:M < 2 ^ k) (h2:B < 2 ^ k):Sm k q:=by
 have h0:=h.1
 obtain ⟨z,hz,rfl⟩:=h.divInt
 exact rm (by omega) (by omega) (by simpa using h1)
theorem Fm.mono (h:Fm M B q) (hl:B <= C):Fm M C q:=⟨h.1,h.2.choose,Nat.le_trans h.2.choose_spec.1 hl,h.2.choose_spec.2⟩
theorem Fm.add (h:Fm M B p) (h':Fm M C q):Fm M (B + C) (p + q):=by
 obtain ⟨h0,z,hz,e⟩:=h
 obtain ⟨_,w,hw,e'⟩:=h'
 exact ⟨h0,z + w,by omega,by rw [Rat.intCast_add,<- e,<- e'];grind⟩
theorem Fm.sub (h:Fm M B p) (h':Fm M C q):Fm M (B + C) (p - q):=by
 obtain ⟨h0,z,hz,e⟩:=h
 obtain ⟨_,w,hw,e'⟩:=h'
 exact ⟨h0,z - w,by omega,by rw [Rat.intCast_sub,<- e,<- e'];grind⟩
theorem Fm.mul (h:Fm M B p) (h':Fm N C q):Fm (M * N) (B * C) (p * q):=by
 obtain ⟨h0,z,hz,e⟩:=h
 obtain ⟨h0',w,hw,e'⟩:=h'
 exact ⟨Nat.mul_pos h0 h0',z * w,by rw [Int.natAbs_mul];exact Nat.mul_le_mul hz hw,by rw [Rat.intCast_mul,<- e,<- e',Rat.natCast_mul];grind⟩
theorem Fm.lift (c:Nat) (hc:0 < c) (h:Fm M B q):Fm (c * M) (c * B) q:=by
 obtain ⟨h0,z,hz,e⟩:=h
 exact ⟨Nat.mul_pos hc h0,c * z,by rw [Int.natAbs_mul,Int.natAbs_natCast];exact Nat.mul_le_mul_left _ hz,by rw [Rat.intCast_mul,<- e,Rat.natCast_mul,Rat.intCast_natCast];grind⟩
theorem Fm.zero (h:0 < M):Fm M 0 0:=⟨h,0,by decide,by rw [Rat.zero_mul];rfl⟩
theorem Fm.sum {qs:List Rat} (h0:0 < M) (h:∀ q ∈ qs,Fm M B q):Fm M (qs.length * B) qs.sum:=by
 induction qs with
 | nil=>simpa using Fm.zero h0
 | cons q qs ih =>
  rw [List.sum_cons,List.length_cons,Nat.succ_mul,Nat.add_comm]
  exact (h q List.mem_cons_self).add (ih fun p hp=>h p (List.mem_cons_of_mem _ hp))
theorem C4 (h0:0 < M) (hd:q.den ∣ M) (hn:q.num.natAbs <= B * q.den):Fm M (B * M) q:=by
 obtain ⟨c,rfl⟩:=hd
 refine ⟨h0,q.num * c,?_,?_⟩
 ·rw [Int.natAbs_mul,Int.natAbs_natCast,<- Nat.mul_assoc]
  exact Nat.mul_le_mul_right _ hn
 ·rw [Rat.intCast_mul,GZ,Rat.natCast_mul,Rat.intCast_natCast];grind
theorem OU (h:Sm 3 q):Fm 420 (7 * 420) q:=by
 have hp:=q.den_pos
 have h1:=h.1
 have h2:=h.2
 refine C4 (by decide) ?_ ?_
 ·have:q.den = 1 \/ q.den = 2 \/ q.den = 3 \/ q.den = 4 \/ q.den = 5 \/ q.den = 6 \/ q.den = 7:=by omega
  rcases this with e | e | e | e | e | e | e <;> rw [e] <;> decide
 ·have:7 * 1 <= 7 * q.den:=Nat.mul_le_mul_left _ hp
  omega
end
theorem Hs {k n W:Nat} {rs:List Row} (I:Dr k n rs) (h0:0 < W) (hd:∀ r ∈ rs,r.1.den ∣ W) {r:Row} (hr:r ∈ rs):Fm W (1 * W) r.1:=by
 refine C4 h0 (hd r hr) ?_
 have h:=eJ (fun s=>decide (s = r)) rs I.pos
 have hp:=I.pos r hr
 have key:∀ l:List Row,(∀ s ∈ l,0 < s.1) -> r ∈ l -> r.1 <= (bP l).sum:=fun l=>by
  induction l with
  | nil=>intro _ h;cases h
  | cons s l ih =>
   intro hp hm
   have e:(bP (s :: l)).sum = s.1 + (bP l).sum:=rfl
   rw [e]
   have h1:=hp s List.mem_cons_self
   have h2:=(eJ (fun _=>true) l fun x hx=>hp x (List.mem_cons_of_mem _ hx)).1
   have h3:l.filter (fun _=>true) = l:=by simp
   rw [h3] at h2
   rcases List.mem_cons.mp hm with rfl | hm
   ·grind
   ·have:=ih (fun x hx=>hp x (List.mem_cons_of_mem _ hx)) hm
    grind
 have h1:r.1 <= 1:=by have:=key rs I.pos hr;have e:(bP rs).sum = 1:=I.one;rw [e] at this;exact this
 have n0:=rC hp
 have:r.1.num <= r.1.den:=by
  rw [Rat.le_iff] at h1
  simpa using h1
 omega
theorem Xc {n M B:Nat} {cf:List Int} {f:Int -> Rat} (h0:0 < M) (hl:cf.length <= n) (h:∀ x ∈ cf,Fm M B (f x)):Fm M (n * B) (eP cf f):=by
 have:=Fm.sum (qs:=cf.map f) h0 fun q hq=>by
  obtain ⟨x,hx,rfl⟩:=List.mem_map.mp hq
  exact h x hx
 rw [List.length_map] at this
 exact this.mono (Nat.mul_le_mul_right _ hl)
def Ho:Nat:=12 * (7 * 420 * (7 * 420))
def L5:Nat:=420 * 420
theorem Hr {k n:Nat} {rs:List Row} {ws xs:List Rat} (I:Dr k n rs) (G:Gs 3 n ws xs) {r:Row} (hr:r ∈ rs):Fm L5 Ho (gQ ws xs r):=by
 have hl:=I.cf r hr
 have hn:=I.n2
 refine Xc (by decide) (by have:=hl.len;omega) fun h hh=>?_
 obtain ⟨a,b⟩:=hl.2 h hh
 exact (OU (G.s1 _ (bA (qs:=ws) a (by rw [G.l1];exact b)).2)).mul (OU (G.s2 _ (bA (qs:=xs) a (by rw [G.l2];exact b)).2))
theorem FI {k n W:Nat} {rs:List Row} {ws xs:List Rat} (I:Dr k n rs) (hl:rs.length <= 12) (G:Gs 3 n ws xs) (h0:0 < W) (hd:∀ r ∈ rs,r.1.den ∣ W):Fm (W * L5) (12 * (W * Ho)) (cn rs ws xs):=by
 have:=Fm.sum (M:=W * L5) (B:=W * Ho) (qs:=rs.map fun r=>r.1 * gQ ws xs r) (Nat.mul_pos h0 (by decide)) fun q hq=>by
  obtain ⟨r,hr,rfl⟩:=List.mem_map.mp hq
  have:=(Hs I h0 hd hr).mul (Hr I G hr)
  rw [Nat.one_mul] at this
  exact this
 rw [List.length_map] at this
 exact this.mono (Nat.mul_le_mul_right _ hl)
def jV (m:List D -> O D):Prop:=∀ n rs f g ws xs,Dr 6 n rs -> Gz rs -> Gs 3 n ws xs -> m [bO n rs,.lst f (aB ws),.lst g (aB xs)] = ok (qD (m9 rs ws xs (cn rs ws xs)))
def jH:List CS:=[.asg (.nm 7) (.call 222 [(.call 231 [(.v 1),(.v 6),(.v 2)]),(.v 3)]),.asg (.nm 4) (.call 202 [(.v 4),(.call 203 [(.v 5),(.call 203 [(.v 7),(.v 7)])])])]
def jR:List CS:=[.asg (.nm 3) (.call 232 [(.v 0),(.v 1),(.v 2)]),.asg (.nm 4) (.tup [(.int 0),(.int 1)]),.fr (.tp [5,6]) (.seq (.ix (.v 0) (.int 1))) jH,.ret (.v 4)]
structure LsB (W M Bm Bg dv:Nat):Prop where
 w1:W < 64
 m1:M < 2 ^ 200
 m2:M * M < 2 ^ 200
 m3:W * (M * M) < 2 ^ 200
 bm:Bm < 2 ^ 200
 bg:Bg < 2 ^ 200
 ds:Bg + Bm <= dv
 d1:dv < 2 ^ 200
 d2:dv * dv < 2 ^ 200
 d3:12 * (64 * (dv * dv)) < 2 ^ 200
theorem kW (Φ:az) (k_:mJ (Φ 202)) (ka:dA (Φ 203)) (FE:mm (Φ 222)) (tw:gY (Φ 231)) (f g:Fl) (ws xs:List Rat) (n:Nat) {W M Bm Bg dv:Nat} (L:LsB W M Bm Bg dv) (hn:n <= 12) (G:Gs 3 n ws xs) (m:Rat) (sm:Fm M Bm m) (c0:Option D):∀ (rs:List Row) (acc:Rat) (i:Nat) (c5 c6 c7:Option D),
  (∀ r ∈ rs,p_ n r.2 /\ Fm W (1 * W) r.1 /\ Fm M Bg (gQ ws xs r)) -> Fm (W * (M * M)) (i * (64 * (dv * dv))) acc -> i + rs.length <= 12 ->
  ∃ Li Lh Lg,fh (fun d ρ=>cA (.tp [5,6]) d ρ) (fun ρ=>bM Φ jH ρ) (cz rs) [c0,some (.lst f (aB ws)),some (.lst g (aB xs)),some (qD m),some (qD acc),c5,c6,c7] = ok (.nx,[c0,some (.lst f (aB ws)),some (.lst g (aB xs)),some (qD m),some (qD (acc + m9 rs ws xs m)),Li,Lh,Lg])
 | [],acc,i,c5,c6,c7,_,_,_=>⟨c5,c6,c7,by simp [m9,cz,ip,Rat.add_zero]⟩
 | r :: rs,acc,i,c5,c6,c7,hm,hs,hi=>by
  rw [List.length_cons] at hi
  obtain ⟨hl,s1,s2⟩:=hm r List.mem_cons_self
  have e0:=fun f g=>tw f g n r.2 ws xs 3 3 hl hn (G.two (by decide))
  change ∀ f g,Φ 231 _ = ok (qD (gQ ws xs r)) at e0
  have s3:Fm M dv (gQ ws xs r - m):=(s2.sub sm).mono L.ds
  have s4:=s3.mul s3
  have s5:Fm (W * (M * M)) (64 * (dv * dv)) (r.1 * ((gQ ws xs r - m) * (gQ ws xs r - m))):=(s1.mul s4).mono (Nat.mul_le_mul_right _ (by have:=L.w1;omega))
  have up:∀ {M B q},Fm M B q -> M < 2 ^ 200 -> B < 2 ^ 200 -> Sm 4000 q:=fun h a b=>(h.sm a b).mono (by decide)
  have hW:W < 2 ^ 200:=Nat.lt_of_lt_of_le L.w1 (Nat.pow_le_pow_right (n:=2) (by decide) (show 6 <= 200 by decide))
  have e1:=FE (gQ ws xs r) m (up s2 L.m1 L.bg) (up sm L.m1 L.bm)
  have e2:=ka _ _ (up s3 L.m1 L.d1) (up s3 L.m1 L.d1)
  have e3:=ka r.1 _ (up s1 hW (by rw [Nat.one_mul];exact hW)) (up s4 L.m2 L.d2)
  have ur:64 * (dv * dv) <= 12 * (64 * (dv * dv)):=Nat.le_mul_of_pos_left _ (by decide)
  have fg:i * (64 * (dv * dv)) < 2 ^ 200:=Nat.lt_of_le_of_lt (Nat.mul_le_mul_right _ (show i <= 12 by omega)) L.d3
  have e4:=k_ acc _ (up hs L.m3 fg) (up s5 L.m3 (Nat.lt_of_le_of_lt ur L.d3))
  obtain ⟨Li,Lh,Lg,ih⟩:=kW Φ k_ ka FE tw f g ws xs n L hn G m sm c0 rs (acc + r.1 * ((gQ ws xs r - m) * (gQ ws xs r - m))) (i + 1) (some (qD r.1)) (some (.tup (ab r.2))) (some (qD (gQ ws xs r - m))) (fun x hx=>hm x (List.mem_cons_of_mem _ hx)) (by rw [Nat.succ_mul];exact hs.add s5) (by omega)
  refine ⟨Li,Lh,Lg,dO (ρ1:=[c0,some (.lst f (aB ws)),some (.lst g (aB xs)),some (qD m),some (qD acc),some (qD r.1),some (.tup (ab r.2)),c7]) (by simp [rD]) (ρ2:=[c0,some (.lst f (aB ws)),some (.lst g (aB xs)),some (qD m),some (qD (acc + r.1 * ((gQ ws xs r - m) * (gQ ws xs r - m)))),some (qD r.1),some (.tup (ab r.2)),some (qD (gQ ws xs r - m))]) ?_ ?_⟩
  ·simp [jH,e0,e1,e2,e3,e4]
  ·refine ih.trans ?_
   have:m9 (r :: rs) ws xs m = r.1 * ((gQ ws xs r - m) * (gQ ws xs r - m)) + m9 rs ws xs m:=by unfold m9;rw [List.map_cons,List.sum_cons]
   rw [this,Rat.add_assoc]
theorem Vc {W:Nat} (w1:W < 64):LsB W (W * L5) (12 * (W * Ho)) (W * Ho) (13 * (64 * Ho)):=by
 have hW:W <= 64:=by omega
 have a1:W * L5 <= 64 * L5:=Nat.mul_le_mul_right _ hW
 have a2:W * Ho <= 64 * Ho:=Nat.mul_le_mul_right _ hW
 exact ⟨w1,Nat.lt_of_le_of_lt a1 (by decide +kernel),Nat.lt_of_le_of_lt (Nat.mul_le_mul a1 a1) (by decide +kernel),Nat.lt_of_le_of_lt (Nat.mul_le_mul hW (Nat.mul_le_mul a1 a1)) (by decide +kernel),Nat.lt_of_le_of_lt (Nat.mul_le_mul_left _ a2) (by decide +kernel),Nat.lt_of_le_of_lt a2 (by decide +kernel),by omega,by decide +kernel,by decide +kernel,by decide +kernel⟩
theorem zS (Φ:az) (k_:mJ (Φ 202)) (ka:dA (Φ 203)) (FE:mm (Φ 222)) (tw:gY (Φ 231)) (W2:um (Φ 232)):jV (mk Φ 3 8 jR):=by
 intro n rs f g ws xs I Fi G
 have z0:D.tup [.int 0,.int 1] = qD 0:=rfl
 have hf:=I.yZ
 obtain ⟨W,w0,w1,w2⟩:=Fi
 have em:=fun f g=>W2 n rs f g ws xs 3 3 I (G.two (by decide))
 have sm:=FI I (by omega) G w0 w2
 obtain ⟨c5,c6,c7,e⟩:=kW Φ k_ ka FE tw f g ws xs n (Vc w1) I.n2 G (cn rs ws xs) sm (some (bO n rs)) rs 0 0 none none none (fun r hr=>⟨I.cf r hr,Hs I w0 w2 hr,(Hr I G hr).lift W w0⟩) (by
  rw [Nat.zero_mul]
  exact Fm.zero (Nat.mul_pos w0 (Nat.mul_pos (Nat.mul_pos w0 (by decide)) (Nat.mul_pos w0 (by decide))))) (by omega)
 rw [Rat.zero_add] at e
 have m1:aC aN (bO n rs) = bO n rs:=by simp [bO]
 have m2:aC ba (bO n rs) = bO n rs:=by simp [bO]
 have x1:aO Φ (.ix (.v 0) (.int 1)) [some (bO n rs),some (.lst f (aB ws)),some (.lst g (aB xs)),some (qD (cn rs ws xs)),some (qD 0),none,none,none] = ok (.lst .fz (cz rs)):=by simp [bO]
 have hit:dk Φ (.seq (.ix (.v 0) (.int 1))) [some (bO n rs),some (.lst f (aB ws)),some (.lst g (aB xs)),some (qD (cn rs ws xs)),some (qD 0),none,none,none] = ok (cz rs,[some (bO n rs),some (.lst f (aB ws)),some (.lst g (aB xs)),some (qD (cn rs ws xs)),some (qD 0),none,none,none]):=by
  rw [w6 x1]
  simp
 have hx:=gH (Φ:=Φ) (t:=.tp [5,6]) (b:=jH) hit e
 simp [mk_eq,jR,z0,m1,m2,em,hx]
end DI
end
section
namespace DI
open PySem (Str)
def Br:List CS:=[.ifs (.or [(.not (.call 204 [(.v 9)])),(.cmp .ne (.v 9) (.v 8))]) [.ret (.bl false)] []]
def Q9:CE:=.lst [(.call 65 [(.ix (.v 6) (.int 0)),(.ix (.v 6) (.int 1)),(.v 7)]),(.call 66 [(.ix (.v 6) (.int 0)),(.ix (.v 6) (.int 1)),(.v 7)])]
def MO:List CS:=[.asg (.nm 8) (.call 237 [(.v 1),(.v 3),(.v 7)]),.fr (.nm 9) (.seq Q9) Br]
def IV:List CS:=[.asg (.nm 1) (.call 212 [(.v 0),(.int 0),(.int 5)]),.asg (.nm 2) (.ix (.v 1) (.int 0)),.asg (.nm 3) (.call 230 [(.call 200 [(.v 0),(.int 8)]),(.v 2)]),.asg (.nm 4) (.call 230 [(.call 200 [(.v 0),(.int 9)]),(.v 2)]),.asg (.nm 5) (.call 230 [(.call 200 [(.v 0),(.int 10)]),(.v 2)]),.asg (.nm 6) (.lst [(.call 215 [(.v 1)]),(.bf .list1 [(.v 3)])])]
def Nm:List CS:=[.fr (.nm 7) (.seq (.lst [(.v 4),(.v 5),(.v 4)])) MO,.ret (.cmp .eq (.v 6) (.lst [(.v 1),(.v 3)]))]
def lA:List CS:=IV ++ Nm
theorem wz (Φ:az) (OL:jW (Φ 65)) (OK:iA (Φ 66)) (CV:zC (Φ 204)) (CU:jV (Φ 237)) {n:Nat} {rs:List Row} {ws qs:List Rat} (I:Dr 6 n rs) (n5:n <= 5) (Fi:Gz rs) (G:Gs 3 n ws qs) (c0 c2 c4 c5 c8 c9:Option D) :
  ∃ P2 c9',bM Φ MO [c0,some (gG .ow n rs),c2,some (.lst .ow (aB ws)),c4,c5,some (.lst .ow [gG .ow n rs,.lst .ow (aB ws)]),some (.lst .fz (aB qs)),c8,c9] = ok (.nx,[c0,some (gG .ow n rs),c2,some (.lst .ow (aB ws)),c4,c5,some (.lst .ow [gG .ow n rs,.lst .ow (aB ws)]),some (.lst .fz (aB qs)),P2,c9']):=by
 have e1:=fun f g=>OL 6 n rs f g ws qs 3 I G (by decide)
 have e2:=fun f g=>OK 6 n rs f g ws qs 3 6 I G (wD I Fi) (by
  have:n * n <= 5 * 5:=Nat.mul_le_mul n5 n5
  omega)
 rw [zW I G] at e2
 have e3:=fun f g=>CU n rs f g ws qs I Fi G
 rw [xx I G] at e3
 have e4:=CV (fT rs ws qs)
 have e5:=NA (fT rs ws qs)
 generalize fT rs ws qs = s at *
 have ta:bM Φ Br [c0,some (gG .ow n rs),c2,some (.lst .ow (aB ws)),c4,c5,some (.lst .ow [gG .ow n rs,.lst .ow (aB ws)]),some (.lst .fz (aB qs)),some (qD s),some (qD s)] = ok (.nx,[c0,some (gG .ow n rs),c2,some (.lst .ow (aB ws)),c4,c5,some (.lst .ow [gG .ow n rs,.lst .ow (aB ws)]),some (.lst .fz (aB qs)),some (qD s),some (qD s)]):=by
  simp [Br,e4,e5]
 have ev:aO Φ Q9 [c0,some (gG .ow n rs),c2,some (.lst .ow (aB ws)),c4,c5,some (.lst .ow [gG .ow n rs,.lst .ow (aB ws)]),some (.lst .fz (aB qs)),some (qD s),c9] = ok (.lst .ow [qD s,qD s]):=by
  simp [Q9,C_,e1,e2]
 have hit:dk Φ (.seq Q9) [c0,some (gG .ow n rs),c2,some (.lst .ow (aB ws)),c4,c5,some (.lst .ow [gG .ow n rs,.lst .ow (aB ws)]),some (.lst .fz (aB qs)),some (qD s),c9] = ok ([qD s,qD s],[c0,some (gG .ow n rs),c2,some (.lst .ow (aB ws)),c4,c5,some (.lst .ow [gG .ow n rs,.lst .ow (aB ws)]),some (.lst .fz (aB qs)),some (qD s),c9]):=by
  rw [w6 ev];simp
 have key:=dO (bind:=fun d ρ=>cA (.nm 9) d ρ) (body:=fun ρ=>bM Φ Br ρ) (x:=qD s) (xs:=[qD s]) (ρ:=[c0,some (gG .ow n rs),c2,some (.lst .ow (aB ws)),c4,c5,some (.lst .ow [gG .ow n rs,.lst .ow (aB ws)]),some (.lst .fz (aB qs)),some (qD s),c9]) (kR (by simp)) ta (dO (kR (by simp)) ta (ip ..))
 have hf:=gH (Φ:=Φ) (t:=.nm 9) (b:=Br) hit key
 refine ⟨some (qD s),some (qD s),?_⟩
 simp [MO,C_,e3,hf]
theorem AH (n:Nat) (rs:List Row) (ws:List Rat) (f g a b a' b':Fl):fS .eq (.lst f [gG a n rs,.lst b (aB ws)]) (.lst g [gG a' n rs,.lst b' (aB ws)]) = ok (.bl true):=by
 have k1:∀ a,dZ 39 (gG a n rs) = true:=fun a=>by
  unfold gG
  rw [nB]
  simp only [List.all_cons,List.all_nil,fV,Bool.true_and,Bool.and_true]
  rw [sP]
  exact nC (Nv 35) rs
 rw [Lf (by rw [sP];simp only [List.all_cons,List.all_nil,B6 37,k1,Bool.and_self]) (by rw [sP];simp only [List.all_cons,List.all_nil,B6 37,k1,Bool.and_self])]
 have k2:lj (gG a n rs) (gG a' n rs) = true:=by
  show (((n:Int) == (n:Int)) && (ez (cz rs) (cz rs) && true)) = true
  rw [FL];simp
 show ok (D.bl (lj (gG a n rs) (gG a' n rs) && (ez (aB ws) (aB ws) && true))) = _
 rw [k2,FN];simp
theorem NO (Φ:az) (OL:jW (Φ 65)) (OK:iA (Φ 66)) (tx:p3 (Φ 200)) (CV:zC (Φ 204)) (W4:mq (Φ 212)) (W3:mn (Φ 215)) (Ke:uo (Φ 230)) (CU:jV (Φ 237)) (ns:List Int) :
  mk Φ 1 10 lA [.lst .sc (ab ns)] = ok (.bl true):=by
 obtain ⟨n,rs,hn,I,Fi,e1⟩:=W4 ns 0 5 (by decide) (by decide) (by decide)
 have n2:=I.n2
 have c8:=tx ns 8 (by decide)
 have c9:=tx ns 9 (by decide)
 have c10:=tx ns 10 (by decide)
 obtain ⟨ws,w1,w2,w3⟩:=Ke (bt ns 8) n n2
 obtain ⟨xs,x1,x2,x3⟩:=Ke (bt ns 9) n n2
 obtain ⟨os,o1,o2,o3⟩:=Ke (bt ns 10) n n2
 have Gx:Gs 3 n ws xs:=⟨w2,x2,w3,x3,by decide⟩
 have Go:Gs 3 n ws os:=⟨w2,o2,w3,o3,by decide⟩
 have L_:Φ 212 [.lst .sc (ab ns),.int 0,.int 5] = ok (gG .ow n rs):=e1
 have e2:Φ 215 [bO n rs] = ok (gG .ow n rs):=W3 n rs
 rw [mk_eq (show [D.lst .sc (ab ns)].length = 1 from rfl)]
 show qJ (bM Φ lA [some (.lst .sc (ab ns)),none,none,none,none,none,none,none,none,none]) = _
 have ga:bM Φ IV [some (.lst .sc (ab ns)),none,none,none,none,none,none,none,none,none] = ok (.nx,[some (.lst .sc (ab ns)),some (gG .ow n rs),some (.int n),some (.lst .ow (aB ws)),some (.lst .ow (aB xs)),some (.lst .ow (aB os)),some (.lst .ow [gG .ow n rs,.lst .ow (aB ws)]),none,none,none]):=by
  simp [IV,L_,C_,e2,c8,c9,c10,w1,x1,o1]
 rw [lA,xU Φ _ _ _ _ ga]
 obtain ⟨p8,p9,t1⟩:=wz Φ OL OK CV CU I hn Fi Gx (some (.lst .sc (ab ns))) (some (.int n)) (some (.lst .fz (aB xs))) (some (.lst .fz (aB os))) none none
 obtain ⟨q8,q9,t2⟩:=wz Φ OL OK CV CU I hn Fi Go (some (.lst .sc (ab ns))) (some (.int n)) (some (.lst .fz (aB xs))) (some (.lst .fz (aB os))) p8 p9
 obtain ⟨r8,r9,t3⟩:=wz Φ OL OK CV CU I hn Fi Gx (some (.lst .sc (ab ns))) (some (.int n)) (some (.lst .fz (aB xs))) (some (.lst .fz (aB os))) q8 q9
 have hit:dk Φ (.seq (.lst [(.v 4),(.v 5),(.v 4)])) [some (.lst .sc (ab ns)),some (gG .ow n rs),some (.int n),some (.lst .ow (aB ws)),some (.lst .ow (aB xs)),some (.lst .ow (aB os)),some (.lst .ow [gG .ow n rs,.lst .ow (aB ws)]),none,none,none] =
   ok ([.lst .fz (aB xs),.lst .fz (aB os),.lst .fz (aB xs)],[some (.lst .sc (ab ns)),some (gG .ow n rs),some (.int n),some (.lst .ow (aB ws)),some (.lst .fz (aB xs)),some (.lst .fz (aB os)),some (.lst .ow [gG .ow n rs,.lst .ow (aB ws)]),none,none,none]):=by
  rw [w6 (f:=.ow) (ds:=[.lst .al (aB xs),.lst .al (aB os),.lst .al (aB xs)]) (by simp)]
  simp [gO,du]
 have key:=dO (bind:=fun d ρ=>cA (.nm 7) d ρ) (body:=fun ρ=>bM Φ MO ρ) (x:=.lst .fz (aB xs)) (xs:=[.lst .fz (aB os),.lst .fz (aB xs)]) (ρ:=[some (.lst .sc (ab ns)),some (gG .ow n rs),some (.int n),some (.lst .ow (aB ws)),some (.lst .fz (aB xs)),some (.lst .fz (aB os)),some (.lst .ow [gG .ow n rs,.lst .ow (aB ws)]),none,none,none]) (kR (by simp)) t1 (dO (kR (by simp)) t2 (dO (kR (by simp)) t3 (ip ..)))
 have hf:=gH (Φ:=Φ) (t:=.nm 7) (b:=MO) hit key
 have f4:=fun f g a b a' b'=>AH n rs ws f g a b a' b'
 rw [Nm,i5,hf]
 simp [f4]
end DI
end
def PySem.W.Fast.tw16500259265741078062:Nat:=0
def PySem.W.Fast.tw14969244727090920280:Nat:=0
def PySem.W.Fast.tw3710700676885208285:Nat:=0
def PySem.W.Fast.tw13956415260008923565:Nat:=0
def PySem.W.Fast.tw5526448119001263472:Nat:=0
def PySem.W.Fast.tw6413669033074271741:Nat:=0
def PySem.W.Fast.tw5044349795702686988:Nat:=0
def PySem.W.Fast.tw11708945131839577464:Nat:=0
def PySem.W.Fast.tw8846894439411411010:Nat:=0
def PySem.W.Fast.tw4051115189897572538:Nat:=0
def PySem.W.Fast.tw28034041813940527:Nat:=0
def PySem.W.Fast.tw13435783391808614458:Nat:=0
def PySem.W.Fast.tw6897305120098066005:Nat:=0
def PySem.W.Fast.tw14553074941073447346:Nat:=0
def PySem.W.Fast.tw17168912896056049194:Nat:=0
def PySem.W.Fast.tw8320296280792717529:Nat:=0
def PySem.W.Fast.tw6991835366515343797:Nat:=0
def PySem.W.Fast.tw15127179893576954080:Nat:=0
def PySem.W.Fast.tw15396713614280117112:Nat:=0
def PySem.W.Fast.tw16770430944718766485:Nat:=0
def PySem.W.Fast.tw13385954476301353437:Nat:=0
def PySem.W.Fast.tw8617248955095101485:Nat:=0
def PySem.W.Fast.tw14667758324856962043:Nat:=0
def PySem.W.Fast.tw13680639618555458076:Nat:=0
def PySem.W.Fast.tw15537584898294775762:Nat:=0
def PySem.W.Fast.tw17391695058343875990:Nat:=0
def PySem.W.Fast.tw12784114014014206081:Nat:=0
def PySem.W.Fast.tw293533465374453482:Nat:=0
def PySem.W.Fast.tw2038933186691038456:Nat:=0
def PySem.W.Fast.tw6736164458039537655:Nat:=0
def PySem.W.Fast.tw18040292538788027521:Nat:=0
def PySem.W.Fast.tw12262940895928059540:Nat:=0
def PySem.W.Fast.tw9897673838307017281:Nat:=0
def PySem.W.Fast.tw15176118490200679451:Nat:=0
def PySem.W.Fast.tw4262261327030134029:Nat:=0
def PySem.W.Fast.tw3346554806875397919:Nat:=0
def PySem.W.Fast.tw191519805241132744:Nat:=0
def PySem.W.Fast.tw17043899974212711021:Nat:=0
def PySem.W.Fast.tw11381746510258341895:Nat:=0
def PySem.W.Fast.tw4847933270252986369:Nat:=0
def PySem.W.Fast.tw12470394140253791330:Nat:=0
def PySem.W.Fast.tw1619289609729104201:Nat:=0
def PySem.W.Fast.tw14447380194130884282:Nat:=0
def PySem.W.Fast.tw13029391231052033847:Nat:=0
def PySem.W.Fast.tw1589604564884753395:Nat:=0
def PySem.W.Fast.tw8942553229662835797:Nat:=0
def PySem.W.Fast.tw12575133098569395340:Nat:=0
def PySem.W.Fast.tw18086986050325177077:Nat:=0
def PySem.W.Fast.tw17949673813203591515:Nat:=0
def PySem.W.Fast.tw96114160415015275:Nat:=0
def PySem.W.Fast.tw15519382237331127320:Nat:=0
def PySem.W.Fast.tw9938995691010613997:Nat:=0
def PySem.W.Fast.tw4086626046657559969:Nat:=0
def PySem.W.Fast.tw8450363401520986522:Nat:=0
namespace Asm
open PySem PySem.Spec PyProof.Rows L2 DI
def top (i:Nat):Stmt:=PySem.Challenge.pw_sharesample_k23_spreads.main.body.getD i (.Pass ⟨0,0,0,0⟩)
def px:Px:=⟨fun n sc bl e=>if n = 1020 then tZ true sc bl e else if n = 1022 then zq sc bl e else if n = 1030 then tY sc bl e else if n = 1031 then nM sc bl e else if n = 1032 then xJ sc bl e else if n = 1035 then jq "sorted" sc bl e else if n = 1040 then zo sc bl e else if n = 1041 then zp sc bl e else none,fun n sc bl e=>if n = 1000 then jo sc bl e else if n = 1100 then Dt sc bl e else none,fun n sc bl e=>if n = 1013 then xH sc bl e else if n = 1033 then nL sc bl e else none⟩
theorem fD {Φ:az} (mH:Φ 1000 = sj) (o8:Φ 1013 = xn) (yR:Φ 1020 = (cutD true)) (la:Φ 1022 = Hn) (yQ:Φ 1030 = vI) (yP:Φ 1031 = pI) (yO:Φ 1032 = xu) (yN:Φ 1033 = pG) (yM:Φ 1035 = kg) (yL:Φ 1040 = Jq) (yK:Φ 1041 = Ju) (yJ:Φ 1100 = kh):Gw px Φ:=⟨(fun X sc bl k L p e args he F cs hs=>by
  dsimp only [px] at he
  split at he
  ·rename_i hp;subst hp
   exact La yR L he hs
  ·split at he
   ·rename_i hp;subst hp
    exact OR la L he hs
   ·split at he
    ·rename_i hp;subst hp
     exact FY yQ L he hs
    ·split at he
     ·rename_i hp;subst hp
      exact Ga yP L he hs
     ·split at he
      ·rename_i hp;subst hp
       exact K8 yO L he hs
      ·split at he
       ·rename_i hp;subst hp
        exact Dc yM L he hs
       ·split at he
        ·rename_i hp;subst hp
         exact NL yL L he hs
        ·split at he
         ·rename_i hp;subst hp
          exact NM yK L he hs
         ·cases he),(fun X sc bl k L p e args he F cs tg ht hs pins s σ H R τ ρ xs d items I Si df ed ei Rr hR=>by
  dsimp only [px] at he
  split at he
  ·rename_i hp;subst hp
   exact HG mH L he ht hs I Si df ed ei Rr hR
  ·split at he
   ·rename_i hp;subst hp
    exact De yJ L he ht hs I Si df ed ei Rr hR
   ·cases he)⟩
theorem fR {Φ:az} (mH:Φ 1000 = sj) (o8:Φ 1013 = xn) (yR:Φ 1020 = (cutD true)) (la:Φ 1022 = Hn) (yQ:Φ 1030 = vI) (yP:Φ 1031 = pI) (yO:Φ 1032 = xu) (yN:Φ 1033 = pG) (yM:Φ 1035 = kg) (yL:Φ 1040 = Jq) (yK:Φ 1041 = Ju) (yJ:Φ 1100 = kh):Rk px Φ:=⟨(fun X sc bl k L hN A5 p st x pos args he i hi hl pe F cs hs=>by
  dsimp only [px] at he
  split at he
  ·rename_i hp;subst hp
   exact KQ o8 L hN A5 he hi hl pe hs
  ·split at he
   ·rename_i hp;subst hp
    exact FX yN L hN A5 he hi hl pe hs
   ·cases he)⟩
noncomputable def PT:az
 | 1000=>sj
 | 1013=>xn
 | 1020=>(cutD true)
 | 1022=>Hn
 | 1030=>vI
 | 1031=>pI
 | 1032=>xu
 | 1033=>pG
 | 1035=>kg
 | 1040=>Jq
 | 1041=>Ju
 | 1100=>kh
 | _=>fun _=>none
noncomputable def kC:az
 | n=>PT n
noncomputable def iK:List D -> O D:=mk kC 2 4 (eX)
noncomputable def iP:az
 | n=>PT n
noncomputable def iJ:List D -> O D:=mk iP 1 1 (jS)
noncomputable def kB:az
 | n=>PT n
noncomputable def dQ:List D -> O D:=mk kB 2 4 (lz)
noncomputable def gB:az
 | 200=>iK
 | 201=>dQ
 | n=>PT n
noncomputable def gv:List D -> O D:=mk gB 3 10 (jU)
noncomputable def qb:az
 | n=>PT n
noncomputable def p5:List D -> O D:=mk qb 1 1 (zw)
noncomputable def kA:az
 | 201=>dQ
 | n=>PT n
noncomputable def ko:List D -> O D:=mk kA 2 4 (nS)
noncomputable def my:az
 | 201=>dQ
 | n=>PT n
noncomputable def g9:List D -> O D:=mk my 2 2 (zu 201)
noncomputable def mx:az
 | 201=>dQ
 | n=>PT n
noncomputable def g5:List D -> O D:=mk mx 2 2 (jP 201)
noncomputable def jE:az
 | 202=>g9
 | 203=>g5
 | n=>PT n
noncomputable def gf:List D -> O D:=mk jE 3 5 (lu)
noncomputable def kz:az
 | 202=>g9
 | 203=>g5
 | 231=>gf
 | n=>PT n
noncomputable def kn:List D -> O D:=mk kz 3 6 (nQ)
noncomputable def mw:az
 | 201=>dQ
 | n=>PT n
noncomputable def mr:List D -> O D:=mk mw 2 2 (mi 201)
noncomputable def iO:az
 | 202=>g9
 | 203=>g5
 | 222=>mr
 | 231=>gf
 | 232=>kn
 | n=>PT n
noncomputable def iI:List D -> O D:=mk iO 3 8 (jR)
noncomputable def kD:az
 | n=>PT n
noncomputable def fK:List D -> O D:=mk kD 1 1 (iw)
noncomputable def iT:az
 | 0=>fK
 | n=>PT n
noncomputable def fq:List D -> O D:=mk iT 2 2 (dh)
noncomputable def eI:az
 | n=>PT n
noncomputable def cw:List D -> O D:=mk eI 2 3 (dg)
noncomputable def gD:az
 | 0=>fK
 | 1=>cw
 | n=>PT n
noncomputable def eO:List D -> O D:=mk gD 1 1 (bB)
noncomputable def qc:az
 | 3=>eO
 | 43=>fq
 | n=>PT n
noncomputable def p6:List D -> O D:=mk qc 2 2 (lB)
noncomputable def jC:az
 | n=>PT n
noncomputable def jw:List D -> O D:=mk jC 1 3 (f_)
noncomputable def eY:az
 | 1=>cw
 | n=>PT n
noncomputable def dC:List D -> O D:=mk eY 1 3 (cJ)
noncomputable def jA:az
 | n=>PT n
noncomputable def gd:List D -> O D:=mk jA 2 2 (fY)
noncomputable def fN:az
 | 9=>dC
 | 10=>gd
 | n=>PT n
noncomputable def de:List D -> O D:=mk fN 1 4 (jO)
noncomputable def gy:az
 | 14=>de
 | n=>PT n
noncomputable def gp:List D -> O D:=mk gy 1 2 (eM)
noncomputable def kE:az
 | 0=>fK
 | 12=>p6
 | 15=>gp
 | 44=>jw
 | n=>PT n
noncomputable def kr:List D -> O D:=mk kE 1 4 (iy)
noncomputable def qd:az
 | 43=>fq
 | n=>PT n
noncomputable def p7:List D -> O D:=mk qd 2 2 (gW)
noncomputable def iQ:az
 | 11=>p7
 | 45=>kr
 | n=>PT n
noncomputable def iL:List D -> O D:=mk iQ 1 1 (fi)
noncomputable def e9:az
 | 16=>iL
 | n=>PT n
noncomputable def dE:List D -> O D:=mk e9 1 1 (dz)
noncomputable def e_:az
 | 3=>eO
 | n=>PT n
noncomputable def dF:List D -> O D:=mk e_ 2 2 (bQ)
noncomputable def eZ:az
 | 40=>dF
 | n=>PT n
noncomputable def dD:List D -> O D:=mk eZ 2 2 (iz 40 3)
noncomputable def fQ:az
 | 40=>dF
 | n=>PT n
noncomputable def ej:List D -> O D:=mk fQ 2 2 (iz 40 4)
noncomputable def gE:az
 | 1=>cw
 | n=>PT n
noncomputable def cj:List D -> O D:=mk gE 2 3 (cL)
noncomputable def iS:az
 | 2=>cj
 | n=>PT n
noncomputable def eh:List D -> O D:=mk iS 2 2 (jP 2)
noncomputable def kv:az
 | 9=>dC
 | 10=>gd
 | n=>PT n
noncomputable def iH:List D -> O D:=mk kv 1 2 (iu)
noncomputable def gA:az
 | 6=>eh
 | 41=>iH
 | n=>PT n
noncomputable def gu:List D -> O D:=mk gA 3 5 (eN)
noncomputable def jB:az
 | 2=>cj
 | 14=>de
 | n=>PT n
noncomputable def jv:List D -> O D:=mk jB 2 6 (fZ)
noncomputable def fP:az
 | 17=>dE
 | 46=>dD
 | 47=>ej
 | 48=>gu
 | 50=>jv
 | n=>PT n
noncomputable def fL:List D -> O D:=mk fP 3 3 (jT)
noncomputable def jG:az
 | n=>PT n
noncomputable def jz:List D -> O D:=mk jG 1 3 (ud)
noncomputable def iR:az
 | 2=>cj
 | 41=>iH
 | n=>PT n
noncomputable def iM:List D -> O D:=mk iR 1 2 (fj)
noncomputable def gF:az
 | 6=>eh
 | n=>PT n
noncomputable def gx:List D -> O D:=mk gF 2 2 (uc)
noncomputable def jF:az
 | 2=>cj
 | n=>PT n
noncomputable def jy:List D -> O D:=mk jF 2 2 (mi 2)
noncomputable def iN:az
 | n=>PT n
noncomputable def iG:List D -> O D:=mk iN 2 2 (lr)
noncomputable def jD:az
 | 5=>jy
 | 6=>eh
 | 61=>gx
 | 62=>iG
 | n=>PT n
noncomputable def jx:List D -> O D:=mk jD 4 6 (nN)
noncomputable def gC:az
 | 2=>cj
 | n=>PT n
noncomputable def gw:List D -> O D:=mk gC 3 4 (nU)
noncomputable def gz:az
 | 14=>de
 | 17=>dE
 | 19=>gw
 | n=>PT n
noncomputable def gq:List D -> O D:=mk gz 1 4 (jQ)
noncomputable def fO:az
 | 21=>gq
 | 42=>iM
 | 46=>dD
 | 47=>ej
 | 60=>jz
 | 63=>jx
 | n=>PT n
noncomputable def fJ:List D -> O D:=mk fO 3 5 (ir)
noncomputable def DB:az
 | 65=>fL
 | 66=>fJ
 | 200=>iK
 | 204=>p5
 | 212=>gv
 | 215=>iJ
 | 230=>ko
 | 237=>iI
 | n=>PT n
noncomputable def Qf:List D -> O D:=mk DB 1 10 (lA)
theorem MP:p3 iK:=Ir kC
theorem RL:mn iJ:=zT iP
theorem Bs:iD dQ:=Et kB
theorem RM:mq gv:=zV gB ⟨rfl,rfl,rfl,rfl,rfl,rfl⟩ MP Bs
theorem RN:zC p5:=M1 qb
theorem RJ:uo ko:=Es kA Bs
theorem HW:mJ g9:=M0 my (f:=201) Bs
theorem HV:dA g5:=yc mx (f:=201) Bs
theorem MN:gY gf:=BG jE HW HV
theorem RI:um kn:=Er kz HW HV MN
theorem RK:mm mr:=BH mw (f:=201) Bs
theorem RH:jV iI:=zS iO HW HV RK MN RI
theorem t0:dP fK:=cF kD
theorem t43:fm fq:=bz iT t0
theorem t1:aQ cw:=aP eI
theorem t3:dw eO:=bo gD t0 t1
theorem t12:lD p6:=d5 qc t3 t43
theorem t44:jt jw:=bT jC rfl rfl rfl
theorem t9:dB dC:=aU eY t1
theorem t10:gc gd:=bR jA
theorem RO:gX de:=zQ fN t9 t10 rfl
theorem t15:gm gp:=bh gy RO
theorem t45:AY kr:=cG kE t0 t12 t15 t44
theorem t11:pZ p7:=d6 qd t43
theorem t16:AY iL:=bw iQ t11 t45
theorem t17:iE dE:=aV e9 t16
theorem t40:iX dF:=aW e_ t3
theorem t46:iF 3 kj dD:=yd eZ (f:=40) sf t40
theorem t47:iF 4 kj ej:=yd fQ (f:=40) sf t40
theorem t2:dy cj:=bp gE t1
theorem t6:dA eh:=yc iS (f:=2) t2.1
theorem t41:iB iH:=cC kv t9 t10
theorem t48:gn gu:=bj gA t6 t41 rfl
theorem t50:js jv:=bS jB t2 RO rfl
theorem t65:jW fL:=zU fP t17 t46 t47 t48 t50
theorem t60:xR jz:=Iv jG rfl
theorem t42:iC iM:=bx iR t2 t41
theorem t61:xQ gx:=Iu gF t6
theorem t5:mm jy:=BH jF (f:=2) t2.1
theorem t62:pY iG:=BF iN
theorem t63:uk jx:=Ep jD t5 t6 t61 t62
theorem t19:nW gw:=Eu gC t2
theorem t21:ml gq:=zR gz RO t17 t19
theorem t66:iA fJ:=wK fO t21 t42 t46 t47 t60 t63 rfl
theorem Ag:∀ ns:List Int,Qf [.lst .sc (ab ns)] = ok (.bl true):=NO DB t65 t66 MP RN RM RL RJ RH
abbrev dJ:Stmt:=top 44
theorem uR:aq ["_law_script","_law_k","_law_cell_here","_law_number"] ["_law_script","_law_k"] (aa dJ):=⟨rfl,rfl,rfl,by decide +kernel,rfl,by decide +kernel,by decide +kernel⟩
def vy:Nat -> Option Str:=fun n=>List.lookup n []
theorem vT:aL ⟨aa dJ,["_law_script","_law_k","_law_cell_here","_law_number"],vy,["len"],[],px⟩ (eX) (ae dJ) = true:=by decide +kernel
abbrev cE:Stmt:=top 55
theorem qq:aq ["_law_drawing_here"] ["_law_drawing_here"] (aa cE):=⟨rfl,rfl,rfl,by decide +kernel,rfl,by decide +kernel,by decide +kernel⟩
def qB:Nat -> Option Str:=fun n=>List.lookup n []
theorem qN:aL ⟨aa cE,["_law_drawing_here"],qB,["list"],[],px⟩ (jS) (ae cE) = true:=by decide +kernel
abbrev dI:Stmt:=top 45
theorem uQ:aq ["_law_top","_law_bottom","_law_one","_law_other"] ["_law_top","_law_bottom"] (aa dI):=⟨rfl,rfl,rfl,by decide +kernel,rfl,by decide +kernel,by decide +kernel⟩
def vx:Nat -> Option Str:=fun n=>List.lookup n []
theorem vS:aL ⟨aa dI,["_law_top","_law_bottom","_law_one","_law_other"],vx,["abs"],[],px⟩ (lz) (ae dI) = true:=by decide +kernel
abbrev bY:Stmt:=top 49
theorem ox:aq ["_law_script","_law_at","_law_most","_law_number","_law_many","_law_lots","_law_k","_law_other","_law_lot","_law_whole"] ["_law_script","_law_at","_law_most"] (aa bY):=⟨rfl,rfl,rfl,by decide +kernel,rfl,by decide +kernel,by decide +kernel⟩
def pf:Nat -> Option Str:=fun n=>List.lookup n [(200,"_law_cell"),(201,"_law_frac")]
theorem pN:aL ⟨aa bY,["_law_script","_law_at","_law_most","_law_number","_law_many","_law_lots","_law_k","_law_other","_law_lot","_law_whole"],pf,["range","sorted","sum","tuple"],[],px⟩ (jU) (ae bY) = true:=by decide +kernel
abbrev fC:Stmt:=top 54
theorem zN:aq ["_law_found"] ["_law_found"] (aa fC):=⟨rfl,rfl,rfl,by decide +kernel,rfl,by decide +kernel,by decide +kernel⟩
def Az:Nat -> Option Str:=fun n=>List.lookup n []
theorem AK:aL ⟨aa fC,["_law_found"],Az,["bool","int","isinstance","len","tuple"],[],px⟩ (zw) (ae fC) = true:=by decide +kernel
abbrev dH:Stmt:=top 50
theorem uP:aq ["_law_number","_law_many","_law_found","_law_k"] ["_law_number","_law_many"] (aa dH):=⟨rfl,rfl,rfl,by decide +kernel,rfl,by decide +kernel,by decide +kernel⟩
def vw:Nat -> Option Str:=fun n=>List.lookup n [(201,"_law_frac")]
theorem vR:aL ⟨aa dH,["_law_number","_law_many","_law_found","_law_k"],vw,["range"],[],px⟩ (nS) (ae dH) = true:=by decide +kernel
abbrev eD:Stmt:=top 46
theorem wJ:aq ["_law_one","_law_other"] ["_law_one","_law_other"] (aa eD):=⟨rfl,rfl,rfl,by decide +kernel,rfl,by decide +kernel,by decide +kernel⟩
def xk:Nat -> Option Str:=fun n=>List.lookup n [(201,"_law_frac")]
theorem xF:aL ⟨aa eD,["_law_one","_law_other"],xk,[],[],px⟩ (zu 201) (ae eD) = true:=by decide +kernel
abbrev eC:Stmt:=top 47
theorem wI:aq ["_law_one","_law_other"] ["_law_one","_law_other"] (aa eC):=⟨rfl,rfl,rfl,by decide +kernel,rfl,by decide +kernel,by decide +kernel⟩
def xj:Nat -> Option Str:=fun n=>List.lookup n [(201,"_law_frac")]
theorem xE:aL ⟨aa eC,["_law_one","_law_other"],xj,[],[],px⟩ (jP 201) (ae eC) = true:=by decide +kernel
abbrev cS:Stmt:=top 51
theorem sG:aq ["_law_weights","_law_lot","_law_worths","_law_found","_law_house"] ["_law_weights","_law_lot","_law_worths"] (aa cS):=⟨rfl,rfl,rfl,by decide +kernel,rfl,by decide +kernel,by decide +kernel⟩
def tI:Nat -> Option Str:=fun n=>List.lookup n [(202,"_law_add"),(203,"_law_mul")]
theorem tV:aL ⟨aa cS,["_law_weights","_law_lot","_law_worths","_law_found","_law_house"],tI,[],[],px⟩ (lu) (ae cS) = true:=by decide +kernel
abbrev dG:Stmt:=top 52
theorem uO:aq ["_law_drawing_here","_law_weights","_law_worths","_law_found","_law_chance","_law_lot"] ["_law_drawing_here","_law_weights","_law_worths"] (aa dG):=⟨rfl,rfl,rfl,by decide +kernel,rfl,by decide +kernel,by decide +kernel⟩
def vv:Nat -> Option Str:=fun n=>List.lookup n [(202,"_law_add"),(203,"_law_mul"),(231,"_law_guess")]
theorem vQ:aL ⟨aa dG,["_law_drawing_here","_law_weights","_law_worths","_law_found","_law_chance","_law_lot"],vv,[],[],px⟩ (nQ) (ae dG) = true:=by decide +kernel
abbrev eB:Stmt:=top 48
theorem wH:aq ["_law_one","_law_other"] ["_law_one","_law_other"] (aa eB):=⟨rfl,rfl,rfl,by decide +kernel,rfl,by decide +kernel,by decide +kernel⟩
def xi:Nat -> Option Str:=fun n=>List.lookup n [(201,"_law_frac")]
theorem xD:aL ⟨aa eB,["_law_one","_law_other"],xi,[],[],px⟩ (mi 201) (ae eB) = true:=by decide +kernel
abbrev cD:Stmt:=top 53
theorem qp:aq ["_law_drawing_here","_law_weights","_law_worths","_law_mean_here","_law_found","_law_chance","_law_lot","_law_gap"] ["_law_drawing_here","_law_weights","_law_worths"] (aa cD):=⟨rfl,rfl,rfl,by decide +kernel,rfl,by decide +kernel,by decide +kernel⟩
def qA:Nat -> Option Str:=fun n=>List.lookup n [(202,"_law_add"),(203,"_law_mul"),(222,"_law_sub"),(231,"_law_guess"),(232,"_law_mean")]
theorem qM:aL ⟨aa cD,["_law_drawing_here","_law_weights","_law_worths","_law_mean_here","_law_found","_law_chance","_law_lot","_law_gap"],qA,[],[],px⟩ (jR) (ae cD) = true:=by decide +kernel
abbrev cF:Stmt:=top 7
theorem uS:aq ["thing"] ["thing"] (aa cF):=⟨rfl,rfl,rfl,by decide +kernel,rfl,by decide +kernel,by decide +kernel⟩
def vz:Nat -> Option Str:=fun n=>List.lookup n []
theorem vU:aL ⟨aa cF,["thing"],vz,["bool","int","isinstance"],[],px⟩ (iw) (ae cF) = true:=by decide +kernel
abbrev bz:Stmt:=top 20
theorem qv:aq ["thing","many"] ["thing","many"] (aa bz):=⟨rfl,rfl,rfl,by decide +kernel,rfl,by decide +kernel,by decide +kernel⟩
def qG:Nat -> Option Str:=fun n=>List.lookup n [(0,"is_whole")]
theorem qR:aL ⟨aa bz,["thing","many"],qG,["all","isinstance","len","set","tuple"],[],px⟩ (dh) (ae bz) = true:=by decide +kernel
abbrev aP:Stmt:=top 8
theorem kS:aq ["one","other","rest"] ["one","other"] (aa aP):=⟨rfl,rfl,rfl,by decide +kernel,rfl,by decide +kernel,by decide +kernel⟩
def lh:Nat -> Option Str:=fun n=>List.lookup n []
theorem lp:aL ⟨aa aP,["one","other","rest"],lh,["abs"],[],px⟩ (dg) (ae aP) = true:=by decide +kernel
abbrev bo:Stmt:=top 10
theorem oz:aq ["thing"] ["thing"] (aa bo):=⟨rfl,rfl,rfl,by decide +kernel,rfl,by decide +kernel,by decide +kernel⟩
def pj:Nat -> Option Str:=fun n=>List.lookup n [(0,"is_whole"),(1,"common_divisor")]
theorem pP:aL ⟨aa bo,["thing"],pj,["isinstance","len","tuple"],[],px⟩ (bB) (ae bo) = true:=by decide +kernel
abbrev d5:Stmt:=top 22
theorem zO:aq ["thing","many"] ["thing","many"] (aa d5):=⟨rfl,rfl,rfl,by decide +kernel,rfl,by decide +kernel,by decide +kernel⟩
def AA:Nat -> Option Str:=fun n=>List.lookup n [(3,"is_fraction"),(43,"are_houses")]
theorem AL:aL ⟨aa d5,["thing","many"],AA,["isinstance","len","tuple"],[],px⟩ (lB) (ae d5) = true:=by decide +kernel
abbrev bT:Stmt:=top 23
theorem sE:aq ["rows","ahead","behind"] ["rows"] (aa bT):=⟨rfl,rfl,rfl,by decide +kernel,rfl,by decide +kernel,by decide +kernel⟩
def tG:Nat -> Option Str:=fun n=>List.lookup n []
theorem tT:aL ⟨aa bT,["rows","ahead","behind"],tG,["zip"],[],px⟩ (f_) (ae bT) = true:=by decide +kernel
abbrev aU:Stmt:=top 14
theorem lN:aq ["some","bottom","part"] ["some"] (aa aU):=⟨rfl,rfl,rfl,by decide +kernel,rfl,by decide +kernel,by decide +kernel⟩
def lW:Nat -> Option Str:=fun n=>List.lookup n [(1,"common_divisor")]
theorem ma:aL ⟨aa aU,["some","bottom","part"],lW,[],[],px⟩ (cJ) (ae aU) = true:=by decide +kernel
abbrev bR:Stmt:=top 15
theorem sC:aq ["some","bottom"] ["some","bottom"] (aa bR):=⟨rfl,rfl,rfl,by decide +kernel,rfl,by decide +kernel,by decide +kernel⟩
def tE:Nat -> Option Str:=fun n=>List.lookup n []
theorem tR:aL ⟨aa bR,["some","bottom"],tE,[],[],px⟩ (fY) (ae bR) = true:=by decide +kernel
abbrev bE:Stmt:=top 24
theorem mQ:aq ["rows","chances","lots","bottom"] ["rows"] (aa bE):=⟨rfl,rfl,rfl,by decide +kernel,rfl,by decide +kernel,by decide +kernel⟩
def m5:Nat -> Option Str:=fun n=>List.lookup n [(9,"common_bottom"),(10,"tops_over")]
theorem m_:aL ⟨aa bE,["rows","chances","lots","bottom"],m5,["list","zip"],[],px⟩ (jO) (ae bE) = true:=by decide +kernel
abbrev bh:Stmt:=top 25
theorem oo:aq ["rows","weighed"] ["rows"] (aa bh):=⟨rfl,rfl,rfl,by decide +kernel,rfl,by decide +kernel,by decide +kernel⟩
def o_:Nat -> Option Str:=fun n=>List.lookup n [(14,"weighed_lots")]
theorem pK:aL ⟨aa bh,["rows","weighed"],o_,["sum"],[],px⟩ (eM) (ae bh) = true:=by decide +kernel
abbrev cG:Stmt:=top 26
theorem uT:aq ["thing","many","rows","row"] ["thing"] (aa cG):=⟨rfl,rfl,rfl,by decide +kernel,rfl,by decide +kernel,by decide +kernel⟩
def vA:Nat -> Option Str:=fun n=>List.lookup n [(0,"is_whole"),(12,"is_row"),(15,"sums_to_one"),(44,"rows_rise")]
theorem vV:aL ⟨aa cG,["thing","many","rows","row"],vA,["isinstance","len","list","tuple"],[("MOST_HOUSES",GK.i 12)],px⟩ (iy) (ae cG) = true:=by decide +kernel
abbrev d6:Stmt:=top 21
theorem zP:aq ["thing","many"] ["thing","many"] (aa d6):=⟨rfl,rfl,rfl,by decide +kernel,rfl,by decide +kernel,by decide +kernel⟩
def AB:Nat -> Option Str:=fun n=>List.lookup n [(43,"are_houses")]
theorem AM:aL ⟨aa d6,["thing","many"],AB,["list","sorted"],[],px⟩ (gW) (ae d6) = true:=by decide +kernel
abbrev bw:Stmt:=top 27
theorem qr:aq ["thing"] ["thing"] (aa bw):=⟨rfl,rfl,rfl,by decide +kernel,rfl,by decide +kernel,by decide +kernel⟩
def qC:Nat -> Option Str:=fun n=>List.lookup n [(11,"is_lot"),(45,"is_drawn")]
theorem qO:aL ⟨aa bw,["thing"],qC,["all"],[],px⟩ (fi) (ae bw) = true:=by decide +kernel
abbrev aV:Stmt:=top 28
theorem lP:aq ["thing"] ["thing"] (aa aV):=⟨rfl,rfl,rfl,by decide +kernel,rfl,by decide +kernel,by decide +kernel⟩
def lY:Nat -> Option Str:=fun n=>List.lookup n [(16,"is_drawing")]
theorem me:aL ⟨aa aV,["thing"],lY,[],[],px⟩ (dz) (ae aV) = true:=by decide +kernel
abbrev aW:Stmt:=top 11
theorem lQ:aq ["thing","many"] ["thing","many"] (aa aW):=⟨rfl,rfl,rfl,by decide +kernel,rfl,by decide +kernel,by decide +kernel⟩
def lZ:Nat -> Option Str:=fun n=>List.lookup n [(3,"is_fraction")]
theorem mf:aL ⟨aa aW,["thing","many"],lZ,["all","isinstance","len","list"],[],px⟩ (bQ) (ae aW) = true:=by decide +kernel
abbrev bu:Stmt:=top 32
theorem lO:aq ["thing","many"] ["thing","many"] (aa bu):=⟨rfl,rfl,rfl,by decide +kernel,rfl,by decide +kernel,by decide +kernel⟩
def lX:Nat -> Option Str:=fun n=>List.lookup n [(40,"are_fractions")]
theorem md:aL ⟨aa bu,["thing","many"],lX,[],[],px⟩ (iz 40 3) (ae bu) = true:=by decide +kernel
abbrev bH:Stmt:=top 33
theorem mT:aq ["thing","many"] ["thing","many"] (aa bH):=⟨rfl,rfl,rfl,by decide +kernel,rfl,by decide +kernel,by decide +kernel⟩
def m8:Nat -> Option Str:=fun n=>List.lookup n [(40,"are_fractions")]
theorem nh:aL ⟨aa bH,["thing","many"],m8,[],[],px⟩ (iz 40 4) (ae bH) = true:=by decide +kernel
abbrev bp:Stmt:=top 9
theorem oA:aq ["top","bottom","divisor"] ["top","bottom"] (aa bp):=⟨rfl,rfl,rfl,by decide +kernel,rfl,by decide +kernel,by decide +kernel⟩
def pk:Nat -> Option Str:=fun n=>List.lookup n [(1,"common_divisor")]
theorem pQ:aL ⟨aa bp,["top","bottom","divisor"],pk,[],[],px⟩ (cL) (ae bp) = true:=by decide +kernel
abbrev cH:Stmt:=top 13
theorem qu:aq ["one","other"] ["one","other"] (aa cH):=⟨rfl,rfl,rfl,by decide +kernel,rfl,by decide +kernel,by decide +kernel⟩
def qF:Nat -> Option Str:=fun n=>List.lookup n [(2,"fraction_of")]
theorem qQ:aL ⟨aa cH,["one","other"],qF,[],[],px⟩ (jP 2) (ae cH) = true:=by decide +kernel
abbrev cC:Stmt:=top 16
theorem uN:aq ["some","bottom"] ["some"] (aa cC):=⟨rfl,rfl,rfl,by decide +kernel,rfl,by decide +kernel,by decide +kernel⟩
def vt:Nat -> Option Str:=fun n=>List.lookup n [(9,"common_bottom"),(10,"tops_over")]
theorem vP:aL ⟨aa cC,["some","bottom"],vt,[],[],px⟩ (iu) (ae cC) = true:=by decide +kernel
abbrev bj:Stmt:=top 34
theorem ou:aq ["drawing","weights","worths","parts","tops"] ["drawing","weights","worths"] (aa bj):=⟨rfl,rfl,rfl,by decide +kernel,rfl,by decide +kernel,by decide +kernel⟩
def pd:Nat -> Option Str:=fun n=>List.lookup n [(6,"frac_times"),(41,"over_one")]
theorem pM:aL ⟨aa bj,["drawing","weights","worths","parts","tops"],pd,["sum","zip"],[],px⟩ (eN) (ae bj) = true:=by decide +kernel
abbrev bS:Stmt:=top 35
theorem sD:aq ["rows","guesses","weighed","total","squares","bottom"] ["rows","guesses"] (aa bS):=⟨rfl,rfl,rfl,by decide +kernel,rfl,by decide +kernel,by decide +kernel⟩
def tF:Nat -> Option Str:=fun n=>List.lookup n [(2,"fraction_of"),(14,"weighed_lots")]
theorem tS:aL ⟨aa bS,["rows","guesses","weighed","total","squares","bottom"],tF,["sum","zip"],[],px⟩ (fZ) (ae bS) = true:=by decide +kernel
abbrev bG:Stmt:=top 41
theorem mS:aq ["drawing","weights","worths"] ["drawing","weights","worths"] (aa bG):=⟨rfl,rfl,rfl,by decide +kernel,rfl,by decide +kernel,by decide +kernel⟩
def m7:Nat -> Option Str:=fun n=>List.lookup n [(17,"check_drawing"),(46,"check_weights"),(47,"check_worths"),(48,"lot_guesses"),(50,"spread_of")]
theorem ng:aL ⟨aa bG,["drawing","weights","worths"],m7,[],[],px⟩ (jT) (ae bG) = true:=by decide +kernel
abbrev cU:Stmt:=top 37
theorem sI:aq ["houses","pairs","one"] ["houses"] (aa cU):=⟨rfl,rfl,rfl,by decide +kernel,rfl,by decide +kernel,by decide +kernel⟩
def tL:Nat -> Option Str:=fun n=>List.lookup n []
theorem tX:aL ⟨aa cU,["houses","pairs","one"],tL,[],[],px⟩ (ud) (ae cU) = true:=by decide +kernel
abbrev bx:Stmt:=top 17
theorem qt:aq ["some","tops"] ["some"] (aa bx):=⟨rfl,rfl,rfl,by decide +kernel,rfl,by decide +kernel,by decide +kernel⟩
def qE:Nat -> Option Str:=fun n=>List.lookup n [(2,"fraction_of"),(41,"over_one")]
theorem qP:aL ⟨aa bx,["some","tops"],qE,["sum"],[],px⟩ (fj) (ae bx) = true:=by decide +kernel
abbrev b_:Stmt:=top 38
theorem oB:aq ["pairs","two"] ["pairs","two"] (aa b_):=⟨rfl,rfl,rfl,by decide +kernel,rfl,by decide +kernel,by decide +kernel⟩
def pq:Nat -> Option Str:=fun n=>List.lookup n [(6,"frac_times")]
theorem pR:aL ⟨aa b_,["pairs","two"],pq,[],[],px⟩ (uc) (ae b_) = true:=by decide +kernel
abbrev cT:Stmt:=top 12
theorem sH:aq ["one","other"] ["one","other"] (aa cT):=⟨rfl,rfl,rfl,by decide +kernel,rfl,by decide +kernel,by decide +kernel⟩
def tJ:Nat -> Option Str:=fun n=>List.lookup n [(2,"fraction_of")]
theorem tW:aL ⟨aa cT,["one","other"],tJ,[],[],px⟩ (mi 2) (ae cT) = true:=by decide +kernel
abbrev cB:Stmt:=top 39
theorem qo:aq ["pairs","two"] ["pairs","two"] (aa cB):=⟨rfl,rfl,rfl,by decide +kernel,rfl,by decide +kernel,by decide +kernel⟩
def qz:Nat -> Option Str:=fun n=>List.lookup n []
theorem qL:aL ⟨aa cB,["pairs","two"],qz,[],[],px⟩ (lr) (ae cB) = true:=by decide +kernel
abbrev cR:Stmt:=top 40
theorem sF:aq ["pairs","two","weights","worths","one","other"] ["pairs","two","weights","worths"] (aa cR):=⟨rfl,rfl,rfl,by decide +kernel,rfl,by decide +kernel,by decide +kernel⟩
def tH:Nat -> Option Str:=fun n=>List.lookup n [(5,"frac_less"),(6,"frac_times"),(61,"both_shares"),(62,"pair_share")]
theorem tU:aL ⟨aa cR,["pairs","two","weights","worths","one","other"],tH,[],[],px⟩ (nN) (ae cR) = true:=by decide +kernel
abbrev bZ:Stmt:=top 29
theorem oy:aq ["weighed","one","other","having"] ["weighed","one","other"] (aa bZ):=⟨rfl,rfl,rfl,by decide +kernel,rfl,by decide +kernel,by decide +kernel⟩
def ph:Nat -> Option Str:=fun n=>List.lookup n [(2,"fraction_of")]
theorem pO:aL ⟨aa bZ,["weighed","one","other","having"],ph,["sum"],[],px⟩ (nU) (ae bZ) = true:=by decide +kernel
abbrev bX:Stmt:=top 30
theorem oq:aq ["drawing","weighed","pairs","one"] ["drawing"] (aa bX):=⟨rfl,rfl,rfl,by decide +kernel,rfl,by decide +kernel,by decide +kernel⟩
def pb:Nat -> Option Str:=fun n=>List.lookup n [(14,"weighed_lots"),(17,"check_drawing"),(19,"joint_share")]
theorem pL:aL ⟨aa bX,["drawing","weighed","pairs","one"],pb,["range"],[],px⟩ (jQ) (ae bX) = true:=by decide +kernel
abbrev bF:Stmt:=top 42
theorem mR:aq ["drawing","weights","worths","pairs","houses"] ["drawing","weights","worths"] (aa bF):=⟨rfl,rfl,rfl,by decide +kernel,rfl,by decide +kernel,by decide +kernel⟩
def m6:Nat -> Option Str:=fun n=>List.lookup n [(21,"pair_shares"),(42,"frac_total"),(46,"check_weights"),(47,"check_worths"),(60,"all_pairs"),(63,"pair_part")]
theorem nc:aL ⟨aa bF,["drawing","weights","worths","pairs","houses"],m6,["list","range"],[],px⟩ (ir) (ae bF) = true:=by decide +kernel
abbrev j4:Stmt:=top 56
theorem Iq:aq ["_law_script","_law_drawing_here","_law_many","_law_weights","_law_worths","_law_other","_law_handed","_law_some","_law_due","_law_found"] ["_law_script"] (aa j4):=⟨rfl,rfl,rfl,by decide +kernel,rfl,by decide +kernel,by decide +kernel⟩
def Kj:Nat -> Option Str:=fun n=>List.lookup n [(65,"guess_spread"),(66,"pairs_spread"),(200,"_law_cell"),(204,"_law_is"),(212,"_law_drawing"),(215,"_law_copied"),(230,"_law_list"),(237,"_law_spread")]
theorem Ld:aL ⟨aa j4,["_law_script","_law_drawing_here","_law_many","_law_weights","_law_worths","_law_other","_law_handed","_law_some","_law_due","_law_found"],Kj,["list"],[],px⟩ (lA) (ae j4) = true:=by decide +kernel
theorem all_mk {l:PySem.W.OpenLaw} {w:World} {K:PySem.W.Frag} {h:Heap} {mg:Str -> Option Value} {fa f0 f1 f2 f3 f4 f5 f6 f7 f8 f9 XN XM XJ XI XH XG XF XE XD XC XB XA Xz Xy Xx Xw Xv Xu Xt Xs Xr Xq Xp Xo Xn Xm Xl Xk Xj Xi Xh Xg Xf Xe Xd:Addr} (X:K.In h) (G:h.Ns mainGlobals mg) (hfa:mg "law" = some (.ref fa))
  {od0 an0 od1 an1 od2 an2 od3 an3 od4 an4 od5 an5 od6 an6 od7 an7 od8 an8 od9 an9 Uw ZT Uv ZS Uu ZR Ut ZQ Us ZP Ur ZO Uq ZN Uo ZM Um ZL Ul ZK Uk ZJ Uj ZI Ui ZH Uh ZG Ug ZF Ue ZE Ud ZD Uc ZC Ub ZA Ua Zz T_ Zy T9 Zx T8 Zw T7 Zv T6 Zu T5 Zt T4 Zs T3 Zr T2 Zq T1 Zp TZ Zo TY Zn TX Zm TV Zk TU Qc:Option Addr} {sl0 sl1 we sl3 sl4 sl5 sl6 sl7 sl8 sl9 Sy Sw Sv Su Ss Sr Sq So Sn Sl Sk Sj Sh Sg Sf Se Sd Sb Sa R_ R9 R8 R7 R6 R5 R4 RZ RY RX RW RV RU RT RS RR:Array (Option Value)} {oc0 kV0 dc0 pm0 cd0 ct0 oc1 kV1 dc1 pm1 cd1 ct1 oc2 kV2 dc2 pm2 cd2 ct2 oc3 kV3 dc3 pm3 cd3 ct3 oc4 kV4 dc4 pm4 cd4 ct4 oc5 kV5 dc5 pm5 cd5 ct5 oc6 kV6 dc6 pm6 cd6 ct6 oc7 kV7 dc7 pm7 cd7 ct7 oc8 kV8 dc8 pm8 cd8 ct8 oc9 kV9 dc9 pm9 cd9 ct9 U7 VT YD TH PU Zb U6 VS YC TF PR Za U5 VR YB TC PQ Y_ U4 VQ YA TB PN Y9 U3 VP Yz Tz PM Y8 U2 VO Yy Tx PL Y7 U1 VN Yx Tw PK Y6 U0 VM Yw Tv PJ Y5 UZ VL Yv Tu PH Y4 UY VJ Yu Tt PF Y3 UX VI Yt Ts PD Y2 UW VH Ys Tr PC Y1 UU VG Yr Tq PB Y0 UT VF Yq Tp Pz YZ US VE Yp To Py YY UR VD Yo Tn Pw YX UQ VC Yn Tj Pu YW UP VB Ym Ti Pt YV UO VA Yk Th Pr YU UN Vz Yj Tf Pq YT UM Vy Yi Te Pp YS UL Vx Yh Td Po YR UK Vw Yg Tc Pn YQ UJ Vv Yf Tb Pm YO UI Vu Ye Ta Pl YN UH Vt Yd S_ Pk YM UG Vs Yc S9 Pj YL UE Vr Yb S8 Ph YK UD Vq Ya S7 Pg YJ UC Vp X_ S5 Pf YI UB Vo X9 S3 Pe YH UA Vn X8 S0 Pd YG Uz Vm X7 SY Pc YF Uy Vl X6 SX Pb YE Ux NT O4 Nh Le O5 u0:Value}
  (a0:PySem.W.nsIn K mainGlobals "_law_cell" = some (some (.ref f0))) (l0:K.lookup f0 = some ⟨oc0,od0,.func (PySem.W.fnOf "_law_cell" "_law_cell" (ao dJ) (ae dJ) (aa dJ) .none kV0 dc0 pm0 an0 cd0 ct0),sl0⟩) (c0:PySem.W.codeIn K cd0 "_law_cell" = true) (k0:PySem.W.keepIn K (.ref f0) = true)
  (a1:PySem.W.nsIn K mainGlobals "_law_copied" = some (some (.ref f1))) (l1:K.lookup f1 = some ⟨oc1,od1,.func (PySem.W.fnOf "_law_copied" "_law_copied" (ao cE) (ae cE) (aa cE) .none kV1 dc1 pm1 an1 cd1 ct1),sl1⟩) (c1:PySem.W.codeIn K cd1 "_law_copied" = true) (k1:PySem.W.keepIn K (.ref f1) = true)
  (a2:PySem.W.nsIn K mainGlobals "_law_frac" = some (some (.ref f2))) (l2:K.lookup f2 = some ⟨oc2,od2,.func (PySem.W.fnOf "_law_frac" "_law_frac" (ao dI) (ae dI) (aa dI) .none kV2 dc2 pm2 an2 cd2 ct2),we⟩) (c2:PySem.W.codeIn K cd2 "_law_frac" = true) (k2:PySem.W.keepIn K (.ref f2) = true)
  (a3:PySem.W.nsIn K mainGlobals "_law_drawing" = some (some (.ref f3))) (l3:K.lookup f3 = some ⟨oc3,od3,.func (PySem.W.fnOf "_law_drawing" "_law_drawing" (ao bY) (ae bY) (aa bY) .none kV3 dc3 pm3 an3 cd3 ct3),sl3⟩) (c3:PySem.W.codeIn K cd3 "_law_drawing" = true) (k3:PySem.W.keepIn K (.ref f3) = true)
  (a4:PySem.W.nsIn K mainGlobals "_law_is" = some (some (.ref f4))) (l4:K.lookup f4 = some ⟨oc4,od4,.func (PySem.W.fnOf "_law_is" "_law_is" (ao fC) (ae fC) (aa fC) .none kV4 dc4 pm4 an4 cd4 ct4),sl4⟩) (c4:PySem.W.codeIn K cd4 "_law_is" = true) (k4:PySem.W.keepIn K (.ref f4) = true)
  (a5:PySem.W.nsIn K mainGlobals "_law_list" = some (some (.ref f5))) (l5:K.lookup f5 = some ⟨oc5,od5,.func (PySem.W.fnOf "_law_list" "_law_list" (ao dH) (ae dH) (aa dH) .none kV5 dc5 pm5 an5 cd5 ct5),sl5⟩) (c5:PySem.W.codeIn K cd5 "_law_list" = true) (k5:PySem.W.keepIn K (.ref f5) = true)
  (a6:PySem.W.nsIn K mainGlobals "_law_add" = some (some (.ref f6))) (l6:K.lookup f6 = some ⟨oc6,od6,.func (PySem.W.fnOf "_law_add" "_law_add" (ao eD) (ae eD) (aa eD) .none kV6 dc6 pm6 an6 cd6 ct6),sl6⟩) (c6:PySem.W.codeIn K cd6 "_law_add" = true) (k6:PySem.W.keepIn K (.ref f6) = true)
  (a7:PySem.W.nsIn K mainGlobals "_law_mul" = some (some (.ref f7))) (l7:K.lookup f7 = some ⟨oc7,od7,.func (PySem.W.fnOf "_law_mul" "_law_mul" (ao eC) (ae eC) (aa eC) .none kV7 dc7 pm7 an7 cd7 ct7),sl7⟩) (c7:PySem.W.codeIn K cd7 "_law_mul" = true) (k7:PySem.W.keepIn K (.ref f7) = true)
  (a8:PySem.W.nsIn K mainGlobals "_law_guess" = some (some (.ref f8))) (l8:K.lookup f8 = some ⟨oc8,od8,.func (PySem.W.fnOf "_law_guess" "_law_guess" (ao cS) (ae cS) (aa cS) .none kV8 dc8 pm8 an8 cd8 ct8),sl8⟩) (c8:PySem.W.codeIn K cd8 "_law_guess" = true) (k8:PySem.W.keepIn K (.ref f8) = true)
  (a9:PySem.W.nsIn K mainGlobals "_law_mean" = some (some (.ref f9))) (l9:K.lookup f9 = some ⟨oc9,od9,.func (PySem.W.fnOf "_law_mean" "_law_mean" (ao dG) (ae dG) (aa dG) .none kV9 dc9 pm9 an9 cd9 ct9),sl9⟩) (c9:PySem.W.codeIn K cd9 "_law_mean" = true) (k9:PySem.W.keepIn K (.ref f9) = true)
  (a10:PySem.W.nsIn K mainGlobals "_law_sub" = some (some (.ref XN))) (l10:K.lookup XN = some ⟨U7,Uw,.func (PySem.W.fnOf "_law_sub" "_law_sub" (ao eB) (ae eB) (aa eB) .none VT YD TH ZT PU Zb),Sy⟩) (c10:PySem.W.codeIn K PU "_law_sub" = true) (k10:PySem.W.keepIn K (.ref XN) = true)
  (a11:PySem.W.nsIn K mainGlobals "_law_spread" = some (some (.ref XM))) (l11:K.lookup XM = some ⟨U6,Uv,.func (PySem.W.fnOf "_law_spread" "_law_spread" (ao cD) (ae cD) (aa cD) .none VS YC TF ZS PR Za),Sw⟩) (c11:PySem.W.codeIn K PR "_law_spread" = true) (k11:PySem.W.keepIn K (.ref XM) = true)
  (a12:PySem.W.nsIn K mainGlobals "is_whole" = some (some (.ref XJ))) (l12:K.lookup XJ = some ⟨U5,Uu,.func (PySem.W.fnOf "is_whole" "is_whole" (ao cF) (ae cF) (aa cF) .none VR YB TC ZR PQ Y_),Sv⟩) (c12:PySem.W.codeIn K PQ "is_whole" = true) (k12:PySem.W.keepIn K (.ref XJ) = true)
  (a13:PySem.W.nsIn K mainGlobals "are_houses" = some (some (.ref XI))) (l13:K.lookup XI = some ⟨U4,Ut,.func (PySem.W.fnOf "are_houses" "are_houses" (ao bz) (ae bz) (aa bz) .none VQ YA TB ZQ PN Y9),Su⟩) (c13:PySem.W.codeIn K PN "are_houses" = true) (k13:PySem.W.keepIn K (.ref XI) = true)
  (a14:PySem.W.nsIn K mainGlobals "common_divisor" = some (some (.ref XH))) (l14:K.lookup XH = some ⟨U3,Us,.func (PySem.W.fnOf "common_divisor" "common_divisor" (ao aP) (ae aP) (aa aP) .none VP Yz Tz ZP PM Y8),Ss⟩) (c14:PySem.W.codeIn K PM "common_divisor" = true) (k14:PySem.W.keepIn K (.ref XH) = true)
  (a15:PySem.W.nsIn K mainGlobals "is_fraction" = some (some (.ref XG))) (l15:K.lookup XG = some ⟨U2,Ur,.func (PySem.W.fnOf "is_fraction" "is_fraction" (ao bo) (ae bo) (aa bo) .none VO Yy Tx ZO PL Y7),Sr⟩) (c15:PySem.W.codeIn K PL "is_fraction" = true) (k15:PySem.W.keepIn K (.ref XG) = true)
  (a16:PySem.W.nsIn K mainGlobals "is_row" = some (some (.ref XF))) (l16:K.lookup XF = some ⟨U1,Uq,.func (PySem.W.fnOf "is_row" "is_row" (ao d5) (ae d5) (aa d5) .none VN Yx Tw ZN PK Y6),Sq⟩) (c16:PySem.W.codeIn K PK "is_row" = true) (k16:PySem.W.keepIn K (.ref XF) = true)
  (a17:PySem.W.nsIn K mainGlobals "rows_rise" = some (some (.ref XE))) (l17:K.lookup XE = some ⟨U0,Uo,.func (PySem.W.fnOf "rows_rise" "rows_rise" (ao bT) (ae bT) (aa bT) .none VM Yw Tv ZM PJ Y5),So⟩) (c17:PySem.W.codeIn K PJ "rows_rise" = true) (k17:PySem.W.keepIn K (.ref XE) = true)
  (a18:PySem.W.nsIn K mainGlobals "common_bottom" = some (some (.ref XD))) (l18:K.lookup XD = some ⟨UZ,Um,.func (PySem.W.fnOf "common_bottom" "common_bottom" (ao aU) (ae aU) (aa aU) .none VL Yv Tu ZL PH Y4),Sn⟩) (c18:PySem.W.codeIn K PH "common_bottom" = true) (k18:PySem.W.keepIn K (.ref XD) = true)
  (a19:PySem.W.nsIn K mainGlobals "tops_over" = some (some (.ref XC))) (l19:K.lookup XC = some ⟨UY,Ul,.func (PySem.W.fnOf "tops_over" "tops_over" (ao bR) (ae bR) (aa bR) .none VJ Yu Tt ZK PF Y3),Sl⟩) (c19:PySem.W.codeIn K PF "tops_over" = true) (k19:PySem.W.keepIn K (.ref XC) = true)
  (a20:PySem.W.nsIn K mainGlobals "weighed_lots" = some (some (.ref XB))) (l20:K.lookup XB = some ⟨UX,Uk,.func (PySem.W.fnOf "weighed_lots" "weighed_lots" (ao bE) (ae bE) (aa bE) .none VI Yt Ts ZJ PD Y2),Sk⟩) (c20:PySem.W.codeIn K PD "weighed_lots" = true) (k20:PySem.W.keepIn K (.ref XB) = true)
  (a21:PySem.W.nsIn K mainGlobals "sums_to_one" = some (some (.ref XA))) (l21:K.lookup XA = some ⟨UW,Uj,.func (PySem.W.fnOf "sums_to_one" "sums_to_one" (ao bh) (ae bh) (aa bh) .none VH Ys Tr ZI PC Y1),Sj⟩) (c21:PySem.W.codeIn K PC "sums_to_one" = true) (k21:PySem.W.keepIn K (.ref XA) = true)
  (a22:PySem.W.nsIn K mainGlobals "is_drawn" = some (some (.ref Xz))) (l22:K.lookup Xz = some ⟨UU,Ui,.func (PySem.W.fnOf "is_drawn" "is_drawn" (ao cG) (ae cG) (aa cG) .none VG Yr Tq ZH PB Y0),Sh⟩) (c22:PySem.W.codeIn K PB "is_drawn" = true) (k22:PySem.W.keepIn K (.ref Xz) = true)
  (a23:PySem.W.nsIn K mainGlobals "is_lot" = some (some (.ref Xy))) (l23:K.lookup Xy = some ⟨UT,Uh,.func (PySem.W.fnOf "is_lot" "is_lot" (ao d6) (ae d6) (aa d6) .none VF Yq Tp ZG Pz YZ),Sg⟩) (c23:PySem.W.codeIn K Pz "is_lot" = true) (k23:PySem.W.keepIn K (.ref Xy) = true)
  (a24:PySem.W.nsIn K mainGlobals "is_drawing" = some (some (.ref Xx))) (l24:K.lookup Xx = some ⟨US,Ug,.func (PySem.W.fnOf "is_drawing" "is_drawing" (ao bw) (ae bw) (aa bw) .none VE Yp To ZF Py YY),Sf⟩) (c24:PySem.W.codeIn K Py "is_drawing" = true) (k24:PySem.W.keepIn K (.ref Xx) = true)
  (a25:PySem.W.nsIn K mainGlobals "check_drawing" = some (some (.ref Xw))) (l25:K.lookup Xw = some ⟨UR,Ue,.func (PySem.W.fnOf "check_drawing" "check_drawing" (ao aV) (ae aV) (aa aV) .none VD Yo Tn ZE Pw YX),Se⟩) (c25:PySem.W.codeIn K Pw "check_drawing" = true) (k25:PySem.W.keepIn K (.ref Xw) = true)
  (a26:PySem.W.nsIn K mainGlobals "are_fractions" = some (some (.ref Xv))) (l26:K.lookup Xv = some ⟨UQ,Ud,.func (PySem.W.fnOf "are_fractions" "are_fractions" (ao aW) (ae aW) (aa aW) .none VC Yn Tj ZD Pu YW),Sd⟩) (c26:PySem.W.codeIn K Pu "are_fractions" = true) (k26:PySem.W.keepIn K (.ref Xv) = true)
  (a27:PySem.W.nsIn K mainGlobals "check_weights" = some (some (.ref Xu))) (l27:K.lookup Xu = some ⟨UP,Uc,.func (PySem.W.fnOf "check_weights" "check_weights" (ao bu) (ae bu) (aa bu) .none VB Ym Ti ZC Pt YV),Sb⟩) (c27:PySem.W.codeIn K Pt "check_weights" = true) (k27:PySem.W.keepIn K (.ref Xu) = true)
  (a28:PySem.W.nsIn K mainGlobals "check_worths" = some (some (.ref Xt))) (l28:K.lookup Xt = some ⟨UO,Ub,.func (PySem.W.fnOf "check_worths" "check_worths" (ao bH) (ae bH) (aa bH) .none VA Yk Th ZA Pr YU),Sa⟩) (c28:PySem.W.codeIn K Pr "check_worths" = true) (k28:PySem.W.keepIn K (.ref Xt) = true)
  (a29:PySem.W.nsIn K mainGlobals "fraction_of" = some (some (.ref Xs))) (l29:K.lookup Xs = some ⟨UN,Ua,.func (PySem.W.fnOf "fraction_of" "fraction_of" (ao bp) (ae bp) (aa bp) .none Vz Yj Tf Zz Pq YT),R_⟩) (c29:PySem.W.codeIn K Pq "fraction_of" = true) (k29:PySem.W.keepIn K (.ref Xs) = true)
  (a30:PySem.W.nsIn K mainGlobals "frac_times" = some (some (.ref Xr))) (l30:K.lookup Xr = some ⟨UM,T_,.func (PySem.W.fnOf "frac_times" "frac_times" (ao cH) (ae cH) (aa cH) .none Vy Yi Te Zy Pp YS),R9⟩) (c30:PySem.W.codeIn K Pp "frac_times" = true) (k30:PySem.W.keepIn K (.ref Xr) = true)
  (a31:PySem.W.nsIn K mainGlobals "over_one" = some (some (.ref Xq))) (l31:K.lookup Xq = some ⟨UL,T9,.func (PySem.W.fnOf "over_one" "over_one" (ao cC) (ae cC) (aa cC) .none Vx Yh Td Zx Po YR),R8⟩) (c31:PySem.W.codeIn K Po "over_one" = true) (k31:PySem.W.keepIn K (.ref Xq) = true)
  (a32:PySem.W.nsIn K mainGlobals "lot_guesses" = some (some (.ref Xp))) (l32:K.lookup Xp = some ⟨UK,T8,.func (PySem.W.fnOf "lot_guesses" "lot_guesses" (ao bj) (ae bj) (aa bj) .none Vw Yg Tc Zw Pn YQ),R7⟩) (c32:PySem.W.codeIn K Pn "lot_guesses" = true) (k32:PySem.W.keepIn K (.ref Xp) = true)
  (a33:PySem.W.nsIn K mainGlobals "spread_of" = some (some (.ref Xo))) (l33:K.lookup Xo = some ⟨UJ,T7,.func (PySem.W.fnOf "spread_of" "spread_of" (ao bS) (ae bS) (aa bS) .none Vv Yf Tb Zv Pm YO),R6⟩) (c33:PySem.W.codeIn K Pm "spread_of" = true) (k33:PySem.W.keepIn K (.ref Xo) = true)
  (a34:PySem.W.nsIn K mainGlobals "guess_spread" = some (some (.ref Xn))) (l34:K.lookup Xn = some ⟨UI,T6,.func (PySem.W.fnOf "guess_spread" "guess_spread" (ao bG) (ae bG) (aa bG) .none Vu Ye Ta Zu Pl YN),R5⟩) (c34:PySem.W.codeIn K Pl "guess_spread" = true) (k34:PySem.W.keepIn K (.ref Xn) = true)
  (a35:PySem.W.nsIn K mainGlobals "all_pairs" = some (some (.ref Xm))) (l35:K.lookup Xm = some ⟨UH,T5,.func (PySem.W.fnOf "all_pairs" "all_pairs" (ao cU) (ae cU) (aa cU) .none Vt Yd S_ Zt Pk YM),R4⟩) (c35:PySem.W.codeIn K Pk "all_pairs" = true) (k35:PySem.W.keepIn K (.ref Xm) = true)
  (a36:PySem.W.nsIn K mainGlobals "frac_total" = some (some (.ref Xl))) (l36:K.lookup Xl = some ⟨UG,T4,.func (PySem.W.fnOf "frac_total" "frac_total" (ao bx) (ae bx) (aa bx) .none Vs Yc S9 Zs Pj YL),RZ⟩) (c36:PySem.W.codeIn K Pj "frac_total" = true) (k36:PySem.W.keepIn K (.ref Xl) = true)
  (a37:PySem.W.nsIn K mainGlobals "both_shares" = some (some (.ref Xk))) (l37:K.lookup Xk = some ⟨UE,T3,.func (PySem.W.fnOf "both_shares" "both_shares" (ao b_) (ae b_) (aa b_) .none Vr Yb S8 Zr Ph YK),RY⟩) (c37:PySem.W.codeIn K Ph "both_shares" = true) (k37:PySem.W.keepIn K (.ref Xk) = true)
  (a38:PySem.W.nsIn K mainGlobals "frac_less" = some (some (.ref Xj))) (l38:K.lookup Xj = some ⟨UD,T2,.func (PySem.W.fnOf "frac_less" "frac_less" (ao cT) (ae cT) (aa cT) .none Vq Ya S7 Zq Pg YJ),RX⟩) (c38:PySem.W.codeIn K Pg "frac_less" = true) (k38:PySem.W.keepIn K (.ref Xj) = true)
  (a39:PySem.W.nsIn K mainGlobals "pair_share" = some (some (.ref Xi))) (l39:K.lookup Xi = some ⟨UC,T1,.func (PySem.W.fnOf "pair_share" "pair_share" (ao cB) (ae cB) (aa cB) .none Vp X_ S5 Zp Pf YI),RW⟩) (c39:PySem.W.codeIn K Pf "pair_share" = true) (k39:PySem.W.keepIn K (.ref Xi) = true)
  (a40:PySem.W.nsIn K mainGlobals "pair_part" = some (some (.ref Xh))) (l40:K.lookup Xh = some ⟨UB,TZ,.func (PySem.W.fnOf "pair_part" "pair_part" (ao cR) (ae cR) (aa cR) .none Vo X9 S3 Zo Pe YH),RV⟩) (c40:PySem.W.codeIn K Pe "pair_part" = true) (k40:PySem.W.keepIn K (.ref Xh) = true)
  (a41:PySem.W.nsIn K mainGlobals "joint_share" = some (some (.ref Xg))) (l41:K.lookup Xg = some ⟨UA,TY,.func (PySem.W.fnOf "joint_share" "joint_share" (ao bZ) (ae bZ) (aa bZ) .none Vn X8 S0 Zn Pd YG),RU⟩) (c41:PySem.W.codeIn K Pd "joint_share" = true) (k41:PySem.W.keepIn K (.ref Xg) = true)
  (a42:PySem.W.nsIn K mainGlobals "pair_shares" = some (some (.ref Xf))) (l42:K.lookup Xf = some ⟨Uz,TX,.func (PySem.W.fnOf "pair_shares" "pair_shares" (ao bX) (ae bX) (aa bX) .none Vm X7 SY Zm Pc YF),RT⟩) (c42:PySem.W.codeIn K Pc "pair_shares" = true) (k42:PySem.W.keepIn K (.ref Xf) = true)
  (a43:PySem.W.nsIn K mainGlobals "pairs_spread" = some (some (.ref Xe))) (l43:K.lookup Xe = some ⟨Uy,TV,.func (PySem.W.fnOf "pairs_spread" "pairs_spread" (ao bF) (ae bF) (aa bF) .none Vl X6 SX Zk Pb YE),RS⟩) (c43:PySem.W.codeIn K Pb "pairs_spread" = true) (k43:PySem.W.keepIn K (.ref Xe) = true)
  (a44:PySem.W.nsIn K mainGlobals "law" = some (some (.ref Xd))) (l44:K.lookup Xd = some ⟨Ux,TU,.func (PySem.W.fnOf "law" "law" (ao j4) (ae j4) (aa j4) .none NT O4 Nh Qc Le O5),RR⟩) (c44:PySem.W.codeIn K Le "law" = true) (k44:PySem.W.keepIn K (.ref Xd) = true)
  (z0:PySem.W.nsIn K mainGlobals "abs" = some none)
  (z1:PySem.W.nsIn K mainGlobals "all" = some none)
  (z2:PySem.W.nsIn K mainGlobals "bool" = some none)
  (z3:PySem.W.nsIn K mainGlobals "int" = some none)
  (z4:PySem.W.nsIn K mainGlobals "isinstance" = some none)
  (z5:PySem.W.nsIn K mainGlobals "len" = some none)
  (z6:PySem.W.nsIn K mainGlobals "list" = some none)
  (z7:PySem.W.nsIn K mainGlobals "range" = some none)
  (z8:PySem.W.nsIn K mainGlobals "set" = some none)
  (z9:PySem.W.nsIn K mainGlobals "sorted" = some none)
  (z10:PySem.W.nsIn K mainGlobals "sum" = some none)
  (z11:PySem.W.nsIn K mainGlobals "tuple" = some none)
  (z12:PySem.W.nsIn K mainGlobals "zip" = some none)
  (q0:PySem.W.nsIn K mainGlobals "MOST_HOUSES" = some (some u0)) (r0:RelV (.int 12) u0) :
  ∃ fd:FuncData,(∀ (s:Shared) (v:Value),BindsTo s fd ⟨[v],[]⟩ [("_law_script",v)]) /\ ∀ base:Heap,K.In base -> base.Ns mainGlobals mg -> ku l.prog w K mg base DD 46 fa fd ["_law_script"] (GR K 1 vf):=by
 have e:=hfa.symm.trans (PySem.W.mg_of X G a44)
 cases e
 have F0:=aF (st:=dJ) l0 c0 k0
 have b0:=F0.binds (ps:=["_law_script","_law_k"]) fun _ _ _ _ _ _ us hl=>by obtain ⟨_,_,rfl⟩:=gj hl;rfl
 have F1:=aF (st:=cE) l1 c1 k1
 have b1:=F1.binds (ps:=["_law_drawing_here"]) fun _ _ _ _ _ _ us hl=>by obtain ⟨_,rfl⟩:=je hl;rfl
 have F2:=aF (st:=dI) l2 c2 k2
 have b2:=F2.binds (ps:=["_law_top","_law_bottom"]) fun _ _ _ _ _ _ us hl=>by obtain ⟨_,_,rfl⟩:=gj hl;rfl
 have F3:=aF (st:=bY) l3 c3 k3
 have b3:=F3.binds (ps:=["_law_script","_law_at","_law_most"]) fun _ _ _ _ _ _ us hl=>by obtain ⟨_,_,_,rfl⟩:=sY hl;rfl
 have F4:=aF (st:=fC) l4 c4 k4
 have b4:=F4.binds (ps:=["_law_found"]) fun _ _ _ _ _ _ us hl=>by obtain ⟨_,rfl⟩:=je hl;rfl
 have F5:=aF (st:=dH) l5 c5 k5
 have b5:=F5.binds (ps:=["_law_number","_law_many"]) fun _ _ _ _ _ _ us hl=>by obtain ⟨_,_,rfl⟩:=gj hl;rfl
 have F6:=aF (st:=eD) l6 c6 k6
 have b6:=F6.binds (ps:=["_law_one","_law_other"]) fun _ _ _ _ _ _ us hl=>by obtain ⟨_,_,rfl⟩:=gj hl;rfl
 have F7:=aF (st:=eC) l7 c7 k7
 have b7:=F7.binds (ps:=["_law_one","_law_other"]) fun _ _ _ _ _ _ us hl=>by obtain ⟨_,_,rfl⟩:=gj hl;rfl
 have F8:=aF (st:=cS) l8 c8 k8
 have b8:=F8.binds (ps:=["_law_weights","_law_lot","_law_worths"]) fun _ _ _ _ _ _ us hl=>by obtain ⟨_,_,_,rfl⟩:=sY hl;rfl
 have F9:=aF (st:=dG) l9 c9 k9
 have b9:=F9.binds (ps:=["_law_drawing_here","_law_weights","_law_worths"]) fun _ _ _ _ _ _ us hl=>by obtain ⟨_,_,_,rfl⟩:=sY hl;rfl
 have F10:=aF (st:=eB) l10 c10 k10
 have b10:=F10.binds (ps:=["_law_one","_law_other"]) fun _ _ _ _ _ _ us hl=>by obtain ⟨_,_,rfl⟩:=gj hl;rfl
 have F11:=aF (st:=cD) l11 c11 k11
 have b11:=F11.binds (ps:=["_law_drawing_here","_law_weights","_law_worths"]) fun _ _ _ _ _ _ us hl=>by obtain ⟨_,_,_,rfl⟩:=sY hl;rfl
 have F12:=aF (st:=cF) l12 c12 k12
 have b12:=F12.binds (ps:=["thing"]) fun _ _ _ _ _ _ us hl=>by obtain ⟨_,rfl⟩:=je hl;rfl
 have F13:=aF (st:=bz) l13 c13 k13
 have b13:=F13.binds (ps:=["thing","many"]) fun _ _ _ _ _ _ us hl=>by obtain ⟨_,_,rfl⟩:=gj hl;rfl
 have F14:=aF (st:=aP) l14 c14 k14
 have b14:=F14.binds (ps:=["one","other"]) fun _ _ _ _ _ _ us hl=>by obtain ⟨_,_,rfl⟩:=gj hl;rfl
 have F15:=aF (st:=bo) l15 c15 k15
 have b15:=F15.binds (ps:=["thing"]) fun _ _ _ _ _ _ us hl=>by obtain ⟨_,rfl⟩:=je hl;rfl
 have F16:=aF (st:=d5) l16 c16 k16
 have b16:=F16.binds (ps:=["thing","many"]) fun _ _ _ _ _ _ us hl=>by obtain ⟨_,_,rfl⟩:=gj hl;rfl
 have F17:=aF (st:=bT) l17 c17 k17
 have b17:=F17.binds (ps:=["rows"]) fun _ _ _ _ _ _ us hl=>by obtain ⟨_,rfl⟩:=je hl;rfl
 have F18:=aF (st:=aU) l18 c18 k18
 have b18:=F18.binds (ps:=["some"]) fun _ _ _ _ _ _ us hl=>by obtain ⟨_,rfl⟩:=je hl;rfl
 have F19:=aF (st:=bR) l19 c19 k19
 have b19:=F19.binds (ps:=["some","bottom"]) fun _ _ _ _ _ _ us hl=>by obtain ⟨_,_,rfl⟩:=gj hl;rfl
 have F20:=aF (st:=bE) l20 c20 k20
 have b20:=F20.binds (ps:=["rows"]) fun _ _ _ _ _ _ us hl=>by obtain ⟨_,rfl⟩:=je hl;rfl
 have F21:=aF (st:=bh) l21 c21 k21
 have b21:=F21.binds (ps:=["rows"]) fun _ _ _ _ _ _ us hl=>by obtain ⟨_,rfl⟩:=je hl;rfl
 have F22:=aF (st:=cG) l22 c22 k22
 have b22:=F22.binds (ps:=["thing"]) fun _ _ _ _ _ _ us hl=>by obtain ⟨_,rfl⟩:=je hl;rfl
 have F23:=aF (st:=d6) l23 c23 k23
 have b23:=F23.binds (ps:=["thing","many"]) fun _ _ _ _ _ _ us hl=>by obtain ⟨_,_,rfl⟩:=gj hl;rfl
 have F24:=aF (st:=bw) l24 c24 k24
 have b24:=F24.binds (ps:=["thing"]) fun _ _ _ _ _ _ us hl=>by obtain ⟨_,rfl⟩:=je hl;rfl
 have F25:=aF (st:=aV) l25 c25 k25
 have b25:=F25.binds (ps:=["thing"]) fun _ _ _ _ _ _ us hl=>by obtain ⟨_,rfl⟩:=je hl;rfl
 have F26:=aF (st:=aW) l26 c26 k26
 have b26:=F26.binds (ps:=["thing","many"]) fun _ _ _ _ _ _ us hl=>by obtain ⟨_,_,rfl⟩:=gj hl;rfl
 have F27:=aF (st:=bu) l27 c27 k27
 have b27:=F27.binds (ps:=["thing","many"]) fun _ _ _ _ _ _ us hl=>by obtain ⟨_,_,rfl⟩:=gj hl;rfl
 have F28:=aF (st:=bH) l28 c28 k28
 have b28:=F28.binds (ps:=["thing","many"]) fun _ _ _ _ _ _ us hl=>by obtain ⟨_,_,rfl⟩:=gj hl;rfl
 have F29:=aF (st:=bp) l29 c29 k29
 have b29:=F29.binds (ps:=["top","bottom"]) fun _ _ _ _ _ _ us hl=>by obtain ⟨_,_,rfl⟩:=gj hl;rfl
 have F30:=aF (st:=cH) l30 c30 k30
 have b30:=F30.binds (ps:=["one","other"]) fun _ _ _ _ _ _ us hl=>by obtain ⟨_,_,rfl⟩:=gj hl;rfl
 have F31:=aF (st:=cC) l31 c31 k31
 have b31:=F31.binds (ps:=["some"]) fun _ _ _ _ _ _ us hl=>by obtain ⟨_,rfl⟩:=je hl;rfl
 have F32:=aF (st:=bj) l32 c32 k32
 have b32:=F32.binds (ps:=["drawing","weights","worths"]) fun _ _ _ _ _ _ us hl=>by obtain ⟨_,_,_,rfl⟩:=sY hl;rfl
 have F33:=aF (st:=bS) l33 c33 k33
 have b33:=F33.binds (ps:=["rows","guesses"]) fun _ _ _ _ _ _ us hl=>by obtain ⟨_,_,rfl⟩:=gj hl;rfl
 have F34:=aF (st:=bG) l34 c34 k34
 have b34:=F34.binds (ps:=["drawing","weights","worths"]) fun _ _ _ _ _ _ us hl=>by obtain ⟨_,_,_,rfl⟩:=sY hl;rfl
 have F35:=aF (st:=cU) l35 c35 k35
 have b35:=F35.binds (ps:=["houses"]) fun _ _ _ _ _ _ us hl=>by obtain ⟨_,rfl⟩:=je hl;rfl
 have F36:=aF (st:=bx) l36 c36 k36
 have b36:=F36.binds (ps:=["some"]) fun _ _ _ _ _ _ us hl=>by obtain ⟨_,rfl⟩:=je hl;rfl
 have F37:=aF (st:=b_) l37 c37 k37
 have b37:=F37.binds (ps:=["pairs","two"]) fun _ _ _ _ _ _ us hl=>by obtain ⟨_,_,rfl⟩:=gj hl;rfl
 have F38:=aF (st:=cT) l38 c38 k38
 have b38:=F38.binds (ps:=["one","other"]) fun _ _ _ _ _ _ us hl=>by obtain ⟨_,_,rfl⟩:=gj hl;rfl
 have F39:=aF (st:=cB) l39 c39 k39
 have b39:=F39.binds (ps:=["pairs","two"]) fun _ _ _ _ _ _ us hl=>by obtain ⟨_,_,rfl⟩:=gj hl;rfl
 have F40:=aF (st:=cR) l40 c40 k40
 have b40:=F40.binds (ps:=["pairs","two","weights","worths"]) fun _ _ _ _ _ _ us hl=>by obtain ⟨_,_,_,_,rfl⟩:=Vf hl;rfl
 have F41:=aF (st:=bZ) l41 c41 k41
 have b41:=F41.binds (ps:=["weighed","one","other"]) fun _ _ _ _ _ _ us hl=>by obtain ⟨_,_,_,rfl⟩:=sY hl;rfl
 have F42:=aF (st:=bX) l42 c42 k42
 have b42:=F42.binds (ps:=["drawing"]) fun _ _ _ _ _ _ us hl=>by obtain ⟨_,rfl⟩:=je hl;rfl
 have F43:=aF (st:=bF) l43 c43 k43
 have b43:=F43.binds (ps:=["drawing","weights","worths"]) fun _ _ _ _ _ _ us hl=>by obtain ⟨_,_,_,rfl⟩:=sY hl;rfl
 have F44:=aF (st:=j4) l44 c44 k44
 have b44:=F44.binds (ps:=["_law_script"]) fun _ _ _ _ _ _ us hl=>by obtain ⟨_,rfl⟩:=je hl;rfl
 have y0:=PySem.W.mg_none_of X G z0
 have y1:=PySem.W.mg_none_of X G z1
 have y2:=PySem.W.mg_none_of X G z2
 have y3:=PySem.W.mg_none_of X G z3
 have y4:=PySem.W.mg_none_of X G z4
 have y5:=PySem.W.mg_none_of X G z5
 have y6:=PySem.W.mg_none_of X G z6
 have y7:=PySem.W.mg_none_of X G z7
 have y8:=PySem.W.mg_none_of X G z8
 have y9:=PySem.W.mg_none_of X G z9
 have Lx:=PySem.W.mg_none_of X G z10
 have Lw:=PySem.W.mg_none_of X G z11
 have Qi:=PySem.W.mg_none_of X G z12
 have x0:∃ u,mg "MOST_HOUSES" = some u /\ Rm K (GK.i 12) u:=⟨_,PySem.W.mg_of X G q0,r0⟩
 refine ⟨PySem.W.fnOf "law" "law" (ao j4) (ae j4) (aa j4) .none NT O4 Nh Qc Le O5,fun s v=>.of_eq rfl,fun base _ _=>?_⟩
 have E0:Ent l.prog w K mg base 2 "_law_cell" iK:=ent (Φ:=kC) (k:=1) F0 (PySem.W.mg_of X G a0) b0 uR vT (fD rfl rfl rfl rfl rfl rfl rfl rfl rfl rfl rfl rfl) (fR rfl rfl rfl rfl rfl rfl rfl rfl rfl rfl rfl rfl) (ai.mem ⟨y5,trivial⟩) (ai.two trivial) (ai.tab trivial) aE
 have E1:Ent l.prog w K mg base 3 "_law_copied" iJ:=ent (Φ:=iP) (k:=2) F1 (PySem.W.mg_of X G a1) b1 qq qN (fD rfl rfl rfl rfl rfl rfl rfl rfl rfl rfl rfl rfl) (fR rfl rfl rfl rfl rfl rfl rfl rfl rfl rfl rfl rfl) (ai.mem ⟨y6,trivial⟩) (ai.two trivial) (ai.tab trivial) aE
 have E2:Ent l.prog w K mg base 4 "_law_frac" dQ:=ent (Φ:=kB) (k:=3) F2 (PySem.W.mg_of X G a2) b2 uQ vS (fD rfl rfl rfl rfl rfl rfl rfl rfl rfl rfl rfl rfl) (fR rfl rfl rfl rfl rfl rfl rfl rfl rfl rfl rfl rfl) (ai.mem ⟨y0,trivial⟩) (ai.two trivial) (ai.tab trivial) aE
 have E3:Ent l.prog w K mg base 5 "_law_drawing" gv:=ent (Φ:=gB) (k:=4) F3 (PySem.W.mg_of X G a3) b3 ox pN (fD rfl rfl rfl rfl rfl rfl rfl rfl rfl rfl rfl rfl) (fR rfl rfl rfl rfl rfl rfl rfl rfl rfl rfl rfl rfl) (ai.mem ⟨y7,y9,Lx,Lw,trivial⟩) (ai.two trivial) (ai.tab ⟨E0.up (by decide),E2.up (by decide),trivial⟩) aE
 have E4:Ent l.prog w K mg base 6 "_law_is" p5:=ent (Φ:=qb) (k:=5) F4 (PySem.W.mg_of X G a4) b4 zN AK (fD rfl rfl rfl rfl rfl rfl rfl rfl rfl rfl rfl rfl) (fR rfl rfl rfl rfl rfl rfl rfl rfl rfl rfl rfl rfl) (ai.mem ⟨y2,y3,y4,y5,Lw,trivial⟩) (ai.two trivial) (ai.tab trivial) aE
 have E5:Ent l.prog w K mg base 7 "_law_list" ko:=ent (Φ:=kA) (k:=6) F5 (PySem.W.mg_of X G a5) b5 uP vR (fD rfl rfl rfl rfl rfl rfl rfl rfl rfl rfl rfl rfl) (fR rfl rfl rfl rfl rfl rfl rfl rfl rfl rfl rfl rfl) (ai.mem ⟨y7,trivial⟩) (ai.two trivial) (ai.tab ⟨E2.up (by decide),trivial⟩) aE
 have E6:Ent l.prog w K mg base 8 "_law_add" g9:=ent (Φ:=my) (k:=7) F6 (PySem.W.mg_of X G a6) b6 wJ xF (fD rfl rfl rfl rfl rfl rfl rfl rfl rfl rfl rfl rfl) (fR rfl rfl rfl rfl rfl rfl rfl rfl rfl rfl rfl rfl) (ai.mem trivial) (ai.two trivial) (ai.tab ⟨E2.up (by decide),trivial⟩) aE
 have E7:Ent l.prog w K mg base 9 "_law_mul" g5:=ent (Φ:=mx) (k:=8) F7 (PySem.W.mg_of X G a7) b7 wI xE (fD rfl rfl rfl rfl rfl rfl rfl rfl rfl rfl rfl rfl) (fR rfl rfl rfl rfl rfl rfl rfl rfl rfl rfl rfl rfl) (ai.mem trivial) (ai.two trivial) (ai.tab ⟨E2.up (by decide),trivial⟩) aE
 have E8:Ent l.prog w K mg base 10 "_law_guess" gf:=ent (Φ:=jE) (k:=9) F8 (PySem.W.mg_of X G a8) b8 sG tV (fD rfl rfl rfl rfl rfl rfl rfl rfl rfl rfl rfl rfl) (fR rfl rfl rfl rfl rfl rfl rfl rfl rfl rfl rfl rfl) (ai.mem trivial) (ai.two trivial) (ai.tab ⟨E6.up (by decide),E7.up (by decide),trivial⟩) aE
 have E9:Ent l.prog w K mg base 11 "_law_mean" kn:=ent (Φ:=kz) (k:=10) F9 (PySem.W.mg_of X G a9) b9 uO vQ (fD rfl rfl rfl rfl rfl rfl rfl rfl rfl rfl rfl rfl) (fR rfl rfl rfl rfl rfl rfl rfl rfl rfl rfl rfl rfl) (ai.mem trivial) (ai.two trivial) (ai.tab ⟨E6.up (by decide),E7.up (by decide),E8.up (by decide),trivial⟩) aE
 have E10:Ent l.prog w K mg base 12 "_law_sub" mr:=ent (Φ:=mw) (k:=11) F10 (PySem.W.mg_of X G a10) b10 wH xD (fD rfl rfl rfl rfl rfl rfl rfl rfl rfl rfl rfl rfl) (fR rfl rfl rfl rfl rfl rfl rfl rfl rfl rfl rfl rfl) (ai.mem trivial) (ai.two trivial) (ai.tab ⟨E2.up (by decide),trivial⟩) aE
 have E11:Ent l.prog w K mg base 13 "_law_spread" iI:=ent (Φ:=iO) (k:=12) F11 (PySem.W.mg_of X G a11) b11 qp qM (fD rfl rfl rfl rfl rfl rfl rfl rfl rfl rfl rfl rfl) (fR rfl rfl rfl rfl rfl rfl rfl rfl rfl rfl rfl rfl) (ai.mem trivial) (ai.two trivial) (ai.tab ⟨E6.up (by decide),E7.up (by decide),E10.up (by decide),E8.up (by decide),E9.up (by decide),trivial⟩) aE
 have Z5:Ent l.prog w K mg base 14 "is_whole" fK:=ent (Φ:=kD) (k:=13) F12 (PySem.W.mg_of X G a12) b12 uS vU (fD rfl rfl rfl rfl rfl rfl rfl rfl rfl rfl rfl rfl) (fR rfl rfl rfl rfl rfl rfl rfl rfl rfl rfl rfl rfl) (ai.mem ⟨y2,y3,y4,trivial⟩) (ai.two trivial) (ai.tab trivial) aE
 have E13:Ent l.prog w K mg base 15 "are_houses" fq:=ent (Φ:=iT) (k:=14) F13 (PySem.W.mg_of X G a13) b13 qv qR (fD rfl rfl rfl rfl rfl rfl rfl rfl rfl rfl rfl rfl) (fR rfl rfl rfl rfl rfl rfl rfl rfl rfl rfl rfl rfl) (ai.mem ⟨y1,y4,y5,y8,Lw,trivial⟩) (ai.two trivial) (ai.tab ⟨Z5.up (by decide),trivial⟩) aE
 have Z4:Ent l.prog w K mg base 16 "common_divisor" cw:=ent (Φ:=eI) (k:=15) F14 (PySem.W.mg_of X G a14) b14 kS lp (fD rfl rfl rfl rfl rfl rfl rfl rfl rfl rfl rfl rfl) (fR rfl rfl rfl rfl rfl rfl rfl rfl rfl rfl rfl rfl) (ai.mem ⟨y0,trivial⟩) (ai.two trivial) (ai.tab trivial) aE
 have E15:Ent l.prog w K mg base 17 "is_fraction" eO:=ent (Φ:=gD) (k:=16) F15 (PySem.W.mg_of X G a15) b15 oz pP (fD rfl rfl rfl rfl rfl rfl rfl rfl rfl rfl rfl rfl) (fR rfl rfl rfl rfl rfl rfl rfl rfl rfl rfl rfl rfl) (ai.mem ⟨y4,y5,Lw,trivial⟩) (ai.two trivial) (ai.tab ⟨Z5.up (by decide),Z4.up (by decide),trivial⟩) aE
 have E16:Ent l.prog w K mg base 18 "is_row" p6:=ent (Φ:=qc) (k:=17) F16 (PySem.W.mg_of X G a16) b16 zO AL (fD rfl rfl rfl rfl rfl rfl rfl rfl rfl rfl rfl rfl) (fR rfl rfl rfl rfl rfl rfl rfl rfl rfl rfl rfl rfl) (ai.mem ⟨y4,y5,Lw,trivial⟩) (ai.two trivial) (ai.tab ⟨E15.up (by decide),E13.up (by decide),trivial⟩) aE
 have E17:Ent l.prog w K mg base 19 "rows_rise" jw:=ent (Φ:=jC) (k:=18) F17 (PySem.W.mg_of X G a17) b17 sE tT (fD rfl rfl rfl rfl rfl rfl rfl rfl rfl rfl rfl rfl) (fR rfl rfl rfl rfl rfl rfl rfl rfl rfl rfl rfl rfl) (ai.mem ⟨Qi,trivial⟩) (ai.two trivial) (ai.tab trivial) aE
 have E18:Ent l.prog w K mg base 20 "common_bottom" dC:=ent (Φ:=eY) (k:=19) F18 (PySem.W.mg_of X G a18) b18 lN ma (fD rfl rfl rfl rfl rfl rfl rfl rfl rfl rfl rfl rfl) (fR rfl rfl rfl rfl rfl rfl rfl rfl rfl rfl rfl rfl) (ai.mem trivial) (ai.two trivial) (ai.tab ⟨Z4.up (by decide),trivial⟩) aE
 have E19:Ent l.prog w K mg base 21 "tops_over" gd:=ent (Φ:=jA) (k:=20) F19 (PySem.W.mg_of X G a19) b19 sC tR (fD rfl rfl rfl rfl rfl rfl rfl rfl rfl rfl rfl rfl) (fR rfl rfl rfl rfl rfl rfl rfl rfl rfl rfl rfl rfl) (ai.mem trivial) (ai.two trivial) (ai.tab trivial) aE
 have Z3:Ent l.prog w K mg base 22 "weighed_lots" de:=ent (Φ:=fN) (k:=21) F20 (PySem.W.mg_of X G a20) b20 mQ m_ (fD rfl rfl rfl rfl rfl rfl rfl rfl rfl rfl rfl rfl) (fR rfl rfl rfl rfl rfl rfl rfl rfl rfl rfl rfl rfl) (ai.mem ⟨y6,Qi,trivial⟩) (ai.two trivial) (ai.tab ⟨E18.up (by decide),E19.up (by decide),trivial⟩) aE
 have E21:Ent l.prog w K mg base 23 "sums_to_one" gp:=ent (Φ:=gy) (k:=22) F21 (PySem.W.mg_of X G a21) b21 oo pK (fD rfl rfl rfl rfl rfl rfl rfl rfl rfl rfl rfl rfl) (fR rfl rfl rfl rfl rfl rfl rfl rfl rfl rfl rfl rfl) (ai.mem ⟨Lx,trivial⟩) (ai.two trivial) (ai.tab ⟨Z3.up (by decide),trivial⟩) aE
 have E22:Ent l.prog w K mg base 24 "is_drawn" kr:=ent (Φ:=kE) (k:=23) F22 (PySem.W.mg_of X G a22) b22 uT vV (fD rfl rfl rfl rfl rfl rfl rfl rfl rfl rfl rfl rfl) (fR rfl rfl rfl rfl rfl rfl rfl rfl rfl rfl rfl rfl) (ai.mem ⟨y4,y5,y6,Lw,trivial⟩) (ai.two ⟨x0,trivial⟩) (ai.tab ⟨Z5.up (by decide),E16.up (by decide),E21.up (by decide),E17.up (by decide),trivial⟩) aE
 have E23:Ent l.prog w K mg base 25 "is_lot" p7:=ent (Φ:=qd) (k:=24) F23 (PySem.W.mg_of X G a23) b23 zP AM (fD rfl rfl rfl rfl rfl rfl rfl rfl rfl rfl rfl rfl) (fR rfl rfl rfl rfl rfl rfl rfl rfl rfl rfl rfl rfl) (ai.mem ⟨y6,y9,trivial⟩) (ai.two trivial) (ai.tab ⟨E13.up (by decide),trivial⟩) aE
 have E24:Ent l.prog w K mg base 26 "is_drawing" iL:=ent (Φ:=iQ) (k:=25) F24 (PySem.W.mg_of X G a24) b24 qr qO (fD rfl rfl rfl rfl rfl rfl rfl rfl rfl rfl rfl rfl) (fR rfl rfl rfl rfl rfl rfl rfl rfl rfl rfl rfl rfl) (ai.mem ⟨y1,trivial⟩) (ai.two trivial) (ai.tab ⟨E23.up (by decide),E22.up (by decide),trivial⟩) aE
 have E25:Ent l.prog w K mg base 27 "check_drawing" dE:=ent (Φ:=e9) (k:=26) F25 (PySem.W.mg_of X G a25) b25 lP me (fD rfl rfl rfl rfl rfl rfl rfl rfl rfl rfl rfl rfl) (fR rfl rfl rfl rfl rfl rfl rfl rfl rfl rfl rfl rfl) (ai.mem trivial) (ai.two trivial) (ai.tab ⟨E24.up (by decide),trivial⟩) aE
 have E26:Ent l.prog w K mg base 28 "are_fractions" dF:=ent (Φ:=e_) (k:=27) F26 (PySem.W.mg_of X G a26) b26 lQ mf (fD rfl rfl rfl rfl rfl rfl rfl rfl rfl rfl rfl rfl) (fR rfl rfl rfl rfl rfl rfl rfl rfl rfl rfl rfl rfl) (ai.mem ⟨y1,y4,y5,y6,trivial⟩) (ai.two trivial) (ai.tab ⟨E15.up (by decide),trivial⟩) aE
 have E27:Ent l.prog w K mg base 29 "check_weights" dD:=ent (Φ:=eZ) (k:=28) F27 (PySem.W.mg_of X G a27) b27 lO md (fD rfl rfl rfl rfl rfl rfl rfl rfl rfl rfl rfl rfl) (fR rfl rfl rfl rfl rfl rfl rfl rfl rfl rfl rfl rfl) (ai.mem trivial) (ai.two trivial) (ai.tab ⟨E26.up (by decide),trivial⟩) aE
 have E28:Ent l.prog w K mg base 30 "check_worths" ej:=ent (Φ:=fQ) (k:=29) F28 (PySem.W.mg_of X G a28) b28 mT nh (fD rfl rfl rfl rfl rfl rfl rfl rfl rfl rfl rfl rfl) (fR rfl rfl rfl rfl rfl rfl rfl rfl rfl rfl rfl rfl) (ai.mem trivial) (ai.two trivial) (ai.tab ⟨E26.up (by decide),trivial⟩) aE
 have Qg:Ent l.prog w K mg base 31 "fraction_of" cj:=ent (Φ:=gE) (k:=30) F29 (PySem.W.mg_of X G a29) b29 oA pQ (fD rfl rfl rfl rfl rfl rfl rfl rfl rfl rfl rfl rfl) (fR rfl rfl rfl rfl rfl rfl rfl rfl rfl rfl rfl rfl) (ai.mem trivial) (ai.two trivial) (ai.tab ⟨Z4.up (by decide),trivial⟩) aE
 have Z2:Ent l.prog w K mg base 32 "frac_times" eh:=ent (Φ:=iS) (k:=31) F30 (PySem.W.mg_of X G a30) b30 qu qQ (fD rfl rfl rfl rfl rfl rfl rfl rfl rfl rfl rfl rfl) (fR rfl rfl rfl rfl rfl rfl rfl rfl rfl rfl rfl rfl) (ai.mem trivial) (ai.two trivial) (ai.tab ⟨Qg.up (by decide),trivial⟩) aE
 have E31:Ent l.prog w K mg base 33 "over_one" iH:=ent (Φ:=kv) (k:=32) F31 (PySem.W.mg_of X G a31) b31 uN vP (fD rfl rfl rfl rfl rfl rfl rfl rfl rfl rfl rfl rfl) (fR rfl rfl rfl rfl rfl rfl rfl rfl rfl rfl rfl rfl) (ai.mem trivial) (ai.two trivial) (ai.tab ⟨E18.up (by decide),E19.up (by decide),trivial⟩) aE
 have E32:Ent l.prog w K mg base 34 "lot_guesses" gu:=ent (Φ:=gA) (k:=33) F32 (PySem.W.mg_of X G a32) b32 ou pM (fD rfl rfl rfl rfl rfl rfl rfl rfl rfl rfl rfl rfl) (fR rfl rfl rfl rfl rfl rfl rfl rfl rfl rfl rfl rfl) (ai.mem ⟨Lx,Qi,trivial⟩) (ai.two trivial) (ai.tab ⟨Z2.up (by decide),E31.up (by decide),trivial⟩) aE
 have E33:Ent l.prog w K mg base 35 "spread_of" jv:=ent (Φ:=jB) (k:=34) F33 (PySem.W.mg_of X G a33) b33 sD tS (fD rfl rfl rfl rfl rfl rfl rfl rfl rfl rfl rfl rfl) (fR rfl rfl rfl rfl rfl rfl rfl rfl rfl rfl rfl rfl) (ai.mem ⟨Lx,Qi,trivial⟩) (ai.two trivial) (ai.tab ⟨Qg.up (by decide),Z3.up (by decide),trivial⟩) aE
 have E34:Ent l.prog w K mg base 36 "guess_spread" fL:=ent (Φ:=fP) (k:=35) F34 (PySem.W.mg_of X G a34) b34 mS ng (fD rfl rfl rfl rfl rfl rfl rfl rfl rfl rfl rfl rfl) (fR rfl rfl rfl rfl rfl rfl rfl rfl rfl rfl rfl rfl) (ai.mem trivial) (ai.two trivial) (ai.tab ⟨E25.up (by decide),E27.up (by decide),E28.up (by decide),E32.up (by decide),E33.up (by decide),trivial⟩) aE
 have E35:Ent l.prog w K mg base 37 "all_pairs" jz:=ent (Φ:=jG) (k:=36) F35 (PySem.W.mg_of X G a35) b35 sI tX (fD rfl rfl rfl rfl rfl rfl rfl rfl rfl rfl rfl rfl) (fR rfl rfl rfl rfl rfl rfl rfl rfl rfl rfl rfl rfl) (ai.mem trivial) (ai.two trivial) (ai.tab trivial) aE
 have E36:Ent l.prog w K mg base 38 "frac_total" iM:=ent (Φ:=iR) (k:=37) F36 (PySem.W.mg_of X G a36) b36 qt qP (fD rfl rfl rfl rfl rfl rfl rfl rfl rfl rfl rfl rfl) (fR rfl rfl rfl rfl rfl rfl rfl rfl rfl rfl rfl rfl) (ai.mem ⟨Lx,trivial⟩) (ai.two trivial) (ai.tab ⟨Qg.up (by decide),E31.up (by decide),trivial⟩) aE
 have E37:Ent l.prog w K mg base 39 "both_shares" gx:=ent (Φ:=gF) (k:=38) F37 (PySem.W.mg_of X G a37) b37 oB pR (fD rfl rfl rfl rfl rfl rfl rfl rfl rfl rfl rfl rfl) (fR rfl rfl rfl rfl rfl rfl rfl rfl rfl rfl rfl rfl) (ai.mem trivial) (ai.two trivial) (ai.tab ⟨Z2.up (by decide),trivial⟩) aE
 have E38:Ent l.prog w K mg base 40 "frac_less" jy:=ent (Φ:=jF) (k:=39) F38 (PySem.W.mg_of X G a38) b38 sH tW (fD rfl rfl rfl rfl rfl rfl rfl rfl rfl rfl rfl rfl) (fR rfl rfl rfl rfl rfl rfl rfl rfl rfl rfl rfl rfl) (ai.mem trivial) (ai.two trivial) (ai.tab ⟨Qg.up (by decide),trivial⟩) aE
 have E39:Ent l.prog w K mg base 41 "pair_share" iG:=ent (Φ:=iN) (k:=40) F39 (PySem.W.mg_of X G a39) b39 qo qL (fD rfl rfl rfl rfl rfl rfl rfl rfl rfl rfl rfl rfl) (fR rfl rfl rfl rfl rfl rfl rfl rfl rfl rfl rfl rfl) (ai.mem trivial) (ai.two trivial) (ai.tab trivial) aE
 have E40:Ent l.prog w K mg base 42 "pair_part" jx:=ent (Φ:=jD) (k:=41) F40 (PySem.W.mg_of X G a40) b40 sF tU (fD rfl rfl rfl rfl rfl rfl rfl rfl rfl rfl rfl rfl) (fR rfl rfl rfl rfl rfl rfl rfl rfl rfl rfl rfl rfl) (ai.mem trivial) (ai.two trivial) (ai.tab ⟨E38.up (by decide),Z2.up (by decide),E37.up (by decide),E39.up (by decide),trivial⟩) aE
 have E41:Ent l.prog w K mg base 43 "joint_share" gw:=ent (Φ:=gC) (k:=42) F41 (PySem.W.mg_of X G a41) b41 oy pO (fD rfl rfl rfl rfl rfl rfl rfl rfl rfl rfl rfl rfl) (fR rfl rfl rfl rfl rfl rfl rfl rfl rfl rfl rfl rfl) (ai.mem ⟨Lx,trivial⟩) (ai.two trivial) (ai.tab ⟨Qg.up (by decide),trivial⟩) aE
 have E42:Ent l.prog w K mg base 44 "pair_shares" gq:=ent (Φ:=gz) (k:=43) F42 (PySem.W.mg_of X G a42) b42 oq pL (fD rfl rfl rfl rfl rfl rfl rfl rfl rfl rfl rfl rfl) (fR rfl rfl rfl rfl rfl rfl rfl rfl rfl rfl rfl rfl) (ai.mem ⟨y7,trivial⟩) (ai.two trivial) (ai.tab ⟨Z3.up (by decide),E25.up (by decide),E41.up (by decide),trivial⟩) aE
 have E43:Ent l.prog w K mg base 45 "pairs_spread" fJ:=ent (Φ:=fO) (k:=44) F43 (PySem.W.mg_of X G a43) b43 mR nc (fD rfl rfl rfl rfl rfl rfl rfl rfl rfl rfl rfl rfl) (fR rfl rfl rfl rfl rfl rfl rfl rfl rfl rfl rfl rfl) (ai.mem ⟨y6,y7,trivial⟩) (ai.two trivial) (ai.tab ⟨E42.up (by decide),E36.up (by decide),E27.up (by decide),E28.up (by decide),E35.up (by decide),E40.up (by decide),trivial⟩) aE
 exact vD (Φ:=DB) (k:=45) F44 Iq Ld (fD rfl rfl rfl rfl rfl rfl rfl rfl rfl rfl rfl rfl) (fR rfl rfl rfl rfl rfl rfl rfl rfl rfl rfl rfl rfl) (ai.mem ⟨y6,trivial⟩) (ai.two trivial) (ai.tab ⟨(E34.up (by decide)).ex,(E43.up (by decide)).ex,(E0.up (by decide)).ex,(E4.up (by decide)).ex,(E3.up (by decide)).ex,(E1.up (by decide)).ex,(E5.up (by decide)).ex,(E11.up (by decide)).ex,trivial⟩) (Ck fun ns _=>(aE _ _ (Ag ns)).2)
theorem walk {l:PySem.W.OpenLaw} {q:Program} {loose:List Str} {XP:(Str -> Option Value) -> Heap -> Prop} {YP:World -> Heap -> Prop} {d:DefRec} {K:Params -> PySem.W.Frag} (hn:l.most = some 63) (Ot:d.params.defaults = [])
  (hY:∀ (w:World) (h:Heap),YP w h -> (K w.params).In h)
  (F:∀ (w:World) (mg:Str -> Option Value) (fa:Addr) (h:Heap),(K w.params).In h -> h.Ns mainGlobals mg -> mg d.name = some (.ref fa) ->
   ∃ fd:FuncData,(∀ (s:Shared) (u:Value),BindsTo s fd ⟨[u],[]⟩ [("_law_script",u)]) /\ ∀ base:Heap,(K w.params).In base -> base.Ns mainGlobals mg -> ku l.prog w (K w.params) mg base DD 46 fa fd ["_law_script"] (GR (K w.params) 1 vf)) :
  PySem.W.WalkO q loose XP YP l.row.toRowW d [] (fun f vs=>PySem.call f vs) :=
 L2.DX (n:=63) (k:=46) (x:="_law_script") (CX:=fun _=>DD) (sp:=fun w=>GR (K w.params) 1 vf) hn (by decide) Ot ⟨rfl,by decide,by decide⟩ hY F (fun w H a ns hl hO hS=>Jy (K w.params) H a ns vf (Fc hl) hO hS) fun _ _ _ _ _ z=>z
end Asm
open PySem PySem.W PyProof.Rows
set_option maxRecDepth 100000 in
set_option maxHeartbeats 0 in
theorem PySem.Challenge.cw_sharesample_k23_spreads_holds : PySem.Challenge.rw_sharesample_k23_spreads.Holds := by
 w_on;o_law;k_head;(case hw=>w_witness2)
 k_fill
 refine Asm.walk (l:=PySem.Challenge.rw_sharesample_k23_spreads) rfl rfl (fun w h Y=>PySem.W.kIn_of Y) ?F
 case F =>
  intro w mg fa h KX G hmg
  refine' Asm.all_mk KX G hmg ?a0 ?l0 ?c0 ?k0 ?a1 ?l1 ?c1 ?k1 ?a2 ?l2 ?c2 ?k2 ?a3 ?l3 ?c3 ?k3 ?a4 ?l4 ?c4 ?k4 ?a5 ?l5 ?c5 ?k5 ?a6 ?l6 ?c6 ?k6 ?a7 ?l7 ?c7 ?k7 ?a8 ?l8 ?c8 ?k8 ?a9 ?l9 ?c9 ?k9 ?a10 ?l10 ?c10 ?k10 ?a11 ?l11 ?c11 ?k11 ?a12 ?l12 ?c12 ?k12 ?a13 ?l13 ?c13 ?k13 ?a14 ?l14 ?c14 ?k14 ?a15 ?l15 ?c15 ?k15 ?a16 ?l16 ?c16 ?k16 ?a17 ?l17 ?c17 ?k17 ?a18 ?l18 ?c18 ?k18 ?a19 ?l19 ?c19 ?k19 ?a20 ?l20 ?c20 ?k20 ?a21 ?l21 ?c21 ?k21 ?a22 ?l22 ?c22 ?k22 ?a23 ?l23 ?c23 ?k23 ?a24 ?l24 ?c24 ?k24 ?a25 ?l25 ?c25 ?k25 ?a26 ?l26 ?c26 ?k26 ?a27 ?l27 ?c27 ?k27 ?a28 ?l28 ?c28 ?k28 ?a29 ?l29 ?c29 ?k29 ?a30 ?l30 ?c30 ?k30 ?a31 ?l31 ?c31 ?k31 ?a32 ?l32 ?c32 ?k32 ?a33 ?l33 ?c33 ?k33 ?a34 ?l34 ?c34 ?k34 ?a35 ?l35 ?c35 ?k35 ?a36 ?l36 ?c36 ?k36 ?a37 ?l37 ?c37 ?k37 ?a38 ?l38 ?c38 ?k38 ?a39 ?l39 ?c39 ?k39 ?a40 ?l40 ?c40 ?k40 ?a41 ?l41 ?c41 ?k41 ?a42 ?l42 ?c42 ?k42 ?a43 ?l43 ?c43 ?k43 ?a44 ?l44 ?c44 ?k44 ?z0 ?z1 ?z2 ?z3 ?z4 ?z5 ?z6 ?z7 ?z8 ?z9 ?z10 ?z11 ?z12 ?q0 ?r0
  (case a0=>k_is);(case l0=>k_is);(case c0=>k_is);(case k0=>k_is)
  (case a1=>k_is);(case l1=>k_is);(case c1=>k_is);(case k1=>k_is)
  (case a2=>k_is);(case l2=>k_is);(case c2=>k_is);(case k2=>k_is)
  (case a3=>k_is);(case l3=>k_is);(case c3=>k_is);(case k3=>k_is)
  (case a4=>k_is);(case l4=>k_is);(case c4=>k_is);(case k4=>k_is)
  (case a5=>k_is);(case l5=>k_is);(case c5=>k_is);(case k5=>k_is)
  (case a6=>k_is);(case l6=>k_is);(case c6=>k_is);(case k6=>k_is)
  (case a7=>k_is);(case l7=>k_is);(case c7=>k_is);(case k7=>k_is)
  (case a8=>k_is);(case l8=>k_is);(case c8=>k_is);(case k8=>k_is)
  (case a9=>k_is);(case l9=>k_is);(case c9=>k_is);(case k9=>k_is)
  (case a10=>k_is);(case l10=>k_is);(case c10=>k_is);(case k10=>k_is)
  (case a11=>k_is);(case l11=>k_is);(case c11=>k_is);(case k11=>k_is)
  (case a12=>k_is);(case l12=>k_is);(case c12=>k_is);(case k12=>k_is)
  (case a13=>k_is);(case l13=>k_is);(case c13=>k_is);(case k13=>k_is)
  (case a14=>k_is);(case l14=>k_is);(case c14=>k_is);(case k14=>k_is)
  (case a15=>k_is);(case l15=>k_is);(case c15=>k_is);(case k15=>k_is)
  (case a16=>k_is);(case l16=>k_is);(case c16=>k_is);(case k16=>k_is)
  (case a17=>k_is);(case l17=>k_is);(case c17=>k_is);(case k17=>k_is)
  (case a18=>k_is);(case l18=>k_is);(case c18=>k_is);(case k18=>k_is)
  (case a19=>k_is);(case l19=>k_is);(case c19=>k_is);(case k19=>k_is)
  (case a20=>k_is);(case l20=>k_is);(case c20=>k_is);(case k20=>k_is)
  (case a21=>k_is);(case l21=>k_is);(case c21=>k_is);(case k21=>k_is)
  (case a22=>k_is);(case l22=>k_is);(case c22=>k_is);(case k22=>k_is)
  (case a23=>k_is);(case l23=>k_is);(case c23=>k_is);(case k23=>k_is)
  (case a24=>k_is);(case l24=>k_is);(case c24=>k_is);(case k24=>k_is)
  (case a25=>k_is);(case l25=>k_is);(case c25=>k_is);(case k25=>k_is)
  (case a26=>k_is);(case l26=>k_is);(case c26=>k_is);(case k26=>k_is)
  (case a27=>k_is);(case l27=>k_is);(case c27=>k_is);(case k27=>k_is)
  (case a28=>k_is);(case l28=>k_is);(case c28=>k_is);(case k28=>k_is)
  (case a29=>k_is);(case l29=>k_is);(case c29=>k_is);(case k29=>k_is)
  (case a30=>k_is);(case l30=>k_is);(case c30=>k_is);(case k30=>k_is)
  (case a31=>k_is);(case l31=>k_is);(case c31=>k_is);(case k31=>k_is)
  (case a32=>k_is);(case l32=>k_is);(case c32=>k_is);(case k32=>k_is)
  (case a33=>k_is);(case l33=>k_is);(case c33=>k_is);(case k33=>k_is)
  (case a34=>k_is);(case l34=>k_is);(case c34=>k_is);(case k34=>k_is)
  (case a35=>k_is);(case l35=>k_is);(case c35=>k_is);(case k35=>k_is)
  (case a36=>k_is);(case l36=>k_is);(case c36=>k_is);(case k36=>k_is)
  (case a37=>k_is);(case l37=>k_is);(case c37=>k_is);(case k37=>k_is)
  (case a38=>k_is);(case l38=>k_is);(case c38=>k_is);(case k38=>k_is)
  (case a39=>k_is);(case l39=>k_is);(case c39=>k_is);(case k39=>k_is)
  (case a40=>k_is);(case l40=>k_is);(case c40=>k_is);(case k40=>k_is)
  (case a41=>k_is);(case l41=>k_is);(case c41=>k_is);(case k41=>k_is)
  (case a42=>k_is);(case l42=>k_is);(case c42=>k_is);(case k42=>k_is)
  (case a43=>k_is);(case l43=>k_is);(case c43=>k_is);(case k43=>k_is)
  (case a44=>k_is);(case l44=>k_is);(case c44=>k_is);(case k44=>k_is)
  (case z0=>k_is)
  (case z1=>k_is)
  (case z2=>k_is)
  (case z3=>k_is)
  (case z4=>k_is)
  (case z5=>k_is)
  (case z6=>k_is)
  (case z7=>k_is)
  (case z8=>k_is)
  (case z9=>k_is)
  (case z10=>k_is)
  (case z11=>k_is)
  (case z12=>k_is)
  (case q0=>k_is);(case r0=>exact ⟨_,rfl⟩)
